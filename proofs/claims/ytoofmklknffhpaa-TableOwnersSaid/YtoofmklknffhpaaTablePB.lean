/-
  The program's spans visited one by one. Conditions: the table lies where its value says; the box holds it.
-/
import Derived.Test.YtoofmklknffhpaaTablePA
import Derived.Test.YtoofmklknffhpaaTablePM
import Derived.Test.YtoofmklknffhpaaRangeN
import Derived.Test.YtoofmklknffhpaaMemI
import Derived.Test.YtoofmklknffhpaaTableJ
namespace Go.Proofs.Ytoofmklknffhpaa
set_option linter.unusedSimpArgs false
set_option linter.unusedVariables false
open Go.ChangeShapes Go.WideShapes Go.ChangeAt Go.RowKit Go.Shelf
attribute [local go_sem] Oper.semAt_some

/-- what a round keeps: all that lay there before the call, and the iterator's box -/
def KeepsOn (n₁ bx : Nat) (W W' : World) : Prop := ∀ k, k < n₁ ∨ k = bx → W'.heap[k]? = W.heap[k]?
theorem KeepsOn.trans {n₁ bx : Nat} {A B C : World} (h : KeepsOn n₁ bx A B) (k : KeepsOn n₁ bx B C) : KeepsOn n₁ bx A C := fun i hi => (k i hi).trans (h i hi)
theorem KeepsOn.below {n₁ bx B : Nat} {X Y : World} (h : Below B X Y) (h1 : n₁ ≤ B) (h2 : bx < B) : KeepsOn n₁ bx X Y := fun k hk => h.block k (by rcases hk with h | h <;> omega)
theorem KeepsOn.foot {n₁ bx b : Nat} {X Y : World} (h : Foot (· = b) X Y) (h1 : n₁ ≤ b) (h2 : bx ≠ b) (h3 : n₁ ≤ X.heap.size) (h4 : bx < X.heap.size) : KeepsOn n₁ bx X Y := fun k hk => h.block k (by rcases hk with h | h <;> omega) (by rcases hk with h | h <;> omega)
abbrev encP (t : TB) (k : Nat) : Array Value := #[.int .i64 (k : Int), .agg #[.int .i64 (spK t.sp k).1, .int .i64 (spK t.sp k).2]]
/-- what a round leaves, by its answer -/
def AnsweredP (n₁ bx n₂ : Nat) (J Jx : Nat → World → Prop) (k : Nat) (V : World) (y : Bool) (V' : World) : Prop := (y = true → J (k + 1) V' ∧ KeepsOn n₁ bx V V' ∧ n₂ ≤ V'.heap.size) ∧ (y = false → Jx k V')
theorem answeredP (n₁ bx n₂ : Nat) (J Jx : Nat → World → Prop) (k : Nat) (V : World) : ∀ (e : Ending) (V' : World), ((e = .returned (.bool true) ∧ J (k + 1) V' ∧ KeepsOn n₁ bx V V' ∧ n₂ ≤ V'.heap.size) ∨ (e = .returned (.bool false) ∧ Jx k V')) → ∃ y, e = .returned (.bool y) ∧ AnsweredP n₁ bx n₂ J Jx k V y V' := by
  rintro e V' (⟨rfl, h1, h2⟩ | ⟨rfl, h1⟩)
  · exact ⟨true, rfl, fun _ => ⟨h1, h2⟩, (fun h => by cases h)⟩
  · exact ⟨false, rfl, (fun h => by cases h), fun _ => h1⟩
set_option maxRecDepth 100000 in
set_option maxHeartbeats 2000000 in
theorem spans1_num (n : Nat) (hn : 2 ≤ n) (bx n₁ : Nat) (A1 A2 : Option Addr) (c1 c2 : Nat) (t : TB) (w : World) (hn₁ : n₁ ≤ w.heap.size) (gx : Held w bx 25 (tbC A1 A2 c1 c2 t)) (gt : TbAt n₁ w A1 A2 c1 c2 t) :
    SeqNum Fence.wide n Try.prog 42 #[.pointer (some ⟨bx, 0, none⟩)] (encP t) (KeepsOn n₁ bx) t.sp.length w := by
  intro l J Jx W hW hJ hJx hY h0
  have G : Held W bx 25 (tbC A1 A2 c1 c2 t) := gx.below hW gx.lt
  have T : TbAt n₁ W A1 A2 c1 c2 t := gt.below (hW.mono hn₁)
  have hbx : bx < W.heap.size := G.lt
  have hn₂ : n₁ ≤ W.heap.size := Nat.le_trans hn₁ hW.size
  have l2 := T.l2
  have m2 := T.m2
  unfold maxLen at m2
  have HY := Lib.hid hY
  have HJ := Lib.hid hJ
  have cx : W.cell? ⟨bx, 2, none⟩ = some (.slice A2 t.sp.length c2) := G.cell 2
  have GH := Lib.hid G
  have TH := Lib.hid T
  clear gx gt hW hY hJ hJx hn₁ G T
  obtain ⟨len, hlen⟩ : ∃ len, t.sp.length = len := ⟨_, rfl⟩
  rw [hlen] at l2 cx HY ⊢
  have HL := Lib.hid hlen
  clear hlen
  refine callsIn_of_wp Try.func42 rfl trivial ?_ rfl
  simp only [Try.ntmps42, List.size_toArray, List.length_cons, List.length_nil, Nat.reduceAdd, Nat.reduceSub, Array.replicate_succ, Array.replicate_zero, List.push_toArray, List.append_toArray, List.nil_append, List.cons_append]
  gi_wp2
  gi_loopw [8] (fun i wr => ∃ k : Nat, k ≤ len ∧ i = .int .i64 k ∧ Held wr bx 25 (tbC A1 A2 c1 c2 t) ∧ TbAt n₁ wr A1 A2 c1 c2 t ∧ W.heap.size ≤ wr.heap.size ∧ J k wr)
    (fun i _ => len - (intOf i).toNat)
  case atStart => exact ⟨0, Nat.zero_le _, rfl, GH.out, TH.out, Nat.le_refl _, h0⟩
  case round =>
    obtain ⟨k, hk, rfl, g', t', hsz, hJ⟩ := hrel
    clear cx h0 GH TH
    by_cases hlt : k < len
    · have hs : t.sp[k]? = some (spK t.sp k) := spK_get (by have := HL.out; omega)
      obtain ⟨b2, o2, rfl, hB, ca, cb⟩ := t'.sp k _ hs
      have hb1 : Below wr.heap.size wr (wr.alloc (.cells #[.int .i64 (spK t.sp k).1, .int .i64 (spK t.sp k).2] 36)) := (Below.refl _ _).alloc (Nat.le_refl _) _
      have hYk := HY.out k _ hlt (HJ.out k _ _ hJ (hb1.mono hsz)) (by have := hb1.size; omega)
      obtain ⟨fn, tmps, assign, body, hy, hR0⟩ := hYk
      have hR := hR0.mono (answeredP n₁ bx W.heap.size J Jx k _)
      have HH := Lib.hid (And.intro g' (And.intro t' hb1))
      clear hR0 g' t' hb1 hs hJ
      gi_wp2
      refine ⟨fun _ => by omega, hR.mono ?_⟩
      rintro e W3 ⟨y, rfl, hA⟩
      cases y
      · have hJx3 := hA.2 rfl
        gi_wp2
        refine bodyPost_ret (results_none rfl _ _ _) rfl ?_
        exact ⟨⟨_, rfl⟩, .inr ⟨k, hlt, hJx3⟩⟩
      · obtain ⟨hJ3, hk3, hs3⟩ := hA.1 rfl
        obtain ⟨g', t', hb1⟩ := HH.out
        have g1 := g'.below hb1 g'.lt
        have t1 := t'.below (hb1.mono (show n₁ ≤ wr.heap.size by omega))
        have hRel := Lib.hid (show Held W3 bx 25 _ ∧ TbAt n₁ W3 _ _ _ _ _ ∧ W.heap.size ≤ W3.heap.size ∧ J (k + 1) W3 from ⟨(hk3 bx (.inr rfl)).trans g1, t1.same (fun i hi => hk3 i (.inl hi)), hs3, hJ3⟩)
        clear HH g' t' hb1 g1 t1 hJ3 hk3 hs3 hA
        gi_wp2
        go_roundw
        case rel => exact ⟨k + 1, by omega, by go_num, hRel.out⟩
        case measure => simp [intOf]; omega
    · obtain rfl : k = len := by omega
      gi_wp2
      go_end0
      exact ⟨⟨_, rfl⟩, .inl hJ⟩
end Go.Proofs.Ytoofmklknffhpaa
