/-
  The words visited: hash.each and its closure; the document's Words. Conditions: the words lie where the slice says, there are at most a hundred.
-/
import Derived.Test.YtaalnkcfoioeeaaHashC
import Derived.Test.YtaalnkcfoioeeaaRange
import Derived.Test.YtaalnkcfoioeeaaMemI
import Derived.Lib.Hide
namespace Go.Proofs.Ytaalnkcfoioeeaa
set_option linter.unusedSimpArgs false
set_option linter.unusedVariables false
open Go.ChangeShapes Go.WideShapes Go.ChangeAt Go.RowKit Go.Shelf
attribute [local go_sem] Oper.semAt_some

/-- the words of a slice, in blocks below B -/
def WordsAt (B : Nat) (w : World) (A : Option Addr) (len : Nat) (f : Nat → BitVec 32) : Prop :=
  ∀ k, k < len → ∃ b o, A = some ⟨b, o, none⟩ ∧ b < B ∧ w.cell? ⟨b, o + k, none⟩ = some (.int .u32 (u (f k)))
theorem WordsAt.same {B : Nat} {w w' : World} {A : Option Addr} {len : Nat} {f : Nat → BitVec 32} (h : WordsAt B w A len f) (hb : ∀ k, k < B → w'.heap[k]? = w.heap[k]?) : WordsAt B w' A len f := fun k hk => by
  obtain ⟨b, o, e, hB, hc⟩ := h k hk
  refine ⟨b, o, e, hB, ?_⟩
  rw [← hc]
  unfold World.cell?
  rw [hb b hB]
theorem WordsAt.mono {B B' : Nat} {w : World} {A : Option Addr} {len : Nat} {f : Nat → BitVec 32} (h : WordsAt B w A len f) (hb : B ≤ B') : WordsAt B' w A len f := fun k hk => by
  obtain ⟨b, o, e, hB, hc⟩ := h k hk
  exact ⟨b, o, e, by omega, hc⟩
theorem WordsAt.below {B : Nat} {w w' : World} {A : Option Addr} {len : Nat} {f : Nat → BitVec 32} (h : WordsAt B w A len f) (hb : Below B w w') : WordsAt B w' A len f := h.same hb.block
theorem WordsAt.none (B : Nat) (w : World) (A : Option Addr) (f : Nat → BitVec 32) : WordsAt B w A 0 f := fun k hk => absurd hk (by omega)
/-- what is yielded at k -/
def wN (f : Nat → BitVec 32) (len k : Nat) : Int := if k < len then u (f k) else 0
abbrev encW (f : Nat → BitVec 32) (len k : Nat) : Array Value := #[.int .u32 (wN f len k), .bool (decide (k < len))]
theorem encW_yes {f : Nat → BitVec 32} {len k : Nat} (h : k < len) : encW f len k = #[.int .u32 (u (f k)), .bool true] := by simp [encW, wN, h]
theorem encW_no {f : Nat → BitVec 32} {len k : Nat} (h : ¬ k < len) : encW f len k = #[.int .u32 0, .bool false] := by simp [encW, wN, h]
theorem each_p (A : Option Addr) (len cap : Nat) (w : World) : Calls Try.prog 27 #[.slice A len cap] w fun e w' =>
    ∃ b, e = .returned (.func (.func 31) #[] #[.pointer (some ⟨b, 0, none⟩)]) ∧ Mem w w' [(b, 27, #[.slice A len cap])] := by
  go_enter Try.func27, Try.ntmps27
  go_wp2
  go_ret
  exact ⟨_, rfl, (Mem.start w).alloc _ _⟩
/-- what a round leaves, by its answer -/
def AnsweredW (n₁ : Nat) (J Jx : List Nat → World → Prop) (pre : List Nat) (W : World) (y : Bool) (W' : World) : Prop := (y = true → J pre W' ∧ KeepsBut n₁ n₁ W W') ∧ (y = false → Jx pre W')
theorem answeredW (n₁ : Nat) (J Jx : List Nat → World → Prop) (pre : List Nat) (W : World) : ∀ (e : Ending) (W' : World), ((e = .returned (.bool true) ∧ J pre W' ∧ KeepsBut n₁ n₁ W W') ∨ (e = .returned (.bool false) ∧ Jx pre W')) → ∃ y, e = .returned (.bool y) ∧ AnsweredW n₁ J Jx pre W y W' := by
  rintro e W' (⟨rfl, h1, h2⟩ | ⟨rfl, h1⟩)
  · exact ⟨true, rfl, fun _ => ⟨h1, h2⟩, (fun h => by cases h)⟩
  · exact ⟨false, rfl, (fun h => by cases h), fun _ => h1⟩
set_option maxRecDepth 100000 in
set_option maxHeartbeats 2000000 in
theorem each1_in (n : Nat) (hn : 2 ≤ n) (l bx n₁ : Nat) (A : Option Addr) (len cap : Nat) (hl : len ≤ cap) (h100 : len ≤ 100) (f : Nat → BitVec 32) (J Jx : List Nat → World → Prop)
    (hY : ∀ pre x V, J pre V → pre.length < len + 1 → YieldAt Fence.wide (n - 1) Try.prog l (encW f len x) V fun e V' =>
      (e = .returned (.bool true) ∧ J (pre ++ [x]) V' ∧ KeepsBut n₁ n₁ V V') ∨ (e = .returned (.bool false) ∧ Jx (pre ++ [x]) V'))
    (W : World) (gx : Held W bx 27 #[.slice A len cap]) (gw : WordsAt n₁ W A len f) (h0 : J [] W) :
    CallsIn Fence.wide n Try.prog 31 #[.func (.yield l) #[] #[], .pointer (some ⟨bx, 0, none⟩)] W fun e W' => (∃ v, e = .returned v) ∧
      ((∃ ys, ys = List.range (len + 1) ∧ J ys W') ∨ (∃ pre, (∃ k, k ≤ len ∧ pre = List.range (k + 1)) ∧ Jx pre W')) := by
  refine callsIn_of_wp Try.func31 rfl trivial ?_ rfl
  simp only [Try.ntmps31, List.size_toArray, List.length_cons, List.length_nil, Nat.reduceAdd, Nat.reduceSub, Array.replicate_succ, Array.replicate_zero, List.push_toArray, List.append_toArray, List.nil_append, List.cons_append]
  have cx : W.cell? ⟨bx, 0, none⟩ = some (.slice A len cap) := gx.cell 0
  have HY := Lib.hid hY
  clear hY
  gi_wp2
  gi_loopw [7] (fun i wr => ∃ k : Nat, k ≤ len ∧ i = .int .i64 k ∧ WordsAt n₁ wr A len f ∧ J (List.range k) wr)
    (fun i _ => len - (intOf i).toNat)
  case atStart => exact ⟨0, Nat.zero_le _, rfl, gw, h0⟩
  case round =>
    obtain ⟨k, hk, rfl, g', hJ⟩ := hrel
    clear cx gx gw
    by_cases hlt : k < len
    · obtain ⟨b, o, rfl, hB, ck⟩ := g' k hlt
      have hYk := HY.out (List.range k) k wr hJ (by simp; omega)
      rw [encW_yes hlt] at hYk
      obtain ⟨fn, tmps, assign, body, hy, hR0⟩ := hYk
      have hR := hR0.mono (answeredW n₁ J Jx (List.range k ++ [k]) wr)
      clear hR0
      have G := Lib.hid g'
      clear g'
      gi_wp2
      refine ⟨fun _ => by omega, hR.mono ?_⟩
      rintro e W3 ⟨y, rfl, hA⟩
      cases y
      · have hJx3 := hA.2 rfl
        gi_wp2
        refine bodyPost_ret (results_none rfl _ _ _) rfl ?_
        exact ⟨⟨_, rfl⟩, .inr ⟨_, ⟨k, by omega, by rw [List.range_succ]⟩, hJx3⟩⟩
      · obtain ⟨hJ3, hk3⟩ := hA.1 rfl
        have g3 := G.out.same (fun i hi => hk3 i hi (by omega))
        have G3 := Lib.hid g3
        clear g3 G
        gi_wp2
        go_roundw
        case rel => exact ⟨k + 1, by omega, by go_num, G3.out, by rw [List.range_succ]; exact hJ3⟩
        case measure => simp [intOf]; omega
    · obtain rfl : k = len := by omega
      have hYk := HY.out (List.range k) k wr hJ (by simp)
      rw [encW_no hlt] at hYk
      obtain ⟨fn, tmps, assign, body, hy, hR0⟩ := hYk
      have hR := hR0.mono (answeredW n₁ J Jx (List.range k ++ [k]) wr)
      clear hR0 g'
      gi_wp2
      refine ⟨fun _ => by omega, hR.mono ?_⟩
      rintro e W3 ⟨y, rfl, hA⟩
      cases y
      · have hJx3 := hA.2 rfl
        gi_wp2
        go_end0
        exact ⟨⟨_, rfl⟩, .inr ⟨_, ⟨k, by omega, by rw [List.range_succ]⟩, hJx3⟩⟩
      · obtain ⟨hJ3, hk3⟩ := hA.1 rfl
        gi_wp2
        go_end0
        exact ⟨⟨_, rfl⟩, .inl ⟨_, by rw [List.range_succ], hJ3⟩⟩
theorem each1_far (n : Nat) (hn : 2 ≤ n) (bx : Nat) (A : Option Addr) (len cap : Nat) (hl : len ≤ cap) (h100 : len ≤ 100) (f : Nat → BitVec 32) (n₁ : Nat) (w : World) (hn₁ : n₁ ≤ w.heap.size) (gx : Held w bx 27 #[.slice A len cap]) (gw : WordsAt n₁ w A len f) :
    SeqFar Fence.wide n Try.prog 31 #[.pointer (some ⟨bx, 0, none⟩)] (encW f len) (KeepsBut n₁ n₁) (fun ys => ys = List.range (len + 1)) (fun pre => ∃ k, k ≤ len ∧ pre = List.range (k + 1)) (len + 1) w := by
  intro l J Jx W hW _ _ hY h0
  exact each1_in n hn l bx n₁ A len cap hl h100 f J Jx hY W (gx.below hW gx.lt) (gw.below (hW.mono hn₁)) h0
end Go.Proofs.Ytaalnkcfoioeeaa
