/-
  The contract of hash.Words. Conditions: the words lie where the slice says, there are at most a hundred. The laws' own shown, and HashSteps, HashScales, HashApart, HashRises, HashTurns, walked over the contracts of the program's functions. Conditions: the numbers fit their kinds. HashTurns walked; the document's Words; HashWords walked. Conditions: the numbers fit their kinds. hash.Of and the document's Of; HashFlows, HashSteps2 walked. Conditions: the numbers fit their kinds.
-/
import Derived.Test.YtaoaapbbadipfaaMGc
import Derived.Test.YtaoaapbbadipfaaMGa
/- The contract of hash.Words. Conditions: the words lie where the slice says, there are at most a hundred. -/
section
namespace Go.Proofs.Ytaoaapbbadipfaa.Hs
set_option linter.unusedSimpArgs false
set_option linter.unusedVariables false
set_option maxRecDepth 100000
open Go.ChangeShapes Go.WideShapes Go.ChangeAt Go.RowKit Go.Shelf
attribute [local go_sem] Oper.semAt_some

theorem infoU32 : (Try.prog.info? 22).map (·.size) = some 1 := by kernel_rfl
theorem keepsFrom_below {B : Nat} {W W' : World} (h : Below W.heap.size W W') : KeepsFrom B W W' := ⟨h.size, fun k o _ hk _ => (h.block k (Array.getElem?_eq_some_iff.1 hk).1).trans hk⟩
theorem keepsFrom_foot {B b : Nat} {W W' : World} (h : Foot (· = b) W W') (hb : b < B) : KeepsFrom B W W' := ⟨h.size, fun k o hB hk _ => (h.block k (Array.getElem?_eq_some_iff.1 hk).1 (by omega)).trans hk⟩
theorem keepsBut_below {n : Nat} {W W' : World} (h : Below W.heap.size W W') (hn : n ≤ W.heap.size) : KeepsBut n n W W' := fun k hk _ => h.block k (by omega)
theorem keepsBut_foot {n b : Nat} {W W' : World} (h : Foot (· = b) W W') (hb : n ≤ b) (hn : n ≤ W.heap.size) : KeepsBut n n W W' := fun k hk _ => h.block k (by omega) (by omega)
/-- some words mixed in, by their numbers -/
def mixL (s : BitVec 32) (f : Nat → BitVec 32) (l : List Nat) : BitVec 32 := l.foldl (fun h k => mixB h (f k)) s
theorem mixL_snoc (s : BitVec 32) (f : Nat → BitVec 32) (l : List Nat) (x : Nat) : mixL s f (l ++ [x]) = mixB (mixL s f l) (f x) := by
  unfold mixL
  rw [List.foldl_append]
  rfl
/-- between two rounds -/
def WI (s : BitVec 32) (f : Nat → BitVec 32) (A : Option Addr) (len cap bh bc bx n₀ : Nat) (w : World) (pre : List Nat) (V : World) : Prop :=
  (∀ k, k ∈ pre → k < len) ∧ n₀ ≤ V.heap.size ∧ Mem w V [(bh, 22, #[.int .u32 (u (mixL s f pre))]), (bc, 22, #[.int .u32 (pre.length : Int)]), (bx, 107, #[.slice A len cap])]
/-- a round has left -/
def WX (s : BitVec 32) (f : Nat → BitVec 32) (A : Option Addr) (len cap bh bc bx n₀ : Nat) (w : World) (c : Code) (pre : List Nat) (V : World) : Prop :=
  c = .exit 0 ∧ ∃ z x, pre = z ++ [x] ∧ ¬ x < len ∧ WI s f A len cap bh bc bx n₀ w z V
theorem WI.far {s : BitVec 32} {f : Nat → BitVec 32} {A : Option Addr} {len cap bh bc bx n₀ : Nat} {w : World} (h1 : bh < n₀) (h2 : bc < n₀) (h3 : bx < n₀) (h4 : w.heap.size ≤ n₀) : FarFrom n₀ (WI s f A len cap bh bc bx n₀ w) := fun pre X Y h hb =>
  ⟨h.1, Nat.le_trans h.2.1 hb.size, h.2.2.far hb h4 fun z hz => by
    simp only [List.mem_cons, List.not_mem_nil, or_false] at hz
    rcases hz with rfl | rfl | rfl
    · exact h1
    · exact h2
    · exact h3⟩
theorem WX.far {s : BitVec 32} {f : Nat → BitVec 32} {A : Option Addr} {len cap bh bc bx n₀ : Nat} {w : World} (h1 : bh < n₀) (h2 : bc < n₀) (h3 : bx < n₀) (h4 : w.heap.size ≤ n₀) (c : Code) : FarFrom n₀ (WX s f A len cap bh bc bx n₀ w c) := by
  rintro pre X Y ⟨hc, z, x, e, hx, hi⟩ hb
  exact ⟨hc, z, x, e, hx, WI.far h1 h2 h3 h4 z X Y hi hb⟩
set_option maxRecDepth 100000 in
set_option maxHeartbeats 2000000 in
theorem words_p (s : BitVec 32) (A : Option Addr) (len cap : Nat) (hl : len ≤ cap) (h100 : len ≤ 100) (f : Nat → BitVec 32) (w : World) (gw : WordsAt w.heap.size w A len f) :
    Calls Try.prog 57 #[.int .u32 (u s), .slice A len cap] w fun e w' => e = .returned (.int .u32 (u (wordsB s f len))) ∧ Below w.heap.size w w' := by
  have H := Mem.start w
  have G := Lib.hid gw
  clear gw
  refine (callsIn_wide (n := 6)).1 ?_
  refine callsIn_of_wp_marks Try.func57 rfl trivial ?_ rfl
  simp only [Try.ntmps57, List.size_toArray, List.length_cons, List.length_nil, Nat.reduceAdd, Nat.reduceSub, Array.replicate_succ, Array.replicate_zero, List.push_toArray, List.append_toArray, List.nil_append, List.cons_append]
  refine wpIn_wide.2 ?_
  go_wp2_with fail
  refine wp_scope_straight ?_
  go_upto_region 2 with (first
    | ((with_reducible show wpList _ _ _ _ _ (World.alloc _ (.cells _ _))); refine mem_newb (l := []) H ?_; intro bh w3 hbk H2; try rw [← hbk]; clear hbk H; have H := H2; clear H2; simp only [List.cons_append, List.nil_append, List.set_cons_zero, List.set_cons_succ, List.setIfInBounds_toArray] at H)
    | ((with_reducible show wpList _ _ _ _ _ (World.alloc _ (.cells _ _))); refine mem_newb (l := [_]) H ?_; intro bc w3 hbk H2; try rw [← hbk]; clear hbk H; have H := H2; clear H2; simp only [List.cons_append, List.nil_append, List.set_cons_zero, List.set_cons_succ, List.setIfInBounds_toArray] at H)
    | ((with_reducible show wpList _ _ _ (⟨_, .store _ _ _, _, _, _, _⟩ :: _) _ _); refine mem_storef (i := 0) H (by first | exact wanted_none rfl | exact wanted_some rfl rfl rfl rfl) (by exact rfl) (by exact rfl) (by exact rfl) (by exact rfl) infoU32 (by exact rfl) (by exact rfl) ?_; intro w2 H2; clear H; have H := H2; clear H2; simp only [List.cons_append, List.nil_append, List.set_cons_zero, List.set_cons_succ, List.setIfInBounds_toArray] at H)
    | ((with_reducible show wpList _ _ _ (⟨_, .store _ _ _, _, _, _, _⟩ :: _) _ _); refine mem_storef (i := 1) H (by first | exact wanted_none rfl | exact wanted_some rfl rfl rfl rfl) (by exact rfl) (by exact rfl) (by exact rfl) (by exact rfl) infoU32 (by exact rfl) (by exact rfl) ?_; intro w2 H2; clear H; have H := H2; clear H2; simp only [List.cons_append, List.nil_append, List.set_cons_zero, List.set_cons_succ, List.setIfInBounds_toArray] at H))
  refine wp_label ?_
  go_wp2_with (first
    | go_skip
    | (go_at_call 62; refine (each_p _ _ _ _).mono ?_; rintro e w2 ⟨bx, rfl, hm⟩; have H2 := H.join hm; clear H hm; have H := H2; clear H2; simp only [List.cons_append, List.nil_append, List.set_cons_zero, List.set_cons_succ, List.setIfInBounds_toArray] at H))
  have hbh := (H.at 0 rfl).lt
  have hbc := (H.at 1 rfl).lt
  have hbx := (H.at 2 rfl).lt
  have hsz := H.below.size
  have hlh := (H.held _ (List.mem_of_getElem? (i := 0) rfl)).1
  have hlc := (H.held _ (List.mem_of_getElem? (i := 1) rfl)).1
  have gw2 : WordsAt w.heap.size w2 A len f := G.out.below H.below
  refine (wpIn_wide (n := 6)).1 ?_
  refine wpIn_rangeFar (n := 6) (F := Fence.wide) rfl (by omega) (gf := 71) (lb := #[.pointer (some ⟨bx, 0, none⟩)]) rfl trivial (enters_of Try.func71 (by kernel_rfl) rfl)
    (each1_far 5 (by omega) bx A len cap hl h100 f w.heap.size w2 hsz (H.at 2 rfl) gw2)
    (fun h k => h.trans k) (fun W l o o' hl ho hc hw => KeepsBut.put hsz W l o o' hl ho hc hw) (fun _ => rfl)
    (WI s f A len cap bh bc bx w2.heap.size w) (WX s f A len cap bh bc bx w2.heap.size w) (WI.far hbh hbc hbx hsz) (WX.far hbh hbc hbx hsz)
    ⟨(fun k h => by cases h), Nat.le_refl _, H⟩
    (fun k => { tmps := #[.int .u32 (u s), .slice A len cap, undef, undef, .int .u32 0, .pointer (some ⟨bh, 0, none⟩), .pointer (some ⟨bc, 0, none⟩), .int .u32 (wN f len k), .bool (decide (k < len)), .int .u32 (u s), .slice A len cap, .func (.func 71) #[] #[.pointer (some ⟨bx, 0, none⟩)], .int .u32 (wN f len k), .bool (decide (k < len)),
      undef, undef, undef, undef, undef, undef, undef, undef, undef, undef, undef], defers := [] }) ?assign ?body ?done ?stop
  case assign =>
    intro l x V K hK
    gi_wp2
    exact hK
  case body =>
    rintro l pre x V ⟨hp, hV, K⟩ hlt
    clear H gw2
    by_cases hx : x < len
    · have e1 : decide (x < len) = true := decide_eq_true hx
      have e2 : wN f len x = u (f x) := if_pos hx
      rw [e1, e2]
      have P := Lib.hid hp
      clear hp e1 e2
      have hpl : (pre.length : Int) < 101 := by omega
      gi_wp2_with (first
        | ((with_reducible show wpListIn _ _ _ _ _ (⟨_, .load _ _, _, _, _, _⟩ :: _) _ _); first | refine mem_loadfI (i := 0) K (by first | exact wanted_none rfl | exact wanted_some rfl rfl rfl rfl) (by exact rfl) (by exact rfl) (by exact rfl) Try.underlying22 rfl (by exact rfl) ?_ | refine mem_loadfI (i := 1) K (by first | exact wanted_none rfl | exact wanted_some rfl rfl rfl rfl) (by exact rfl) (by exact rfl) (by exact rfl) Try.underlying22 rfl (by exact rfl) ?_)
        | (refine ⟨trivial, ?_⟩; gi_at_call 63; refine (CallsIn.inRound l (callsIn_wide.2 (mix_p _ _ V))).mono ?_; rintro e V1 ⟨rfl, hb1⟩; have K1 := K.call hb1; clear K; have K := K1; clear K1)
        | ((with_reducible show wpListIn _ _ _ _ _ (⟨_, .store _ (.tmp 5) _, _, _, _, _⟩ :: _) _ _); refine mem_storefI (i := 0) K (by first | exact wanted_none rfl | exact wanted_some rfl rfl rfl rfl) (by exact rfl) (by exact rfl) (by exact rfl) (by exact rfl) infoU32 (by exact rfl) (by exact rfl) ?_; intro V2 K2 F2; clear K; have K := K2; clear K2; simp only [List.cons_append, List.nil_append, List.set_cons_zero, List.set_cons_succ, List.setIfInBounds_toArray] at K)
        | ((with_reducible show wpListIn _ _ _ _ _ (⟨_, .store _ (.tmp 6) _, _, _, _, _⟩ :: _) _ _); refine mem_storefI (i := 1) K (by first | exact wanted_none rfl | exact wanted_some rfl rfl rfl rfl) (by exact rfl) (by exact rfl) (by exact rfl) (by exact rfl) infoU32 (by exact rfl) (by exact rfl) ?_; intro V3 K3 F3; clear K; have K := K3; clear K3; simp only [List.cons_append, List.nil_append, List.set_cons_zero, List.set_cons_succ, List.setIfInBounds_toArray] at K))
      have hs1 := hb1.size
      have hs2 := F2.size
      have hs3 := F3.size
      refine ⟨((keepsFrom_below hb1).trans (keepsFrom_foot F2 hbh)).trans (keepsFrom_foot F3 hbc), ?_, ?_, by omega, ?_⟩
      · exact ((keepsBut_below hb1 (by omega)).trans (keepsBut_foot F2 hlh (by omega))).trans (keepsBut_foot F3 hlc (by omega))
      · intro k hk
        rcases List.mem_append.1 hk with h | h
        · exact P.out k h
        · rw [List.mem_singleton.1 h]
          exact hx
      · rw [mixL_snoc, List.length_append]
        exact K
    · have e1 : decide (x < len) = false := decide_eq_false hx
      have e2 : wN f len x = 0 := if_neg hx
      rw [e1, e2]
      clear e1 e2
      gi_wp2
      exact ⟨KeepsFrom.refl _ _, rfl, pre, x, rfl, hx, hp, hV, K⟩
  case done =>
    rintro D xs V hD rfl ⟨hp, _⟩
    exact absurd (hp len (by simp)) (by omega)
  case stop =>
    rintro D c pre V hD ⟨k, hk, rfl⟩ ⟨rfl, z, x, e, hx, hp, hV, K⟩ hK
    rw [List.range_succ] at e
    obtain ⟨rfl, e2⟩ := List.append_inj' e rfl
    obtain rfl : k = x := by simpa using e2
    obtain rfl : k = len := by omega
    rw [List.length_range] at K
    have e4 : 4 * (k : Int) = u (BitVec.ofNat 32 (4 * k)) := by rw [u_lit (4 * k) (by omega)]; omega
    have hDl : D < V.heap.size := (Array.getElem?_eq_some_iff.1 hK).1
    clear e e2 hp H gw2
    have H := K
    gi_wp2
    go_wp2_with (first
      | ((with_reducible show wpList _ _ _ (⟨_, .load _ _, _, _, _, _⟩ :: _) _ _); refine mem_loadf (i := 0) H (by first | exact wanted_none rfl | exact wanted_some rfl rfl rfl rfl) (by exact rfl) (by exact rfl) (by exact rfl) Try.underlying22 rfl (by exact rfl) ?_)
      | ((with_reducible show wpList _ _ _ (⟨_, .load _ _, _, _, _, _⟩ :: _) _ _); refine mem_loadf (i := 1) H (by first | exact wanted_none rfl | exact wanted_some rfl rfl rfl rfl) (by exact rfl) (by exact rfl) (by exact rfl) Try.underlying22 rfl (by exact rfl) ?_)
      | (go_at_call 64; refine (end_p _ _ V).mono ?_; rintro e V1 ⟨rfl, hb1⟩))
    refine ⟨by simp, .inl ⟨_, _, rfl, run_takeDeferred ((hb1.block D hDl).trans hK), ?_⟩⟩
    refine ⟨_, results_tmp (t := 4) rfl _ _ _, rfl, ?_⟩
    have := K.below.size
    clear H
    exact (K.below.trans (hb1.mono this)).trans (below_put (by omega) V1 _)
end Go.Proofs.Ytaoaapbbadipfaa.Hs
end
/- The laws' own shown, and HashSteps, HashScales, HashApart, HashRises, HashTurns, walked over the contracts of the program's functions. Conditions: the numbers fit their kinds. -/
section
namespace Go.Proofs.Ytaoaapbbadipfaa.Hs
set_option linter.unusedSimpArgs false
set_option linter.unusedVariables false
set_option maxRecDepth 100000
open Go.ChangeShapes Go.WideShapes Go.ChangeAt Go.RowKit

def noW : Nat → BitVec 32 := fun _ => 0#32
theorem words_0 (w : World) : Calls Try.prog 57 #[.int .u32 0, .slice none 0 0] w fun e w' => e = .returned (.int .u32 0) ∧ Below w.heap.size w w' := by
  have h := words_p 0#32 none 0 0 (Nat.le_refl _) (by omega) noW w (WordsAt.none _ _ _ _)
  rwa [show u (wordsB 0#32 noW 0) = 0 by rfl, show u 0#32 = 0 by rfl] at h
theorem words_1 (w : World) : Calls Try.prog 57 #[.int .u32 1, .slice none 0 0] w fun e w' => e = .returned (.int .u32 1364076727) ∧ Below w.heap.size w w' := by
  have h := words_p 1#32 none 0 0 (Nat.le_refl _) (by omega) noW w (WordsAt.none _ _ _ _)
  rwa [show u (wordsB 1#32 noW 0) = 1364076727 by rfl, show u 1#32 = 1 by rfl] at h
theorem turn_1 (w : World) : Calls Try.prog 72 #[.int .u32 2147483648, .int .i64 1] w fun e w' => e = .returned (.int .u32 1) ∧ Below w.heap.size w w' := by
  have h := turn_p 2147483648#32 1 (by omega) w
  rwa [show u (turnB 2147483648#32 1) = 1 by rfl, show u 2147483648#32 = 2147483648 by rfl] at h
theorem scale_1 (w : World) : Calls Try.prog 53 #[.int .u32 2147483648, .int .i64 3] w fun e w' => e = .returned (.tuple #[.int .i64 1, .int .i64 0]) ∧ w = w' := by
  have h := scale_p 2147483648 3 (by omega) (by omega) w
  rwa [show scl 2147483648 3 = 1 by rfl] at h
theorem beq_no {x y : BitVec 32} (h : x ≠ y) : (u x == u y) = false := by
  rw [beq_eq_false_iff_ne]
  exact fun e => h (u_inj.1 e)
end Go.Proofs.Ytaoaapbbadipfaa.Hs
end
/- HashTurns walked; the document's Words; HashWords walked. Conditions: the numbers fit their kinds. -/
section
namespace Go.Proofs.Ytaoaapbbadipfaa.Hs
set_option linter.unusedSimpArgs false
set_option linter.unusedVariables false
set_option maxRecDepth 100000
open Go.ChangeShapes Go.WideShapes Go.ChangeAt Go.RowKit

set_option maxRecDepth 100000 in
set_option maxHeartbeats 1000000 in
theorem words_r (s : BitVec 32) (A : Option Addr) (len cap : Nat) (hl : len ≤ cap) (h100 : len ≤ 100) (f : Nat → BitVec 32) (w : World) (gw : WordsAt w.heap.size w A len f) :
    Calls Try.prog 56 #[.int .u32 (u s), .slice A len cap] w fun e w' => e = .returned (.int .u32 (u (wordsB s f len))) ∧ Below w.heap.size w w' := by
  have H := Mem.start w
  have G := Lib.hid gw
  clear gw
  have e4 : 4 * (len : Int) = u (BitVec.ofNat 32 (4 * len)) := by rw [u_lit (4 * len) (by omega)]; omega
  have E4 := Lib.hid e4
  clear e4
  go_enter Try.func56, Try.ntmps56
  go_wp2
  go_loopw [5, 6] (fun hh i wr => ∃ k : Nat, k ≤ len ∧ i = .int .i64 k ∧ hh = .int .u32 (u (mixAll s f k)) ∧ Mem w wr []) (fun _ i _ => len - (intOf i).toNat)
  case atStart => exact ⟨0, Nat.zero_le _, rfl, rfl, H⟩
  case round =>
    clear H
    obtain ⟨k, hk, rfl, rfl, H⟩ := hrel
    by_cases hlt : k < len
    · obtain ⟨b, o, rfl, hB, ck⟩ := G.out k hlt
      have ck' : wr.cell? ⟨b, o + k, none⟩ = some (.int .u32 (u (f k))) := (H.old hB).trans ck
      clear ck
      go_wp2_with (go_at_call 60; with_reducible refine (mix_r _ _ _).mono ?_; rintro e w2 ⟨rfl, hb⟩; have H2 := H.call hb; clear H hb; have H := H2; clear H2)
      go_roundw
      case rel => exact ⟨k + 1, by omega, by go_num, by rw [mixAll_succ], H⟩
      case measure => simp [intOf]; omega
    · obtain rfl : k = len := by omega
      have e4 := E4.out
      go_wp2_with (go_at_call 61; with_reducible refine (end_r _ _ _).mono ?_; rintro e w2 ⟨rfl, hb⟩; have H2 := H.call hb; clear H hb; have H := H2; clear H2)
      go_ret
      exact ⟨rfl, H.below⟩
/-- a word's cells, and that it fits -/
abbrev u32C (y : Int) : List Value := [Value.int .u32 y]
abbrev u32F (y : Int) : Prop := (Lit.int .u32 y).wf = true
/-- the words of a slice that came in -/
theorem u_back {a : Int} (h : 0 ≤ a ∧ a ≤ 4294967295) : u (BitVec.ofNat 32 a.toNat) = a := by
  have e := u_lit a.toNat (by omega)
  omega
theorem words_of {w : World} {A : Option Addr} {len : Nat} {xs : Nat → Int} (h : SliceAt w A len 1 u32C u32F xs) : ∃ f, WordsAt w.heap.size w A len f := by
  refine ⟨fun k => BitVec.ofNat 32 (xs k).toNat, fun k hk => ?_⟩
  obtain ⟨b, o, hA, hb, hc⟩ := h.plain (fun _ => rfl) (by omega) (Nat.lt_of_le_of_lt (Nat.zero_le _) hk)
  have hf := (hc k hk).1
  have hv := (hc k hk).2 0 (.int .u32 (xs k)) rfl
  rw [Nat.mul_one, Nat.add_zero] at hv
  have e := u_back (bd_u32 hf)
  refine ⟨b, o, hA, hb, ?_⟩
  show _ = some (Value.int .u32 (u (BitVec.ofNat 32 (xs k).toNat)))
  rw [e]
  exact hv
theorem WordsAt.less {B : Nat} {w : World} {A : Option Addr} {len m : Nat} {f : Nat → BitVec 32} (h : WordsAt B w A len f) (hm : m ≤ len) : WordsAt B w A m f := fun k hk => h k (by omega)
end Go.Proofs.Ytaoaapbbadipfaa.Hs
end
/- hash.Of and the document's Of; HashFlows, HashSteps2 walked. Conditions: the numbers fit their kinds. -/
section
namespace Go.Proofs.Ytaoaapbbadipfaa.Hs
set_option linter.unusedSimpArgs false
set_option linter.unusedVariables false
set_option maxRecDepth 100000
open Go.ChangeShapes Go.WideShapes Go.ChangeAt Go.RowKit

theorem words_row {W : World} {b : Nat} {t : TypeId} {cs : Array Value} {len : Nat} {f : Nat → BitVec 32} (g : Held W b t cs) (h : ∀ k, k < len → cs[k]? = some (.int .u32 (u (f k)))) : WordsAt W.heap.size W (some ⟨b, 0, none⟩) len f := fun k hk =>
  ⟨b, 0, rfl, g.lt, by rw [Nat.zero_add]; exact (g.cell k).trans (h k hk)⟩
def l4 (a b c d : BitVec 32) : Nat → BitVec 32
  | 0 => a
  | 1 => b
  | 2 => c
  | _ => d
theorem words4 {W : World} {i : Nat} {t : TypeId} {a b c d : BitVec 32} (g : Held W i t #[.int .u32 (u a), .int .u32 (u b), .int .u32 (u c), .int .u32 (u d)]) : WordsAt W.heap.size W (some ⟨i, 0, none⟩) 4 (l4 a b c d) :=
  words_row g fun k hk => by
    match k, hk with
    | 0, _ => rfl
    | 1, _ => rfl
    | 2, _ => rfl
    | 3, _ => rfl
theorem words2 {W : World} {i : Nat} {t : TypeId} {a b : BitVec 32} (g : Held W i t #[.int .u32 (u a), .int .u32 (u b)]) : WordsAt W.heap.size W (some ⟨i, 0, none⟩) 2 (l4 a b b b) :=
  words_row g fun k hk => by
    match k, hk with
    | 0, _ => rfl
    | 1, _ => rfl
theorem words1 {W : World} {i : Nat} {t : TypeId} {a : BitVec 32} (g : Held W i t #[.int .u32 (u a)]) : WordsAt W.heap.size W (some ⟨i, 0, none⟩) 1 (l4 a a a a) :=
  words_row g fun k hk => by
    match k, hk with
    | 0, _ => rfl
theorem flowInfo : (Try.prog.info? 40).map (·.size) = some 5 := by kernel_rfl
abbrev flowC (a b : BitVec 32) (sp dp : Int) (q : BitVec 32) : Array Value := #[.int .u32 (u a), .int .u32 (u b), .int .u16 sp, .int .u16 dp, .int .u8 (u q)]
set_option maxRecDepth 100000 in
set_option maxHeartbeats 1000000 in
theorem of_p (a b : BitVec 32) (sp dp : Int) (q : BitVec 32) (s P : BitVec 32) (hs : 0 ≤ sp ∧ sp ≤ 65535) (hd : 0 ≤ dp ∧ dp ≤ 65535) (hq : u q ≤ 255) (hP : sp * 65536 + dp = u P) (w : World) :
    Calls Try.prog 50 #[.agg (flowC a b sp dp q), .int .u32 (u s)] w fun e w' => e = .returned (.int .u32 (u (wordsB s (l4 a b P q) 4))) ∧ Below w.heap.size w w' := by
  have H := Mem.start w
  have HP := Lib.hid hP
  clear hP
  have hq0 := (u_bd q).1
  go_enter Try.func50, Try.ntmps50
  go_upto_region 1 with ((with_reducible show wpList _ _ _ _ _ (World.alloc _ (.cells _ _))); refine mem_newb H ?_; intro bf w3 hbk H2; try rw [← hbk]; clear hbk H; have H := H2; clear H2; simp only [List.cons_append, List.nil_append, List.set_cons_zero, List.set_cons_succ, List.setIfInBounds_toArray] at H)
  go_upto_region 2 with (first
    | ((with_reducible show wpList _ _ _ (⟨_, .load _ _, _, _, _, _⟩ :: _) _ _); refine mem_loadf (i := 0) H (by first | exact wanted_none rfl | exact wanted_some rfl rfl rfl rfl) (by exact rfl) (by exact rfl) (by exact rfl) (by first | exact Try.underlying22 | exact Try.underlying38 | exact Try.underlying5) rfl (by exact rfl) ?_))
  simp only [HP.out]
  go_wp2_with (first
    | go_skip
    | ((with_reducible show wpList _ _ _ _ _ (World.alloc _ (.cells _ _))); refine mem_newb H ?_; intro bs w3 hbk H2; try rw [← hbk]; clear hbk H; have H := H2; clear H2; simp only [List.cons_append, List.nil_append, List.set_cons_zero, List.set_cons_succ, List.setIfInBounds_toArray] at H)
    | ((with_reducible show wpList _ _ _ (⟨_, .load _ _, _, _, _, _⟩ :: _) _ _); refine mem_loadf (i := 0) H (by first | exact wanted_none rfl | exact wanted_some rfl rfl rfl rfl) (by exact rfl) (by exact rfl) (by exact rfl) (by first | exact Try.underlying22 | exact Try.underlying38 | exact Try.underlying5) rfl (by exact rfl) ?_)
    | (go_at_call 57; with_reducible refine (words_p s (some ⟨bs, 0, none⟩) 4 4 (by omega) (by omega) (l4 a b P q) _ (words4 (H.at 1 rfl))).mono ?_; rintro e w2 ⟨rfl, hb⟩; have H2 := H.call hb; clear H hb; have H := H2; clear H2))
  go_ret
  exact ⟨rfl, H.below⟩
set_option maxRecDepth 100000 in
set_option maxHeartbeats 1000000 in
theorem of_r (a b : BitVec 32) (sp dp : Int) (q : BitVec 32) (s P : BitVec 32) (hs : 0 ≤ sp ∧ sp ≤ 65535) (hd : 0 ≤ dp ∧ dp ≤ 65535) (hq : u q ≤ 255) (hP : 65536 * sp + dp = u P) (w : World) :
    Calls Try.prog 48 #[.agg (flowC a b sp dp q), .int .u32 (u s)] w fun e w' => e = .returned (.int .u32 (u (wordsB s (l4 a b P q) 4))) ∧ Below w.heap.size w w' := by
  have H := Mem.start w
  have HP := Lib.hid hP
  clear hP
  have hq0 := (u_bd q).1
  go_enter Try.func48, Try.ntmps48
  go_upto_region 1 with ((with_reducible show wpList _ _ _ _ _ (World.alloc _ (.cells _ _))); refine mem_newb H ?_; intro bf w3 hbk H2; try rw [← hbk]; clear hbk H; have H := H2; clear H2; simp only [List.cons_append, List.nil_append, List.set_cons_zero, List.set_cons_succ, List.setIfInBounds_toArray] at H)
  have hP := HP.out
  go_wp2_with (first
    | go_skip
    | ((with_reducible show wpList _ _ _ _ _ (World.alloc _ (.cells _ _))); refine mem_newb H ?_; intro bs w3 hbk H2; try rw [← hbk]; clear hbk H; have H := H2; clear H2; simp only [List.cons_append, List.nil_append, List.set_cons_zero, List.set_cons_succ, List.setIfInBounds_toArray] at H)
    | ((with_reducible show wpList _ _ _ (⟨_, .load _ _, _, _, _, _⟩ :: _) _ _); refine mem_loadf (i := 0) H (by first | exact wanted_none rfl | exact wanted_some rfl rfl rfl rfl) (by exact rfl) (by exact rfl) (by exact rfl) (by first | exact Try.underlying22 | exact Try.underlying38 | exact Try.underlying5) rfl (by exact rfl) ?_)
    | (go_at_call 56; with_reducible refine (words_r s (some ⟨bs, 0, none⟩) 4 4 (by omega) (by omega) (l4 a b P q) _ (words4 (H.at 1 rfl))).mono ?_; rintro e w2 ⟨rfl, hb⟩; have H2 := H.call hb; clear H hb; have H := H2; clear H2))
  go_ret
  exact ⟨rfl, H.below⟩
theorem words2_p (s a b : BitVec 32) (i : Nat) (w : World) {t : TypeId} (g : Held w i t #[.int .u32 (u a), .int .u32 (u b)]) : Calls Try.prog 57 #[.int .u32 (u s), .slice (some ⟨i, 0, none⟩) 2 2] w fun e w' => e = .returned (.int .u32 (u (endB (mixB (mixB s a) b) 8#32))) ∧ Below w.heap.size w w' :=
  words_p s (some ⟨i, 0, none⟩) 2 2 (by omega) (by omega) (l4 a b b b) w (words2 g)
theorem words1_p (s a : BitVec 32) (i : Nat) (w : World) {t : TypeId} (g : Held w i t #[.int .u32 (u a)]) : Calls Try.prog 57 #[.int .u32 (u s), .slice (some ⟨i, 0, none⟩) 1 1] w fun e w' => e = .returned (.int .u32 (u (endB (mixB s a) 4#32))) ∧ Below w.heap.size w w' :=
  words_p s (some ⟨i, 0, none⟩) 1 1 (by omega) (by omega) (l4 a a a a) w (words1 g)
theorem words0_p (s : BitVec 32) (w : World) : Calls Try.prog 57 #[.int .u32 (u s), .slice none 0 0] w fun e w' => e = .returned (.int .u32 (u (endB s 0#32))) ∧ Below w.heap.size w w' :=
  words_p s none 0 0 (by omega) (by omega) noW w (WordsAt.none _ _ _ _)
theorem end_8 (x : BitVec 32) (w : World) : Calls Try.prog 64 #[.int .u32 (u x), .int .u32 8] w fun e w' => e = .returned (.int .u32 (u (endB x 8#32))) ∧ Below w.heap.size w w' := by
  have h := end_p x 8#32 w
  rwa [show u 8#32 = 8 by rfl] at h
theorem end_0 (x : BitVec 32) (w : World) : Calls Try.prog 64 #[.int .u32 (u x), .int .u32 0] w fun e w' => e = .returned (.int .u32 (u (endB x 0#32))) ∧ Below w.heap.size w w' := by
  have h := end_p x 0#32 w
  rwa [show u 0#32 = 0 by rfl] at h
theorem end_4 (x : BitVec 32) (w : World) : Calls Try.prog 64 #[.int .u32 (u x), .int .u32 4] w fun e w' => e = .returned (.int .u32 (u (endB x 4#32))) ∧ Below w.heap.size w w' := by
  have h := end_p x 4#32 w
  rwa [show u 4#32 = 4 by rfl] at h
/-- a flow's numbers -/
structure FV where
  a : Int
  b : Int
  sp : Int
  dp : Int
  q : Int
structure FV.Fits (d : FV) : Prop where
  a : 0 ≤ d.a ∧ d.a ≤ 4294967295
  b : 0 ≤ d.b ∧ d.b ≤ 4294967295
  sp : 0 ≤ d.sp ∧ d.sp ≤ 65535
  dp : 0 ≤ d.dp ∧ d.dp ≤ 65535
  q : 0 ≤ d.q ∧ d.q ≤ 255
abbrev fv (d : FV) : Value := .agg #[.int .u32 d.a, .int .u32 d.b, .int .u16 d.sp, .int .u16 d.dp, .int .u8 d.q]
theorem bd_u16 {n : Int} (h : (Lit.int .u16 n).wf = true) : 0 ≤ n ∧ n ≤ 65535 := by
  simpa [Lit.wf, IntKind.min, IntKind.max, IntKind.signed, IntKind.bits] using h
theorem open_flow {H : Type} {enc : TypeId × Value → H} {w : World} {base : Nat} {spare : Nat → Bool} {held : Bool} {r : Reach} {b0 : Nat} {v : Value} {x : DataW H} {p : List MemPlace} (hv : Value.okWide Try.prog w r b0 40 v) (h : DataW.Trod enc Try.prog w base spare held 40 v x p) :
    ∃ d : FV, v = fv d ∧ d.Fits := by
  obtain ⟨n0, n1, n2, n3, n4, rfl, w0, w1, w2, w3, w4⟩ := open_ints5 Try.underlying40 (by kernel_rfl) (by kernel_rfl) Try.underlying22 Try.underlying22 Try.underlying38 Try.underlying38 Try.underlying5 hv h
  exact ⟨⟨n0, n1, n2, n3, n4⟩, rfl, ⟨bd_u32 w0, bd_u32 w1, bd_u16 w2, bd_u16 w3, bd_u8 w4⟩⟩
end Go.Proofs.Ytaoaapbbadipfaa.Hs
end
