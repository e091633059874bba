/-
  Contracts of dql's small functions: rising, Flight, Left, bounded, restarted, excess, remaining, allPrevious, slack. Each returns the plain number, bool or state, and leaves all that was there as it was. Conditions: the numbers fit their kinds.
-/
import Derived.Test.YtfgaeaebchgcdaaDqlC
import Derived.Test.YtfgaeaebchgcdaaHeld
import Derived.Deep.DeepCutAuto
import Derived.Lib.Hide
import Derived.Deep.QuietTactic
import Derived.BigQuiet
import Derived.Deep.RegionHeld3
namespace Go.Proofs.Ytfgaeaebchgcdaa
open Go.ChangeShapes Go.WideShapes Go.ChangeAt Go.RowKit

/-- a state's cells -/
abbrev dqc (q adj last lim comp pov plast pq slack start hold mn mx : Int) : Array Value :=
  #[.int .u32 q, .int .u32 adj, .int .u32 last, .int .u32 lim, .int .u32 comp, .int .u32 pov, .int .u32 plast, .int .u32 pq, .int .u32 slack, .int .u64 start, .int .u64 hold, .int .u32 mn, .int .u32 mx]
theorem infoU32 : (Try.prog.info? 22).map (·.size) = some 1 := by kernel_rfl
theorem infoU64 : (Try.prog.info? 23).map (·.size) = some 1 := by kernel_rfl
theorem dqlInfo : (Try.prog.info? 26).map (·.size) = some 13 := by kernel_rfl
theorem far_g (a b : Int) (w : World) : Calls Try.prog 28 #[.int .u32 a, .int .u32 b] w fun e w' => e = .returned (.int .u32 (DQ.fr a b)) ∧ w = w' := by
  rw [← far_fr]
  exact far_p a b w
theorem ahead_g (a b : Int) (w : World) : Calls Try.prog 46 #[.int .u32 a, .int .u32 b] w fun e w' => e = .returned (.bool (DQ.ah a b)) ∧ w = w' := by
  rw [← ahead_ah]
  exact ahead_p a b w
theorem over_g (a b : Int) (w : World) : Calls Try.prog 38 #[.int .u32 a, .int .u32 b] w fun e w' => e = .returned (.int .u32 (DQ.ov a b)) ∧ w = w' := by
  rw [← over_ov]
  exact over_p a b w
theorem flight_pv (q adj last lim comp pov plast pq slack start hold mn mx : Int) (w : World) : Calls Try.prog 18 #[dqv q adj last lim comp pov plast pq slack start hold mn mx] w fun e w' => e = .returned (.int .u32 (DQ.fr comp q)) ∧ Below w.heap.size w w' := by
  go_enter Try.func18, Try.ntmps18
  go_wp2_with (go_at_call 28; refine (far_g _ _ _).mono ?_; rintro e w' ⟨rfl, rfl⟩)
  go_ret
  exact ⟨rfl, by go_grown⟩
theorem left_p (d : DQ) (w : World) : Calls Try.prog 15 #[dq d] w fun e w' => e = .returned (.int .i32 d.left) ∧ Below w.heap.size w w' := by
  go_enter Try.func15, Try.ntmps15
  go_wp2
  go_ret
  refine ⟨?_, by go_grown⟩
  show Ending.returned (.int .i32 (wrap32 ((d.adj - d.q) % 4294967296))) = _
  congr 2
  unfold DQ.left DQ.s32 wrap32
  omega
set_option maxHeartbeats 1000000 in
theorem rising2 (v : Bool) (b : Nat) (x0 x1 : Int) (hv : decide (x0 ≤ x1) = v) (w : World) (h0 : w.cell? ⟨b, 0, none⟩ = some (.int .u32 x0)) (h1 : w.cell? ⟨b, 1, none⟩ = some (.int .u32 x1)) : Calls Try.prog 26 #[.slice (some ⟨b, 0, none⟩) 2 2] w fun e w' => e = .returned (.bool v) ∧ Below w.heap.size w w' := by
  subst hv
  go_enter Try.func26, Try.ntmps26
  go_wp2
  refine wp_loop_rounds 3 ?_
  repeat any_goals (rw [rounds_succ]; go_wp2; try go_quiet (fail); go_wp2)
  all_goals go_ret
  all_goals refine ⟨congrArg (fun b => Ending.returned (.bool b)) ?_, by first | exact below_drewN (Below.refl _ _) _ | exact below_drewN (below_drewN (Below.refl _ _) _) _ | exact below_drewN (below_drewN (below_drewN (Below.refl _ _) _) _) _⟩
  all_goals first | (exact (decide_eq_true (by omega)).symm) | (exact (decide_eq_false (by omega)).symm)
set_option maxHeartbeats 1000000 in
theorem rising3 (v : Bool) (b : Nat) (x0 x1 x2 : Int) (hv : decide (x0 ≤ x1 ∧ x1 ≤ x2) = v) (w : World) (h0 : w.cell? ⟨b, 0, none⟩ = some (.int .u32 x0)) (h1 : w.cell? ⟨b, 1, none⟩ = some (.int .u32 x1)) (h2 : w.cell? ⟨b, 2, none⟩ = some (.int .u32 x2)) : Calls Try.prog 26 #[.slice (some ⟨b, 0, none⟩) 3 3] w fun e w' => e = .returned (.bool v) ∧ Below w.heap.size w w' := by
  subst hv
  go_enter Try.func26, Try.ntmps26
  go_wp2
  refine wp_loop_rounds 4 ?_
  repeat any_goals (rw [rounds_succ]; go_wp2; try go_quiet (fail); go_wp2)
  all_goals go_ret
  all_goals refine ⟨congrArg (fun b => Ending.returned (.bool b)) ?_, by first | exact below_drewN (Below.refl _ _) _ | exact below_drewN (below_drewN (Below.refl _ _) _) _ | exact below_drewN (below_drewN (below_drewN (Below.refl _ _) _) _) _⟩
  all_goals first | (exact (decide_eq_true (by omega)).symm) | (exact (decide_eq_false (by omega)).symm)
set_option maxHeartbeats 1000000 in
theorem rising4 (v : Bool) (b : Nat) (x0 x1 x2 x3 : Int) (hv : decide (x0 ≤ x1 ∧ x1 ≤ x2 ∧ x2 ≤ x3) = v) (w : World) (h0 : w.cell? ⟨b, 0, none⟩ = some (.int .u32 x0)) (h1 : w.cell? ⟨b, 1, none⟩ = some (.int .u32 x1)) (h2 : w.cell? ⟨b, 2, none⟩ = some (.int .u32 x2)) (h3 : w.cell? ⟨b, 3, none⟩ = some (.int .u32 x3)) : Calls Try.prog 26 #[.slice (some ⟨b, 0, none⟩) 4 4] w fun e w' => e = .returned (.bool v) ∧ Below w.heap.size w w' := by
  subst hv
  go_enter Try.func26, Try.ntmps26
  go_wp2
  refine wp_loop_rounds 5 ?_
  repeat any_goals (rw [rounds_succ]; go_wp2; try go_quiet (fail); go_wp2)
  all_goals go_ret
  all_goals refine ⟨congrArg (fun b => Ending.returned (.bool b)) ?_, by first | exact below_drewN (Below.refl _ _) _ | exact below_drewN (below_drewN (Below.refl _ _) _) _ | exact below_drewN (below_drewN (below_drewN (Below.refl _ _) _) _) _⟩
  all_goals first | (exact (decide_eq_true (by omega)).symm) | (exact (decide_eq_false (by omega)).symm)
set_option maxHeartbeats 1000000 in
theorem rising2w (v : Bool) (b : Nat) (x0 x1 : Int) (hv : decide (x0 ≤ x1) = v) (w : World) (h0 : w.cell? ⟨b, 0, none⟩ = some (.int .u64 x0)) (h1 : w.cell? ⟨b, 1, none⟩ = some (.int .u64 x1)) : Calls Try.prog 30 #[.slice (some ⟨b, 0, none⟩) 2 2] w fun e w' => e = .returned (.bool v) ∧ Below w.heap.size w w' := by
  subst hv
  go_enter Try.func30, Try.ntmps30
  go_wp2
  refine wp_loop_rounds 3 ?_
  repeat any_goals (rw [rounds_succ]; go_wp2; try go_quiet (fail); go_wp2)
  all_goals go_ret
  all_goals refine ⟨congrArg (fun b => Ending.returned (.bool b)) ?_, by first | exact below_drewN (Below.refl _ _) _ | exact below_drewN (below_drewN (Below.refl _ _) _) _ | exact below_drewN (below_drewN (below_drewN (Below.refl _ _) _) _) _⟩
  all_goals first | (exact (decide_eq_true (by omega)).symm) | (exact (decide_eq_false (by omega)).symm)
/-- a state in a box, held: its cells, its block, and all that was there below -/
theorem hold_below {n b : Nat} {w0 W w2 : World} {q adj last lim comp pov plast pq slack start hold mn mx : Int} (h : (W.cell? ⟨b, 0, none⟩ = some (.int .u32 q) ∧ W.cell? ⟨b, 1, none⟩ = some (.int .u32 adj) ∧ W.cell? ⟨b, 2, none⟩ = some (.int .u32 last) ∧ W.cell? ⟨b, 3, none⟩ = some (.int .u32 lim) ∧ W.cell? ⟨b, 4, none⟩ = some (.int .u32 comp) ∧ W.cell? ⟨b, 5, none⟩ = some (.int .u32 pov) ∧ W.cell? ⟨b, 6, none⟩ = some (.int .u32 plast) ∧ W.cell? ⟨b, 7, none⟩ = some (.int .u32 pq) ∧ W.cell? ⟨b, 8, none⟩ = some (.int .u32 slack) ∧ W.cell? ⟨b, 9, none⟩ = some (.int .u64 start) ∧ W.cell? ⟨b, 10, none⟩ = some (.int .u64 hold) ∧ W.cell? ⟨b, 11, none⟩ = some (.int .u32 mn) ∧ W.cell? ⟨b, 12, none⟩ = some (.int .u32 mx)) ∧ Held W b 26 (dqc q adj last lim comp pov plast pq slack start hold mn mx) ∧ Below n w0 W) (hb : Below W.heap.size W w2) (hn : n ≤ w0.heap.size) : (w2.cell? ⟨b, 0, none⟩ = some (.int .u32 q) ∧ w2.cell? ⟨b, 1, none⟩ = some (.int .u32 adj) ∧ w2.cell? ⟨b, 2, none⟩ = some (.int .u32 last) ∧ w2.cell? ⟨b, 3, none⟩ = some (.int .u32 lim) ∧ w2.cell? ⟨b, 4, none⟩ = some (.int .u32 comp) ∧ w2.cell? ⟨b, 5, none⟩ = some (.int .u32 pov) ∧ w2.cell? ⟨b, 6, none⟩ = some (.int .u32 plast) ∧ w2.cell? ⟨b, 7, none⟩ = some (.int .u32 pq) ∧ w2.cell? ⟨b, 8, none⟩ = some (.int .u32 slack) ∧ w2.cell? ⟨b, 9, none⟩ = some (.int .u64 start) ∧ w2.cell? ⟨b, 10, none⟩ = some (.int .u64 hold) ∧ w2.cell? ⟨b, 11, none⟩ = some (.int .u32 mn) ∧ w2.cell? ⟨b, 12, none⟩ = some (.int .u32 mx)) ∧ Held w2 b 26 (dqc q adj last lim comp pov plast pq slack start hold mn mx) ∧ Below n w0 w2 :=
  ⟨(Held.dql (h.2.1.below hb h.2.1.lt)).1, h.2.1.below hb h.2.1.lt, h.2.2.trans (hb.mono (Nat.le_trans hn h.2.2.size))⟩
theorem hold_of {n b : Nat} {w0 W : World} {q adj last lim comp pov plast pq slack start hold mn mx : Int} (g : Held W b 26 (dqc q adj last lim comp pov plast pq slack start hold mn mx)) (B : Below n w0 W) : (W.drew.cell? ⟨b, 0, none⟩ = some (.int .u32 q) ∧ W.drew.cell? ⟨b, 1, none⟩ = some (.int .u32 adj) ∧ W.drew.cell? ⟨b, 2, none⟩ = some (.int .u32 last) ∧ W.drew.cell? ⟨b, 3, none⟩ = some (.int .u32 lim) ∧ W.drew.cell? ⟨b, 4, none⟩ = some (.int .u32 comp) ∧ W.drew.cell? ⟨b, 5, none⟩ = some (.int .u32 pov) ∧ W.drew.cell? ⟨b, 6, none⟩ = some (.int .u32 plast) ∧ W.drew.cell? ⟨b, 7, none⟩ = some (.int .u32 pq) ∧ W.drew.cell? ⟨b, 8, none⟩ = some (.int .u32 slack) ∧ W.drew.cell? ⟨b, 9, none⟩ = some (.int .u64 start) ∧ W.drew.cell? ⟨b, 10, none⟩ = some (.int .u64 hold) ∧ W.drew.cell? ⟨b, 11, none⟩ = some (.int .u32 mn) ∧ W.drew.cell? ⟨b, 12, none⟩ = some (.int .u32 mx)) ∧ Held W.drew b 26 (dqc q adj last lim comp pov plast pq slack start hold mn mx) ∧ Below n w0 W.drew := ⟨(Held.dql g.drew).1, g.drew, B.drew⟩
theorem hold_alloc {n b : Nat} {w0 W : World} {q adj last lim comp pov plast pq slack start hold mn mx : Int} (h : (W.cell? ⟨b, 0, none⟩ = some (.int .u32 q) ∧ W.cell? ⟨b, 1, none⟩ = some (.int .u32 adj) ∧ W.cell? ⟨b, 2, none⟩ = some (.int .u32 last) ∧ W.cell? ⟨b, 3, none⟩ = some (.int .u32 lim) ∧ W.cell? ⟨b, 4, none⟩ = some (.int .u32 comp) ∧ W.cell? ⟨b, 5, none⟩ = some (.int .u32 pov) ∧ W.cell? ⟨b, 6, none⟩ = some (.int .u32 plast) ∧ W.cell? ⟨b, 7, none⟩ = some (.int .u32 pq) ∧ W.cell? ⟨b, 8, none⟩ = some (.int .u32 slack) ∧ W.cell? ⟨b, 9, none⟩ = some (.int .u64 start) ∧ W.cell? ⟨b, 10, none⟩ = some (.int .u64 hold) ∧ W.cell? ⟨b, 11, none⟩ = some (.int .u32 mn) ∧ W.cell? ⟨b, 12, none⟩ = some (.int .u32 mx)) ∧ Held W b 26 (dqc q adj last lim comp pov plast pq slack start hold mn mx) ∧ Below n w0 W) (hn : n ≤ w0.heap.size) (o : Obj) : ((W.alloc o).cell? ⟨b, 0, none⟩ = some (.int .u32 q) ∧ (W.alloc o).cell? ⟨b, 1, none⟩ = some (.int .u32 adj) ∧ (W.alloc o).cell? ⟨b, 2, none⟩ = some (.int .u32 last) ∧ (W.alloc o).cell? ⟨b, 3, none⟩ = some (.int .u32 lim) ∧ (W.alloc o).cell? ⟨b, 4, none⟩ = some (.int .u32 comp) ∧ (W.alloc o).cell? ⟨b, 5, none⟩ = some (.int .u32 pov) ∧ (W.alloc o).cell? ⟨b, 6, none⟩ = some (.int .u32 plast) ∧ (W.alloc o).cell? ⟨b, 7, none⟩ = some (.int .u32 pq) ∧ (W.alloc o).cell? ⟨b, 8, none⟩ = some (.int .u32 slack) ∧ (W.alloc o).cell? ⟨b, 9, none⟩ = some (.int .u64 start) ∧ (W.alloc o).cell? ⟨b, 10, none⟩ = some (.int .u64 hold) ∧ (W.alloc o).cell? ⟨b, 11, none⟩ = some (.int .u32 mn) ∧ (W.alloc o).cell? ⟨b, 12, none⟩ = some (.int .u32 mx)) ∧ Held (W.alloc o) b 26 (dqc q adj last lim comp pov plast pq slack start hold mn mx) ∧ Below n w0 (W.alloc o) :=
  hold_below h ((Below.refl _ _).alloc (Nat.le_refl _) _) hn
theorem restarted_pv (q adj last lim comp pov plast pq slack start hold mn mx t : Int) (w : World) : Calls Try.prog 43 #[dqv q adj last lim comp pov plast pq slack start hold mn mx, .int .u64 t] w fun e w' => e = .returned (dqv q adj last lim comp pov plast pq 4294967295 t hold mn mx) ∧ Below w.heap.size w w' := by
  go_enter Try.func43, Try.ntmps43
  go_upto_region 1 with (fail)
  obtain ⟨g, r, B⟩ := two_boxes w 26 26 (dqc q adj last lim comp pov plast pq slack start hold mn mx) (dqc 0 0 0 0 0 0 0 0 0 0 0 0 0)
  generalize (w.alloc (.cells (dqc q adj last lim comp pov plast pq slack start hold mn mx) 26)).alloc (.cells (dqc 0 0 0 0 0 0 0 0 0 0 0 0 0) 26) = w1 at g r B ⊢
  go_wp2_with (first
    | go_skip
    | ((with_reducible show wpList _ _ _ (⟨_, .load 26 _, _, _, _, _⟩ :: _) _ _); refine load_held g (by first | exact wanted_none rfl | exact wanted_some rfl rfl rfl rfl) (by exact rfl) (by exact rfl) Try.underlying26 rfl dqlInfo ?_)
    | ((with_reducible show wpList _ _ _ (⟨_, .store 26 _ _, _, _, _, _⟩ :: _) _ _); refine store_held r (by first | exact wanted_none rfl | exact wanted_some rfl rfl rfl rfl) (by exact rfl) (by exact rfl) (by exact rfl) (by exact dqlInfo) (by exact rfl) (by exact rfl) ?_; intro w2 r2 F2; have g2 := g.foot F2 (by omega); have B2 := below_foot B F2 (by omega) (Nat.le_refl _); clear F2; clear r g B; have r := r2; have g := g2; have B := B2; clear r2 g2 B2)
    | ((with_reducible show wpList _ _ _ (⟨_, .store _ _ _, _, _, _, _⟩ :: _) _ _); refine store_fld g (by first | exact wanted_none rfl | exact wanted_some rfl rfl rfl rfl) (by exact rfl) (by exact rfl) (by exact rfl) (by first | exact infoU32 | exact infoU64) (by exact rfl) (by exact rfl) ?_; intro w2 g2 F2; simp only [List.setIfInBounds_toArray, List.set_cons_succ, List.set_cons_zero] at g2; have r2 := r.foot F2 (by omega); have B2 := below_foot B F2 (by omega) (Nat.le_refl _); clear F2; clear g r B; have g := g2; have r := r2; have B := B2; clear g2 r2 B2))
  refine ret_held r (by exact rfl) (by exact rfl) Try.underlying26 rfl dqlInfo ?_
  exact ⟨rfl, B⟩
theorem bounded_pv (q adj last lim comp pov plast pq slack start hold mn mx : Int) (w : World) : Calls Try.prog 27 #[dqv q adj last lim comp pov plast pq slack start hold mn mx] w fun e w' => e = .returned (dqv q ((min (max lim mn) mx + comp) % 4294967296) last (min (max lim mn) mx) comp pov plast pq slack start hold mn mx) ∧ Below w.heap.size w w' := by
  go_enter Try.func27, Try.ntmps27
  go_upto_region 1 with (fail)
  obtain ⟨g, r, B⟩ := two_boxes w 26 26 (dqc q adj last lim comp pov plast pq slack start hold mn mx) (dqc 0 0 0 0 0 0 0 0 0 0 0 0 0)
  generalize (w.alloc (.cells (dqc q adj last lim comp pov plast pq slack start hold mn mx) 26)).alloc (.cells (dqc 0 0 0 0 0 0 0 0 0 0 0 0 0) 26) = w1 at g r B ⊢
  go_wp2_with (first
    | go_skip
    | ((with_reducible show wpList _ _ _ (⟨_, .load 26 _, _, _, _, _⟩ :: _) _ _); refine load_held g (by first | exact wanted_none rfl | exact wanted_some rfl rfl rfl rfl) (by exact rfl) (by exact rfl) Try.underlying26 rfl dqlInfo ?_)
    | ((with_reducible show wpList _ _ _ (⟨_, .load _ _, _, _, _, _⟩ :: _) _ _); refine load_fld g (by first | exact wanted_none rfl | exact wanted_some rfl rfl rfl rfl) (by exact rfl) (by exact rfl) (by first | exact Try.underlying22 | exact Try.underlying23) rfl (by exact rfl) ?_)
    | ((with_reducible show wpList _ _ _ (⟨_, .store 26 _ _, _, _, _, _⟩ :: _) _ _); refine store_held r (by first | exact wanted_none rfl | exact wanted_some rfl rfl rfl rfl) (by exact rfl) (by exact rfl) (by exact rfl) (by exact dqlInfo) (by exact rfl) (by exact rfl) ?_; intro w2 r2 F2; have g2 := g.foot F2 (by omega); have B2 := below_foot B F2 (by omega) (Nat.le_refl _); clear F2; clear r g B; have r := r2; have g := g2; have B := B2; clear r2 g2 B2)
    | ((with_reducible show wpList _ _ _ (⟨_, .store _ _ _, _, _, _, _⟩ :: _) _ _); refine store_fld g (by first | exact wanted_none rfl | exact wanted_some rfl rfl rfl rfl) (by exact rfl) (by exact rfl) (by exact rfl) (by first | exact infoU32 | exact infoU64) (by exact rfl) (by exact rfl) ?_; intro w2 g2 F2; simp only [List.setIfInBounds_toArray, List.set_cons_succ, List.set_cons_zero] at g2; have r2 := r.foot F2 (by omega); have B2 := below_foot B F2 (by omega) (Nat.le_refl _); clear F2; clear g r B; have g := g2; have r := r2; have B := B2; clear g2 r2 B2))
  all_goals refine ret_held r (by exact rfl) (by exact rfl) Try.underlying26 rfl dqlInfo ?_
  all_goals refine ⟨?_, B⟩
  all_goals have e : (if mx < if lim < mn then mn else lim then mx else if lim < mn then mn else lim) = min (max lim mn) mx := by (repeat' split) <;> omega
  all_goals rw [e]
theorem remaining_pv (q adj last lim comp pov plast pq slack start hold mn mx n : Int) (w : World) : Calls Try.prog 41 #[dqv q adj last lim comp pov plast pq slack start hold mn mx, .int .u32 n] w fun e w' => e = .returned (.int .u32 (DQ.fr ((comp + n) % 4294967296) q)) ∧ Below w.heap.size w w' := by
  go_enter Try.func41, Try.ntmps41
  go_upto_region 1 with (fail)
  obtain ⟨g, B⟩ := one_box w 26 (dqc q adj last lim comp pov plast pq slack start hold mn mx)
  generalize w.alloc (.cells (dqc q adj last lim comp pov plast pq slack start hold mn mx) 26) = w1 at g B ⊢
  go_wp2_with (first
    | go_skip
    | ((with_reducible show wpList _ _ _ (⟨_, .load _ _, _, _, _, _⟩ :: _) _ _); refine load_fld g (by first | exact wanted_none rfl | exact wanted_some rfl rfl rfl rfl) (by exact rfl) (by exact rfl) (by first | exact Try.underlying22 | exact Try.underlying23) rfl (by exact rfl) ?_)
    | (go_at_call 28; refine (far_g _ _ _).mono ?_; rintro e w' ⟨rfl, rfl⟩))
  go_ret
  exact ⟨rfl, B⟩
theorem allPrevious_pv (q adj last lim comp pov plast pq slack start hold mn mx n : Int) (w : World) : Calls Try.prog 42 #[dqv q adj last lim comp pov plast pq slack start hold mn mx, .int .u32 n] w fun e w' => e = .returned (.bool (!DQ.ah ((comp + n) % 4294967296) pq)) ∧ Below w.heap.size w w' := by
  go_enter Try.func42, Try.ntmps42
  go_upto_region 1 with (fail)
  obtain ⟨g, B⟩ := one_box w 26 (dqc q adj last lim comp pov plast pq slack start hold mn mx)
  generalize w.alloc (.cells (dqc q adj last lim comp pov plast pq slack start hold mn mx) 26) = w1 at g B ⊢
  go_wp2_with (first
    | go_skip
    | ((with_reducible show wpList _ _ _ (⟨_, .load _ _, _, _, _, _⟩ :: _) _ _); refine load_fld g (by first | exact wanted_none rfl | exact wanted_some rfl rfl rfl rfl) (by exact rfl) (by exact rfl) (by first | exact Try.underlying22 | exact Try.underlying23) rfl (by exact rfl) ?_)
    | (go_at_call 46; refine (ahead_g _ _ _).mono ?_; rintro e w' ⟨rfl, rfl⟩))
  go_ret
  exact ⟨rfl, B⟩
set_option maxHeartbeats 1000000 in
theorem excess_pv (q adj last lim comp pov plast pq slack start hold mn mx : Int) (w : World) : Calls Try.prog 32 #[dqv q adj last lim comp pov plast pq slack start hold mn mx] w fun e w' => e = .returned (.int .u32 (DQ.ov (DQ.fr comp q) lim)) ∧ Below w.heap.size w w' := by
  go_enter Try.func32, Try.ntmps32
  go_upto_region 1 with (fail)
  obtain ⟨g, B⟩ := one_box w 26 (dqc q adj last lim comp pov plast pq slack start hold mn mx)
  generalize w.alloc (.cells (dqc q adj last lim comp pov plast pq slack start hold mn mx) 26) = w1 at g B ⊢
  have HS := Lib.hid (hold_of g B)
  clear g B
  go_region_held3 (fun w' => (w'.cell? ⟨w.heap.size, 0, none⟩ = some (.int .u32 q) ∧ w'.cell? ⟨w.heap.size, 1, none⟩ = some (.int .u32 adj) ∧ w'.cell? ⟨w.heap.size, 2, none⟩ = some (.int .u32 last) ∧ w'.cell? ⟨w.heap.size, 3, none⟩ = some (.int .u32 lim) ∧ w'.cell? ⟨w.heap.size, 4, none⟩ = some (.int .u32 comp) ∧ w'.cell? ⟨w.heap.size, 5, none⟩ = some (.int .u32 pov) ∧ w'.cell? ⟨w.heap.size, 6, none⟩ = some (.int .u32 plast) ∧ w'.cell? ⟨w.heap.size, 7, none⟩ = some (.int .u32 pq) ∧ w'.cell? ⟨w.heap.size, 8, none⟩ = some (.int .u32 slack) ∧ w'.cell? ⟨w.heap.size, 9, none⟩ = some (.int .u64 start) ∧ w'.cell? ⟨w.heap.size, 10, none⟩ = some (.int .u64 hold) ∧ w'.cell? ⟨w.heap.size, 11, none⟩ = some (.int .u32 mn) ∧ w'.cell? ⟨w.heap.size, 12, none⟩ = some (.int .u32 mx)) ∧ Held w' w.heap.size 26 (dqc q adj last lim comp pov plast pq slack start hold mn mx) ∧ Below w.heap.size w w') (first | assumption | exact HS.out | exact hold_below (by assumption) hb (Nat.le_refl _))
    (first | (go_at_call 18; refine (flight_pv _ _ _ _ _ _ _ _ _ _ _ _ _ _).mono ?_; rintro e w2 ⟨rfl, hb⟩) | (go_at_call 38; refine (over_g _ _ _).mono ?_; rintro e w' ⟨rfl, rfl⟩))
  rename_i hh
  obtain ⟨-, -, B⟩ := hh
  go_wp2
  go_ret
  exact ⟨rfl, B⟩
theorem slack_pv (q adj last lim comp pov plast pq slack start hold mn mx n : Int) (w : World) : Calls Try.prog 45 #[dqv q adj last lim comp pov plast pq slack start hold mn mx, .int .u32 n] w fun e w' => e = .returned (.int .u32 (if 0 < pov then max (DQ.ov ((lim + pov) % 4294967296) (2 * n % 4294967296)) (DQ.ov plast pov) else DQ.ov ((lim + pov) % 4294967296) (2 * n % 4294967296))) ∧ Below w.heap.size w w' := by
  by_cases hp : 0 < pov
  · rw [if_pos hp]
    go_enter Try.func45, Try.ntmps45
    go_upto_region 1 with (fail)
    obtain ⟨g, B⟩ := one_box w 26 (dqc q adj last lim comp pov plast pq slack start hold mn mx)
    generalize w.alloc (.cells (dqc q adj last lim comp pov plast pq slack start hold mn mx) 26) = w1 at g B ⊢
    go_wp2_with (first
      | go_skip
      | ((with_reducible show wpList _ _ _ (⟨_, .load _ _, _, _, _, _⟩ :: _) _ _); refine load_fld g (by first | exact wanted_none rfl | exact wanted_some rfl rfl rfl rfl) (by exact rfl) (by exact rfl) (by first | exact Try.underlying22 | exact Try.underlying23) rfl (by exact rfl) ?_)
      | (go_at_call 38; refine (over_g _ _ _).mono ?_; rintro e w' ⟨rfl, rfl⟩))
    all_goals go_ret
    all_goals refine ⟨?_, B⟩
    all_goals exact congrArg (fun x => Ending.returned (.int .u32 x)) (by omega)
  · rw [if_neg hp]
    go_enter Try.func45, Try.ntmps45
    go_upto_region 1 with (fail)
    obtain ⟨g, B⟩ := one_box w 26 (dqc q adj last lim comp pov plast pq slack start hold mn mx)
    generalize w.alloc (.cells (dqc q adj last lim comp pov plast pq slack start hold mn mx) 26) = w1 at g B ⊢
    go_wp2_with (first
      | go_skip
      | ((with_reducible show wpList _ _ _ (⟨_, .load _ _, _, _, _, _⟩ :: _) _ _); refine load_fld g (by first | exact wanted_none rfl | exact wanted_some rfl rfl rfl rfl) (by exact rfl) (by exact rfl) (by first | exact Try.underlying22 | exact Try.underlying23) rfl (by exact rfl) ?_)
      | (go_at_call 38; refine (over_g _ _ _).mono ?_; rintro e w' ⟨rfl, rfl⟩))
    go_ret
    exact ⟨rfl, B⟩
end Go.Proofs.Ytfgaeaebchgcdaa
