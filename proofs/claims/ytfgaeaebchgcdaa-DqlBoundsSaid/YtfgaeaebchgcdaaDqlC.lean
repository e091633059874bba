/-
  The document's Complete. Conditions: the numbers fit their kinds.
-/
import Derived.Deep.RegionHeld3
import Derived.Test.YtfgaeaebchgcdaaDqlB
namespace Go.Proofs.Ytfgaeaebchgcdaa
open Go.ChangeShapes Go.WideShapes Go.ChangeAt Go.RowKit

theorem far_f (a b : Int) (w : World) : Calls Try.prog 29 #[.int .u32 a, .int .u32 b] w fun e w' => e = .returned (.int .u32 (DQ.fr a b)) ∧ w = w' := by
  rw [← far_fr]
  exact far_r a b w
theorem ahead_f (a b : Int) (w : World) : Calls Try.prog 34 #[.int .u32 a, .int .u32 b] w fun e w' => e = .returned (.bool (DQ.ah a b)) ∧ w = w' := by
  rw [← ahead_ah]
  exact ahead_r a b w
theorem over_f (a b : Int) (w : World) : Calls Try.prog 33 #[.int .u32 a, .int .u32 b] w fun e w' => e = .returned (.int .u32 (DQ.ov a b)) ∧ w = w' := by
  rw [← over_ov]
  exact over_r a b w
/-- completing: the state, and the code -/
def completeV (d : DQ) (n t : Int) : DQ := bif d.rightB && decide (n ≤ d.flight) then d.completed n t else DQ.none
def completeE (d : DQ) (n : Int) : Int := bif d.rightB then bif decide (n ≤ d.flight) then 0 else 40 else 2
set_option maxRecDepth 4000 in
set_option maxHeartbeats 4000000 in
theorem complete_r0 (d : DQ) (n t : Int) (hr : d.rightB = false) (w : World) : Calls Try.prog 23 #[dq d, .int .u32 n, .int .u64 t] w fun e w' => e = .returned (.tuple #[dq (completeV d n t), .int .i64 (completeE d n)]) ∧ Below w.heap.size w w' := by
    go_enter Try.func23, Try.ntmps23
    go_wp2_with (first
      | (go_at_call 16; refine (right4_r d _).mono ?_; rintro e w1 ⟨rfl, hb1⟩; have g1 := ((Held.new w _ _).alloc _).below hb1 (by simp; omega); have r1 := (Held.new2 w _ _ _).below hb1 (by simp); have B1 : Below w.heap.size w w1 := (show Below w.heap.size w ((w.alloc _).alloc _) by go_grown).trans (hb1.mono (by simp; omega)); obtain ⟨⟨c0, c1, c2, c3, c4, c5, c6, c7, c8, c9, c10, c11, c12⟩, f0, f1, f2, f3, f4, f5, f6, f7, f8, f9, f10, f11, f12⟩ := Held.dql g1; obtain ⟨⟨k0, k1, k2, k3, k4, k5, k6, k7, k8, k9, k10, k11, k12⟩, l0, l1, l2, l3, l4, l5, l6, l7, l8, l9, l10, l11, l12⟩ := Held.dql r1)
      | (go_at_call 19; refine (flight_rv _ _ _ _ _ _ _ _ _ _ _ _ _ _).mono ?_; rintro e w2 ⟨rfl, hb2⟩; have g2 := g1.below hb2 g1.lt; have r2 := r1.below hb2 r1.lt; have B2 : Below w.heap.size w w2 := B1.trans (hb2.mono B1.size); clear hb1 hb2; obtain ⟨⟨c0, c1, c2, c3, c4, c5, c6, c7, c8, c9, c10, c11, c12⟩, f0, f1, f2, f3, f4, f5, f6, f7, f8, f9, f10, f11, f12⟩ := Held.dql g2; obtain ⟨⟨k0, k1, k2, k3, k4, k5, k6, k7, k8, k9, k10, k11, k12⟩, l0, l1, l2, l3, l4, l5, l6, l7, l8, l9, l10, l11, l12⟩ := Held.dql r2)
      | (go_at_call 29; refine (far_f _ _ _).mono ?_; rintro e w' ⟨rfl, rfl⟩)
      | (go_at_call 34; refine (ahead_f _ _ _).mono ?_; rintro e w' ⟨rfl, rfl⟩)
      | (go_at_call 33; refine (over_f _ _ _).mono ?_; rintro e w' ⟨rfl, rfl⟩))
    refine ret_dql rfl r1 rfl ⟨?_, by go_grown⟩
    simp only [completeV, completeE, hr, Bool.false_and, cond_false]
    rfl
set_option maxRecDepth 4000 in
set_option maxHeartbeats 4000000 in
theorem complete_far (d : DQ) (n t : Int) (hr : d.rightB = true) (hn : DQ.fr d.comp d.q < n) (w : World) : Calls Try.prog 23 #[dq d, .int .u32 n, .int .u64 t] w fun e w' => e = .returned (.tuple #[dq (completeV d n t), .int .i64 (completeE d n)]) ∧ Below w.heap.size w w' := by
    have hF' : d.flight = DQ.fr d.comp d.q := rfl
    go_enter Try.func23, Try.ntmps23
    go_wp2_with (first
      | (go_at_call 16; refine (right4_r d _).mono ?_; rintro e w1 ⟨rfl, hb1⟩; have g1 := ((Held.new w _ _).alloc _).below hb1 (by simp; omega); have r1 := (Held.new2 w _ _ _).below hb1 (by simp); have B1 : Below w.heap.size w w1 := (show Below w.heap.size w ((w.alloc _).alloc _) by go_grown).trans (hb1.mono (by simp; omega)); obtain ⟨⟨c0, c1, c2, c3, c4, c5, c6, c7, c8, c9, c10, c11, c12⟩, f0, f1, f2, f3, f4, f5, f6, f7, f8, f9, f10, f11, f12⟩ := Held.dql g1; obtain ⟨⟨k0, k1, k2, k3, k4, k5, k6, k7, k8, k9, k10, k11, k12⟩, l0, l1, l2, l3, l4, l5, l6, l7, l8, l9, l10, l11, l12⟩ := Held.dql r1)
      | (go_at_call 19; refine (flight_rv _ _ _ _ _ _ _ _ _ _ _ _ _ _).mono ?_; rintro e w2 ⟨rfl, hb2⟩; have g2 := g1.below hb2 g1.lt; have r2 := r1.below hb2 r1.lt; have B2 : Below w.heap.size w w2 := B1.trans (hb2.mono B1.size); clear hb1 hb2; obtain ⟨⟨c0, c1, c2, c3, c4, c5, c6, c7, c8, c9, c10, c11, c12⟩, f0, f1, f2, f3, f4, f5, f6, f7, f8, f9, f10, f11, f12⟩ := Held.dql g2; obtain ⟨⟨k0, k1, k2, k3, k4, k5, k6, k7, k8, k9, k10, k11, k12⟩, l0, l1, l2, l3, l4, l5, l6, l7, l8, l9, l10, l11, l12⟩ := Held.dql r2)
      | (go_at_call 29; refine (far_f _ _ _).mono ?_; rintro e w' ⟨rfl, rfl⟩)
      | (go_at_call 34; refine (ahead_f _ _ _).mono ?_; rintro e w' ⟨rfl, rfl⟩)
      | (go_at_call 33; refine (over_f _ _ _).mono ?_; rintro e w' ⟨rfl, rfl⟩))
    refine ret_dql rfl r2 rfl ⟨?_, by go_grown⟩
    have hq : decide (n ≤ d.flight) = false := by simp; omega
    simp only [completeV, completeE, hr, hq, Bool.and_false, cond_false, cond_true]
    rfl
end Go.Proofs.Ytfgaeaebchgcdaa
