/-
  The heads of the statements of layer 4 (shown), and what they all use. Conditions: those that each theorem names.
-/
import Derived.Test.YtfgaeaebchgcdaaDqlN
import Derived.Test.YtfgaeaebchgcdaaMem
namespace Go.Proofs.Ytfgaeaebchgcdaa
set_option linter.unusedSimpArgs false
set_option linter.unusedVariables false
open Go.ChangeShapes Go.WideShapes Go.ChangeAt Go.RowKit

theorem flight_p (d : DQ) (w : World) : Calls Try.prog 18 #[dq d] w fun e w' => e = .returned (.int .u32 d.flight) ∧ Below w.heap.size w w' := flight_pv _ _ _ _ _ _ _ _ _ _ _ _ _ w
theorem dq_self (d : DQ) (w : World) : (Op.equalIn 10000 26 (dq d) (dq d)).run Try.prog w = .ok true w := by
  rw [dql_eq]
  congr 1
  exact (dqEq_iff _ _ _ _ _ _ _ _ _ _ _ _ _ _ _ _ _ _ _ _ _ _ _ _ _ _).2 ⟨rfl, rfl, rfl, rfl, rfl, rfl, rfl, rfl, rfl, rfl, rfl, rfl, rfl⟩
theorem fits_S1 : DQ.Fits (⟨30, 10, 30, 10, 0, 0, 0, 0, 4294967295, 0, 5, 10, 100⟩ : DQ) := by constructor <;> decide
set_option maxRecDepth 4000 in
set_option maxHeartbeats 4000000 in
theorem shown_p (w : World) : Calls Try.prog 11 #[] w fun e w' => e = .returned (.bool true) ∧ Below w.heap.size w w' := by
  have e0 : newV 10 100 5 0 = (⟨0, 10, 0, 10, 0, 0, 0, 0, 4294967295, 0, 5, 10, 100⟩ : DQ) := by rfl
  have e1 : queueV (⟨0, 10, 0, 10, 0, 0, 0, 0, 4294967295, 0, 5, 10, 100⟩ : DQ) 30 = (⟨30, 10, 30, 10, 0, 0, 0, 0, 4294967295, 0, 5, 10, 100⟩ : DQ) := by rfl
  have e2 : completeV (⟨30, 10, 30, 10, 0, 0, 0, 0, 4294967295, 0, 5, 10, 100⟩ : DQ) 30 1 = (⟨30, 70, 30, 40, 30, 0, 30, 30, 4294967295, 1, 5, 10, 100⟩ : DQ) := by rfl
  have h0 := fun w => new_p 10 100 5 0 w
  have h1 := fun w => queue_p (⟨0, 10, 0, 10, 0, 0, 0, 0, 4294967295, 0, 5, 10, 100⟩ : DQ) 30 (by omega) (by omega) w
  have h2 := fun w => complete_p (⟨30, 10, 30, 10, 0, 0, 0, 0, 4294967295, 0, 5, 10, 100⟩ : DQ) 30 1 fits_S1 (by omega) w
  have h3 := fun w => new_p 5 4 0 0 w
  rw [e0] at h0
  rw [e1] at h1
  rw [e2] at h2
  have e3 : newV 5 4 0 0 = DQ.none := by rfl
  rw [e3] at h3
  have c0 : newE 10 100 = 0 := by rfl
  have c1 : queueE (⟨0, 10, 0, 10, 0, 0, 0, 0, 4294967295, 0, 5, 10, 100⟩ : DQ) 30 = 0 := by rfl
  have c2 : completeE (⟨30, 10, 30, 10, 0, 0, 0, 0, 4294967295, 0, 5, 10, 100⟩ : DQ) 30 = 0 := by rfl
  have c3 : newE 5 4 = 2 := by rfl
  rw [c0] at h0
  rw [c1] at h1
  rw [c2] at h2
  rw [c3] at h3
  clear e0 e1 e2 e3 c0 c1 c2 c3
  have hl := fun w => left_p (⟨30, 10, 30, 10, 0, 0, 0, 0, 4294967295, 0, 5, 10, 100⟩ : DQ) w
  rw [show DQ.left (⟨30, 10, 30, 10, 0, 0, 0, 0, 4294967295, 0, 5, 10, 100⟩ : DQ) = -20 from rfl] at hl
  have hf := fun w => flight_p (⟨30, 70, 30, 40, 30, 0, 30, 30, 4294967295, 1, 5, 10, 100⟩ : DQ) w
  rw [show DQ.flight (⟨30, 70, 30, 40, 30, 0, 30, 30, 4294967295, 1, 5, 10, 100⟩ : DQ) = 0 from rfl] at hf
  have H := Mem.start w
  go_enter Try.func11, Try.ntmps11
  go_upto_region 5 with (first
    | ((with_reducible show wpList _ _ _ _ _ (World.alloc _ (.cells _ _))); refine mem_new H ?_; intro w2 H2; clear H; have H := H2; clear H2; simp only [List.cons_append, List.nil_append, List.set_cons_zero, List.set_cons_succ, List.setIfInBounds_toArray] at H)
    | ((with_reducible show wpList _ _ _ (⟨_, .load 26 _, _, _, _, _⟩ :: _) _ _); refine mem_load (i := 0) H (by first | exact wanted_none rfl | exact wanted_some rfl rfl rfl rfl) (by exact rfl) (by exact rfl) (by exact rfl) Try.underlying26 rfl (by exact dqlInfo) ?_)
    | ((with_reducible show wpList _ _ _ (⟨_, .load _ _, _, _, _, _⟩ :: _) _ _); refine mem_loadf (i := 0) H (by first | exact wanted_none rfl | exact wanted_some rfl rfl rfl rfl) (by exact rfl) (by exact rfl) (by exact rfl) (by first | exact Try.underlying22 | exact Try.underlying23) rfl (by exact rfl) ?_)
    | ((with_reducible show wpList _ _ _ (⟨_, .store 26 _ _, _, _, _, _⟩ :: _) _ _); refine mem_store (i := 0) H (by first | exact wanted_none rfl | exact wanted_some rfl rfl rfl rfl) (by exact rfl) (by exact rfl) (by exact rfl) (by exact rfl) (by exact dqlInfo) (by exact rfl) (by exact rfl) ?_; intro w2 H2; clear H; have H := H2; clear H2; simp only [List.cons_append, List.nil_append, List.set_cons_zero, List.set_cons_succ, List.setIfInBounds_toArray] at H)
    | (go_at_call 12; refine (h0 _).mono ?_; rintro e w2 ⟨rfl, hb⟩; have H2 := H.call hb; clear H hb; have H := H2; clear H2)
    | (go_at_call 20; refine (h1 _).mono ?_; rintro e w2 ⟨rfl, hb⟩; have H2 := H.call hb; clear H hb; have H := H2; clear H2)
    | (go_at_call 22; refine (h2 _).mono ?_; rintro e w2 ⟨rfl, hb⟩; have H2 := H.call hb; clear H hb; have H := H2; clear H2)
    | (go_at_call 15; refine (hl _).mono ?_; rintro e w2 ⟨rfl, hb⟩; have H2 := H.call hb; clear H hb; have H := H2; clear H2))
  clear h0 h1 h2 hl
  go_upto_region 6 with (first
    | ((with_reducible show wpList _ _ _ _ _ (World.alloc _ (.cells _ _))); refine mem_new H ?_; intro w2 H2; clear H; have H := H2; clear H2; simp only [List.cons_append, List.nil_append, List.set_cons_zero, List.set_cons_succ, List.setIfInBounds_toArray] at H)
    | ((with_reducible show wpList _ _ _ (⟨_, .load 26 _, _, _, _, _⟩ :: _) _ _); refine mem_load (i := 0) H (by first | exact wanted_none rfl | exact wanted_some rfl rfl rfl rfl) (by exact rfl) (by exact rfl) (by exact rfl) Try.underlying26 rfl (by exact dqlInfo) ?_)
    | ((with_reducible show wpList _ _ _ (⟨_, .load 26 _, _, _, _, _⟩ :: _) _ _); refine mem_load (i := 1) H (by first | exact wanted_none rfl | exact wanted_some rfl rfl rfl rfl) (by exact rfl) (by exact rfl) (by exact rfl) Try.underlying26 rfl (by exact dqlInfo) ?_)
    | ((with_reducible show wpList _ _ _ (⟨_, .load _ _, _, _, _, _⟩ :: _) _ _); refine mem_loadf (i := 0) H (by first | exact wanted_none rfl | exact wanted_some rfl rfl rfl rfl) (by exact rfl) (by exact rfl) (by exact rfl) (by first | exact Try.underlying22 | exact Try.underlying23) rfl (by exact rfl) ?_)
    | ((with_reducible show wpList _ _ _ (⟨_, .load _ _, _, _, _, _⟩ :: _) _ _); refine mem_loadf (i := 1) H (by first | exact wanted_none rfl | exact wanted_some rfl rfl rfl rfl) (by exact rfl) (by exact rfl) (by exact rfl) (by first | exact Try.underlying22 | exact Try.underlying23) rfl (by exact rfl) ?_)
    | ((with_reducible show wpList _ _ _ (⟨_, .store 26 _ _, _, _, _, _⟩ :: _) _ _); refine mem_store (i := 0) H (by first | exact wanted_none rfl | exact wanted_some rfl rfl rfl rfl) (by exact rfl) (by exact rfl) (by exact rfl) (by exact rfl) (by exact dqlInfo) (by exact rfl) (by exact rfl) ?_; intro w2 H2; clear H; have H := H2; clear H2; simp only [List.cons_append, List.nil_append, List.set_cons_zero, List.set_cons_succ, List.setIfInBounds_toArray] at H)
    | ((with_reducible show wpList _ _ _ (⟨_, .store 26 _ _, _, _, _, _⟩ :: _) _ _); refine mem_store (i := 1) H (by first | exact wanted_none rfl | exact wanted_some rfl rfl rfl rfl) (by exact rfl) (by exact rfl) (by exact rfl) (by exact rfl) (by exact dqlInfo) (by exact rfl) (by exact rfl) ?_; intro w2 H2; clear H; have H := H2; clear H2; simp only [List.cons_append, List.nil_append, List.set_cons_zero, List.set_cons_succ, List.setIfInBounds_toArray] at H)
    | (go_at_call 12; refine (h3 _).mono ?_; rintro e w2 ⟨rfl, hb⟩; have H2 := H.call hb; clear H hb; have H := H2; clear H2))
  clear h3
  go_wp2_with (first
    | go_skip
    | ((with_reducible show wpList _ _ _ _ _ (World.alloc _ (.cells _ _))); refine mem_new H ?_; intro w2 H2; clear H; have H := H2; clear H2; simp only [List.cons_append, List.nil_append, List.set_cons_zero, List.set_cons_succ, List.setIfInBounds_toArray] at H)
    | ((with_reducible show wpList _ _ _ (⟨_, .load 26 _, _, _, _, _⟩ :: _) _ _); refine mem_load (i := 0) H (by first | exact wanted_none rfl | exact wanted_some rfl rfl rfl rfl) (by exact rfl) (by exact rfl) (by exact rfl) Try.underlying26 rfl (by exact dqlInfo) ?_)
    | ((with_reducible show wpList _ _ _ (⟨_, .load _ _, _, _, _, _⟩ :: _) _ _); refine mem_loadf (i := 0) H (by first | exact wanted_none rfl | exact wanted_some rfl rfl rfl rfl) (by exact rfl) (by exact rfl) (by exact rfl) (by first | exact Try.underlying22 | exact Try.underlying23) rfl (by exact rfl) ?_)
    | ((with_reducible show wpList _ _ _ (⟨_, .store 26 _ _, _, _, _, _⟩ :: _) _ _); refine mem_store (i := 0) H (by first | exact wanted_none rfl | exact wanted_some rfl rfl rfl rfl) (by exact rfl) (by exact rfl) (by exact rfl) (by exact rfl) (by exact dqlInfo) (by exact rfl) (by exact rfl) ?_; intro w2 H2; clear H; have H := H2; clear H2; simp only [List.cons_append, List.nil_append, List.set_cons_zero, List.set_cons_succ, List.setIfInBounds_toArray] at H)
    | (go_at_call 18; refine (hf _).mono ?_; rintro e w2 ⟨rfl, hb⟩; have H2 := H.call hb; clear H hb; have H := H2; clear H2))
  go_ret
  exact ⟨rfl, H.below⟩
end Go.Proofs.Ytfgaeaebchgcdaa
