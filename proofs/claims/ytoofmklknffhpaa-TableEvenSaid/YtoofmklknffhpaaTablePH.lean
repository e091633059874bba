/-
  The program's Even, of numbers that may not be. No condition.
-/
import Derived.Test.YtoofmklknffhpaaTablePD
import Derived.Test.YtoofmklknffhpaaTableJ
namespace Go.Proofs.Ytoofmklknffhpaa
set_option linter.unusedSimpArgs false
set_option linter.unusedVariables false
open Go.ChangeShapes Go.WideShapes Go.ChangeAt Go.RowKit Go.Shelf

set_option maxRecDepth 100000 in
set_option maxHeartbeats 2000000 in
theorem evenP_no0 (q c : Int) (h0 : ¬ (1 ≤ q ∧ q ≤ 64)) (w : World) : Calls Try.prog 24 #[.int .i64 q, .int .i64 c] w fun e w' => e = .returned (.tuple #[.agg noT, .int .i64 2]) ∧ Below w.heap.size w w' := by
  have H := Mem.start w
  have k1 := fun w => between_v 1 64 q _ (two_no h0) w
  clear h0
  go_enter Try.func24, Try.ntmps24
  go_upto_region 1 with (first
    | ((with_reducible show wpList _ _ _ _ _ (World.alloc _ (.cells _ _))); refine mem_newb H ?_; intro b w3 hbk H2; try rw [← hbk]; clear hbk H; have H := H2; clear H2; simp only [List.cons_append, List.nil_append, List.set_cons_zero, List.set_cons_succ, List.setIfInBounds_toArray] at H))
  go_wp2_with (first
    | go_skip
    | (go_at_call 32; with_reducible refine (k1 _).mono ?_; rintro e w2 ⟨rfl, hb⟩; have H2 := H.call hb; clear H hb; have H := H2; clear H2)
    | ((with_reducible show wpList _ _ _ (⟨_, .store 25 _ _, _, _, _, _⟩ :: _) _ _); refine mem_store (i := 0) H (by first | exact wanted_none rfl | exact wanted_some rfl rfl rfl rfl) (by exact rfl) (by exact rfl) (by exact rfl) (by exact rfl) (by exact tbInfo) (by exact rfl) (by exact rfl) ?_; intro w2 H2; clear H; have H := H2; clear H2; simp only [List.cons_append, List.nil_append, List.set_cons_zero, List.set_cons_succ, List.setIfInBounds_toArray] at H))
  refine ret_held2 (H.at 0 rfl) rfl rfl Try.underlying25 rfl tbInfo ?_
  exact ⟨rfl, H.below⟩
set_option maxRecDepth 100000 in
set_option maxHeartbeats 2000000 in
theorem evenP_no1 (q c : Int) (h0 : 1 ≤ q ∧ q ≤ 64) (h1 : ¬ (1 ≤ c ∧ c ≤ 16 ∧ c ≤ q)) (w : World) : Calls Try.prog 24 #[.int .i64 q, .int .i64 c] w fun e w' => e = .returned (.tuple #[.agg noT, .int .i64 2]) ∧ Below w.heap.size w w' := by
  have H := Mem.start w
  have k1 := fun w => between_v 1 64 q _ (two_yes h0.1 h0.2) w
  by_cases hm : 16 ≤ q
  · have k2 := fun w => between_v 1 16 c _ (two_no (by omega)) w
    have em : min (16 : Int) q = 16 := by omega
    clear h1
    go_enter Try.func24, Try.ntmps24
    go_upto_region 1 with (first
    | ((with_reducible show wpList _ _ _ _ _ (World.alloc _ (.cells _ _))); refine mem_newb H ?_; intro b w3 hbk H2; try rw [← hbk]; clear hbk H; have H := H2; clear H2; simp only [List.cons_append, List.nil_append, List.set_cons_zero, List.set_cons_succ, List.setIfInBounds_toArray] at H))
    go_wp2_with (first
    | go_skip
    | (go_at_call 32; with_reducible refine (k1 _).mono ?_; rintro e w2 ⟨rfl, hb⟩; have H2 := H.call hb; clear H hb; have H := H2; clear H2)
    | (go_at_call 32; with_reducible refine (k2 _).mono ?_; rintro e w2 ⟨rfl, hb⟩; have H2 := H.call hb; clear H hb; have H := H2; clear H2)
    | ((with_reducible show wpList _ _ _ (⟨_, .store 25 _ _, _, _, _, _⟩ :: _) _ _); refine mem_store (i := 0) H (by first | exact wanted_none rfl | exact wanted_some rfl rfl rfl rfl) (by exact rfl) (by exact rfl) (by exact rfl) (by exact rfl) (by exact tbInfo) (by exact rfl) (by exact rfl) ?_; intro w2 H2; clear H; have H := H2; clear H2; simp only [List.cons_append, List.nil_append, List.set_cons_zero, List.set_cons_succ, List.setIfInBounds_toArray] at H))
    refine ret_held2 (H.at 0 rfl) rfl rfl Try.underlying25 rfl tbInfo ?_
    exact ⟨rfl, H.below⟩
  · have k2 := fun w => between_v 1 q c _ (two_no (by omega)) w
    have em : min (16 : Int) q = q := by omega
    clear h1
    go_enter Try.func24, Try.ntmps24
    go_upto_region 1 with (first
    | ((with_reducible show wpList _ _ _ _ _ (World.alloc _ (.cells _ _))); refine mem_newb H ?_; intro b w3 hbk H2; try rw [← hbk]; clear hbk H; have H := H2; clear H2; simp only [List.cons_append, List.nil_append, List.set_cons_zero, List.set_cons_succ, List.setIfInBounds_toArray] at H))
    go_wp2_with (first
    | go_skip
    | (go_at_call 32; with_reducible refine (k1 _).mono ?_; rintro e w2 ⟨rfl, hb⟩; have H2 := H.call hb; clear H hb; have H := H2; clear H2)
    | (go_at_call 32; with_reducible refine (k2 _).mono ?_; rintro e w2 ⟨rfl, hb⟩; have H2 := H.call hb; clear H hb; have H := H2; clear H2)
    | ((with_reducible show wpList _ _ _ (⟨_, .store 25 _ _, _, _, _, _⟩ :: _) _ _); refine mem_store (i := 0) H (by first | exact wanted_none rfl | exact wanted_some rfl rfl rfl rfl) (by exact rfl) (by exact rfl) (by exact rfl) (by exact rfl) (by exact tbInfo) (by exact rfl) (by exact rfl) ?_; intro w2 H2; clear H; have H := H2; clear H2; simp only [List.cons_append, List.nil_append, List.set_cons_zero, List.set_cons_succ, List.setIfInBounds_toArray] at H))
    refine ret_held2 (H.at 0 rfl) rfl rfl Try.underlying25 rfl tbInfo ?_
    exact ⟨rfl, H.below⟩
theorem evenP_no (q c : Int) (h : ¬ (1 ≤ q ∧ q ≤ 64 ∧ 1 ≤ c ∧ c ≤ 16 ∧ c ≤ q)) (w : World) : Calls Try.prog 24 #[.int .i64 q, .int .i64 c] w fun e w' => e = .returned (.tuple #[.agg noT, .int .i64 2]) ∧ Below w.heap.size w w' := by
  by_cases h0 : 1 ≤ q ∧ q ≤ 64
  · exact evenP_no1 q c h0 (fun h1 => h ⟨h0.1, h0.2, h1⟩) w
  · exact evenP_no0 q c h0 w
end Go.Proofs.Ytoofmklknffhpaa
