/-
  TableEven, walked over the contracts of the program's functions. No condition.
-/
import Derived.Test.YtoofmklknffhpaaTableLA
namespace Go.Proofs.Ytoofmklknffhpaa
set_option linter.unusedSimpArgs false
set_option linter.unusedVariables false
open Go.ChangeShapes Go.WideShapes Go.ChangeAt Go.RowKit

theorem same_none (w : World) : Calls Try.prog 26 #[.agg noT, .agg noT] w fun e w' => e = .returned (.bool true) ∧ Below w.heap.size w w' :=
  same_t none none none none 0 0 0 0 ⟨0, [], []⟩ ⟨by simp, by simp⟩ w (none_at w) (none_at w)
set_option maxRecDepth 100000 in
set_option maxHeartbeats 2000000 in
theorem even_w (q c : Int) (w : World) : Calls Try.prog 5 #[.int .i64 q, .int .i64 c] w fun e w' => e = .returned (.bool true) ∧ Below w.heap.size w w' := by
  have H := Mem.start w
  by_cases h : 1 ≤ q ∧ q ≤ 64 ∧ 1 ≤ c ∧ c ≤ 16 ∧ c ≤ q
  · obtain ⟨Q, rfl⟩ := Int.eq_ofNat_of_zero_le (show 0 ≤ q by omega)
    obtain ⟨C, rfl⟩ := Int.eq_ofNat_of_zero_le (show 0 ≤ c by omega)
    have hQ : 1 ≤ Q ∧ Q ≤ 64 := by omega
    have hC : 1 ≤ C ∧ C ≤ 16 ∧ C ≤ Q := by omega
    clear h
    have hfw : Few (evenT Q C) := even_few (by omega)
    have ks := fun A1 A2 A3 A4 c1 c2 c3 c4 w h h' => same_t A1 A2 A3 A4 c1 c2 c3 c4 (evenT Q C) ⟨by have := hfw.1; omega, by have := hfw.2; omega⟩ w h h'
    have kr := fun A1 A2 c1 c2 w h => right_p A1 A2 c1 c2 (evenT Q C) w h hfw
    unfold RightP at kr
    rw [evenT_right hQ hC] at kr
    clear hfw
    go_enter Try.func5, Try.ntmps5
    go_upto_region 3 with (first
    | (go_at_call 11; with_reducible refine (shown_p _).mono ?_; rintro e w2 ⟨rfl, hb⟩; have H2 := H.call hb; clear H hb; have H := H2; clear H2)
    | (go_at_call 24; refine (evenP_yes Q C hQ hC _).mono ?_; rintro e w1 ⟨A1, A2, c1, c2, rfl, T0, hb⟩; have HB := Lib.hid (H.call hb).below; have T := Lib.hid T0; clear H hb T0; have H := Mem.start w1)
    | ((with_reducible show wpList _ _ _ _ _ (World.alloc _ (.cells _ _))); refine mem_new H ?_; intro w2 H2; clear H; have H := H2; clear H2; simp only [List.cons_append, List.nil_append, List.set_cons_zero, List.set_cons_succ, List.setIfInBounds_toArray] at H)
    | ((with_reducible show wpList _ _ _ (⟨_, .store 25 _ _, _, _, _, _⟩ :: _) _ _); refine mem_store (i := 0) H (by first | exact wanted_none rfl | exact wanted_some rfl rfl rfl rfl) (by exact rfl) (by exact rfl) (by exact rfl) (by exact rfl) (by exact tbInfo) (by exact rfl) (by exact rfl) ?_; intro w2 H2; clear H; have H := H2; clear H2; simp only [List.cons_append, List.nil_append, List.set_cons_zero, List.set_cons_succ, List.setIfInBounds_toArray] at H))
    go_upto_region 4 with (first
    | (go_at_call 25; refine (even_yes Q C hQ hC _).mono ?_; rintro e w4 ⟨A3, A4, c3, c4, rfl, S0, hb⟩; have S := Lib.hid S0; have T2 := Lib.hid (T.out.mem (H.call hb)); have H6 := Lib.hid ((H.call hb).at 0 rfl); have HB2 := Lib.hid (HB.out.trans ((H.call hb).below.mono HB.out.size)); clear H hb S0 T HB; have H := Mem.start w4)
    | ((with_reducible show wpList _ _ _ _ _ (World.alloc _ (.cells _ _))); refine mem_new H ?_; intro w2 H2; clear H; have H := H2; clear H2; simp only [List.cons_append, List.nil_append, List.set_cons_zero, List.set_cons_succ, List.setIfInBounds_toArray] at H)
    | ((with_reducible show wpList _ _ _ (⟨_, .store 25 _ _, _, _, _, _⟩ :: _) _ _); refine mem_store (i := 0) H (by first | exact wanted_none rfl | exact wanted_some rfl rfl rfl rfl) (by exact rfl) (by exact rfl) (by exact rfl) (by exact rfl) (by exact tbInfo) (by exact rfl) (by exact rfl) ?_; intro w2 H2; clear H; have H := H2; clear H2; simp only [List.cons_append, List.nil_append, List.set_cons_zero, List.set_cons_succ, List.setIfInBounds_toArray] at H))
    go_wp2_with (first
    | ((with_reducible show wpList _ _ _ (⟨_, .load 25 (.tmp 6), _, _, _, _⟩ :: _) _ _); refine load_held (H6.out.below H.below H6.out.lt) (by first | exact wanted_none rfl | exact wanted_some rfl rfl rfl rfl) (by exact rfl) (by exact rfl) Try.underlying25 rfl (by exact tbInfo) ?_)
    | ((with_reducible show wpList _ _ _ (⟨_, .load 25 _, _, _, _, _⟩ :: _) _ _); refine mem_load (i := 0) H (by first | exact wanted_none rfl | exact wanted_some rfl rfl rfl rfl) (by exact rfl) (by exact rfl) (by exact rfl) Try.underlying25 rfl (by exact tbInfo) ?_)
    | (go_at_call 26; with_reducible refine (ks _ _ _ _ _ _ _ _ _ (T2.out.mem H) (S.out.mem H)).mono ?_; rintro e w2 ⟨rfl, hb⟩; have H2 := H.call hb; clear H hb; have H := H2; clear H2)
    | (go_at_call 15; with_reducible refine (kr _ _ _ _ _ (T2.out.mem H)).mono ?_; rintro e w2 ⟨rfl, hb⟩; have H2 := H.call hb; clear H hb; have H := H2; clear H2))
    go_ret
    exact ⟨by simp, HB2.out.trans (H.below.mono HB2.out.size)⟩
  · have k1 := fun w => evenP_no q c h w
    have k2 := fun w => even_no q c h w
    clear h
    go_enter Try.func5, Try.ntmps5
    go_wp2_with (first
    | go_skip
    | (go_at_call 11; with_reducible refine (shown_p _).mono ?_; rintro e w2 ⟨rfl, hb⟩; have H2 := H.call hb; clear H hb; have H := H2; clear H2)
    | (go_at_call 24; with_reducible refine (k1 _).mono ?_; rintro e w2 ⟨rfl, hb⟩; have H2 := H.call hb; clear H hb; have H := H2; clear H2)
    | (go_at_call 25; with_reducible refine (k2 _).mono ?_; rintro e w2 ⟨rfl, hb⟩; have H2 := H.call hb; clear H hb; have H := H2; clear H2)
    | ((with_reducible show wpList _ _ _ _ _ (World.alloc _ (.cells _ _))); refine mem_new H ?_; intro w2 H2; clear H; have H := H2; clear H2; simp only [List.cons_append, List.nil_append, List.set_cons_zero, List.set_cons_succ, List.setIfInBounds_toArray] at H)
    | ((with_reducible show wpList _ _ _ (⟨_, .store 25 _ _, _, _, _, _⟩ :: _) _ _); refine mem_store (i := 0) H (by first | exact wanted_none rfl | exact wanted_some rfl rfl rfl rfl) (by exact rfl) (by exact rfl) (by exact rfl) (by exact rfl) (by exact tbInfo) (by exact rfl) (by exact rfl) ?_; intro w2 H2; clear H; have H := H2; clear H2; simp only [List.cons_append, List.nil_append, List.set_cons_zero, List.set_cons_succ, List.setIfInBounds_toArray] at H)
    | ((with_reducible show wpList _ _ _ (⟨_, .store 25 _ _, _, _, _, _⟩ :: _) _ _); refine mem_store (i := 1) H (by first | exact wanted_none rfl | exact wanted_some rfl rfl rfl rfl) (by exact rfl) (by exact rfl) (by exact rfl) (by exact rfl) (by exact tbInfo) (by exact rfl) (by exact rfl) ?_; intro w2 H2; clear H; have H := H2; clear H2; simp only [List.cons_append, List.nil_append, List.set_cons_zero, List.set_cons_succ, List.setIfInBounds_toArray] at H)
    | ((with_reducible show wpList _ _ _ (⟨_, .load 25 _, _, _, _, _⟩ :: _) _ _); refine mem_load (i := 0) H (by first | exact wanted_none rfl | exact wanted_some rfl rfl rfl rfl) (by exact rfl) (by exact rfl) (by exact rfl) Try.underlying25 rfl (by exact tbInfo) ?_)
    | ((with_reducible show wpList _ _ _ (⟨_, .load 25 _, _, _, _, _⟩ :: _) _ _); refine mem_load (i := 1) H (by first | exact wanted_none rfl | exact wanted_some rfl rfl rfl rfl) (by exact rfl) (by exact rfl) (by exact rfl) Try.underlying25 rfl (by exact tbInfo) ?_)
    | (go_at_call 26; with_reducible refine (same_none _).mono ?_; rintro e w2 ⟨rfl, hb⟩; have H2 := H.call hb; clear H hb; have H := H2; clear H2))
    go_ret
    exact ⟨by simp, H.below⟩
end Go.Proofs.Ytoofmklknffhpaa
