/-
  The laws' own shown; TableAsks, TableSpans, walked over the contracts of the program's functions. Conditions: the tables lie where their values say.
-/
import Derived.Test.YtoofmklknffhpaaTableX
import Derived.Test.YtoofmklknffhpaaTableK
namespace Go.Proofs.Ytoofmklknffhpaa
set_option linter.unusedSimpArgs false
set_option linter.unusedVariables false
open Go.ChangeShapes Go.WideShapes Go.ChangeAt Go.RowKit

theorem cut_few (t : TB) : Few t.cut := cut_len t
theorem even_few {Q C : Nat} (hC : C ≤ 16) : Few (evenT Q C) := by
  constructor <;> simp only [evenT, evenC_len, evenS_len] <;> omega
theorem even_52 (w : World) : Calls Try.prog 24 #[.int .i64 5, .int .i64 2] w fun e w' =>
    ∃ A1 A2 c1 c2, e = .returned (.tuple #[.agg (tbC A1 A2 c1 c2 (evenT 5 2)), .int .i64 0]) ∧ TbAt w'.heap.size w' A1 A2 c1 c2 (evenT 5 2) ∧ Below w.heap.size w w' := evenP_yes 5 2 (by omega) (by omega) w
theorem r52 : (evenT 5 2).right = true := evenT_right (by omega) (by omega)
theorem spn52 : (evenT 5 2).spnV 3 = (3, 2) ∧ (evenT 5 2).clsE 3 = 0 := by
  constructor
  · rw [TB.spnV, if_pos ⟨r52, by omega, by omega⟩]
    rfl
  · rw [TB.clsE, if_pos r52, if_pos (by omega)]
theorem spanOf_52 (A1 A2 : Option Addr) (c1 c2 : Nat) (w : World) (ht : TbAt w.heap.size w A1 A2 c1 c2 (evenT 5 2)) : Calls Try.prog 20 #[.agg (tbC A1 A2 c1 c2 (evenT 5 2)), .int .i64 3] w fun e w' => e = .returned (.tuple #[.agg #[.int .i64 3, .int .i64 2], .int .i64 0]) ∧ Below w.heap.size w w' := by
  have h := spanOf_p A1 A2 c1 c2 (evenT 5 2) 3 w ht (even_few (by omega))
  rwa [spn52.1, spn52.2] at h
theorem none_at (w : World) : TbAt w.heap.size w none none 0 0 ⟨0, [], []⟩ :=
  ⟨fun k x h => by simp at h, fun k x h => by simp at h, Nat.le_refl _, Nat.le_refl _, Nat.zero_le _, Nat.zero_le _, ⟨by decide, by decide⟩, fun x h => by simp at h, fun x h => by simp at h⟩
theorem owner_none (w : World) : Calls Try.prog 22 #[.agg noT, .int .i64 0] w fun e w' => e = .returned (.tuple #[.int .i64 0, .int .i64 80]) ∧ Below w.heap.size w w' := by
  have h := owner_p none none 0 0 ⟨0, [], []⟩ 0 w (none_at w) ⟨by simp, by simp⟩
  have hr : TB.right ⟨0, [], []⟩ = false := by simp [TB.right, TB.ok0]
  have e1 : TB.ownV ⟨0, [], []⟩ 0 = 0 := by simp [TB.ownV, hr]
  have e2 : TB.ownE ⟨0, [], []⟩ 0 = 80 := by simp [TB.ownE, hr]
  rw [e1, e2] at h
  exact h
set_option maxRecDepth 100000 in
set_option maxHeartbeats 1000000 in
theorem shown_p (w : World) : Calls Try.prog 11 #[] w fun e w' => e = .returned (.bool true) ∧ Below w.heap.size w w' := by
  have hEq := fun w => sp_eq (3, 2) (3, 2) w
  rw [decide_eq_true rfl] at hEq
  have H := Mem.start w
  go_enter Try.func11, Try.ntmps11
  go_upto_region 2 with (first
    | (go_at_call 24; refine (even_52 _).mono ?_; rintro e w1 ⟨A1, A2, c1, c2, rfl, T0, hb1⟩; have T := Lib.hid T0; have HB := Lib.hid hb1; clear T0 hb1 H; have H := Mem.start w1)
    | ((with_reducible show wpList _ _ _ _ _ (World.alloc _ (.cells _ _))); refine mem_new H ?_; intro w2 H2; clear H; have H := H2; clear H2; simp only [List.cons_append, List.nil_append, List.set_cons_zero, List.set_cons_succ, List.setIfInBounds_toArray] at H)
    | ((with_reducible show wpList _ _ _ (⟨_, .store 25 _ _, _, _, _, _⟩ :: _) _ _); refine mem_store (i := 0) H (by first | exact wanted_none rfl | exact wanted_some rfl rfl rfl rfl) (by exact rfl) (by exact rfl) (by exact rfl) (by exact rfl) (by exact tbInfo) (by exact rfl) (by exact rfl) ?_; intro w2 H2; clear H; have H := H2; clear H2; simp only [List.cons_append, List.nil_append, List.set_cons_zero, List.set_cons_succ, List.setIfInBounds_toArray] at H))
  go_upto_region 3 with (first
    | (go_at_call 20; with_reducible refine (spanOf_52 A1 A2 c1 c2 _ (T.out.mem H)).mono ?_; rintro e w2 ⟨rfl, hb⟩; have H2 := H.call hb; clear H hb; have H := H2; clear H2)
    | ((with_reducible show wpList _ _ _ _ _ (World.alloc _ (.cells _ _))); refine mem_new H ?_; intro w2 H2; clear H; have H := H2; clear H2; simp only [List.cons_append, List.nil_append, List.set_cons_zero, List.set_cons_succ, List.setIfInBounds_toArray] at H)
    | ((with_reducible show wpList _ _ _ (⟨_, .load 25 _, _, _, _, _⟩ :: _) _ _); refine mem_load (i := 0) H (by first | exact wanted_none rfl | exact wanted_some rfl rfl rfl rfl) (by exact rfl) (by exact rfl) (by exact rfl) Try.underlying25 rfl (by exact tbInfo) ?_)
    | ((with_reducible show wpList _ _ _ (⟨_, .store 36 _ _, _, _, _, _⟩ :: _) _ _); refine mem_store (i := 1) H (by first | exact wanted_none rfl | exact wanted_some rfl rfl rfl rfl) (by exact rfl) (by exact rfl) (by exact rfl) (by exact rfl) (by exact spInfo) (by exact rfl) (by exact rfl) ?_; intro w2 H2; clear H; have H := H2; clear H2; simp only [List.cons_append, List.nil_append, List.set_cons_zero, List.set_cons_succ, List.setIfInBounds_toArray] at H))
  go_wp2_with (first
    | (go_at_call 22; with_reducible refine (owner_none _).mono ?_; rintro e w2 ⟨rfl, hb⟩; have H2 := H.call hb; clear H hb; have H := H2; clear H2)
    | ((with_reducible show wpList _ _ _ (⟨_, .load 36 _, _, _, _, _⟩ :: _) _ _); refine mem_load (i := 1) H (by first | exact wanted_none rfl | exact wanted_some rfl rfl rfl rfl) (by exact rfl) (by exact rfl) (by exact rfl) Try.underlying36 rfl (by exact spInfo) ?_))
  go_ret
  exact ⟨by simp, HB.out.trans (H.below.mono HB.out.size)⟩
set_option maxRecDepth 100000 in
set_option maxHeartbeats 2000000 in
theorem asks_w (A1 A2 : Option Addr) (c1 c2 : Nat) (t : TB) (p : Int) (w : World) (ht : TbAt w.heap.size w A1 A2 c1 c2 t) : Calls Try.prog 4 #[.agg (tbC A1 A2 c1 c2 t), .int .i64 p] w fun e w' => e = .returned (.bool true) ∧ Below w.heap.size w w' := by
  have H := Mem.start w
  have T := Lib.hid ht
  have hf := cut_few t
  have cc := fun w h => cut_p A1 A2 c1 c2 t w h
  obtain ⟨t', ht'⟩ : ∃ t', t.cut = t' := ⟨_, rfl⟩
  have hT2 := ht.cut
  rw [ht'] at hf cc hT2
  have S := Lib.hid hT2
  clear ht hT2 ht'
  have k1 := fun w h => classOf_p A1 A2 c1 c2 t' p w h hf
  have k2 := fun w h => classOf_r A1 A2 c1 c2 t' p w h
  have k3 := fun w h => spanOf_p A1 A2 c1 c2 t' p w h hf
  have k4 := fun w h => spanOf_r A1 A2 c1 c2 t' p w h
  have k5 := fun w h => owner_p A1 A2 c1 c2 t' p w h hf
  have k6 := fun w h => owner_d A1 A2 c1 c2 t' p w h
  obtain ⟨v1, q1⟩ : ∃ v, t'.clsV p = v := ⟨_, rfl⟩
  obtain ⟨v2, q2⟩ : ∃ v, t'.clsE p = v := ⟨_, rfl⟩
  obtain ⟨v3, q3⟩ : ∃ v, t'.spnV p = v := ⟨_, rfl⟩
  obtain ⟨v4, q4⟩ : ∃ v, t'.ownV p = v := ⟨_, rfl⟩
  obtain ⟨v5, q5⟩ : ∃ v, t'.ownE p = v := ⟨_, rfl⟩
  simp only [q1, q2, q3, q4, q5] at k1 k2 k3 k4 k5 k6
  have hEq := fun w => sp_eq v3 v3 w
  rw [decide_eq_true rfl] at hEq
  clear q1 q2 q3 q4 q5 hf
  go_enter Try.func4, Try.ntmps4
  go_upto_region 1 with (first
    | ((with_reducible show wpList _ _ _ _ _ (World.alloc _ (.cells _ _))); refine mem_newb H ?_; intro b w3 hbk H2; try rw [← hbk]; clear hbk H; have H := H2; clear H2; simp only [List.cons_append, List.nil_append, List.set_cons_zero, List.set_cons_succ, List.setIfInBounds_toArray] at H))
  go_upto_region 3 with (first
    | ((with_reducible show wpList _ _ _ (⟨_, .load 25 _, _, _, _, _⟩ :: _) _ _); refine mem_load (i := 0) H (by first | exact wanted_none rfl | exact wanted_some rfl rfl rfl rfl) (by exact rfl) (by exact rfl) (by exact rfl) Try.underlying25 rfl (by exact tbInfo) ?_)
    | (go_at_call 11; with_reducible refine (shown_p _).mono ?_; rintro e w2 ⟨rfl, hb⟩; have H2 := H.call hb; clear H hb; have H := H2; clear H2)
    | (go_at_call 12; with_reducible refine (cc _ (T.out.mem H)).mono ?_; rintro e w2 ⟨rfl, hb⟩; have H2 := H.call hb; clear H hb; have H := H2; clear H2)
    | ((with_reducible show wpList _ _ _ (⟨_, .store 25 _ _, _, _, _, _⟩ :: _) _ _); refine mem_store (i := 0) H (by first | exact wanted_none rfl | exact wanted_some rfl rfl rfl rfl) (by exact rfl) (by exact rfl) (by exact rfl) (by exact rfl) (by exact tbInfo) (by exact rfl) (by exact rfl) ?_; intro w2 H2; clear H; have H := H2; clear H2; simp only [List.cons_append, List.nil_append, List.set_cons_zero, List.set_cons_succ, List.setIfInBounds_toArray] at H))
  go_wp2_with (first
    | go_skip
    | ((with_reducible show wpList _ _ _ _ _ (World.alloc _ (.cells _ _))); refine mem_new H ?_; intro w2 H2; clear H; have H := H2; clear H2; simp only [List.cons_append, List.nil_append, List.set_cons_zero, List.set_cons_succ, List.setIfInBounds_toArray] at H)
    | ((with_reducible show wpList _ _ _ (⟨_, .load 25 _, _, _, _, _⟩ :: _) _ _); refine mem_load (i := 0) H (by first | exact wanted_none rfl | exact wanted_some rfl rfl rfl rfl) (by exact rfl) (by exact rfl) (by exact rfl) Try.underlying25 rfl (by exact tbInfo) ?_)
    | ((with_reducible show wpList _ _ _ (⟨_, .store 36 _ _, _, _, _, _⟩ :: _) _ _); refine mem_store (i := 1) H (by first | exact wanted_none rfl | exact wanted_some rfl rfl rfl rfl) (by exact rfl) (by exact rfl) (by exact rfl) (by exact rfl) (by exact spInfo) (by exact rfl) (by exact rfl) ?_; intro w2 H2; clear H; have H := H2; clear H2; simp only [List.cons_append, List.nil_append, List.set_cons_zero, List.set_cons_succ, List.setIfInBounds_toArray] at H)
    | ((with_reducible show wpList _ _ _ (⟨_, .store 36 _ _, _, _, _, _⟩ :: _) _ _); refine mem_store (i := 2) H (by first | exact wanted_none rfl | exact wanted_some rfl rfl rfl rfl) (by exact rfl) (by exact rfl) (by exact rfl) (by exact rfl) (by exact spInfo) (by exact rfl) (by exact rfl) ?_; intro w2 H2; clear H; have H := H2; clear H2; simp only [List.cons_append, List.nil_append, List.set_cons_zero, List.set_cons_succ, List.setIfInBounds_toArray] at H)
    | ((with_reducible show wpList _ _ _ (⟨_, .load 36 _, _, _, _, _⟩ :: _) _ _); refine mem_load (i := 1) H (by first | exact wanted_none rfl | exact wanted_some rfl rfl rfl rfl) (by exact rfl) (by exact rfl) (by exact rfl) Try.underlying36 rfl (by exact spInfo) ?_)
    | ((with_reducible show wpList _ _ _ (⟨_, .load 36 _, _, _, _, _⟩ :: _) _ _); refine mem_load (i := 2) H (by first | exact wanted_none rfl | exact wanted_some rfl rfl rfl rfl) (by exact rfl) (by exact rfl) (by exact rfl) Try.underlying36 rfl (by exact spInfo) ?_)
    | (go_at_call 18; with_reducible refine (k1 _ (S.out.mem H)).mono ?_; rintro e w2 ⟨rfl, hb⟩; have H2 := H.call hb; clear H hb; have H := H2; clear H2)
    | (go_at_call 19; with_reducible refine (k2 _ (S.out.mem H)).mono ?_; rintro e w2 ⟨rfl, hb⟩; have H2 := H.call hb; clear H hb; have H := H2; clear H2)
    | (go_at_call 20; with_reducible refine (k3 _ (S.out.mem H)).mono ?_; rintro e w2 ⟨rfl, hb⟩; have H2 := H.call hb; clear H hb; have H := H2; clear H2)
    | (go_at_call 21; with_reducible refine (k4 _ (S.out.mem H)).mono ?_; rintro e w2 ⟨rfl, hb⟩; have H2 := H.call hb; clear H hb; have H := H2; clear H2)
    | (go_at_call 22; with_reducible refine (k5 _ (S.out.mem H)).mono ?_; rintro e w2 ⟨rfl, hb⟩; have H2 := H.call hb; clear H hb; have H := H2; clear H2)
    | (go_at_call 23; with_reducible refine (k6 _ (S.out.mem H)).mono ?_; rintro e w2 ⟨rfl, hb⟩; have H2 := H.call hb; clear H hb; have H := H2; clear H2))
  go_ret
  exact ⟨by simp, H.below⟩
end Go.Proofs.Ytoofmklknffhpaa
