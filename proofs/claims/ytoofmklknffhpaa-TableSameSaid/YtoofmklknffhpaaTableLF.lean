/-
  TableSame, walked over the contracts of the program's functions. Conditions: the tables lie where their values say.
-/
import Derived.Test.YtoofmklknffhpaaTableLD
namespace Go.Proofs.Ytoofmklknffhpaa
set_option linter.unusedSimpArgs false
set_option linter.unusedVariables false
open Go.ChangeShapes Go.WideShapes Go.ChangeAt Go.RowKit

theorem moved_self (a : TB) : movedL a a = [] := by
  unfold movedL
  split
  · simp [movedTo]
  · rfl
theorem moved_turn (a b : TB) : movedL a b = movedL b a := by
  have h : movedTo a b 16 = movedTo b a 16 := by
    unfold movedTo
    congr 2
    funext i
    by_cases e : a.spAt i = b.spAt i
    · rw [decide_eq_true e, decide_eq_true e.symm]
    · rw [decide_eq_false e, decide_eq_false (fun h => e h.symm)]
  unfold movedL
  rw [h]
  by_cases h1 : a.right = true
  · by_cases h2 : b.right = true
    · rw [if_pos ⟨h1, h2⟩, if_pos ⟨h2, h1⟩]
    · rw [if_neg (fun h => h2 h.2), if_neg (fun h => h2 h.1)]
  · rw [if_neg (fun h => h1 h.1), if_neg (fun h => h1 h.2)]
set_option maxRecDepth 100000 in
set_option maxHeartbeats 2000000 in
theorem same_w (A1 A2 A3 A4 : Option Addr) (c1 c2 c3 c4 : Nat) (a b : TB) (w : World) (ha : TbAt w.heap.size w A1 A2 c1 c2 a) (hb : TbAt w.heap.size w A3 A4 c3 c4 b) : Calls Try.prog 9 #[.agg (tbC A1 A2 c1 c2 a), .agg (tbC A3 A4 c3 c4 b)] w fun e w' => e = .returned (.bool true) ∧ Below w.heap.size w w' := by
  have H := Mem.start w
  have Ta := Lib.hid ha
  have Tb := Lib.hid hb
  have hfa := cut_few a
  have hfb := cut_few b
  have ca := fun w h => cut_p A1 A2 c1 c2 a w h
  have cb := fun w h => cut_p A3 A4 c3 c4 b w h
  obtain ⟨a', ha'⟩ : ∃ t', a.cut = t' := ⟨_, rfl⟩
  obtain ⟨b', hb'⟩ : ∃ t', b.cut = t' := ⟨_, rfl⟩
  have ha2 := ha.cut
  have hb2 := hb.cut
  rw [ha'] at hfa ca ha2
  rw [hb'] at hfb cb hb2
  have Sa := Lib.hid ha2
  have Sb := Lib.hid hb2
  clear ha hb ha2 hb2 ha' hb'
  have k1 := fun w h => moved_p A1 A2 A1 A2 c1 c2 c1 c2 a' a' w h h hfa hfa
  have k2 := fun w h h' => moved_p A1 A2 A3 A4 c1 c2 c3 c4 a' b' w h h' hfa hfb
  have k3 := fun w h h' => moved_p A3 A4 A1 A2 c3 c4 c1 c2 b' a' w h h' hfb hfa
  have ra := fun w h => right_p A1 A2 c1 c2 a' w h hfa
  have rb := fun w h => right_p A3 A4 c3 c4 b' w h hfb
  have hn4 := moved_len a' b'
  rw [moved_self a'] at k1
  rw [← moved_turn a' b'] at k3
  obtain ⟨l, hl⟩ : ∃ l, movedL a' b' = l := ⟨_, rfl⟩
  rw [hl] at hn4
  obtain ⟨n, hn⟩ : ∃ n, l.length = n := ⟨_, rfl⟩
  rw [hn] at hn4
  unfold GivesInts at k1 k2 k3
  simp only [hl] at k2 k3
  simp only [hn] at k2 k3
  simp only [List.length_nil] at k1
  unfold RightP at ra rb
  clear hn hl hfa hfb
  rcases hra : a'.right with _ | _
  all_goals rcases hrb : b'.right with _ | _
  all_goals
    simp only [movedE, hra, hrb, Bool.false_eq_true, and_self, and_true, true_and, and_false, false_and, if_true, if_false, ite_true, ite_false] at k1 k2 k3 ra rb
    clear hra hrb
    go_enter Try.func9, Try.ntmps9
    go_upto_region 1 with (first
      | ((with_reducible show wpList _ _ _ _ _ (World.alloc _ (.cells _ _))); refine mem_newb (l := []) H ?_; intro ba w3 hbk H2; try rw [← hbk]; clear hbk H; have H := H2; clear H2; simp only [List.cons_append, List.nil_append, List.set_cons_zero, List.set_cons_succ, List.setIfInBounds_toArray] at H)
      | ((with_reducible show wpList _ _ _ _ _ (World.alloc _ (.cells _ _))); refine mem_newb (l := [_]) H ?_; intro bb w3 hbk H2; try rw [← hbk]; clear hbk H; have H := H2; clear H2; simp only [List.cons_append, List.nil_append, List.set_cons_zero, List.set_cons_succ, List.setIfInBounds_toArray] at H))
    go_upto_region 4 with (first
    | ((with_reducible show wpList _ _ _ (⟨_, .load 25 _, _, _, _, _⟩ :: _) _ _); refine mem_load (i := 0) H (by first | exact wanted_none rfl | exact wanted_some rfl rfl rfl rfl) (by exact rfl) (by exact rfl) (by exact rfl) Try.underlying25 rfl (by exact tbInfo) ?_)
    | ((with_reducible show wpList _ _ _ (⟨_, .load 25 _, _, _, _, _⟩ :: _) _ _); refine mem_load (i := 1) H (by first | exact wanted_none rfl | exact wanted_some rfl rfl rfl rfl) (by exact rfl) (by exact rfl) (by exact rfl) Try.underlying25 rfl (by exact tbInfo) ?_)
    | (go_at_call 11; with_reducible refine (shown_p _).mono ?_; rintro e w2 ⟨rfl, hb⟩; have H2 := H.call hb; clear H hb; have H := H2; clear H2)
    | (go_at_call 12; with_reducible refine (ca _ (Ta.out.mem H)).mono ?_; rintro e w2 ⟨rfl, hb⟩; have H2 := H.call hb; clear H hb; have H := H2; clear H2)
    | (go_at_call 12; with_reducible refine (cb _ (Tb.out.mem H)).mono ?_; rintro e w2 ⟨rfl, hb⟩; have H2 := H.call hb; clear H hb; have H := H2; clear H2)
    | ((with_reducible show wpList _ _ _ (⟨_, .store _ (.tmp 2) _, _, _, _, _⟩ :: _) _ _); (with_reducible show wpList _ _ _ (⟨_, .store 25 _ _, _, _, _, _⟩ :: _) _ _); refine mem_store (i := 0) H (by first | exact wanted_none rfl | exact wanted_some rfl rfl rfl rfl) (by exact rfl) (by exact rfl) (by exact rfl) (by exact rfl) (by exact tbInfo) (by exact rfl) (by exact rfl) ?_; intro w2 H2; clear H; have H := H2; clear H2; simp only [List.cons_append, List.nil_append, List.set_cons_zero, List.set_cons_succ, List.setIfInBounds_toArray] at H)
    | ((with_reducible show wpList _ _ _ (⟨_, .store _ (.tmp 3) _, _, _, _, _⟩ :: _) _ _); (with_reducible show wpList _ _ _ (⟨_, .store 25 _ _, _, _, _, _⟩ :: _) _ _); refine mem_store (i := 1) H (by first | exact wanted_none rfl | exact wanted_some rfl rfl rfl rfl) (by exact rfl) (by exact rfl) (by exact rfl) (by exact rfl) (by exact tbInfo) (by exact rfl) (by exact rfl) ?_; intro w2 H2; clear H; have H := H2; clear H2; simp only [List.cons_append, List.nil_append, List.set_cons_zero, List.set_cons_succ, List.setIfInBounds_toArray] at H))
    go_upto_region 5 with (first
    | ((with_reducible show wpList _ _ _ (⟨_, .load 25 _, _, _, _, _⟩ :: _) _ _); refine mem_load (i := 0) H (by first | exact wanted_none rfl | exact wanted_some rfl rfl rfl rfl) (by exact rfl) (by exact rfl) (by exact rfl) Try.underlying25 rfl (by exact tbInfo) ?_)
    | (go_at_call 27; refine (k1 _ (Sa.out.mem H)).mono ?_; rintro e w2 ⟨v1, rfl, R, hb⟩; have H2 := H.call hb; obtain ⟨Av1, dv1, rfl, hdv1, Lv1⟩ := lies_of_own R; clear Lv1; clear H R hb; have H := H2; clear H2))
    go_upto_region 6 with (first
    | ((with_reducible show wpList _ _ _ (⟨_, .load 25 _, _, _, _, _⟩ :: _) _ _); refine mem_load (i := 0) H (by first | exact wanted_none rfl | exact wanted_some rfl rfl rfl rfl) (by exact rfl) (by exact rfl) (by exact rfl) Try.underlying25 rfl (by exact tbInfo) ?_)
    | ((with_reducible show wpList _ _ _ (⟨_, .load 25 _, _, _, _, _⟩ :: _) _ _); refine mem_load (i := 1) H (by first | exact wanted_none rfl | exact wanted_some rfl rfl rfl rfl) (by exact rfl) (by exact rfl) (by exact rfl) Try.underlying25 rfl (by exact tbInfo) ?_)
    | (go_at_call 27; refine (k2 _ (Sa.out.mem H) (Sb.out.mem H)).mono ?_; rintro e w2 ⟨v2, rfl, R, hb⟩; have H2 := H.call hb; obtain ⟨Av2, dv2, rfl, hdv2, Lv2⟩ := lies_of_own R; have LL := Lib.hid Lv2; clear Lv2; have Lv2 := LL; clear LL; clear H R hb; have H := H2; clear H2))
    go_upto_region 7 with (first
    | ((with_reducible show wpList _ _ _ (⟨_, .load 25 _, _, _, _, _⟩ :: _) _ _); refine mem_load (i := 0) H (by first | exact wanted_none rfl | exact wanted_some rfl rfl rfl rfl) (by exact rfl) (by exact rfl) (by exact rfl) Try.underlying25 rfl (by exact tbInfo) ?_)
    | ((with_reducible show wpList _ _ _ (⟨_, .load 25 _, _, _, _, _⟩ :: _) _ _); refine mem_load (i := 1) H (by first | exact wanted_none rfl | exact wanted_some rfl rfl rfl rfl) (by exact rfl) (by exact rfl) (by exact rfl) Try.underlying25 rfl (by exact tbInfo) ?_)
    | (go_at_call 27; refine (k3 _ (Sb.out.mem H) (Sa.out.mem H)).mono ?_; rintro e w2 ⟨v3, rfl, R, hb⟩; have H2 := H.call hb; obtain ⟨Av3, dv3, rfl, hdv3, Lv3⟩ := lies_of_own R; have LL := Lib.hid (lies_below Lv2.out hb); clear Lv2; have Lv2 := LL; clear LL; have LL := Lib.hid Lv3; clear Lv3; have Lv3 := LL; clear LL; clear H R hb; have H := H2; clear H2))
    go_wp2_with (first
      | ((with_reducible show wpList _ _ _ (⟨_, .load 25 _, _, _, _, _⟩ :: _) _ _); refine mem_load (i := 0) H (by first | exact wanted_none rfl | exact wanted_some rfl rfl rfl rfl) (by exact rfl) (by exact rfl) (by exact rfl) Try.underlying25 rfl (by exact tbInfo) ?_)
      | ((with_reducible show wpList _ _ _ (⟨_, .load 25 _, _, _, _, _⟩ :: _) _ _); refine mem_load (i := 1) H (by first | exact wanted_none rfl | exact wanted_some rfl rfl rfl rfl) (by exact rfl) (by exact rfl) (by exact rfl) Try.underlying25 rfl (by exact tbInfo) ?_)
      | (go_at_call 15; with_reducible refine (ra _ (Sa.out.mem H)).mono ?_; rintro e w2 ⟨rfl, hb⟩; have H2 := H.call hb; have LL2 := Lib.hid (lies_below Lv2.out hb); have LL3 := Lib.hid (lies_below Lv3.out hb); clear H hb Lv2 Lv3; have H := H2; have Lv2 := LL2; have Lv3 := LL3; clear H2 LL2 LL3)
      | (go_at_call 15; with_reducible refine (rb _ (Sb.out.mem H)).mono ?_; rintro e w2 ⟨rfl, hb⟩; have H2 := H.call hb; have LL2 := Lib.hid (lies_below Lv2.out hb); have LL3 := Lib.hid (lies_below Lv3.out hb); clear H hb Lv2 Lv3; have H := H2; have Lv2 := LL2; have Lv3 := LL3; clear H2 LL2 LL3)
      | (go_at_call 17; refine (same_p _ _ n dv2 dv3 _ _ (by omega) Lv2.out Lv3.out hdv2 hdv3).mono ?_; rintro e w2 ⟨rfl, hb⟩; have H2 := H.call hb; have LL2 := Lib.hid (lies_below Lv2.out hb); have LL3 := Lib.hid (lies_below Lv3.out hb); clear H hb Lv2 Lv3; have H := H2; have Lv2 := LL2; have Lv3 := LL3; clear H2 LL2 LL3))
    go_ret
    exact ⟨by simp, H.below⟩
end Go.Proofs.Ytoofmklknffhpaa
