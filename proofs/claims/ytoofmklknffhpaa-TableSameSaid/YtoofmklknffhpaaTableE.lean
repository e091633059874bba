/-
  The document's SpanOf and Owner. Conditions: the table lies where its value says.
-/
import Derived.Test.YtoofmklknffhpaaTableD
namespace Go.Proofs.Ytoofmklknffhpaa
set_option linter.unusedSimpArgs false
set_option linter.unusedVariables false
open Go.ChangeShapes Go.WideShapes Go.ChangeAt Go.RowKit

theorem owner_r0 (A1 A2 : Option Addr) (c1 c2 : Nat) (t : TB) (q : Int) (hq : 0 ≤ q ∧ q ≤ 64) (w : World) (ht : TbAt w.heap.size w A1 A2 c1 c2 t) (hs : ∀ s, s ∈ t.sp → Small s) (h20 : t.sp.length ≤ 20) :
    Calls Try.prog 31 #[.agg (tbC A1 A2 c1 c2 t), .int .i64 q, .int .i64 0] w fun e w' => e = .returned (.int .i64 (ownAt t.sp q 0)) ∧ Below w.heap.size w w' :=
  owner_r A1 A2 c1 c2 t q 0 hq (by omega) w ht hs h20
set_option maxRecDepth 100000 in
set_option maxHeartbeats 1000000 in
theorem owner_d (A1 A2 : Option Addr) (c1 c2 : Nat) (t : TB) (p : Int) (w : World) (ht : TbAt w.heap.size w A1 A2 c1 c2 t) : Calls Try.prog 23 #[.agg (tbC A1 A2 c1 c2 t), .int .i64 p] w fun e w' => e = .returned (.tuple #[.int .i64 (t.ownV p), .int .i64 (t.ownE p)]) ∧ Below w.heap.size w w' := by
  have H := Mem.start w
  have T := Lib.hid ht
  have cr := fun w h => right_r A1 A2 c1 c2 t w h
  have l1 := ht.l1
  have l2 := ht.l2
  clear ht
  rcases hr : t.right with _ | _
  · rw [hr] at cr
    have e1 : t.ownV p = 0 := by simp [TB.ownV, hr]
    have e2 : t.ownE p = 80 := by simp [TB.ownE, hr]
    rw [e1, e2]
    clear hr e1 e2
    unfold RightR tbC at *
    go_enter Try.func23, Try.ntmps23
    go_upto_region 1 with (first
    | ((with_reducible show wpList _ _ _ _ _ (World.alloc _ (.cells _ _))); refine mem_newb H ?_; intro b w3 hbk H2; try rw [← hbk]; clear hbk H; have H := H2; clear H2; simp only [List.cons_append, List.nil_append, List.set_cons_zero, List.set_cons_succ, List.setIfInBounds_toArray] at H))
    go_wp2_with (first
    | go_skip
    | ((with_reducible show wpList _ _ _ (⟨_, .load 25 _, _, _, _, _⟩ :: _) _ _); refine mem_load (i := 0) H (by first | exact wanted_none rfl | exact wanted_some rfl rfl rfl rfl) (by exact rfl) (by exact rfl) (by exact rfl) Try.underlying25 rfl (by exact tbInfo) ?_)
    | ((with_reducible show wpList _ _ _ (⟨_, .load _ _, _, _, _, _⟩ :: _) _ _); refine mem_loadf (i := 0) H (by first | exact wanted_none rfl | exact wanted_some rfl rfl rfl rfl) (by exact rfl) (by exact rfl) (by exact rfl) (by first | exact Try.underlying3 | exact Try.underlying22 | exact Try.underlying23) rfl (by exact rfl) ?_)
    | (go_at_call 16; with_reducible refine (cr _ (T.out.mem H)).mono ?_; rintro e w2 ⟨rfl, hb⟩; have H2 := H.call hb; clear H hb; have H := H2; clear H2))
    refine bodyPost_ret (results_two rfl _ _ _) rfl ?_
    exact ⟨rfl, H.below⟩
  rw [hr] at cr
  have hk := (TB.right_iff t).1 hr
  have hq := hk.q
  by_cases h0 : p < 0
  · have t1 : decide (p < 0) = true := decide_eq_true h0
    have e1 : t.ownV p = 0 := if_neg (by omega)
    have e2 : t.ownE p = 2 := by rw [TB.ownE, if_pos hr, if_neg (by omega)]
    rw [e1, e2]
    clear hr e1 e2 hk
    unfold RightR tbC at *
    go_enter Try.func23, Try.ntmps23
    go_upto_region 1 with (first
    | ((with_reducible show wpList _ _ _ _ _ (World.alloc _ (.cells _ _))); refine mem_newb H ?_; intro b w3 hbk H2; try rw [← hbk]; clear hbk H; have H := H2; clear H2; simp only [List.cons_append, List.nil_append, List.set_cons_zero, List.set_cons_succ, List.setIfInBounds_toArray] at H))
    go_wp2_with (first
    | go_skip
    | ((with_reducible show wpList _ _ _ (⟨_, .load 25 _, _, _, _, _⟩ :: _) _ _); refine mem_load (i := 0) H (by first | exact wanted_none rfl | exact wanted_some rfl rfl rfl rfl) (by exact rfl) (by exact rfl) (by exact rfl) Try.underlying25 rfl (by exact tbInfo) ?_)
    | ((with_reducible show wpList _ _ _ (⟨_, .load _ _, _, _, _, _⟩ :: _) _ _); refine mem_loadf (i := 0) H (by first | exact wanted_none rfl | exact wanted_some rfl rfl rfl rfl) (by exact rfl) (by exact rfl) (by exact rfl) (by first | exact Try.underlying3 | exact Try.underlying22 | exact Try.underlying23) rfl (by exact rfl) ?_)
    | (go_at_call 16; with_reducible refine (cr _ (T.out.mem H)).mono ?_; rintro e w2 ⟨rfl, hb⟩; have H2 := H.call hb; clear H hb; have H := H2; clear H2))
    refine bodyPost_ret (results_two rfl _ _ _) rfl ?_
    exact ⟨rfl, H.below⟩
  have t1 : decide (p < 0) = false := decide_eq_false h0
  by_cases h1 : t.q ≤ p
  · have t2 : decide (t.q ≤ p) = true := decide_eq_true h1
    have e1 : t.ownV p = 0 := if_neg (by omega)
    have e2 : t.ownE p = 2 := by rw [TB.ownE, if_pos hr, if_neg (by omega)]
    rw [e1, e2]
    clear hr e1 e2 hk
    unfold RightR tbC at *
    go_enter Try.func23, Try.ntmps23
    go_upto_region 1 with (first
    | ((with_reducible show wpList _ _ _ _ _ (World.alloc _ (.cells _ _))); refine mem_newb H ?_; intro b w3 hbk H2; try rw [← hbk]; clear hbk H; have H := H2; clear H2; simp only [List.cons_append, List.nil_append, List.set_cons_zero, List.set_cons_succ, List.setIfInBounds_toArray] at H))
    go_wp2_with (first
    | go_skip
    | ((with_reducible show wpList _ _ _ (⟨_, .load 25 _, _, _, _, _⟩ :: _) _ _); refine mem_load (i := 0) H (by first | exact wanted_none rfl | exact wanted_some rfl rfl rfl rfl) (by exact rfl) (by exact rfl) (by exact rfl) Try.underlying25 rfl (by exact tbInfo) ?_)
    | ((with_reducible show wpList _ _ _ (⟨_, .load _ _, _, _, _, _⟩ :: _) _ _); refine mem_loadf (i := 0) H (by first | exact wanted_none rfl | exact wanted_some rfl rfl rfl rfl) (by exact rfl) (by exact rfl) (by exact rfl) (by first | exact Try.underlying3 | exact Try.underlying22 | exact Try.underlying23) rfl (by exact rfl) ?_)
    | (go_at_call 16; with_reducible refine (cr _ (T.out.mem H)).mono ?_; rintro e w2 ⟨rfl, hb⟩; have H2 := H.call hb; clear H hb; have H := H2; clear H2))
    refine bodyPost_ret (results_two rfl _ _ _) rfl ?_
    exact ⟨rfl, H.below⟩
  have t2 : decide (t.q ≤ p) = false := decide_eq_false h1
  have e1 : t.ownV p = ownAt t.sp p 0 := if_pos ⟨hr, by omega, by omega⟩
  have e2 : t.ownE p = 0 := by rw [TB.ownE, if_pos hr, if_pos (by omega)]
  rw [e1, e2]
  have co := fun w h => owner_r0 A1 A2 c1 c2 t p (by omega) w h hk.small (by have := hk.n; omega)
  clear hr e1 e2 hk
  unfold RightR tbC at *
  go_enter Try.func23, Try.ntmps23
  go_upto_region 1 with (first
    | ((with_reducible show wpList _ _ _ _ _ (World.alloc _ (.cells _ _))); refine mem_newb H ?_; intro b w3 hbk H2; try rw [← hbk]; clear hbk H; have H := H2; clear H2; simp only [List.cons_append, List.nil_append, List.set_cons_zero, List.set_cons_succ, List.setIfInBounds_toArray] at H))
  go_wp2_with (first
    | go_skip
    | ((with_reducible show wpList _ _ _ (⟨_, .load 25 _, _, _, _, _⟩ :: _) _ _); refine mem_load (i := 0) H (by first | exact wanted_none rfl | exact wanted_some rfl rfl rfl rfl) (by exact rfl) (by exact rfl) (by exact rfl) Try.underlying25 rfl (by exact tbInfo) ?_)
    | ((with_reducible show wpList _ _ _ (⟨_, .load _ _, _, _, _, _⟩ :: _) _ _); refine mem_loadf (i := 0) H (by first | exact wanted_none rfl | exact wanted_some rfl rfl rfl rfl) (by exact rfl) (by exact rfl) (by exact rfl) (by first | exact Try.underlying3 | exact Try.underlying22 | exact Try.underlying23) rfl (by exact rfl) ?_)
    | (go_at_call 16; with_reducible refine (cr _ (T.out.mem H)).mono ?_; rintro e w2 ⟨rfl, hb⟩; have H2 := H.call hb; clear H hb; have H := H2; clear H2)
    | (go_at_call 31; with_reducible refine (co _ (T.out.mem H)).mono ?_; rintro e w2 ⟨rfl, hb⟩; have H2 := H.call hb; clear H hb; have H := H2; clear H2))
  refine bodyPost_ret (results_two rfl _ _ _) rfl ?_
  exact ⟨rfl, H.below⟩
/-- a span, as a value -/
abbrev spv (s : Int × Int) : Value := .agg #[.int .i64 s.1, .int .i64 s.2]
set_option maxRecDepth 100000 in
set_option maxHeartbeats 1000000 in
theorem spanOf_r (A1 A2 : Option Addr) (c1 c2 : Nat) (t : TB) (p : Int) (w : World) (ht : TbAt w.heap.size w A1 A2 c1 c2 t) : Calls Try.prog 21 #[.agg (tbC A1 A2 c1 c2 t), .int .i64 p] w fun e w' => e = .returned (.tuple #[spv (t.spnV p), .int .i64 (t.clsE p)]) ∧ Below w.heap.size w w' := by
  have H := Mem.start w
  have T := Lib.hid ht
  have cc := fun w h => classOf_r A1 A2 c1 c2 t p w h
  have l1 := ht.l1
  have l2 := ht.l2
  clear ht
  rcases hr : t.right with _ | _
  · have e0 : t.spnV p = (0, 0) := if_neg (by simp [hr])
    have e1 : t.clsV p = 0 := if_neg (by simp [hr])
    have e2 : t.clsE p = 80 := by rw [TB.clsE, if_neg (by simp [hr])]
    rw [e1, e2] at cc
    rw [e0, e2]
    clear e0 e1 e2 hr
    unfold tbC at *
    go_enter Try.func21, Try.ntmps21
    go_upto_region 1 with (first
    | ((with_reducible show wpList _ _ _ _ _ (World.alloc _ (.cells _ _))); refine mem_newb (l := []) H ?_; intro b w3 hbk H2; try rw [← hbk]; clear hbk H; have H := H2; clear H2; simp only [List.cons_append, List.nil_append, List.set_cons_zero, List.set_cons_succ, List.setIfInBounds_toArray] at H)
    | ((with_reducible show wpList _ _ _ _ _ (World.alloc _ (.cells _ _))); refine mem_newb (l := [_]) H ?_; intro bs w3 hbk H2; try rw [← hbk]; clear hbk H; have H := H2; clear H2; simp only [List.cons_append, List.nil_append, List.set_cons_zero, List.set_cons_succ, List.setIfInBounds_toArray] at H))
    go_wp2_with (first
    | go_skip
    | ((with_reducible show wpList _ _ _ (⟨_, .load 25 _, _, _, _, _⟩ :: _) _ _); refine mem_load (i := 0) H (by first | exact wanted_none rfl | exact wanted_some rfl rfl rfl rfl) (by exact rfl) (by exact rfl) (by exact rfl) Try.underlying25 rfl (by exact tbInfo) ?_)
    | ((with_reducible show wpList _ _ _ (⟨_, .load _ _, _, _, _, _⟩ :: _) _ _); refine mem_loadf (i := 0) H (by first | exact wanted_none rfl | exact wanted_some rfl rfl rfl rfl) (by exact rfl) (by exact rfl) (by exact rfl) (by first | exact Try.underlying3 | exact Try.underlying22 | exact Try.underlying23) rfl (by exact rfl) ?_)
    | (go_at_call 19; with_reducible refine (cc _ (T.out.mem H)).mono ?_; rintro e w2 ⟨rfl, hb⟩; have H2 := H.call hb; clear H hb; have H := H2; clear H2)
    | ((with_reducible show wpList _ _ _ (⟨_, .store 36 _ _, _, _, _, _⟩ :: _) _ _); refine mem_store (i := 1) H (by first | exact wanted_none rfl | exact wanted_some rfl rfl rfl rfl) (by exact rfl) (by exact rfl) (by exact rfl) (by exact rfl) (by exact spInfo) (by exact rfl) (by exact rfl) ?_; intro w2 H2; clear H; have H := H2; clear H2; simp only [List.cons_append, List.nil_append, List.set_cons_zero, List.set_cons_succ, List.setIfInBounds_toArray] at H))
    refine ret_held2 (H.at 1 rfl) rfl rfl Try.underlying36 rfl spInfo ?_
    exact ⟨rfl, H.below⟩
  by_cases h0 : 0 ≤ p ∧ p < 16
  · have hk := (TB.right_iff t).1 hr
    have hm := hk.m
    obtain ⟨k, rfl⟩ := Int.eq_ofNat_of_zero_le h0.1
    obtain ⟨x, hx⟩ : ∃ x, t.cl[k]? = some x := ⟨t.cl[k]'(by omega), List.getElem?_eq_getElem _⟩
    have hx' := hk.c x (List.mem_of_getElem? hx)
    obtain ⟨i, rfl⟩ := Int.eq_ofNat_of_zero_le hx'.1
    obtain ⟨s, hs⟩ : ∃ s, t.sp[i]? = some s := ⟨t.sp[i]'(by omega), List.getElem?_eq_getElem _⟩
    have e1 : t.clsV k = i := by rw [TB.clsV, if_pos ⟨hr, by omega, by omega⟩, Int.toNat_natCast, List.getD_eq_getElem?_getD, hx]; rfl
    have e2 : t.clsE k = 0 := by rw [TB.clsE, if_pos hr, if_pos (by omega)]
    have e0 : t.spnV k = s := by
      rw [TB.spnV, if_pos ⟨hr, by omega, by omega⟩, Int.toNat_natCast, List.getD_eq_getElem?_getD, List.getD_eq_getElem?_getD, hx]
      show t.sp[(i : Int).toNat]?.getD (0, 0) = s
      rw [Int.toNat_natCast, hs]
      rfl
    rw [e1, e2] at cc
    rw [e0, e2]
    obtain ⟨b3, o3, rfl, hB, ca0, cb0⟩ := T.out.sp i s hs
    have CA := Lib.hid (And.intro ca0 cb0)
    have hi2 := hx'.2
    clear hr e0 e1 e2 hk hx hx' hs ca0 cb0 hm h0
    unfold tbC at *
    go_enter Try.func21, Try.ntmps21
    go_upto_region 1 with (first
    | ((with_reducible show wpList _ _ _ _ _ (World.alloc _ (.cells _ _))); refine mem_newb (l := []) H ?_; intro b w3 hbk H2; try rw [← hbk]; clear hbk H; have H := H2; clear H2; simp only [List.cons_append, List.nil_append, List.set_cons_zero, List.set_cons_succ, List.setIfInBounds_toArray] at H)
    | ((with_reducible show wpList _ _ _ _ _ (World.alloc _ (.cells _ _))); refine mem_newb (l := [_]) H ?_; intro bs w3 hbk H2; try rw [← hbk]; clear hbk H; have H := H2; clear H2; simp only [List.cons_append, List.nil_append, List.set_cons_zero, List.set_cons_succ, List.setIfInBounds_toArray] at H))
    go_upto_region 4 with (first
    | ((with_reducible show wpList _ _ _ (⟨_, .load 25 _, _, _, _, _⟩ :: _) _ _); refine mem_load (i := 0) H (by first | exact wanted_none rfl | exact wanted_some rfl rfl rfl rfl) (by exact rfl) (by exact rfl) (by exact rfl) Try.underlying25 rfl (by exact tbInfo) ?_)
    | (go_at_call 19; with_reducible refine (cc _ (T.out.mem H)).mono ?_; rintro e w2 ⟨rfl, hb⟩; have H2 := H.call hb; clear H hb; have H := H2; clear H2))
    have ca : w2.cell? ⟨b3, o3 + i * 2, none⟩ = some (.int .i64 s.1) := (H.old hB).trans CA.out.1
    have cb : w2.cell? ⟨b3, o3 + i * 2 + 1, none⟩ = some (.int .i64 s.2) := (H.old hB).trans CA.out.2
    go_wp2_with (first
    | ((with_reducible show wpList _ _ _ (⟨_, .load _ _, _, _, _, _⟩ :: _) _ _); refine mem_loadf (i := 0) H (by first | exact wanted_none rfl | exact wanted_some rfl rfl rfl rfl) (by exact rfl) (by exact rfl) (by exact rfl) (by first | exact Try.underlying3 | exact Try.underlying22 | exact Try.underlying23) rfl (by exact rfl) ?_)
    | ((with_reducible show wpList _ _ _ (⟨_, .store 36 _ _, _, _, _, _⟩ :: _) _ _); refine mem_store (i := 1) H (by first | exact wanted_none rfl | exact wanted_some rfl rfl rfl rfl) (by exact rfl) (by exact rfl) (by exact rfl) (by exact rfl) (by exact spInfo) (by exact rfl) (by exact rfl) ?_; intro w2 H2; clear H; have H := H2; clear H2; simp only [List.cons_append, List.nil_append, List.set_cons_zero, List.set_cons_succ, List.setIfInBounds_toArray] at H))
    refine ret_held2 (H.at 1 rfl) rfl rfl Try.underlying36 rfl spInfo ?_
    exact ⟨rfl, H.below⟩
  · have e0 : t.spnV p = (0, 0) := if_neg (by omega)
    have e1 : t.clsV p = 0 := if_neg (by omega)
    have e2 : t.clsE p = 2 := by rw [TB.clsE, if_pos hr, if_neg h0]
    rw [e1, e2] at cc
    rw [e0, e2]
    clear e0 e1 e2 hr
    unfold tbC at *
    go_enter Try.func21, Try.ntmps21
    go_upto_region 1 with (first
    | ((with_reducible show wpList _ _ _ _ _ (World.alloc _ (.cells _ _))); refine mem_newb (l := []) H ?_; intro b w3 hbk H2; try rw [← hbk]; clear hbk H; have H := H2; clear H2; simp only [List.cons_append, List.nil_append, List.set_cons_zero, List.set_cons_succ, List.setIfInBounds_toArray] at H)
    | ((with_reducible show wpList _ _ _ _ _ (World.alloc _ (.cells _ _))); refine mem_newb (l := [_]) H ?_; intro bs w3 hbk H2; try rw [← hbk]; clear hbk H; have H := H2; clear H2; simp only [List.cons_append, List.nil_append, List.set_cons_zero, List.set_cons_succ, List.setIfInBounds_toArray] at H))
    go_wp2_with (first
    | go_skip
    | ((with_reducible show wpList _ _ _ (⟨_, .load 25 _, _, _, _, _⟩ :: _) _ _); refine mem_load (i := 0) H (by first | exact wanted_none rfl | exact wanted_some rfl rfl rfl rfl) (by exact rfl) (by exact rfl) (by exact rfl) Try.underlying25 rfl (by exact tbInfo) ?_)
    | ((with_reducible show wpList _ _ _ (⟨_, .load _ _, _, _, _, _⟩ :: _) _ _); refine mem_loadf (i := 0) H (by first | exact wanted_none rfl | exact wanted_some rfl rfl rfl rfl) (by exact rfl) (by exact rfl) (by exact rfl) (by first | exact Try.underlying3 | exact Try.underlying22 | exact Try.underlying23) rfl (by exact rfl) ?_)
    | (go_at_call 19; with_reducible refine (cc _ (T.out.mem H)).mono ?_; rintro e w2 ⟨rfl, hb⟩; have H2 := H.call hb; clear H hb; have H := H2; clear H2)
    | ((with_reducible show wpList _ _ _ (⟨_, .store 36 _ _, _, _, _, _⟩ :: _) _ _); refine mem_store (i := 1) H (by first | exact wanted_none rfl | exact wanted_some rfl rfl rfl rfl) (by exact rfl) (by exact rfl) (by exact rfl) (by exact rfl) (by exact spInfo) (by exact rfl) (by exact rfl) ?_; intro w2 H2; clear H; have H := H2; clear H2; simp only [List.cons_append, List.nil_append, List.set_cons_zero, List.set_cons_succ, List.setIfInBounds_toArray] at H))
    refine ret_held2 (H.at 1 rfl) rfl rfl Try.underlying36 rfl spInfo ?_
    exact ⟨rfl, H.below⟩
end Go.Proofs.Ytoofmklknffhpaa
