/-
  The program's Right. Conditions: the table lies where its value says. The program's ClassOf, SpanOf, Owner. Conditions: the table lies where its value says.
-/
import Derived.Test.YtaoaapbbadipfaaMGk
import Derived.Test.YtaoaapbbadipfaaMGa
import Derived.Test.YtaoaapbbadipfaaMGg
/- The program's Right. Conditions: the table lies where its value says. -/
section
namespace Go.Proofs.Ytaoaapbbadipfaa
set_option linter.unusedSimpArgs false
set_option linter.unusedVariables false
set_option maxRecDepth 100000
open Go.ChangeShapes Go.WideShapes Go.ChangeAt Go.RowKit Go.Shelf

/-- a table that is not long -/
def Few (t : TB) : Prop := t.cl.length ≤ 20 ∧ t.sp.length ≤ 20
abbrev RightP (A1 A2 : Option Addr) (c1 c2 : Nat) (t : TB) (w : World) (v : Bool) : Prop := Calls Try.prog 58 #[.agg (tbC A1 A2 c1 c2 t)] w fun e w' => e = .returned (.bool v) ∧ Below w.heap.size w w'
/-- a test of two bounds -/
theorem two_yes {a b n : Int} (h1 : a ≤ n) (h2 : n ≤ b) : (decide (a ≤ n) && decide (n ≤ b)) = true := by rw [decide_eq_true h1, decide_eq_true h2]; rfl
theorem two_no {a b n : Int} (h : ¬ (a ≤ n ∧ n ≤ b)) : (decide (a ≤ n) && decide (n ≤ b)) = false := by
  by_cases h1 : a ≤ n
  · rw [decide_eq_false (show ¬ n ≤ b from fun h2 => h ⟨h1, h2⟩), Bool.and_false]
  · rw [decide_eq_false h1, Bool.false_and]
set_option maxRecDepth 100000 in
set_option maxHeartbeats 2000000 in
theorem rightP_q (A1 A2 : Option Addr) (c1 c2 : Nat) (t : TB) (h0 : ¬ (1 ≤ t.q ∧ t.q ≤ 64)) (w : World) : RightP A1 A2 c1 c2 t w false := by
  have H := Mem.start w
  have k1 := fun w => between_v 1 64 t.q _ (two_no h0) w
  clear h0
  unfold RightP
  go_enter Try.func58, Try.ntmps58
  go_upto_region 1 with (first
    | ((with_reducible show wpList _ _ _ _ _ (World.alloc _ (.cells _ _))); refine mem_newb H ?_; intro b w3 hbk H2; try rw [← hbk]; clear hbk H; have H := H2; clear H2; simp only [List.cons_append, List.nil_append, List.set_cons_zero, List.set_cons_succ, List.setIfInBounds_toArray] at H))
  go_wp2_with (first
    | ((with_reducible show wpList _ _ _ (⟨_, .load _ _, _, _, _, _⟩ :: _) _ _); refine mem_loadf (i := 0) H (by first | exact wanted_none rfl | exact wanted_some rfl rfl rfl rfl) (by exact rfl) (by exact rfl) (by exact rfl) (by first | exact Try.underlying3 | exact Try.underlying29 | exact Try.underlying30) rfl (by exact rfl) ?_)
    | (go_at_call 59; with_reducible refine (k1 _).mono ?_; rintro e w2 ⟨rfl, hb⟩; have H2 := H.call hb; clear H hb; have H := H2; clear H2))
  go_ret
  exact ⟨rfl, H.below⟩
set_option maxRecDepth 100000 in
set_option maxHeartbeats 2000000 in
theorem rightP_n (A1 A2 : Option Addr) (c1 c2 : Nat) (t : TB) (h0 : 1 ≤ t.q ∧ t.q ≤ 64) (h1 : ¬ (1 ≤ t.sp.length ∧ t.sp.length ≤ 16)) (w : World) : RightP A1 A2 c1 c2 t w false := by
  have H := Mem.start w
  have k1 := fun w => between_v 1 64 t.q _ (two_yes h0.1 h0.2) w
  have k2 := fun w => between_v 1 16 (t.sp.length : Int) _ (two_no (by omega)) w
  clear h0 h1
  unfold RightP
  go_enter Try.func58, Try.ntmps58
  go_upto_region 1 with (first
    | ((with_reducible show wpList _ _ _ _ _ (World.alloc _ (.cells _ _))); refine mem_newb H ?_; intro b w3 hbk H2; try rw [← hbk]; clear hbk H; have H := H2; clear H2; simp only [List.cons_append, List.nil_append, List.set_cons_zero, List.set_cons_succ, List.setIfInBounds_toArray] at H))
  go_wp2_with (first
    | ((with_reducible show wpList _ _ _ (⟨_, .load _ _, _, _, _, _⟩ :: _) _ _); refine mem_loadf (i := 0) H (by first | exact wanted_none rfl | exact wanted_some rfl rfl rfl rfl) (by exact rfl) (by exact rfl) (by exact rfl) (by first | exact Try.underlying3 | exact Try.underlying29 | exact Try.underlying30) rfl (by exact rfl) ?_)
    | (go_at_call 59; with_reducible refine (k1 _).mono ?_; rintro e w2 ⟨rfl, hb⟩; have H2 := H.call hb; clear H hb; have H := H2; clear H2)
    | (go_at_call 59; with_reducible refine (k2 _).mono ?_; rintro e w2 ⟨rfl, hb⟩; have H2 := H.call hb; clear H hb; have H := H2; clear H2))
  go_ret
  exact ⟨rfl, H.below⟩
set_option maxRecDepth 100000 in
set_option maxHeartbeats 2000000 in
theorem rightP_m (A1 A2 : Option Addr) (c1 c2 : Nat) (t : TB) (h0 : 1 ≤ t.q ∧ t.q ≤ 64) (h1 : 1 ≤ t.sp.length ∧ t.sp.length ≤ 16) (h2 : t.cl.length ≠ 16) (w : World) : RightP A1 A2 c1 c2 t w false := by
  have H := Mem.start w
  have k1 := fun w => between_v 1 64 t.q _ (two_yes h0.1 h0.2) w
  have k2 := fun w => between_v 1 16 (t.sp.length : Int) _ (two_yes (by omega) (by omega)) w
  have t4 : ((t.cl.length : Int) == 16) = false := by rw [beq_eq_false_iff_ne]; omega
  clear h0 h1 h2
  unfold RightP
  go_enter Try.func58, Try.ntmps58
  go_upto_region 1 with (first
    | ((with_reducible show wpList _ _ _ _ _ (World.alloc _ (.cells _ _))); refine mem_newb H ?_; intro b w3 hbk H2; try rw [← hbk]; clear hbk H; have H := H2; clear H2; simp only [List.cons_append, List.nil_append, List.set_cons_zero, List.set_cons_succ, List.setIfInBounds_toArray] at H))
  go_wp2_with (first
    | ((with_reducible show wpList _ _ _ (⟨_, .load _ _, _, _, _, _⟩ :: _) _ _); refine mem_loadf (i := 0) H (by first | exact wanted_none rfl | exact wanted_some rfl rfl rfl rfl) (by exact rfl) (by exact rfl) (by exact rfl) (by first | exact Try.underlying3 | exact Try.underlying29 | exact Try.underlying30) rfl (by exact rfl) ?_)
    | (go_at_call 59; with_reducible refine (k1 _).mono ?_; rintro e w2 ⟨rfl, hb⟩; have H2 := H.call hb; clear H hb; have H := H2; clear H2)
    | (go_at_call 59; with_reducible refine (k2 _).mono ?_; rintro e w2 ⟨rfl, hb⟩; have H2 := H.call hb; clear H hb; have H := H2; clear H2))
  go_ret
  exact ⟨rfl, H.below⟩
set_option maxRecDepth 100000 in
set_option maxHeartbeats 2000000 in
theorem rightP_c (A1 A2 : Option Addr) (c1 c2 : Nat) (t : TB) (h0 : 1 ≤ t.q ∧ t.q ≤ 64) (h1 : 1 ≤ t.sp.length ∧ t.sp.length ≤ 16) (h2 : t.cl.length = 16) (w : World) (ht : TbAt w.heap.size w A1 A2 c1 c2 t) (hc : t.cl.all (classOk t.sp.length) = false) : RightP A1 A2 c1 c2 t w false := by
  have H := Mem.start w
  have T := Lib.hid ht
  have k1 := fun w => between_v 1 64 t.q _ (two_yes h0.1 h0.2) w
  have k2 := fun w => between_v 1 16 (t.sp.length : Int) _ (two_yes (by omega) (by omega)) w
  have t4 : ((t.cl.length : Int) == 16) = true := by rw [beq_iff_eq]; omega
  have allI := fun bx w gx h => allInt_p bx A1 A2 c1 c2 t w gx h
  rw [hc] at allI
  clear h0 h1 h2 ht hc
  unfold RightP
  go_enter Try.func58, Try.ntmps58
  go_upto_region 1 with (first
    | ((with_reducible show wpList _ _ _ _ _ (World.alloc _ (.cells _ _))); refine mem_newb H ?_; intro b w3 hbk H2; try rw [← hbk]; clear hbk H; have H := H2; clear H2; simp only [List.cons_append, List.nil_append, List.set_cons_zero, List.set_cons_succ, List.setIfInBounds_toArray] at H))
  go_upto_region 3 with (first
    | ((with_reducible show wpList _ _ _ (⟨_, .load _ _, _, _, _, _⟩ :: _) _ _); refine mem_loadf (i := 0) H (by first | exact wanted_none rfl | exact wanted_some rfl rfl rfl rfl) (by exact rfl) (by exact rfl) (by exact rfl) (by first | exact Try.underlying3 | exact Try.underlying29 | exact Try.underlying30) rfl (by exact rfl) ?_)
    | (go_at_call 59; with_reducible refine (k1 _).mono ?_; rintro e w2 ⟨rfl, hb⟩; have H2 := H.call hb; clear H hb; have H := H2; clear H2)
    | (go_at_call 59; with_reducible refine (k2 _).mono ?_; rintro e w2 ⟨rfl, hb⟩; have H2 := H.call hb; clear H hb; have H := H2; clear H2))
  refine region_mem H 14 rfl (by kernel_rfl) (fun wr hS => ?_)
  clear H
  refine wpAnyR_take (i := 0) (v := (.agg (tbC A1 A2 c1 c2 t))) rfl rfl (by kernel_rfl) (by kernel_rfl) (by kernel_rfl) (fun _ _ _ h => h) (Nat.le_refl _) (yields_held (fun w h => h.at 0 rfl) (by exact rfl) (by exact rfl) (by exact rfl) Try.underlying32 rfl (by exact tbInfo)) hS ?_
  simp only [List.getElem_toArray, List.getElem_cons_zero, List.getElem_cons_succ, Act.put, List.setIfInBounds_toArray, List.set_cons_zero, List.set_cons_succ]
  refine wpAnyR_take (i := 2) (v := (.pointer (some ⟨b, 1, none⟩))) rfl rfl (by kernel_rfl) (by kernel_rfl) (by kernel_rfl) (fun _ _ _ h => h) (Nat.le_refl _) ⟨by rfl, fun w _ => (by go_simp; try (first | rfl | omega)), fun _ => rfl⟩ hS ?_
  simp only [List.getElem_toArray, List.getElem_cons_zero, List.getElem_cons_succ, Act.put, List.setIfInBounds_toArray, List.set_cons_zero, List.set_cons_succ]
  refine wpAnyR_take (i := 3) (v := (.slice A1 t.cl.length c1)) rfl rfl (by kernel_rfl) (by kernel_rfl) (by kernel_rfl) (fun _ _ _ h => h) (Nat.le_refl _) (yields_fld (fun w h => h.at 0 rfl) (by exact rfl) (by exact rfl) (by exact rfl) Try.underlying29 rfl (by exact rfl)) hS ?_
  simp only [List.getElem_toArray, List.getElem_cons_zero, List.getElem_cons_succ, Act.put, List.setIfInBounds_toArray, List.set_cons_zero, List.set_cons_succ]
  refine wpAnyG_one (i := 1) (by kernel_rfl) rfl (fun K hK => ?_)
  go_simp
  refine ⟨trivial, (callsIn_wide.2 (isClass_p A1 A2 c1 c2 t _)).mono ?_⟩
  rintro e w5 ⟨bx, rfl, hm⟩
  have hS5 := hS.call hm.below
  have gbx := hm.at 0 rfl
  refine hK _ _ (.inr hS5) ?_
  clear hK K hS hm
  have hS := hS5
  clear hS5
  refine wpAnyG_one (i := 4) (by kernel_rfl) rfl (fun K hK => ?_)
  go_simp
  refine ⟨trivial, (callsIn_wide.2 (allI bx _ gbx (T.out.mem hS))).mono ?_⟩
  rintro e w5 ⟨rfl, hb⟩
  have hS5 := hS.call hb
  refine hK _ _ (.inr hS5) ?_
  clear hK K hS hb
  have hS := hS5
  clear hS5
  try simp only [List.getElem_toArray, List.getElem_cons_zero, List.getElem_cons_succ, Act.put, List.setIfInBounds_toArray, List.set_cons_zero, List.set_cons_succ]
  refine wpAnyR_take (i := 5) (v := (.bool true)) rfl rfl (by kernel_rfl) (by kernel_rfl) (by kernel_rfl) (fun _ _ _ h => h) (Nat.le_refl _) ⟨by rfl, fun w _ => (by go_simp; try (first | rfl | omega)), fun _ => rfl⟩ hS ?_
  simp only [List.getElem_toArray, List.getElem_cons_zero, List.getElem_cons_succ, Act.put, List.setIfInBounds_toArray, List.set_cons_zero, List.set_cons_succ]
  refine wpAnyR_take (i := 6) (v := (.bool true)) rfl rfl (by kernel_rfl) (by kernel_rfl) (by kernel_rfl) (fun _ _ _ h => h) (Nat.le_refl _) ⟨by rfl, fun w _ => (by go_simp; try (first | rfl | omega)), fun _ => rfl⟩ hS ?_
  simp only [List.getElem_toArray, List.getElem_cons_zero, List.getElem_cons_succ, Act.put, List.setIfInBounds_toArray, List.set_cons_zero, List.set_cons_succ]
  refine wpAnyU_take (i := 7) rfl (fun _ => trivial) rfl (by kernel_rfl) (by kernel_rfl) (by kernel_rfl) (fun _ _ _ h => h) (Nat.le_refl _) (by rfl) hS ?_
  simp only [List.getElem_toArray, List.getElem_cons_zero, List.getElem_cons_succ, Act.put, List.setIfInBounds_toArray, List.set_cons_zero, List.set_cons_succ]
  refine wpAnyU_take (i := 8) rfl (fun _ => trivial) rfl (by kernel_rfl) (by kernel_rfl) (by kernel_rfl) (fun _ _ _ h => h) (Nat.le_refl _) (by rfl) hS ?_
  simp only [List.getElem_toArray, List.getElem_cons_zero, List.getElem_cons_succ, Act.put, List.setIfInBounds_toArray, List.set_cons_zero, List.set_cons_succ]
  refine wpAnyU_take (i := 9) rfl (fun _ => trivial) rfl (by kernel_rfl) (by kernel_rfl) (by kernel_rfl) (fun _ _ _ h => h) (Nat.le_refl _) (by rfl) hS ?_
  simp only [List.getElem_toArray, List.getElem_cons_zero, List.getElem_cons_succ, Act.put, List.setIfInBounds_toArray, List.set_cons_zero, List.set_cons_succ]
  refine wpAnyU_take (i := 10) rfl (fun _ => trivial) rfl (by kernel_rfl) (by kernel_rfl) (by kernel_rfl) (fun _ _ _ h => h) (Nat.le_refl _) (by rfl) hS ?_
  simp only [List.getElem_toArray, List.getElem_cons_zero, List.getElem_cons_succ, Act.put, List.setIfInBounds_toArray, List.set_cons_zero, List.set_cons_succ]
  refine wpAnyU_take (i := 11) rfl (fun _ => trivial) rfl (by kernel_rfl) (by kernel_rfl) (by kernel_rfl) (fun _ _ _ h => h) (Nat.le_refl _) (by rfl) hS ?_
  simp only [List.getElem_toArray, List.getElem_cons_zero, List.getElem_cons_succ, Act.put, List.setIfInBounds_toArray, List.set_cons_zero, List.set_cons_succ]
  refine wpAnyU_take (i := 12) rfl (fun _ => trivial) rfl (by kernel_rfl) (by kernel_rfl) (by kernel_rfl) (fun _ _ _ h => h) (Nat.le_refl _) (by rfl) hS ?_
  simp only [List.getElem_toArray, List.getElem_cons_zero, List.getElem_cons_succ, Act.put, List.setIfInBounds_toArray, List.set_cons_zero, List.set_cons_succ]
  refine wpAnyG_one (i := 13) (by kernel_rfl) rfl (fun K hK => ?_)
  go_simp
  refine hK _ _ (.inr hS) ?_
  clear hK K
  refine wpAnyG_done (by kernel_rfl) ?_ _
  have H := hS
  clear hS
  go_wp2
  go_ret
  exact ⟨rfl, H.below⟩
set_option maxRecDepth 100000 in
set_option maxHeartbeats 2000000 in
theorem rightP_s (A1 A2 : Option Addr) (c1 c2 : Nat) (t : TB) (h0 : 1 ≤ t.q ∧ t.q ≤ 64) (h1 : 1 ≤ t.sp.length ∧ t.sp.length ≤ 16) (h2 : t.cl.length = 16) (w : World) (ht : TbAt w.heap.size w A1 A2 c1 c2 t) (hc : t.cl.all (classOk t.sp.length) = true) (ha : t.sp.all (spanOk t.q) = false) : RightP A1 A2 c1 c2 t w false := by
  have H := Mem.start w
  have T := Lib.hid ht
  have k1 := fun w => between_v 1 64 t.q _ (two_yes h0.1 h0.2) w
  have k2 := fun w => between_v 1 16 (t.sp.length : Int) _ (two_yes (by omega) (by omega)) w
  have t4 : ((t.cl.length : Int) == 16) = true := by rw [beq_iff_eq]; omega
  have allI := fun bx w gx h => allInt_p bx A1 A2 c1 c2 t w gx h
  have allS := fun bx w gx h => allSpan_p bx A1 A2 c1 c2 t w gx h h0
  rw [hc] at allI
  rw [ha] at allS
  clear h0 h1 h2 ht hc ha
  unfold RightP
  go_enter Try.func58, Try.ntmps58
  go_upto_region 1 with (first
    | ((with_reducible show wpList _ _ _ _ _ (World.alloc _ (.cells _ _))); refine mem_newb H ?_; intro b w3 hbk H2; try rw [← hbk]; clear hbk H; have H := H2; clear H2; simp only [List.cons_append, List.nil_append, List.set_cons_zero, List.set_cons_succ, List.setIfInBounds_toArray] at H))
  go_upto_region 3 with (first
    | ((with_reducible show wpList _ _ _ (⟨_, .load _ _, _, _, _, _⟩ :: _) _ _); refine mem_loadf (i := 0) H (by first | exact wanted_none rfl | exact wanted_some rfl rfl rfl rfl) (by exact rfl) (by exact rfl) (by exact rfl) (by first | exact Try.underlying3 | exact Try.underlying29 | exact Try.underlying30) rfl (by exact rfl) ?_)
    | (go_at_call 59; with_reducible refine (k1 _).mono ?_; rintro e w2 ⟨rfl, hb⟩; have H2 := H.call hb; clear H hb; have H := H2; clear H2)
    | (go_at_call 59; with_reducible refine (k2 _).mono ?_; rintro e w2 ⟨rfl, hb⟩; have H2 := H.call hb; clear H hb; have H := H2; clear H2))
  refine region_mem H 14 rfl (by kernel_rfl) (fun wr hS => ?_)
  clear H
  refine wpAnyR_take (i := 0) (v := (.agg (tbC A1 A2 c1 c2 t))) rfl rfl (by kernel_rfl) (by kernel_rfl) (by kernel_rfl) (fun _ _ _ h => h) (Nat.le_refl _) (yields_held (fun w h => h.at 0 rfl) (by exact rfl) (by exact rfl) (by exact rfl) Try.underlying32 rfl (by exact tbInfo)) hS ?_
  simp only [List.getElem_toArray, List.getElem_cons_zero, List.getElem_cons_succ, Act.put, List.setIfInBounds_toArray, List.set_cons_zero, List.set_cons_succ]
  refine wpAnyR_take (i := 2) (v := (.pointer (some ⟨b, 1, none⟩))) rfl rfl (by kernel_rfl) (by kernel_rfl) (by kernel_rfl) (fun _ _ _ h => h) (Nat.le_refl _) ⟨by rfl, fun w _ => (by go_simp; try (first | rfl | omega)), fun _ => rfl⟩ hS ?_
  simp only [List.getElem_toArray, List.getElem_cons_zero, List.getElem_cons_succ, Act.put, List.setIfInBounds_toArray, List.set_cons_zero, List.set_cons_succ]
  refine wpAnyR_take (i := 3) (v := (.slice A1 t.cl.length c1)) rfl rfl (by kernel_rfl) (by kernel_rfl) (by kernel_rfl) (fun _ _ _ h => h) (Nat.le_refl _) (yields_fld (fun w h => h.at 0 rfl) (by exact rfl) (by exact rfl) (by exact rfl) Try.underlying29 rfl (by exact rfl)) hS ?_
  simp only [List.getElem_toArray, List.getElem_cons_zero, List.getElem_cons_succ, Act.put, List.setIfInBounds_toArray, List.set_cons_zero, List.set_cons_succ]
  refine wpAnyG_one (i := 1) (by kernel_rfl) rfl (fun K hK => ?_)
  go_simp
  refine ⟨trivial, (callsIn_wide.2 (isClass_p A1 A2 c1 c2 t _)).mono ?_⟩
  rintro e w5 ⟨bx, rfl, hm⟩
  have hS5 := hS.call hm.below
  have gbx := hm.at 0 rfl
  refine hK _ _ (.inr hS5) ?_
  clear hK K hS hm
  have hS := hS5
  clear hS5
  refine wpAnyG_one (i := 4) (by kernel_rfl) rfl (fun K hK => ?_)
  go_simp
  refine ⟨trivial, (callsIn_wide.2 (allI bx _ gbx (T.out.mem hS))).mono ?_⟩
  rintro e w5 ⟨rfl, hb⟩
  have hS5 := hS.call hb
  refine hK _ _ (.inr hS5) ?_
  clear hK K hS hb
  have hS := hS5
  clear hS5
  try simp only [List.getElem_toArray, List.getElem_cons_zero, List.getElem_cons_succ, Act.put, List.setIfInBounds_toArray, List.set_cons_zero, List.set_cons_succ]
  refine wpAnyR_take (i := 5) (v := (.bool false)) rfl rfl (by kernel_rfl) (by kernel_rfl) (by kernel_rfl) (fun _ _ _ h => h) (Nat.le_refl _) ⟨by rfl, fun w _ => (by go_simp; try (first | rfl | omega)), fun _ => rfl⟩ hS ?_
  simp only [List.getElem_toArray, List.getElem_cons_zero, List.getElem_cons_succ, Act.put, List.setIfInBounds_toArray, List.set_cons_zero, List.set_cons_succ]
  refine wpAnyR_take (i := 6) (v := (.bool false)) rfl rfl (by kernel_rfl) (by kernel_rfl) (by kernel_rfl) (fun _ _ _ h => h) (Nat.le_refl _) ⟨by rfl, fun w _ => (by go_simp; try (first | rfl | omega)), fun _ => rfl⟩ hS ?_
  simp only [List.getElem_toArray, List.getElem_cons_zero, List.getElem_cons_succ, Act.put, List.setIfInBounds_toArray, List.set_cons_zero, List.set_cons_succ]
  refine wpAnyR_take (i := 7) (v := (.agg (tbC A1 A2 c1 c2 t))) rfl rfl (by kernel_rfl) (by kernel_rfl) (by kernel_rfl) (fun _ _ _ h => h) (Nat.le_refl _) (yields_held (fun w h => h.at 0 rfl) (by exact rfl) (by exact rfl) (by exact rfl) Try.underlying32 rfl (by exact tbInfo)) hS ?_
  simp only [List.getElem_toArray, List.getElem_cons_zero, List.getElem_cons_succ, Act.put, List.setIfInBounds_toArray, List.set_cons_zero, List.set_cons_succ]
  refine wpAnyR_take (i := 9) (v := (.pointer (some ⟨b, 2, none⟩))) rfl rfl (by kernel_rfl) (by kernel_rfl) (by kernel_rfl) (fun _ _ _ h => h) (Nat.le_refl _) ⟨by rfl, fun w _ => (by go_simp; try (first | rfl | omega)), fun _ => rfl⟩ hS ?_
  simp only [List.getElem_toArray, List.getElem_cons_zero, List.getElem_cons_succ, Act.put, List.setIfInBounds_toArray, List.set_cons_zero, List.set_cons_succ]
  refine wpAnyR_take (i := 10) (v := (.slice A2 t.sp.length c2)) rfl rfl (by kernel_rfl) (by kernel_rfl) (by kernel_rfl) (fun _ _ _ h => h) (Nat.le_refl _) (yields_fld (fun w h => h.at 0 rfl) (by exact rfl) (by exact rfl) (by exact rfl) Try.underlying30 rfl (by exact rfl)) hS ?_
  simp only [List.getElem_toArray, List.getElem_cons_zero, List.getElem_cons_succ, Act.put, List.setIfInBounds_toArray, List.set_cons_zero, List.set_cons_succ]
  refine wpAnyG_one (i := 8) (by kernel_rfl) rfl (fun K hK => ?_)
  go_simp
  refine ⟨trivial, (callsIn_wide.2 (fits_p A1 A2 c1 c2 t _)).mono ?_⟩
  rintro e w5 ⟨bf, rfl, hm⟩
  have hS5 := hS.call hm.below
  have gbf := hm.at 0 rfl
  refine hK _ _ (.inr hS5) ?_
  clear hK K hS hm
  have hS := hS5
  clear hS5
  refine wpAnyG_one (i := 11) (by kernel_rfl) rfl (fun K hK => ?_)
  go_simp
  refine ⟨trivial, (callsIn_wide.2 (allS bf _ gbf (T.out.mem hS))).mono ?_⟩
  rintro e w5 ⟨rfl, hb⟩
  have hS5 := hS.call hb
  refine hK _ _ (.inr hS5) ?_
  clear hK K hS hb
  have hS := hS5
  clear hS5
  try simp only [List.getElem_toArray, List.getElem_cons_zero, List.getElem_cons_succ, Act.put, List.setIfInBounds_toArray, List.set_cons_zero, List.set_cons_succ]
  refine wpAnyR_take (i := 12) (v := (.bool true)) rfl rfl (by kernel_rfl) (by kernel_rfl) (by kernel_rfl) (fun _ _ _ h => h) (Nat.le_refl _) ⟨by rfl, fun w _ => (by go_simp; try (first | rfl | omega)), fun _ => rfl⟩ hS ?_
  simp only [List.getElem_toArray, List.getElem_cons_zero, List.getElem_cons_succ, Act.put, List.setIfInBounds_toArray, List.set_cons_zero, List.set_cons_succ]
  refine wpAnyG_one (i := 13) (by kernel_rfl) rfl (fun K hK => ?_)
  go_simp
  refine hK _ _ (.inr hS) ?_
  clear hK K
  refine wpAnyG_done (by kernel_rfl) ?_ _
  have H := hS
  clear hS
  go_wp2
  go_ret
  exact ⟨rfl, H.below⟩
set_option maxRecDepth 100000 in
set_option maxHeartbeats 2000000 in
theorem rightP_o (A1 A2 : Option Addr) (c1 c2 : Nat) (t : TB) (hq : 1 ≤ t.q ∧ t.q ≤ 64) (h1 : 1 ≤ t.sp.length ∧ t.sp.length ≤ 16) (h2 : t.cl.length = 16) (w : World) (ht : TbAt w.heap.size w A1 A2 c1 c2 t) (hc : t.cl.all (classOk t.sp.length) = true) (ha : t.sp.all (spanOk t.q) = true) : RightP A1 A2 c1 c2 t w t.ok2 := by
  have H := Mem.start w
  have T := Lib.hid ht
  have k1 := fun w => between_v 1 64 t.q _ (two_yes hq.1 hq.2) w
  have k2 := fun w => between_v 1 16 (t.sp.length : Int) _ (two_yes (by omega) (by omega)) w
  have t4 : ((t.cl.length : Int) == 16) = true := by rw [beq_iff_eq]; omega
  have allI := fun bx w gx h => allInt_p bx A1 A2 c1 c2 t w gx h
  have allS := fun bx w gx h => allSpan_p bx A1 A2 c1 c2 t w gx h hq
  rw [hc] at allI
  rw [ha] at allS
  clear h1 h2 ht hc
  unfold RightP
  go_enter Try.func58, Try.ntmps58
  go_upto_region 1 with (first
    | ((with_reducible show wpList _ _ _ _ _ (World.alloc _ (.cells _ _))); refine mem_newb H ?_; intro b w3 hbk H2; try rw [← hbk]; clear hbk H; have H := H2; clear H2; simp only [List.cons_append, List.nil_append, List.set_cons_zero, List.set_cons_succ, List.setIfInBounds_toArray] at H))
  go_upto_region 3 with (first
    | ((with_reducible show wpList _ _ _ (⟨_, .load _ _, _, _, _, _⟩ :: _) _ _); refine mem_loadf (i := 0) H (by first | exact wanted_none rfl | exact wanted_some rfl rfl rfl rfl) (by exact rfl) (by exact rfl) (by exact rfl) (by first | exact Try.underlying3 | exact Try.underlying29 | exact Try.underlying30) rfl (by exact rfl) ?_)
    | (go_at_call 59; with_reducible refine (k1 _).mono ?_; rintro e w2 ⟨rfl, hb⟩; have H2 := H.call hb; clear H hb; have H := H2; clear H2)
    | (go_at_call 59; with_reducible refine (k2 _).mono ?_; rintro e w2 ⟨rfl, hb⟩; have H2 := H.call hb; clear H hb; have H := H2; clear H2))
  refine region_mem H 14 rfl (by kernel_rfl) (fun wr hS => ?_)
  clear H
  refine wpAnyR_take (i := 0) (v := (.agg (tbC A1 A2 c1 c2 t))) rfl rfl (by kernel_rfl) (by kernel_rfl) (by kernel_rfl) (fun _ _ _ h => h) (Nat.le_refl _) (yields_held (fun w h => h.at 0 rfl) (by exact rfl) (by exact rfl) (by exact rfl) Try.underlying32 rfl (by exact tbInfo)) hS ?_
  simp only [List.getElem_toArray, List.getElem_cons_zero, List.getElem_cons_succ, Act.put, List.setIfInBounds_toArray, List.set_cons_zero, List.set_cons_succ]
  refine wpAnyR_take (i := 2) (v := (.pointer (some ⟨b, 1, none⟩))) rfl rfl (by kernel_rfl) (by kernel_rfl) (by kernel_rfl) (fun _ _ _ h => h) (Nat.le_refl _) ⟨by rfl, fun w _ => (by go_simp; try (first | rfl | omega)), fun _ => rfl⟩ hS ?_
  simp only [List.getElem_toArray, List.getElem_cons_zero, List.getElem_cons_succ, Act.put, List.setIfInBounds_toArray, List.set_cons_zero, List.set_cons_succ]
  refine wpAnyR_take (i := 3) (v := (.slice A1 t.cl.length c1)) rfl rfl (by kernel_rfl) (by kernel_rfl) (by kernel_rfl) (fun _ _ _ h => h) (Nat.le_refl _) (yields_fld (fun w h => h.at 0 rfl) (by exact rfl) (by exact rfl) (by exact rfl) Try.underlying29 rfl (by exact rfl)) hS ?_
  simp only [List.getElem_toArray, List.getElem_cons_zero, List.getElem_cons_succ, Act.put, List.setIfInBounds_toArray, List.set_cons_zero, List.set_cons_succ]
  refine wpAnyG_one (i := 1) (by kernel_rfl) rfl (fun K hK => ?_)
  go_simp
  refine ⟨trivial, (callsIn_wide.2 (isClass_p A1 A2 c1 c2 t _)).mono ?_⟩
  rintro e w5 ⟨bx, rfl, hm⟩
  have hS5 := hS.call hm.below
  have gbx := hm.at 0 rfl
  refine hK _ _ (.inr hS5) ?_
  clear hK K hS hm
  have hS := hS5
  clear hS5
  refine wpAnyG_one (i := 4) (by kernel_rfl) rfl (fun K hK => ?_)
  go_simp
  refine ⟨trivial, (callsIn_wide.2 (allI bx _ gbx (T.out.mem hS))).mono ?_⟩
  rintro e w5 ⟨rfl, hb⟩
  have hS5 := hS.call hb
  refine hK _ _ (.inr hS5) ?_
  clear hK K hS hb
  have hS := hS5
  clear hS5
  try simp only [List.getElem_toArray, List.getElem_cons_zero, List.getElem_cons_succ, Act.put, List.setIfInBounds_toArray, List.set_cons_zero, List.set_cons_succ]
  refine wpAnyR_take (i := 5) (v := (.bool false)) rfl rfl (by kernel_rfl) (by kernel_rfl) (by kernel_rfl) (fun _ _ _ h => h) (Nat.le_refl _) ⟨by rfl, fun w _ => (by go_simp; try (first | rfl | omega)), fun _ => rfl⟩ hS ?_
  simp only [List.getElem_toArray, List.getElem_cons_zero, List.getElem_cons_succ, Act.put, List.setIfInBounds_toArray, List.set_cons_zero, List.set_cons_succ]
  refine wpAnyR_take (i := 6) (v := (.bool false)) rfl rfl (by kernel_rfl) (by kernel_rfl) (by kernel_rfl) (fun _ _ _ h => h) (Nat.le_refl _) ⟨by rfl, fun w _ => (by go_simp; try (first | rfl | omega)), fun _ => rfl⟩ hS ?_
  simp only [List.getElem_toArray, List.getElem_cons_zero, List.getElem_cons_succ, Act.put, List.setIfInBounds_toArray, List.set_cons_zero, List.set_cons_succ]
  refine wpAnyR_take (i := 7) (v := (.agg (tbC A1 A2 c1 c2 t))) rfl rfl (by kernel_rfl) (by kernel_rfl) (by kernel_rfl) (fun _ _ _ h => h) (Nat.le_refl _) (yields_held (fun w h => h.at 0 rfl) (by exact rfl) (by exact rfl) (by exact rfl) Try.underlying32 rfl (by exact tbInfo)) hS ?_
  simp only [List.getElem_toArray, List.getElem_cons_zero, List.getElem_cons_succ, Act.put, List.setIfInBounds_toArray, List.set_cons_zero, List.set_cons_succ]
  refine wpAnyR_take (i := 9) (v := (.pointer (some ⟨b, 2, none⟩))) rfl rfl (by kernel_rfl) (by kernel_rfl) (by kernel_rfl) (fun _ _ _ h => h) (Nat.le_refl _) ⟨by rfl, fun w _ => (by go_simp; try (first | rfl | omega)), fun _ => rfl⟩ hS ?_
  simp only [List.getElem_toArray, List.getElem_cons_zero, List.getElem_cons_succ, Act.put, List.setIfInBounds_toArray, List.set_cons_zero, List.set_cons_succ]
  refine wpAnyR_take (i := 10) (v := (.slice A2 t.sp.length c2)) rfl rfl (by kernel_rfl) (by kernel_rfl) (by kernel_rfl) (fun _ _ _ h => h) (Nat.le_refl _) (yields_fld (fun w h => h.at 0 rfl) (by exact rfl) (by exact rfl) (by exact rfl) Try.underlying30 rfl (by exact rfl)) hS ?_
  simp only [List.getElem_toArray, List.getElem_cons_zero, List.getElem_cons_succ, Act.put, List.setIfInBounds_toArray, List.set_cons_zero, List.set_cons_succ]
  refine wpAnyG_one (i := 8) (by kernel_rfl) rfl (fun K hK => ?_)
  go_simp
  refine ⟨trivial, (callsIn_wide.2 (fits_p A1 A2 c1 c2 t _)).mono ?_⟩
  rintro e w5 ⟨bf, rfl, hm⟩
  have hS5 := hS.call hm.below
  have gbf := hm.at 0 rfl
  refine hK _ _ (.inr hS5) ?_
  clear hK K hS hm
  have hS := hS5
  clear hS5
  refine wpAnyG_one (i := 11) (by kernel_rfl) rfl (fun K hK => ?_)
  go_simp
  refine ⟨trivial, (callsIn_wide.2 (allS bf _ gbf (T.out.mem hS))).mono ?_⟩
  rintro e w5 ⟨rfl, hb⟩
  have hS5 := hS.call hb
  refine hK _ _ (.inr hS5) ?_
  clear hK K hS hb
  have hS := hS5
  clear hS5
  try simp only [List.getElem_toArray, List.getElem_cons_zero, List.getElem_cons_succ, Act.put, List.setIfInBounds_toArray, List.set_cons_zero, List.set_cons_succ]
  refine wpAnyR_take (i := 12) (v := (.bool false)) rfl rfl (by kernel_rfl) (by kernel_rfl) (by kernel_rfl) (fun _ _ _ h => h) (Nat.le_refl _) ⟨by rfl, fun w _ => (by go_simp; try (first | rfl | omega)), fun _ => rfl⟩ hS ?_
  simp only [List.getElem_toArray, List.getElem_cons_zero, List.getElem_cons_succ, Act.put, List.setIfInBounds_toArray, List.set_cons_zero, List.set_cons_succ]
  refine wpAnyG_one (i := 13) (by kernel_rfl) rfl (fun K hK => ?_)
  go_simp
  refine hK _ _ (.inr hS) ?_
  clear hK K
  refine wpAnyG_done (by kernel_rfl) ?_ _
  have H := hS
  clear hS
  go_wp2_with (first
    | ((with_reducible show wpList _ _ _ (⟨_, .load 32 _, _, _, _, _⟩ :: _) _ _); refine mem_load (i := 0) H (by first | exact wanted_none rfl | exact wanted_some rfl rfl rfl rfl) (by exact rfl) (by exact rfl) (by exact rfl) Try.underlying32 rfl (by exact tbInfo) ?_)
    | (go_at_call 69; refine (owners_p A1 A2 c1 c2 t _ (T.out.mem H) hq ha).mono ?_; rintro e w2 ⟨f, v, rfl, hO, hb⟩; have H2 := H.call hb; clear H hb; have H := H2; clear H2)
    | ((with_reducible show wpList _ _ _ (⟨_, .store 118 _ _, _, _, _, _⟩ :: _) _ _); refine mem_store (i := 1) H (by first | exact wanted_none rfl | exact wanted_some rfl rfl rfl rfl) (by exact rfl) (by exact rfl) (by exact rfl) (by exact rfl) (by exact infoBy _) (by exact rfl) (byV_one _) ?_; intro w2 H2; clear H; have H := H2; clear H2; simp only [List.cons_append, List.nil_append, List.set_cons_zero, List.set_cons_succ, List.setIfInBounds_toArray] at H)
    | ((with_reducible show wpList _ _ _ _ _ (World.alloc _ (.cells _ _))); refine mem_new H ?_; intro w2 H2; clear H; have H := H2; clear H2; simp only [List.cons_append, List.nil_append, List.set_cons_zero, List.set_cons_succ, List.setIfInBounds_toArray] at H))
  go_ret
  exact ⟨by rw [TB.ok2, ← hO.1]; rfl, H.below⟩
theorem right_p (A1 A2 : Option Addr) (c1 c2 : Nat) (t : TB) (w : World) (ht : TbAt w.heap.size w A1 A2 c1 c2 t) (hf : Few t) : RightP A1 A2 c1 c2 t w t.right := by
  have no : t.ok0 = false → t.right = false := fun h => by simp [TB.right, h]
  have ok0 : t.ok0 = true ↔ (1 ≤ t.q ∧ t.q ≤ 64) ∧ (1 ≤ t.sp.length ∧ t.sp.length ≤ 16) ∧ t.cl.length = 16 := by
    simp only [TB.ok0, Bool.and_eq_true, decide_eq_true_eq]
    omega
  by_cases h0 : 1 ≤ t.q ∧ t.q ≤ 64
  · by_cases h1 : 1 ≤ t.sp.length ∧ t.sp.length ≤ 16
    · by_cases h2 : t.cl.length = 16
      · have hok : t.ok0 = true := ok0.2 ⟨h0, h1, h2⟩
        rcases hc : t.cl.all (classOk t.sp.length) with _ | _
        · rw [show t.right = false by simp only [TB.right, TB.ok3, hc, Bool.and_false]]
          exact rightP_c A1 A2 c1 c2 t h0 h1 h2 w ht hc
        · rcases ha : t.sp.all (spanOk t.q) with _ | _
          · rw [show t.right = false by simp only [TB.right, TB.ok1, ha, Bool.and_false, Bool.false_and]]
            exact rightP_s A1 A2 c1 c2 t h0 h1 h2 w ht hc ha
          · rw [show t.right = t.ok2 by simp only [TB.right, hok, TB.ok1, TB.ok3, hc, ha, Bool.true_and, Bool.and_true]]
            exact rightP_o A1 A2 c1 c2 t h0 h1 h2 w ht hc ha
      · rw [no (by rw [← Bool.not_eq_true, ok0]; exact fun h => h2 h.2.2)]
        exact rightP_m A1 A2 c1 c2 t h0 h1 h2 w
    · rw [no (by rw [← Bool.not_eq_true, ok0]; exact fun h => h1 h.2.1)]
      exact rightP_n A1 A2 c1 c2 t h0 h1 w
  · rw [no (by rw [← Bool.not_eq_true, ok0]; exact fun h => h0 h.1)]
    exact rightP_q A1 A2 c1 c2 t h0 w
end Go.Proofs.Ytaoaapbbadipfaa
end
/- The program's ClassOf, SpanOf, Owner. Conditions: the table lies where its value says. -/
section
namespace Go.Proofs.Ytaoaapbbadipfaa
set_option linter.unusedSimpArgs false
set_option linter.unusedVariables false
set_option maxRecDepth 100000
open Go.ChangeShapes Go.WideShapes Go.ChangeAt Go.RowKit Go.Shelf

set_option maxRecDepth 100000 in
set_option maxHeartbeats 2000000 in
theorem classOf_p (A1 A2 : Option Addr) (c1 c2 : Nat) (t : TB) (p : Int) (w : World) (ht : TbAt w.heap.size w A1 A2 c1 c2 t) (hf : Few t) : Calls Try.prog 55 #[.agg (tbC A1 A2 c1 c2 t), .int .i64 p] w fun e w' => e = .returned (.tuple #[.int .i64 (t.clsV p), .int .i64 (t.clsE p)]) ∧ Below w.heap.size w w' := by
  have H := Mem.start w
  have T := Lib.hid ht
  have cr := fun w h => right_p A1 A2 c1 c2 t w h hf
  have l1 := ht.l1
  have l2 := ht.l2
  clear ht hf
  rcases hr : t.right with _ | _
  · rw [hr] at cr
    have e1 : t.clsV p = 0 := by simp [TB.clsV, hr]
    have e2 : t.clsE p = 80 := by simp [TB.clsE, hr]
    rw [e1, e2]
    clear hr e1 e2
    unfold RightP at *
    go_enter Try.func55, Try.ntmps55
    go_upto_region 1 with (first
    | ((with_reducible show wpList _ _ _ _ _ (World.alloc _ (.cells _ _))); refine mem_newb H ?_; intro b w3 hbk H2; try rw [← hbk]; clear hbk H; have H := H2; clear H2; simp only [List.cons_append, List.nil_append, List.set_cons_zero, List.set_cons_succ, List.setIfInBounds_toArray] at H))
    go_wp2_with (first
      | ((with_reducible show wpList _ _ _ (⟨_, .load 32 _, _, _, _, _⟩ :: _) _ _); refine mem_load (i := 0) H (by first | exact wanted_none rfl | exact wanted_some rfl rfl rfl rfl) (by exact rfl) (by exact rfl) (by exact rfl) Try.underlying32 rfl (by exact tbInfo) ?_)
      | (go_at_call 58; with_reducible refine (cr _ (T.out.mem H)).mono ?_; rintro e w2 ⟨rfl, hb⟩; have H2 := H.call hb; clear H hb; have H := H2; clear H2))
    refine bodyPost_ret (results_two rfl _ _ _) rfl ?_
    exact ⟨rfl, H.below⟩
  rw [hr] at cr
  have hk := (TB.right_iff t).1 hr
  have hm := hk.m
  by_cases h0 : 0 ≤ p ∧ p ≤ 15
  · have cb := fun w => between_v 0 15 p _ (two_yes h0.1 h0.2) w
    obtain ⟨k, rfl⟩ := Int.eq_ofNat_of_zero_le h0.1
    obtain ⟨x, hx⟩ : ∃ x, t.cl[k]? = some x := ⟨t.cl[k]'(by omega), List.getElem?_eq_getElem _⟩
    have e1 : t.clsV k = x := by rw [TB.clsV, if_pos ⟨hr, by omega, by omega⟩, Int.toNat_natCast, List.getD_eq_getElem?_getD, hx]; rfl
    have e2 : t.clsE k = 0 := by rw [TB.clsE, if_pos hr, if_pos (by omega)]
    rw [e1, e2]
    obtain ⟨b3, o3, rfl, hB, ca0⟩ := T.out.cl k x hx
    have CA := Lib.hid ca0
    have hkl : (k : Int) < (t.cl.length : Int) := by omega
    clear hr e1 e2 hk hx ca0 hm
    unfold RightP at *
    go_enter Try.func55, Try.ntmps55
    go_upto_region 1 with (first
    | ((with_reducible show wpList _ _ _ _ _ (World.alloc _ (.cells _ _))); refine mem_newb H ?_; intro b w3 hbk H2; try rw [← hbk]; clear hbk H; have H := H2; clear H2; simp only [List.cons_append, List.nil_append, List.set_cons_zero, List.set_cons_succ, List.setIfInBounds_toArray] at H))
    go_upto_region 5 with (first
    | ((with_reducible show wpList _ _ _ (⟨_, .load 32 _, _, _, _, _⟩ :: _) _ _); refine mem_load (i := 0) H (by first | exact wanted_none rfl | exact wanted_some rfl rfl rfl rfl) (by exact rfl) (by exact rfl) (by exact rfl) Try.underlying32 rfl (by exact tbInfo) ?_)
    | (go_at_call 58; with_reducible refine (cr _ (T.out.mem H)).mono ?_; rintro e w2 ⟨rfl, hb⟩; have H2 := H.call hb; clear H hb; have H := H2; clear H2)
    | (go_at_call 59; with_reducible refine (cb _).mono ?_; rintro e w2 ⟨rfl, hb⟩; have H2 := H.call hb; clear H hb; have H := H2; clear H2))
    have ca : w2.cell? ⟨b3, o3 + k, none⟩ = some (.int .i64 x) := (H.old hB).trans CA.out
    go_wp2_with (first
      | ((with_reducible show wpList _ _ _ (⟨_, .load _ _, _, _, _, _⟩ :: _) _ _); refine mem_loadf (i := 0) H (by first | exact wanted_none rfl | exact wanted_some rfl rfl rfl rfl) (by exact rfl) (by exact rfl) (by exact rfl) (by first | exact Try.underlying3 | exact Try.underlying29 | exact Try.underlying30) rfl (by exact rfl) ?_))
    refine bodyPost_ret (results_two rfl _ _ _) rfl ?_
    exact ⟨rfl, H.below⟩
  · have cb := fun w => between_v 0 15 p _ (two_no h0) w
    have e1 : t.clsV p = 0 := if_neg (by omega)
    have e2 : t.clsE p = 2 := by rw [TB.clsE, if_pos hr, if_neg (by omega)]
    rw [e1, e2]
    clear hr e1 e2 hk hm
    unfold RightP at *
    go_enter Try.func55, Try.ntmps55
    go_upto_region 1 with (first
    | ((with_reducible show wpList _ _ _ _ _ (World.alloc _ (.cells _ _))); refine mem_newb H ?_; intro b w3 hbk H2; try rw [← hbk]; clear hbk H; have H := H2; clear H2; simp only [List.cons_append, List.nil_append, List.set_cons_zero, List.set_cons_succ, List.setIfInBounds_toArray] at H))
    go_wp2_with (first
      | ((with_reducible show wpList _ _ _ (⟨_, .load 32 _, _, _, _, _⟩ :: _) _ _); refine mem_load (i := 0) H (by first | exact wanted_none rfl | exact wanted_some rfl rfl rfl rfl) (by exact rfl) (by exact rfl) (by exact rfl) Try.underlying32 rfl (by exact tbInfo) ?_)
      | (go_at_call 58; with_reducible refine (cr _ (T.out.mem H)).mono ?_; rintro e w2 ⟨rfl, hb⟩; have H2 := H.call hb; clear H hb; have H := H2; clear H2)
      | (go_at_call 59; with_reducible refine (cb _).mono ?_; rintro e w2 ⟨rfl, hb⟩; have H2 := H.call hb; clear H hb; have H := H2; clear H2)
      | ((with_reducible show wpList _ _ _ (⟨_, .load _ _, _, _, _, _⟩ :: _) _ _); refine mem_loadf (i := 0) H (by first | exact wanted_none rfl | exact wanted_some rfl rfl rfl rfl) (by exact rfl) (by exact rfl) (by exact rfl) (by first | exact Try.underlying3 | exact Try.underlying29 | exact Try.underlying30) rfl (by exact rfl) ?_))
    refine bodyPost_ret (results_two rfl _ _ _) rfl ?_
    exact ⟨rfl, H.below⟩
theorem right_parts {t : TB} (h : t.right = true) : t.sp.all (spanOk t.q) = true ∧ (List.range t.q.toNat).all (fun k => onceB t.sp k) = true := by
  simp only [TB.right, TB.ok1, TB.ok2, Bool.and_eq_true] at h
  exact ⟨h.1.1.2, h.1.2⟩
set_option maxRecDepth 100000 in
set_option maxHeartbeats 1000000 in
theorem spanOf_p (A1 A2 : Option Addr) (c1 c2 : Nat) (t : TB) (p : Int) (w : World) (ht : TbAt w.heap.size w A1 A2 c1 c2 t) (hf : Few t) : Calls Try.prog 47 #[.agg (tbC A1 A2 c1 c2 t), .int .i64 p] w fun e w' => e = .returned (.tuple #[spv (t.spnV p), .int .i64 (t.clsE p)]) ∧ Below w.heap.size w w' := by
  have H := Mem.start w
  have T := Lib.hid ht
  have cc := fun w h => classOf_p A1 A2 c1 c2 t p w h hf
  have l1 := ht.l1
  have l2 := ht.l2
  clear ht hf
  rcases hr : t.right with _ | _
  · have e0 : t.spnV p = (0, 0) := if_neg (by simp [hr])
    have e1 : t.clsV p = 0 := if_neg (by simp [hr])
    have e2 : t.clsE p = 80 := by rw [TB.clsE, if_neg (by simp [hr])]
    rw [e1, e2] at cc
    rw [e0, e2]
    clear e0 e1 e2 hr
    unfold tbC at *
    go_enter Try.func47, Try.ntmps47
    go_upto_region 1 with (first
    | ((with_reducible show wpList _ _ _ _ _ (World.alloc _ (.cells _ _))); refine mem_newb (l := []) H ?_; intro b w3 hbk H2; try rw [← hbk]; clear hbk H; have H := H2; clear H2; simp only [List.cons_append, List.nil_append, List.set_cons_zero, List.set_cons_succ, List.setIfInBounds_toArray] at H)
    | ((with_reducible show wpList _ _ _ _ _ (World.alloc _ (.cells _ _))); refine mem_newb (l := [_]) H ?_; intro bs w3 hbk H2; try rw [← hbk]; clear hbk H; have H := H2; clear H2; simp only [List.cons_append, List.nil_append, List.set_cons_zero, List.set_cons_succ, List.setIfInBounds_toArray] at H))
    go_wp2_with (first
    | go_skip
    | ((with_reducible show wpList _ _ _ (⟨_, .load 32 _, _, _, _, _⟩ :: _) _ _); refine mem_load (i := 0) H (by first | exact wanted_none rfl | exact wanted_some rfl rfl rfl rfl) (by exact rfl) (by exact rfl) (by exact rfl) Try.underlying32 rfl (by exact tbInfo) ?_)
    | ((with_reducible show wpList _ _ _ (⟨_, .load _ _, _, _, _, _⟩ :: _) _ _); refine mem_loadf (i := 0) H (by first | exact wanted_none rfl | exact wanted_some rfl rfl rfl rfl) (by exact rfl) (by exact rfl) (by exact rfl) (by first | exact Try.underlying3 | exact Try.underlying29 | exact Try.underlying30) rfl (by exact rfl) ?_)
    | (go_at_call 55; with_reducible refine (cc _ (T.out.mem H)).mono ?_; rintro e w2 ⟨rfl, hb⟩; have H2 := H.call hb; clear H hb; have H := H2; clear H2)
    | ((with_reducible show wpList _ _ _ (⟨_, .store 59 _ _, _, _, _, _⟩ :: _) _ _); refine mem_store (i := 1) H (by first | exact wanted_none rfl | exact wanted_some rfl rfl rfl rfl) (by exact rfl) (by exact rfl) (by exact rfl) (by exact rfl) (by exact spInfo) (by exact rfl) (by exact rfl) ?_; intro w2 H2; clear H; have H := H2; clear H2; simp only [List.cons_append, List.nil_append, List.set_cons_zero, List.set_cons_succ, List.setIfInBounds_toArray] at H))
    refine ret_held2 (H.at 1 rfl) rfl rfl Try.underlying59 rfl spInfo ?_
    exact ⟨rfl, H.below⟩
  by_cases h0 : 0 ≤ p ∧ p < 16
  · have hk := (TB.right_iff t).1 hr
    have hm := hk.m
    obtain ⟨k, rfl⟩ := Int.eq_ofNat_of_zero_le h0.1
    obtain ⟨x, hx⟩ : ∃ x, t.cl[k]? = some x := ⟨t.cl[k]'(by omega), List.getElem?_eq_getElem _⟩
    have hx' := hk.c x (List.mem_of_getElem? hx)
    obtain ⟨i, rfl⟩ := Int.eq_ofNat_of_zero_le hx'.1
    obtain ⟨s, hs⟩ : ∃ s, t.sp[i]? = some s := ⟨t.sp[i]'(by omega), List.getElem?_eq_getElem _⟩
    have e1 : t.clsV k = i := by rw [TB.clsV, if_pos ⟨hr, by omega, by omega⟩, Int.toNat_natCast, List.getD_eq_getElem?_getD, hx]; rfl
    have e2 : t.clsE k = 0 := by rw [TB.clsE, if_pos hr, if_pos (by omega)]
    have e0 : t.spnV k = s := by
      rw [TB.spnV, if_pos ⟨hr, by omega, by omega⟩, Int.toNat_natCast, List.getD_eq_getElem?_getD, List.getD_eq_getElem?_getD, hx]
      show t.sp[(i : Int).toNat]?.getD (0, 0) = s
      rw [Int.toNat_natCast, hs]
      rfl
    rw [e1, e2] at cc
    rw [e0, e2]
    obtain ⟨b3, o3, rfl, hB, ca0, cb0⟩ := T.out.sp i s hs
    have CA := Lib.hid (And.intro ca0 cb0)
    have hi2 := hx'.2
    clear hr e0 e1 e2 hk hx hx' hs ca0 cb0 hm h0
    unfold tbC at *
    go_enter Try.func47, Try.ntmps47
    go_upto_region 1 with (first
    | ((with_reducible show wpList _ _ _ _ _ (World.alloc _ (.cells _ _))); refine mem_newb (l := []) H ?_; intro b w3 hbk H2; try rw [← hbk]; clear hbk H; have H := H2; clear H2; simp only [List.cons_append, List.nil_append, List.set_cons_zero, List.set_cons_succ, List.setIfInBounds_toArray] at H)
    | ((with_reducible show wpList _ _ _ _ _ (World.alloc _ (.cells _ _))); refine mem_newb (l := [_]) H ?_; intro bs w3 hbk H2; try rw [← hbk]; clear hbk H; have H := H2; clear H2; simp only [List.cons_append, List.nil_append, List.set_cons_zero, List.set_cons_succ, List.setIfInBounds_toArray] at H))
    go_upto_region 4 with (first
    | ((with_reducible show wpList _ _ _ (⟨_, .load 32 _, _, _, _, _⟩ :: _) _ _); refine mem_load (i := 0) H (by first | exact wanted_none rfl | exact wanted_some rfl rfl rfl rfl) (by exact rfl) (by exact rfl) (by exact rfl) Try.underlying32 rfl (by exact tbInfo) ?_)
    | (go_at_call 55; with_reducible refine (cc _ (T.out.mem H)).mono ?_; rintro e w2 ⟨rfl, hb⟩; have H2 := H.call hb; clear H hb; have H := H2; clear H2))
    have ca : w2.cell? ⟨b3, o3 + i * 2, none⟩ = some (.int .i64 s.1) := (H.old hB).trans CA.out.1
    have cb : w2.cell? ⟨b3, o3 + i * 2 + 1, none⟩ = some (.int .i64 s.2) := (H.old hB).trans CA.out.2
    go_wp2_with (first
    | ((with_reducible show wpList _ _ _ (⟨_, .load _ _, _, _, _, _⟩ :: _) _ _); refine mem_loadf (i := 0) H (by first | exact wanted_none rfl | exact wanted_some rfl rfl rfl rfl) (by exact rfl) (by exact rfl) (by exact rfl) (by first | exact Try.underlying3 | exact Try.underlying29 | exact Try.underlying30) rfl (by exact rfl) ?_)
    | ((with_reducible show wpList _ _ _ (⟨_, .store 59 _ _, _, _, _, _⟩ :: _) _ _); refine mem_store (i := 1) H (by first | exact wanted_none rfl | exact wanted_some rfl rfl rfl rfl) (by exact rfl) (by exact rfl) (by exact rfl) (by exact rfl) (by exact spInfo) (by exact rfl) (by exact rfl) ?_; intro w2 H2; clear H; have H := H2; clear H2; simp only [List.cons_append, List.nil_append, List.set_cons_zero, List.set_cons_succ, List.setIfInBounds_toArray] at H))
    refine ret_held2 (H.at 1 rfl) rfl rfl Try.underlying59 rfl spInfo ?_
    exact ⟨rfl, H.below⟩
  · have e0 : t.spnV p = (0, 0) := if_neg (by omega)
    have e1 : t.clsV p = 0 := if_neg (by omega)
    have e2 : t.clsE p = 2 := by rw [TB.clsE, if_pos hr, if_neg h0]
    rw [e1, e2] at cc
    rw [e0, e2]
    clear e0 e1 e2 hr
    unfold tbC at *
    go_enter Try.func47, Try.ntmps47
    go_upto_region 1 with (first
    | ((with_reducible show wpList _ _ _ _ _ (World.alloc _ (.cells _ _))); refine mem_newb (l := []) H ?_; intro b w3 hbk H2; try rw [← hbk]; clear hbk H; have H := H2; clear H2; simp only [List.cons_append, List.nil_append, List.set_cons_zero, List.set_cons_succ, List.setIfInBounds_toArray] at H)
    | ((with_reducible show wpList _ _ _ _ _ (World.alloc _ (.cells _ _))); refine mem_newb (l := [_]) H ?_; intro bs w3 hbk H2; try rw [← hbk]; clear hbk H; have H := H2; clear H2; simp only [List.cons_append, List.nil_append, List.set_cons_zero, List.set_cons_succ, List.setIfInBounds_toArray] at H))
    go_wp2_with (first
    | go_skip
    | ((with_reducible show wpList _ _ _ (⟨_, .load 32 _, _, _, _, _⟩ :: _) _ _); refine mem_load (i := 0) H (by first | exact wanted_none rfl | exact wanted_some rfl rfl rfl rfl) (by exact rfl) (by exact rfl) (by exact rfl) Try.underlying32 rfl (by exact tbInfo) ?_)
    | ((with_reducible show wpList _ _ _ (⟨_, .load _ _, _, _, _, _⟩ :: _) _ _); refine mem_loadf (i := 0) H (by first | exact wanted_none rfl | exact wanted_some rfl rfl rfl rfl) (by exact rfl) (by exact rfl) (by exact rfl) (by first | exact Try.underlying3 | exact Try.underlying29 | exact Try.underlying30) rfl (by exact rfl) ?_)
    | (go_at_call 55; with_reducible refine (cc _ (T.out.mem H)).mono ?_; rintro e w2 ⟨rfl, hb⟩; have H2 := H.call hb; clear H hb; have H := H2; clear H2)
    | ((with_reducible show wpList _ _ _ (⟨_, .store 59 _ _, _, _, _, _⟩ :: _) _ _); refine mem_store (i := 1) H (by first | exact wanted_none rfl | exact wanted_some rfl rfl rfl rfl) (by exact rfl) (by exact rfl) (by exact rfl) (by exact rfl) (by exact spInfo) (by exact rfl) (by exact rfl) ?_; intro w2 H2; clear H; have H := H2; clear H2; simp only [List.cons_append, List.nil_append, List.set_cons_zero, List.set_cons_succ, List.setIfInBounds_toArray] at H))
    refine ret_held2 (H.at 1 rfl) rfl rfl Try.underlying59 rfl spInfo ?_
    exact ⟨rfl, H.below⟩
end Go.Proofs.Ytaoaapbbadipfaa
end
