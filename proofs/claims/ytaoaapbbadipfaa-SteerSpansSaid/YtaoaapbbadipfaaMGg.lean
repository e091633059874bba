/-
  The document's Right for every table, ClassOf, SpanOf, Owner. Conditions: the table lies where its value says. The document's SpanOf and Owner. Conditions: the table lies where its value says.
-/
import Derived.Test.YtaoaapbbadipfaaMGf
/- The document's Right for every table, ClassOf, SpanOf, Owner. Conditions: the table lies where its value says. -/
section
namespace Go.Proofs.Ytaoaapbbadipfaa
set_option linter.unusedSimpArgs false
set_option linter.unusedVariables false
set_option maxRecDepth 100000
open Go.ChangeShapes Go.WideShapes Go.ChangeAt Go.RowKit

theorem right_r (A1 A2 : Option Addr) (c1 c2 : Nat) (t : TB) (w : World) (ht : TbAt w.heap.size w A1 A2 c1 c2 t) : RightR A1 A2 c1 c2 t w t.right := by
  obtain ⟨q, cl, sp⟩ := t
  have no : TB.ok0 ⟨q, cl, sp⟩ = false → TB.right ⟨q, cl, sp⟩ = false := fun h => by simp [TB.right, h]
  by_cases h0 : q < 1
  · rw [no (by simp only [TB.ok0, decide_eq_false (show ¬ 1 ≤ q by omega), Bool.false_and])]
    exact right_no0 A1 A2 c1 c2 q cl sp h0 w
  by_cases h1 : 64 < q
  · rw [no (by simp only [TB.ok0, decide_eq_false (show ¬ q ≤ 64 by omega), Bool.false_and, Bool.and_false])]
    exact right_no1 A1 A2 c1 c2 q cl sp h0 h1 w
  by_cases h2 : sp.length < 1
  · rw [no (by simp only [TB.ok0, decide_eq_false (show ¬ 1 ≤ sp.length by omega), Bool.false_and, Bool.and_false])]
    exact right_no2 A1 A2 c1 c2 q cl sp h0 h1 h2 w
  by_cases h3 : 16 < sp.length
  · rw [no (by simp only [TB.ok0, decide_eq_false (show ¬ sp.length ≤ 16 by omega), Bool.false_and, Bool.and_false])]
    exact right_no3 A1 A2 c1 c2 q cl sp h0 h1 h2 h3 w
  by_cases h4 : cl.length = 16
  · obtain ⟨Q, rfl⟩ := Int.eq_ofNat_of_zero_le (show 0 ≤ q by omega)
    exact right_main A1 A2 c1 c2 Q (by omega) cl h4 sp sp.length rfl (by omega) _ w ht (rightV (by omega) h4 (by omega))
  · rw [no (by simp only [TB.ok0, decide_eq_false h4, Bool.and_false])]
    exact right_no4 A1 A2 c1 c2 q cl sp h0 h1 h2 h3 h4 w
/-- what a table that may be is -/
structure TB.Ok (t : TB) : Prop where
  q : 1 ≤ t.q ∧ t.q ≤ 64
  n : 1 ≤ t.sp.length ∧ t.sp.length ≤ 16
  m : t.cl.length = 16
  s : ∀ s, s ∈ t.sp → 0 ≤ s.1 ∧ 1 ≤ s.2 ∧ s.1 + s.2 ≤ t.q
  o : ∀ k : Nat, (k : Int) < t.q → onceB t.sp k = true
  c : ∀ x, x ∈ t.cl → 0 ≤ x ∧ x < t.sp.length
theorem TB.right_iff (t : TB) : t.right = true ↔ t.Ok := by
  constructor
  · intro h
    simp only [TB.right, TB.ok0, TB.ok1, TB.ok2, TB.ok3, Bool.and_eq_true, decide_eq_true_eq, List.all_eq_true, spanOk, classOk] at h
    obtain ⟨⟨⟨h0, h1⟩, h2⟩, h3⟩ := h
    refine ⟨⟨by omega, by omega⟩, ⟨by omega, by omega⟩, by omega, fun s hs => ?_, fun k hk => h2 k (List.mem_range.2 (by omega)), h3⟩
    have := h1 s hs
    omega
  · intro h
    obtain ⟨h0, h1, h2, h3, h4, h5⟩ := h
    simp only [TB.right, TB.ok0, TB.ok1, TB.ok2, TB.ok3, Bool.and_eq_true, decide_eq_true_eq, List.all_eq_true, spanOk, classOk]
    refine ⟨⟨⟨by omega, fun s hs => ?_⟩, fun k hk => h4 k ?_⟩, h5⟩
    · have := h3 s hs
      omega
    · have := List.mem_range.1 hk
      omega
theorem TB.Ok.small {t : TB} (h : t.Ok) : ∀ s, s ∈ t.sp → Small s := fun s hs => by
  have := h.s s hs
  have := h.q
  unfold Small
  omega
/-- two results -/
theorem results_two {fn : Func} {p q : Tmp} (h : fn.results = #[.tmp p, .tmp q]) (tmps : Array Value) (P : Program) (w : World) : (results fn tmps).run P w = .ok (.tuple #[tmps.getD p undef, tmps.getD q undef]) w := by
  simp [results, h, go_sem]
/-- the class of a priority, and what is said beside it -/
def TB.clsV (t : TB) (p : Int) : Int := if t.right = true ∧ 0 ≤ p ∧ p < 16 then t.cl.getD p.toNat 0 else 0
def TB.clsE (t : TB) (p : Int) : Int := if t.right = true then (if 0 ≤ p ∧ p < 16 then 0 else 2) else 80
def TB.spnV (t : TB) (p : Int) : Int × Int := if t.right = true ∧ 0 ≤ p ∧ p < 16 then t.sp.getD (t.cl.getD p.toNat 0).toNat (0, 0) else (0, 0)
def TB.ownV (t : TB) (q : Int) : Int := if t.right = true ∧ 0 ≤ q ∧ q < t.q then ownAt t.sp q 0 else 0
def TB.ownE (t : TB) (q : Int) : Int := if t.right = true then (if 0 ≤ q ∧ q < t.q then 0 else 2) else 80
set_option maxRecDepth 100000 in
set_option maxHeartbeats 1000000 in
theorem classOf_r (A1 A2 : Option Addr) (c1 c2 : Nat) (t : TB) (p : Int) (w : World) (ht : TbAt w.heap.size w A1 A2 c1 c2 t) : Calls Try.prog 44 #[.agg (tbC A1 A2 c1 c2 t), .int .i64 p] w fun e w' => e = .returned (.tuple #[.int .i64 (t.clsV p), .int .i64 (t.clsE p)]) ∧ Below w.heap.size w w' := by
  have H := Mem.start w
  have T := Lib.hid ht
  have cr := fun w h => right_r A1 A2 c1 c2 t w h
  have l1 := ht.l1
  have l2 := ht.l2
  clear ht
  rcases hr : t.right with _ | _
  · rw [hr] at cr
    have e1 : t.clsV p = 0 := by simp [TB.clsV, hr]
    have e2 : t.clsE p = 80 := by simp [TB.clsE, hr]
    rw [e1, e2]
    clear hr e1 e2
    unfold RightR tbC at *
    go_enter Try.func44, Try.ntmps44
    go_upto_region 1 with (first
    | ((with_reducible show wpList _ _ _ _ _ (World.alloc _ (.cells _ _))); refine mem_newb H ?_; intro b w3 hbk H2; try rw [← hbk]; clear hbk H; have H := H2; clear H2; simp only [List.cons_append, List.nil_append, List.set_cons_zero, List.set_cons_succ, List.setIfInBounds_toArray] at H))
    go_wp2_with (first
    | go_skip
    | ((with_reducible show wpList _ _ _ (⟨_, .load 32 _, _, _, _, _⟩ :: _) _ _); refine mem_load (i := 0) H (by first | exact wanted_none rfl | exact wanted_some rfl rfl rfl rfl) (by exact rfl) (by exact rfl) (by exact rfl) Try.underlying32 rfl (by exact tbInfo) ?_)
    | (go_at_call 18; with_reducible refine (cr _ (T.out.mem H)).mono ?_; rintro e w2 ⟨rfl, hb⟩; have H2 := H.call hb; clear H hb; have H := H2; clear H2))
    refine bodyPost_ret (results_two rfl _ _ _) rfl ?_
    exact ⟨rfl, H.below⟩
  rw [hr] at cr
  have hk := (TB.right_iff t).1 hr
  have hm := hk.m
  by_cases h0 : p < 0
  · have t1 : decide (p < 0) = true := decide_eq_true h0
    have e1 : t.clsV p = 0 := if_neg (by omega)
    have e2 : t.clsE p = 2 := by rw [TB.clsE, if_pos hr, if_neg (by omega)]
    rw [e1, e2]
    clear hr e1 e2 hk hm
    unfold RightR tbC at *
    go_enter Try.func44, Try.ntmps44
    go_upto_region 1 with (first
    | ((with_reducible show wpList _ _ _ _ _ (World.alloc _ (.cells _ _))); refine mem_newb H ?_; intro b w3 hbk H2; try rw [← hbk]; clear hbk H; have H := H2; clear H2; simp only [List.cons_append, List.nil_append, List.set_cons_zero, List.set_cons_succ, List.setIfInBounds_toArray] at H))
    go_wp2_with (first
    | go_skip
    | ((with_reducible show wpList _ _ _ (⟨_, .load 32 _, _, _, _, _⟩ :: _) _ _); refine mem_load (i := 0) H (by first | exact wanted_none rfl | exact wanted_some rfl rfl rfl rfl) (by exact rfl) (by exact rfl) (by exact rfl) Try.underlying32 rfl (by exact tbInfo) ?_)
    | (go_at_call 18; with_reducible refine (cr _ (T.out.mem H)).mono ?_; rintro e w2 ⟨rfl, hb⟩; have H2 := H.call hb; clear H hb; have H := H2; clear H2))
    refine bodyPost_ret (results_two rfl _ _ _) rfl ?_
    exact ⟨rfl, H.below⟩
  have t1 : decide (p < 0) = false := decide_eq_false h0
  by_cases h1 : 16 ≤ p
  · have t2 : decide (16 ≤ p) = true := decide_eq_true h1
    have e1 : t.clsV p = 0 := if_neg (by omega)
    have e2 : t.clsE p = 2 := by rw [TB.clsE, if_pos hr, if_neg (by omega)]
    rw [e1, e2]
    clear hr e1 e2 hk hm
    unfold RightR tbC at *
    go_enter Try.func44, Try.ntmps44
    go_upto_region 1 with (first
    | ((with_reducible show wpList _ _ _ _ _ (World.alloc _ (.cells _ _))); refine mem_newb H ?_; intro b w3 hbk H2; try rw [← hbk]; clear hbk H; have H := H2; clear H2; simp only [List.cons_append, List.nil_append, List.set_cons_zero, List.set_cons_succ, List.setIfInBounds_toArray] at H))
    go_wp2_with (first
    | go_skip
    | ((with_reducible show wpList _ _ _ (⟨_, .load 32 _, _, _, _, _⟩ :: _) _ _); refine mem_load (i := 0) H (by first | exact wanted_none rfl | exact wanted_some rfl rfl rfl rfl) (by exact rfl) (by exact rfl) (by exact rfl) Try.underlying32 rfl (by exact tbInfo) ?_)
    | (go_at_call 18; with_reducible refine (cr _ (T.out.mem H)).mono ?_; rintro e w2 ⟨rfl, hb⟩; have H2 := H.call hb; clear H hb; have H := H2; clear H2))
    refine bodyPost_ret (results_two rfl _ _ _) rfl ?_
    exact ⟨rfl, H.below⟩
  have t2 : decide (16 ≤ p) = false := decide_eq_false h1
  obtain ⟨k, rfl⟩ := Int.eq_ofNat_of_zero_le (show 0 ≤ p by omega)
  obtain ⟨x, hx⟩ : ∃ x, t.cl[k]? = some x := ⟨t.cl[k]'(by omega), List.getElem?_eq_getElem _⟩
  have e1 : t.clsV k = x := by rw [TB.clsV, if_pos ⟨hr, by omega, by omega⟩, Int.toNat_natCast, List.getD_eq_getElem?_getD, hx]; rfl
  have e2 : t.clsE k = 0 := by rw [TB.clsE, if_pos hr, if_pos (by omega)]
  rw [e1, e2]
  obtain ⟨b3, o3, rfl, hB, ca0⟩ := T.out.cl k x hx
  have CA := Lib.hid ca0
  clear hr e1 e2 hk hx ca0
  unfold RightR tbC at *
  rw [hm] at *
  go_enter Try.func44, Try.ntmps44
  go_upto_region 1 with (first
    | ((with_reducible show wpList _ _ _ _ _ (World.alloc _ (.cells _ _))); refine mem_newb H ?_; intro b w3 hbk H2; try rw [← hbk]; clear hbk H; have H := H2; clear H2; simp only [List.cons_append, List.nil_append, List.set_cons_zero, List.set_cons_succ, List.setIfInBounds_toArray] at H))
  go_upto_region 6 with (first
    | ((with_reducible show wpList _ _ _ (⟨_, .load 32 _, _, _, _, _⟩ :: _) _ _); refine mem_load (i := 0) H (by first | exact wanted_none rfl | exact wanted_some rfl rfl rfl rfl) (by exact rfl) (by exact rfl) (by exact rfl) Try.underlying32 rfl (by exact tbInfo) ?_)
    | (go_at_call 18; with_reducible refine (cr _ (T.out.mem H)).mono ?_; rintro e w2 ⟨rfl, hb⟩; have H2 := H.call hb; clear H hb; have H := H2; clear H2))
  have ca : w2.cell? ⟨b3, o3 + k, none⟩ = some (.int .i64 x) := (H.old hB).trans CA.out
  go_wp2_with (first
    | ((with_reducible show wpList _ _ _ (⟨_, .load _ _, _, _, _, _⟩ :: _) _ _); refine mem_loadf (i := 0) H (by first | exact wanted_none rfl | exact wanted_some rfl rfl rfl rfl) (by exact rfl) (by exact rfl) (by exact rfl) (by first | exact Try.underlying3 | exact Try.underlying29 | exact Try.underlying30) rfl (by exact rfl) ?_))
  refine bodyPost_ret (results_two rfl _ _ _) rfl ?_
  exact ⟨rfl, H.below⟩
end Go.Proofs.Ytaoaapbbadipfaa
end
/- The document's SpanOf and Owner. Conditions: the table lies where its value says. -/
section
namespace Go.Proofs.Ytaoaapbbadipfaa
set_option linter.unusedSimpArgs false
set_option linter.unusedVariables false
set_option maxRecDepth 100000
open Go.ChangeShapes Go.WideShapes Go.ChangeAt Go.RowKit

theorem owner_r0 (A1 A2 : Option Addr) (c1 c2 : Nat) (t : TB) (q : Int) (hq : 0 ≤ q ∧ q ≤ 64) (w : World) (ht : TbAt w.heap.size w A1 A2 c1 c2 t) (hs : ∀ s, s ∈ t.sp → Small s) (h20 : t.sp.length ≤ 20) :
    Calls Try.prog 36 #[.agg (tbC A1 A2 c1 c2 t), .int .i64 q, .int .i64 0] w fun e w' => e = .returned (.int .i64 (ownAt t.sp q 0)) ∧ Below w.heap.size w w' :=
  owner_r A1 A2 c1 c2 t q 0 hq (by omega) w ht hs h20
/-- a span, as a value -/
abbrev spv (s : Int × Int) : Value := .agg #[.int .i64 s.1, .int .i64 s.2]
set_option maxRecDepth 100000 in
set_option maxHeartbeats 1000000 in
theorem spanOf_r (A1 A2 : Option Addr) (c1 c2 : Nat) (t : TB) (p : Int) (w : World) (ht : TbAt w.heap.size w A1 A2 c1 c2 t) : Calls Try.prog 24 #[.agg (tbC A1 A2 c1 c2 t), .int .i64 p] w fun e w' => e = .returned (.tuple #[spv (t.spnV p), .int .i64 (t.clsE p)]) ∧ Below w.heap.size w w' := by
  have H := Mem.start w
  have T := Lib.hid ht
  have cc := fun w h => classOf_r A1 A2 c1 c2 t p w h
  have l1 := ht.l1
  have l2 := ht.l2
  clear ht
  rcases hr : t.right with _ | _
  · have e0 : t.spnV p = (0, 0) := if_neg (by simp [hr])
    have e1 : t.clsV p = 0 := if_neg (by simp [hr])
    have e2 : t.clsE p = 80 := by rw [TB.clsE, if_neg (by simp [hr])]
    rw [e1, e2] at cc
    rw [e0, e2]
    clear e0 e1 e2 hr
    unfold tbC at *
    go_enter Try.func24, Try.ntmps24
    go_upto_region 1 with (first
    | ((with_reducible show wpList _ _ _ _ _ (World.alloc _ (.cells _ _))); refine mem_newb (l := []) H ?_; intro b w3 hbk H2; try rw [← hbk]; clear hbk H; have H := H2; clear H2; simp only [List.cons_append, List.nil_append, List.set_cons_zero, List.set_cons_succ, List.setIfInBounds_toArray] at H)
    | ((with_reducible show wpList _ _ _ _ _ (World.alloc _ (.cells _ _))); refine mem_newb (l := [_]) H ?_; intro bs w3 hbk H2; try rw [← hbk]; clear hbk H; have H := H2; clear H2; simp only [List.cons_append, List.nil_append, List.set_cons_zero, List.set_cons_succ, List.setIfInBounds_toArray] at H))
    go_wp2_with (first
    | go_skip
    | ((with_reducible show wpList _ _ _ (⟨_, .load 32 _, _, _, _, _⟩ :: _) _ _); refine mem_load (i := 0) H (by first | exact wanted_none rfl | exact wanted_some rfl rfl rfl rfl) (by exact rfl) (by exact rfl) (by exact rfl) Try.underlying32 rfl (by exact tbInfo) ?_)
    | ((with_reducible show wpList _ _ _ (⟨_, .load _ _, _, _, _, _⟩ :: _) _ _); refine mem_loadf (i := 0) H (by first | exact wanted_none rfl | exact wanted_some rfl rfl rfl rfl) (by exact rfl) (by exact rfl) (by exact rfl) (by first | exact Try.underlying3 | exact Try.underlying29 | exact Try.underlying30) rfl (by exact rfl) ?_)
    | (go_at_call 44; with_reducible refine (cc _ (T.out.mem H)).mono ?_; rintro e w2 ⟨rfl, hb⟩; have H2 := H.call hb; clear H hb; have H := H2; clear H2)
    | ((with_reducible show wpList _ _ _ (⟨_, .store 59 _ _, _, _, _, _⟩ :: _) _ _); refine mem_store (i := 1) H (by first | exact wanted_none rfl | exact wanted_some rfl rfl rfl rfl) (by exact rfl) (by exact rfl) (by exact rfl) (by exact rfl) (by exact spInfo) (by exact rfl) (by exact rfl) ?_; intro w2 H2; clear H; have H := H2; clear H2; simp only [List.cons_append, List.nil_append, List.set_cons_zero, List.set_cons_succ, List.setIfInBounds_toArray] at H))
    refine ret_held2 (H.at 1 rfl) rfl rfl Try.underlying59 rfl spInfo ?_
    exact ⟨rfl, H.below⟩
  by_cases h0 : 0 ≤ p ∧ p < 16
  · have hk := (TB.right_iff t).1 hr
    have hm := hk.m
    obtain ⟨k, rfl⟩ := Int.eq_ofNat_of_zero_le h0.1
    obtain ⟨x, hx⟩ : ∃ x, t.cl[k]? = some x := ⟨t.cl[k]'(by omega), List.getElem?_eq_getElem _⟩
    have hx' := hk.c x (List.mem_of_getElem? hx)
    obtain ⟨i, rfl⟩ := Int.eq_ofNat_of_zero_le hx'.1
    obtain ⟨s, hs⟩ : ∃ s, t.sp[i]? = some s := ⟨t.sp[i]'(by omega), List.getElem?_eq_getElem _⟩
    have e1 : t.clsV k = i := by rw [TB.clsV, if_pos ⟨hr, by omega, by omega⟩, Int.toNat_natCast, List.getD_eq_getElem?_getD, hx]; rfl
    have e2 : t.clsE k = 0 := by rw [TB.clsE, if_pos hr, if_pos (by omega)]
    have e0 : t.spnV k = s := by
      rw [TB.spnV, if_pos ⟨hr, by omega, by omega⟩, Int.toNat_natCast, List.getD_eq_getElem?_getD, List.getD_eq_getElem?_getD, hx]
      show t.sp[(i : Int).toNat]?.getD (0, 0) = s
      rw [Int.toNat_natCast, hs]
      rfl
    rw [e1, e2] at cc
    rw [e0, e2]
    obtain ⟨b3, o3, rfl, hB, ca0, cb0⟩ := T.out.sp i s hs
    have CA := Lib.hid (And.intro ca0 cb0)
    have hi2 := hx'.2
    clear hr e0 e1 e2 hk hx hx' hs ca0 cb0 hm h0
    unfold tbC at *
    go_enter Try.func24, Try.ntmps24
    go_upto_region 1 with (first
    | ((with_reducible show wpList _ _ _ _ _ (World.alloc _ (.cells _ _))); refine mem_newb (l := []) H ?_; intro b w3 hbk H2; try rw [← hbk]; clear hbk H; have H := H2; clear H2; simp only [List.cons_append, List.nil_append, List.set_cons_zero, List.set_cons_succ, List.setIfInBounds_toArray] at H)
    | ((with_reducible show wpList _ _ _ _ _ (World.alloc _ (.cells _ _))); refine mem_newb (l := [_]) H ?_; intro bs w3 hbk H2; try rw [← hbk]; clear hbk H; have H := H2; clear H2; simp only [List.cons_append, List.nil_append, List.set_cons_zero, List.set_cons_succ, List.setIfInBounds_toArray] at H))
    go_upto_region 4 with (first
    | ((with_reducible show wpList _ _ _ (⟨_, .load 32 _, _, _, _, _⟩ :: _) _ _); refine mem_load (i := 0) H (by first | exact wanted_none rfl | exact wanted_some rfl rfl rfl rfl) (by exact rfl) (by exact rfl) (by exact rfl) Try.underlying32 rfl (by exact tbInfo) ?_)
    | (go_at_call 44; with_reducible refine (cc _ (T.out.mem H)).mono ?_; rintro e w2 ⟨rfl, hb⟩; have H2 := H.call hb; clear H hb; have H := H2; clear H2))
    have ca : w2.cell? ⟨b3, o3 + i * 2, none⟩ = some (.int .i64 s.1) := (H.old hB).trans CA.out.1
    have cb : w2.cell? ⟨b3, o3 + i * 2 + 1, none⟩ = some (.int .i64 s.2) := (H.old hB).trans CA.out.2
    go_wp2_with (first
    | ((with_reducible show wpList _ _ _ (⟨_, .load _ _, _, _, _, _⟩ :: _) _ _); refine mem_loadf (i := 0) H (by first | exact wanted_none rfl | exact wanted_some rfl rfl rfl rfl) (by exact rfl) (by exact rfl) (by exact rfl) (by first | exact Try.underlying3 | exact Try.underlying29 | exact Try.underlying30) rfl (by exact rfl) ?_)
    | ((with_reducible show wpList _ _ _ (⟨_, .store 59 _ _, _, _, _, _⟩ :: _) _ _); refine mem_store (i := 1) H (by first | exact wanted_none rfl | exact wanted_some rfl rfl rfl rfl) (by exact rfl) (by exact rfl) (by exact rfl) (by exact rfl) (by exact spInfo) (by exact rfl) (by exact rfl) ?_; intro w2 H2; clear H; have H := H2; clear H2; simp only [List.cons_append, List.nil_append, List.set_cons_zero, List.set_cons_succ, List.setIfInBounds_toArray] at H))
    refine ret_held2 (H.at 1 rfl) rfl rfl Try.underlying59 rfl spInfo ?_
    exact ⟨rfl, H.below⟩
  · have e0 : t.spnV p = (0, 0) := if_neg (by omega)
    have e1 : t.clsV p = 0 := if_neg (by omega)
    have e2 : t.clsE p = 2 := by rw [TB.clsE, if_pos hr, if_neg h0]
    rw [e1, e2] at cc
    rw [e0, e2]
    clear e0 e1 e2 hr
    unfold tbC at *
    go_enter Try.func24, Try.ntmps24
    go_upto_region 1 with (first
    | ((with_reducible show wpList _ _ _ _ _ (World.alloc _ (.cells _ _))); refine mem_newb (l := []) H ?_; intro b w3 hbk H2; try rw [← hbk]; clear hbk H; have H := H2; clear H2; simp only [List.cons_append, List.nil_append, List.set_cons_zero, List.set_cons_succ, List.setIfInBounds_toArray] at H)
    | ((with_reducible show wpList _ _ _ _ _ (World.alloc _ (.cells _ _))); refine mem_newb (l := [_]) H ?_; intro bs w3 hbk H2; try rw [← hbk]; clear hbk H; have H := H2; clear H2; simp only [List.cons_append, List.nil_append, List.set_cons_zero, List.set_cons_succ, List.setIfInBounds_toArray] at H))
    go_wp2_with (first
    | go_skip
    | ((with_reducible show wpList _ _ _ (⟨_, .load 32 _, _, _, _, _⟩ :: _) _ _); refine mem_load (i := 0) H (by first | exact wanted_none rfl | exact wanted_some rfl rfl rfl rfl) (by exact rfl) (by exact rfl) (by exact rfl) Try.underlying32 rfl (by exact tbInfo) ?_)
    | ((with_reducible show wpList _ _ _ (⟨_, .load _ _, _, _, _, _⟩ :: _) _ _); refine mem_loadf (i := 0) H (by first | exact wanted_none rfl | exact wanted_some rfl rfl rfl rfl) (by exact rfl) (by exact rfl) (by exact rfl) (by first | exact Try.underlying3 | exact Try.underlying29 | exact Try.underlying30) rfl (by exact rfl) ?_)
    | (go_at_call 44; with_reducible refine (cc _ (T.out.mem H)).mono ?_; rintro e w2 ⟨rfl, hb⟩; have H2 := H.call hb; clear H hb; have H := H2; clear H2)
    | ((with_reducible show wpList _ _ _ (⟨_, .store 59 _ _, _, _, _, _⟩ :: _) _ _); refine mem_store (i := 1) H (by first | exact wanted_none rfl | exact wanted_some rfl rfl rfl rfl) (by exact rfl) (by exact rfl) (by exact rfl) (by exact rfl) (by exact spInfo) (by exact rfl) (by exact rfl) ?_; intro w2 H2; clear H; have H := H2; clear H2; simp only [List.cons_append, List.nil_append, List.set_cons_zero, List.set_cons_succ, List.setIfInBounds_toArray] at H))
    refine ret_held2 (H.at 1 rfl) rfl rfl Try.underlying59 rfl spInfo ?_
    exact ⟨rfl, H.below⟩
end Go.Proofs.Ytaoaapbbadipfaa
end
