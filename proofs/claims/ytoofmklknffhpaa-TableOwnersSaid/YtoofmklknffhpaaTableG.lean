/-
  Spans held against each other; the document's Moved. Conditions: the tables lie where their values say.
-/
import Derived.Test.YtoofmklknffhpaaTableF
import Derived.Laws.StructEq
import Derived.Deep.QuietTactic
namespace Go.Proofs.Ytoofmklknffhpaa
set_option linter.unusedSimpArgs false
set_option linter.unusedVariables false
open Go.ChangeShapes Go.WideShapes Go.ChangeAt Go.RowKit

/-- two structs held against each other, a whole number first -/
theorem eqFT_int {P : Program} {d : Nat} {xs ys : Array Value} {f : Field} {fs : List Field} {k k' : IntKind} {a b : Int} {r : Bool} {w : World} (hn : (f.name == "_") = false) (hu : P.underlying f.type = some (.int k'))
    (hx : (part f.type xs f.offset).run P w = .ok (.int k a) w) (hy : (part f.type ys f.offset).run P w = .ok (.int k b) w) (hr : (Op.eqFields (d + 1) xs ys fs).run P w = .ok r w) : (Op.eqFields (d + 1) xs ys (f :: fs)).run P w = .ok ((a == b) && r) w := by
  have hn' : f.name ≠ "_" := by simpa using hn
  simp only [Op.eqFields, ne_eq, hn', not_false_eq_true, if_true, Sem.run_bind, hx, hy, Result.andThen_ok, run_equalIn_int w d f.type k k' a b hu]
  cases h : (a == b)
  · simp
  · simp [hr]
set_option maxHeartbeats 4000000 in
theorem sp_eq (a b : Int × Int) (w : World) : (Op.equalIn 10000 36 (spv a) (spv b)).run Try.prog w = .ok (decide (a = b)) w := by
  rw [run_equalIn_struct w 9999 36 _ _ (by kernel_rfl) (by kernel_rfl)]
  have i := Try.underlying3
  unfold Program.fieldsOf
  rw [Try.underlying36]
  dsimp only
  have e : decide (a = b) = ((a.1 == b.1) && ((a.2 == b.2) && true)) := by
    obtain ⟨a1, a2⟩ := a
    obtain ⟨b1, b2⟩ := b
    simp [Prod.ext_iff]
    rfl
  rw [e]
  refine eqFT_int (d := 9998) (k := .i64) (by decide) i (by simp [go_sem]) (by simp [go_sem]) ?_
  refine eqFT_int (d := 9998) (k := .i64) (by decide) i (by simp [go_sem]) (by simp [go_sem]) ?_
  rfl
/-- the span of a priority -/
def TB.spAt (t : TB) (k : Nat) : Int × Int := t.sp.getD (t.cl.getD k 0).toNat (0, 0)
/-- the priorities below k whose spans differ -/
def movedTo (a b : TB) (k : Nat) : List Int := ((List.range k).filter (fun i : Nat => !decide (a.spAt i = b.spAt i))).map Int.ofNat
theorem movedTo_yes {a b : TB} {k : Nat} (h : decide (a.spAt k = b.spAt k) = false) : movedTo a b (k + 1) = movedTo a b k ++ [(k : Int)] := by
  simp [movedTo, List.range_succ, List.filter_append, h]
theorem movedTo_no {a b : TB} {k : Nat} (h : decide (a.spAt k = b.spAt k) = true) : movedTo a b (k + 1) = movedTo a b k := by
  simp [movedTo, List.range_succ, List.filter_append, h]
theorem movedTo_len (a b : TB) (k : Nat) : (movedTo a b k).length ≤ k := by
  unfold movedTo
  rw [List.length_map]
  exact Nat.le_trans (List.length_filter_le _ _) (by simp)
def movedL (a b : TB) : List Int := if a.right = true ∧ b.right = true then movedTo a b 16 else []
def movedE (a b : TB) : Int := if a.right = true ∧ b.right = true then 0 else 80
/-- a priority's span, where it lies -/
theorem TB.Ok.spanAt {t : TB} (h : t.Ok) {k : Nat} (hk : k < 16) : ∃ i : Nat, t.cl[k]? = some (i : Int) ∧ i < t.sp.length ∧ t.sp[i]? = some (t.spAt k) := by
  have hm := h.m
  obtain ⟨x, hx⟩ : ∃ x, t.cl[k]? = some x := ⟨t.cl[k]'(by omega), List.getElem?_eq_getElem _⟩
  have hx' := h.c x (List.mem_of_getElem? hx)
  obtain ⟨i, rfl⟩ := Int.eq_ofNat_of_zero_le hx'.1
  have hi : i < t.sp.length := by omega
  refine ⟨i, hx, hi, ?_⟩
  have e : t.spAt k = t.sp[i] := by
    unfold TB.spAt
    rw [List.getD_eq_getElem?_getD, List.getD_eq_getElem?_getD, hx]
    show t.sp[(i : Int).toNat]?.getD (0, 0) = _
    rw [Int.toNat_natCast, List.getElem?_eq_getElem hi]
    rfl
  rw [e, List.getElem?_eq_getElem hi]
set_option maxRecDepth 100000 in
set_option maxHeartbeats 2000000 in
theorem moved_r (A1 A2 A3 A4 : Option Addr) (c1 c2 c3 c4 : Nat) (a b : TB) (w : World) (ht : TbAt w.heap.size w A1 A2 c1 c2 a) (hs : TbAt w.heap.size w A3 A4 c3 c4 b) : Calls Try.prog 28 #[.agg (tbC A1 A2 c1 c2 a), .agg (tbC A3 A4 c3 c4 b)] w (GivesInts w (movedL a b) (movedE a b)) := by
  have H := Mem.start w
  have T := Lib.hid ht
  have S := Lib.hid hs
  have cr := fun w h => right_r A1 A2 c1 c2 a w h
  have cs := fun w h => right_r A3 A4 c3 c4 b w h
  have l1 := ht.l1
  have l2 := ht.l2
  have l3 := hs.l1
  have l4 := hs.l2
  clear ht hs
  rcases hr : a.right with _ | _
  · rw [hr] at cr
    have e1 : movedL a b = [] := by simp [movedL, hr]
    have e2 : movedE a b = 80 := by simp [movedE, hr]
    rw [e1, e2]
    clear hr e1 e2
    rcases b.right with _ | _
    all_goals
      unfold RightR tbC at *
      go_enter Try.func28, Try.ntmps28
      go_upto_region 1 with (first
    | ((with_reducible show wpList _ _ _ _ _ (World.alloc _ (.cells _ _))); refine mem_newb (l := []) H ?_; intro ba w3 hbk H2; try rw [← hbk]; clear hbk H; have H := H2; clear H2; simp only [List.cons_append, List.nil_append, List.set_cons_zero, List.set_cons_succ, List.setIfInBounds_toArray] at H)
    | ((with_reducible show wpList _ _ _ _ _ (World.alloc _ (.cells _ _))); refine mem_newb (l := [_]) H ?_; intro bb w3 hbk H2; try rw [← hbk]; clear hbk H; have H := H2; clear H2; simp only [List.cons_append, List.nil_append, List.set_cons_zero, List.set_cons_succ, List.setIfInBounds_toArray] at H))
      go_wp2_with (first
    | go_skip
    | ((with_reducible show wpList _ _ _ (⟨_, .load 25 _, _, _, _, _⟩ :: _) _ _); refine mem_load (i := 0) H (by first | exact wanted_none rfl | exact wanted_some rfl rfl rfl rfl) (by exact rfl) (by exact rfl) (by exact rfl) Try.underlying25 rfl (by exact tbInfo) ?_)
    | ((with_reducible show wpList _ _ _ (⟨_, .load 25 _, _, _, _, _⟩ :: _) _ _); refine mem_load (i := 1) H (by first | exact wanted_none rfl | exact wanted_some rfl rfl rfl rfl) (by exact rfl) (by exact rfl) (by exact rfl) Try.underlying25 rfl (by exact tbInfo) ?_)
    | (go_at_call 16; with_reducible refine (cr _ (T.out.mem H)).mono ?_; rintro e w2 ⟨rfl, hb⟩; have H2 := H.call hb; clear H hb; have H := H2; clear H2)
    | (go_at_call 16; with_reducible refine (cs _ (S.out.mem H)).mono ?_; rintro e w2 ⟨rfl, hb⟩; have H2 := H.call hb; clear H hb; have H := H2; clear H2))
      refine bodyPost_ret (results_two rfl _ _ _) rfl ?_
      exact ⟨_, rfl, World.ownsRow_nil _ _ _ _, H.below⟩
  rw [hr] at cr
  rcases hr' : b.right with _ | _
  · rw [hr'] at cs
    have e1 : movedL a b = [] := by simp [movedL, hr']
    have e2 : movedE a b = 80 := by simp [movedE, hr']
    rw [e1, e2]
    clear hr hr' e1 e2
    unfold RightR tbC at *
    go_enter Try.func28, Try.ntmps28
    go_upto_region 1 with (first
    | ((with_reducible show wpList _ _ _ _ _ (World.alloc _ (.cells _ _))); refine mem_newb (l := []) H ?_; intro ba w3 hbk H2; try rw [← hbk]; clear hbk H; have H := H2; clear H2; simp only [List.cons_append, List.nil_append, List.set_cons_zero, List.set_cons_succ, List.setIfInBounds_toArray] at H)
    | ((with_reducible show wpList _ _ _ _ _ (World.alloc _ (.cells _ _))); refine mem_newb (l := [_]) H ?_; intro bb w3 hbk H2; try rw [← hbk]; clear hbk H; have H := H2; clear H2; simp only [List.cons_append, List.nil_append, List.set_cons_zero, List.set_cons_succ, List.setIfInBounds_toArray] at H))
    go_wp2_with (first
    | go_skip
    | ((with_reducible show wpList _ _ _ (⟨_, .load 25 _, _, _, _, _⟩ :: _) _ _); refine mem_load (i := 0) H (by first | exact wanted_none rfl | exact wanted_some rfl rfl rfl rfl) (by exact rfl) (by exact rfl) (by exact rfl) Try.underlying25 rfl (by exact tbInfo) ?_)
    | ((with_reducible show wpList _ _ _ (⟨_, .load 25 _, _, _, _, _⟩ :: _) _ _); refine mem_load (i := 1) H (by first | exact wanted_none rfl | exact wanted_some rfl rfl rfl rfl) (by exact rfl) (by exact rfl) (by exact rfl) Try.underlying25 rfl (by exact tbInfo) ?_)
    | (go_at_call 16; with_reducible refine (cr _ (T.out.mem H)).mono ?_; rintro e w2 ⟨rfl, hb⟩; have H2 := H.call hb; clear H hb; have H := H2; clear H2)
    | (go_at_call 16; with_reducible refine (cs _ (S.out.mem H)).mono ?_; rintro e w2 ⟨rfl, hb⟩; have H2 := H.call hb; clear H hb; have H := H2; clear H2))
    refine bodyPost_ret (results_two rfl _ _ _) rfl ?_
    exact ⟨_, rfl, World.ownsRow_nil _ _ _ _, H.below⟩
  rw [hr'] at cs
  have HK := Lib.hid (And.intro ((TB.right_iff a).1 hr) ((TB.right_iff b).1 hr'))
  have e1 : movedL a b = movedTo a b 16 := if_pos ⟨hr, hr'⟩
  have e2 : movedE a b = 0 := if_pos ⟨hr, hr'⟩
  rw [e1, e2]
  obtain ⟨i0, hi, hz0, hz1, hz2⟩ := infoInt_parts
  clear hr hr' e1 e2
  unfold RightR tbC at *
  go_enter Try.func28, Try.ntmps28
  go_upto_region 1 with (first
    | ((with_reducible show wpList _ _ _ _ _ (World.alloc _ (.cells _ _))); refine mem_newb (l := []) H ?_; intro ba w3 hbk H2; try rw [← hbk]; clear hbk H; have H := H2; clear H2; simp only [List.cons_append, List.nil_append, List.set_cons_zero, List.set_cons_succ, List.setIfInBounds_toArray] at H)
    | ((with_reducible show wpList _ _ _ _ _ (World.alloc _ (.cells _ _))); refine mem_newb (l := [_]) H ?_; intro bb w3 hbk H2; try rw [← hbk]; clear hbk H; have H := H2; clear H2; simp only [List.cons_append, List.nil_append, List.set_cons_zero, List.set_cons_succ, List.setIfInBounds_toArray] at H))
  go_wp2_with (first
    | go_skip
    | ((with_reducible show wpList _ _ _ (⟨_, .load 25 _, _, _, _, _⟩ :: _) _ _); refine mem_load (i := 0) H (by first | exact wanted_none rfl | exact wanted_some rfl rfl rfl rfl) (by exact rfl) (by exact rfl) (by exact rfl) Try.underlying25 rfl (by exact tbInfo) ?_)
    | ((with_reducible show wpList _ _ _ (⟨_, .load 25 _, _, _, _, _⟩ :: _) _ _); refine mem_load (i := 1) H (by first | exact wanted_none rfl | exact wanted_some rfl rfl rfl rfl) (by exact rfl) (by exact rfl) (by exact rfl) Try.underlying25 rfl (by exact tbInfo) ?_)
    | (go_at_call 16; with_reducible refine (cr _ (T.out.mem H)).mono ?_; rintro e w2 ⟨rfl, hb⟩; have H2 := H.call hb; clear H hb; have H := H2; clear H2)
    | (go_at_call 16; with_reducible refine (cs _ (S.out.mem H)).mono ?_; rintro e w2 ⟨rfl, hb⟩; have H2 := H.call hb; clear H hb; have H := H2; clear H2))
  have hba := (H.at 0 rfl).lt
  have hbb := (H.at 1 rfl).lt
  have hsz := H.below.size
  obtain ⟨B, hBq⟩ : ∃ B, w2.heap.size = B := ⟨_, rfl⟩
  have R : w2.ownsRow B 3 1 (.slice none 0 0) (movedTo a b 0).length (ints (movedTo a b 0)) := World.ownsRow_nil w2 B 3 1
  have hB2 : B ≤ w2.heap.size := by omega
  have hbB : ba < B ∧ bb < B ∧ w.heap.size ≤ B := by omega
  clear hBq hba hbb hsz cr cs
  go_loopw [8, 9] (fun v i wr => ∃ k : Nat, k ≤ 16 ∧ i = .int .i64 k ∧ wr.ownsRow B 3 1 v (movedTo a b k).length (ints (movedTo a b k)) ∧ B ≤ wr.heap.size ∧ Mem w wr [(ba, 25, #[.int .i64 a.q, .slice A1 a.cl.length c1, .slice A2 a.sp.length c2]), (bb, 25, #[.int .i64 b.q, .slice A3 b.cl.length c3, .slice A4 b.sp.length c4])]) (fun _ i _ => 16 - (intOf i).toNat)
  case atStart => exact ⟨0, Nat.zero_le _, rfl, R, hB2, H⟩
  case round =>
    clear H R hB2
    obtain ⟨k, hk, rfl, R, hB2, H⟩ := hrel
    by_cases hlt : k < 16
    · have hLk := movedTo_len a b k
      obtain ⟨ia, xa, na, sa⟩ := HK.out.1.spanAt hlt
      obtain ⟨ib, xb, nb, sb⟩ := HK.out.2.spanAt hlt
      have ma := HK.out.1.m
      have mb := HK.out.2.m
      obtain ⟨g1, o1, rfl, hg1, p1⟩ := (T.out.mem H).cl k _ xa
      obtain ⟨g2, o2, rfl, hg2, p2, p2'⟩ := (T.out.mem H).sp ia _ sa
      obtain ⟨g3, o3, rfl, hg3, p3⟩ := (S.out.mem H).cl k _ xb
      obtain ⟨g4, o4, rfl, hg4, p4, p4'⟩ := (S.out.mem H).sp ib _ sb
      have q1 : wr.cell? ⟨ba, 1, none⟩ = some (.slice (some ⟨g1, o1, none⟩) a.cl.length c1) := (H.at 0 rfl).cell 1
      have q2 : wr.cell? ⟨ba, 2, none⟩ = some (.slice (some ⟨g2, o2, none⟩) a.sp.length c2) := (H.at 0 rfl).cell 2
      have q3 : wr.cell? ⟨bb, 1, none⟩ = some (.slice (some ⟨g3, o3, none⟩) b.cl.length c3) := (H.at 1 rfl).cell 1
      have q4 : wr.cell? ⟨bb, 2, none⟩ = some (.slice (some ⟨g4, o4, none⟩) b.sp.length c4) := (H.at 1 rfl).cell 2
      have hka : (k : Int) < (a.cl.length : Int) := by omega
      have hkb : (k : Int) < (b.cl.length : Int) := by omega
      have hEq := fun w => sp_eq (a.spAt k) (b.spAt k) w
      have HD := Lib.hid (And.intro (movedTo_yes (a := a) (b := b) (k := k)) (movedTo_no (a := a) (b := b) (k := k)))
      clear xa xb sa sb ma mb
      obtain ⟨y, hy⟩ : ∃ y, decide (a.spAt k = b.spAt k) = y := ⟨_, rfl⟩
      rw [hy] at hEq
      have HY := Lib.hid hy
      clear hy
      cases y
      · have HI := Lib.hid (HD.out.1 HY.out)
        go_wp2
        go_quiet (fail)
        go_wp2_with (first
          | (at_builtin; refine wpList_append_own _ rfl _ _ 22 rfl B 3 i0 (.int .i64 0) 1 8 Try.underlying22 hi hz0 hz1 hz2 rfl (by decide) _ _ _ rfl ((row_call R (below_draws wr nq)).alloc _) ⟨wr.heap.size, 0, none⟩ 1 1 [.int .i64 (k : Int)] rfl rfl (cell_one_new _ _ _) (by simp [Value.oneCell']) (by simp [maxLen]; omega) (by omega) (by simp; omega) ?_; intro v' w1 hown' hgrow _))
        have hrl := row_lt R
        have H4 : Mem w w1 _ := ((H.drewN _).skip _).grown hgrow (fun r hr => (hrl r hr).1) (fun p hp => by
          simp only [List.mem_cons, List.not_mem_nil, or_false] at hp
          rcases hp with rfl | rfl
          · exact hbB.1
          · exact hbB.2.1) hbB.2.2
        have hB3 : B ≤ w1.heap.size := by have := hgrow.size; simp at this; omega
        go_roundw
        case rel => exact ⟨k + 1, by omega, by go_num, by rw [HI.out, List.length_append]; simpa [ints] using hown', hB3, H4⟩
        case measure => simp [intOf]; omega
      · have HI := Lib.hid (HD.out.2 HY.out)
        go_wp2
        go_quiet (fail)
        go_wp2
        go_roundw
        case rel => exact ⟨k + 1, by omega, by go_num, by rw [HI.out]; exact row_call R (below_draws wr _), hB2, H.drewN _⟩
        case measure => simp [intOf]; omega
    · obtain rfl : k = 16 := by omega
      go_wp2
      refine bodyPost_ret (results_two rfl _ _ _) rfl ?_
      exact ⟨_, rfl, row_base R hbB.2.2, H.below⟩
end Go.Proofs.Ytoofmklknffhpaa
