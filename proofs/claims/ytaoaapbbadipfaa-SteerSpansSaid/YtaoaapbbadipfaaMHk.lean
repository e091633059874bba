/-
  SteerNone, walked. Conditions: as the interface says; the table lies where its value says.
-/
import Derived.Test.YtaoaapbbadipfaaMHj
import Derived.Test.YtaoaapbbadipfaaMGi
/- SteerNone, walked. Conditions: as the interface says; the table lies where its value says. -/
section
namespace Go.Proofs.Ytaoaapbbadipfaa
set_option linter.unusedSimpArgs false
set_option linter.unusedVariables false
set_option maxRecDepth 100000
open Go.ChangeShapes Go.WideShapes Go.ChangeAt Go.RowKit

section
variable {P : PT}
set_option maxHeartbeats 1000000 in
theorem none_w (hP : PSteer P) (A1 A2 : Option Addr) (c1 c2 : Nat) (t : TB) (q : PK) (hq : q.Fits) (w : World) (ht : TbAt w.heap.size w A1 A2 c1 c2 t) : Calls Try.prog 4 #[.agg (tbC A1 A2 c1 c2 t), pk q] w fun e w' => e = .returned (.bool true) ∧ Below w.heap.size w w' := by
  have H := Mem.start w
  have l1 := ht.l1
  have l2 := ht.l2
  have m1 := ht.m1
  have m2 := ht.m2
  have T := Lib.hid (And.intro ht.cut (cut_len t))
  clear ht
  have hmx : maxLen ≤ 9223372036854775807 := by decide
  have e0 : tbC A1 A2 c1 c2 t.cut = #[.int .i64 t.q, .slice A1 (min 20 t.cl.length) c1, .slice A2 (min 20 t.sp.length) c2] := by simp [tbC, TB.cut]
  unfold tbC at e0 ⊢
  obtain ⟨Q, hQ⟩ : ∃ Q, t.q = Q := ⟨_, rfl⟩
  obtain ⟨n1, h1⟩ : ∃ n, t.cl.length = n := ⟨_, rfl⟩
  obtain ⟨n2, h2⟩ : ∃ n, t.sp.length = n := ⟨_, rfl⟩
  rw [h1] at l1
  rw [h2] at l2
  rw [h1, h2, hQ] at e0
  rw [h1, h2, hQ]
  clear h1 h2 hQ
  obtain ⟨k1, hk1⟩ : ∃ k, min 20 n1 = k := ⟨_, rfl⟩
  obtain ⟨k2, hk2⟩ : ∃ k, min 20 n2 = k := ⟨_, rfl⟩
  rw [hk1, hk2] at e0
  have b1 : k1 ≤ n1 := by omega
  have b2 : k2 ≤ n2 := by omega
  have HM := Lib.hid (show (if (20 : Int) < (n1 : Int) then (20 : Int) else (n1 : Int)) = k1 by split <;> omega)
  have HN := Lib.hid (show (if (20 : Int) < (n2 : Int) then (20 : Int) else (n2 : Int)) = k2 by split <;> omega)
  clear hk1 hk2
  obtain ⟨tc, htc⟩ : ∃ x, t.cut = x := ⟨_, rfl⟩
  rw [htc] at e0 T
  obtain ⟨R, hR⟩ : ∃ R, tc.right = R := ⟨_, rfl⟩
  have kN : ∀ W, TbAt W.heap.size W A1 A2 c1 c2 tc → Calls Try.prog 12 #[.agg (tbC A1 A2 c1 c2 tc), .int .u32 1] W fun e w' => (∃ v, e = .returned (.tuple #[v, .int .i64 (bif R then 0 else 80)])) ∧ Below W.heap.size W w' := fun W h => by
    cases R with
    | true => exact (hP.new_yes A1 A2 c1 c2 tc 1 W (by omega) h hR).mono fun e w' ⟨p, rd, own, h1, _, h2, _⟩ => ⟨⟨_, h1⟩, h2⟩
    | false => exact (hP.new_no A1 A2 c1 c2 tc 1 W h T.out.2 hR).mono fun e w' ⟨h1, h2⟩ => ⟨⟨_, h1⟩, h2⟩
  have kR := fun W h => right_r A1 A2 c1 c2 tc W h
  unfold RightR at kR
  rw [hR] at kR
  have kTb : ∀ (W : World) (rd own : Nat → Prop) (p : Nat) (s : SS), P W rd own p s 0 → TbAt W.heap.size W A1 A2 c1 c2 tc → (tc.right = true → ∀ i, tbS A1 A2 i → ¬ own i) → Calls Try.prog 23 #[.pointer (some ⟨p, 0, none⟩), .agg (tbC A1 A2 c1 c2 tc)] W fun e w' => e = .returned (.int .i64 (bif R then 0 else 80)) ∧ Foot own W w' := fun W rd own p s h h2 h3 => (hP.table W rd own p s 0 h A1 A2 c1 c2 tc h2 T.out.2 h3).mono fun e w' ⟨h1, _, h2⟩ => ⟨by rw [h1, tabE, hR], h2⟩
  have kTn := fun W h => hP.nil_table A1 A2 c1 c2 tc W h
  have hlt : tc.right = true → ∀ i, tbS A1 A2 i → i < w.heap.size := fun hr => tbS_lt T.out.1 hr
  have HLT := Lib.hid hlt
  unfold tbC at kN kR kTb kTn
  injection e0 with e0
  have e1 : tc.q = Q ∧ tc.cl.length = k1 ∧ tc.sp.length = k2 := by
    simp at e0
    exact e0
  rw [e1.1, e1.2.1, e1.2.2] at kN kR kTb kTn
  have HF := Lib.hid hq.f
  have HQ := Lib.hid hq
  clear e0 e1 hlt htc hR hq
  go_enter Try.func4, Try.ntmps4
  go_upto_region 1 with (first
    | ((with_reducible show wpList _ _ _ _ _ (World.alloc _ (.cells _ _))); refine mem_newb (l := []) H ?_; intro bt w3 hbk H2; try rw [← hbk]; clear hbk H; have H := H2; clear H2; simp only [List.cons_append, List.nil_append, List.set_cons_zero, List.set_cons_succ, List.setIfInBounds_toArray] at H)
    | ((with_reducible show wpList _ _ _ _ _ (World.alloc _ (.cells _ _))); refine mem_newb (l := [_]) H ?_; intro bp w3 hbk H2; try rw [← hbk]; clear hbk H; have H := H2; clear H2; simp only [List.cons_append, List.nil_append, List.set_cons_zero, List.set_cons_succ, List.setIfInBounds_toArray] at H))
  go_upto_region 2 with (first
    | go_skip
    | (go_at_call 11; with_reducible refine (shown9 hP _).mono ?_; rintro e w2 ⟨rfl, hb⟩; have H2 := H.call hb; clear H hb; have H := H2; clear H2))
  go_upto_region 3 with (first
    | ((with_reducible show wpList _ _ _ (⟨_, .load _ _, _, _, _, _⟩ :: _) _ _); refine mem_loadf (i := 0) H (by first | exact wanted_none rfl | exact wanted_some rfl rfl rfl rfl) (by exact rfl) (by exact rfl) (by exact rfl) (by first | exact Try.underlying3 | exact Try.underlying29 | exact Try.underlying30) rfl (by exact rfl) ?_)
    | ((with_reducible show wpList _ _ _ (⟨_, .store _ _ _, _, _, _, _⟩ :: _) _ _); refine mem_storef (i := 0) H (by first | exact wanted_none rfl | exact wanted_some rfl rfl rfl rfl) (by exact rfl) (by exact rfl) (by exact rfl) (by exact rfl) (by first | exact clInfo | exact ssInfo) (by exact rfl) (by exact rfl) ?_; intro w2 H2; clear H; have H := H2; clear H2; simp only [List.cons_append, List.nil_append, List.set_cons_zero, List.set_cons_succ, List.setIfInBounds_toArray] at H))
  simp only [HM.out, Int.toNat_natCast] at H ⊢
  go_upto_region 4 with (first
    | ((with_reducible show wpList _ _ _ (⟨_, .load _ _, _, _, _, _⟩ :: _) _ _); refine mem_loadf (i := 0) H (by first | exact wanted_none rfl | exact wanted_some rfl rfl rfl rfl) (by exact rfl) (by exact rfl) (by exact rfl) (by first | exact Try.underlying3 | exact Try.underlying29 | exact Try.underlying30) rfl (by exact rfl) ?_)
    | ((with_reducible show wpList _ _ _ (⟨_, .store _ _ _, _, _, _, _⟩ :: _) _ _); refine mem_storef (i := 0) H (by first | exact wanted_none rfl | exact wanted_some rfl rfl rfl rfl) (by exact rfl) (by exact rfl) (by exact rfl) (by exact rfl) (by first | exact clInfo | exact ssInfo) (by exact rfl) (by exact rfl) ?_; intro w2 H2; clear H; have H := H2; clear H2; simp only [List.cons_append, List.nil_append, List.set_cons_zero, List.set_cons_succ, List.setIfInBounds_toArray] at H))
  simp only [HN.out, Int.toNat_natCast] at H ⊢
  clear hmx m1 m2 l1 l2 b1 b2 HM HN
  go_upto_region 10 with (first
    | go_skip
    | ((with_reducible show wpList _ _ _ (⟨_, .load 32 _, _, _, _, _⟩ :: _) _ _); refine mem_load (i := 0) H (by first | exact wanted_none rfl | exact wanted_some rfl rfl rfl rfl) (by exact rfl) (by exact rfl) (by exact rfl) Try.underlying32 rfl (by exact tbInfo) ?_)
    | ((with_reducible show wpList _ _ _ (⟨_, .load 42 _, _, _, _, _⟩ :: _) _ _); refine mem_load (i := 1) H (by first | exact wanted_none rfl | exact wanted_some rfl rfl rfl rfl) (by exact rfl) (by exact rfl) (by exact rfl) Try.underlying42 rfl (by exact pkInfo) ?_)
    | ((with_reducible show wpList _ _ _ (⟨_, .load 40 _, _, _, _, _⟩ :: _) _ _); refine wpList_load_mid rfl _ _ rfl bp 4 rfl _ _ (pkt_range (d := q.f) (H.at 1 rfl)) Try.underlying40 rfl Hs.flowInfo ?_)
    | ((with_reducible show wpList _ _ _ (⟨_, .load 3 _, _, _, _, _⟩ :: _) _ _); refine mem_loadf (i := 1) H (by first | exact wanted_none rfl | exact wanted_some rfl rfl rfl rfl) (by exact rfl) (by exact rfl) (by exact rfl) Try.underlying3 rfl (by exact rfl) ?_)
    | (go_at_call 12; refine (kN _ (T.out.1.mem H)).mono ?_; rintro e w2 ⟨⟨v, rfl⟩, hb⟩; have H2 := H.call hb; clear H hb; have H := H2; clear H2)
    | (go_at_call 18; refine (kR _ (T.out.1.mem H)).mono ?_; rintro e w2 ⟨rfl, hb⟩; have H2 := H.call hb; clear H hb; have H := H2; clear H2)
    | (go_at_call 19; refine (hP.nil_choose q _ HQ.out).mono ?_; rintro e w2 ⟨⟨v2, rfl⟩, hb⟩; have H2 := H.call hb; clear H hb; have H := H2; clear H2)
    | (go_at_call 20; refine (hP.nil_cand _ _ _).mono ?_; rintro e w2 ⟨⟨v3, rfl⟩, hb⟩; have H2 := H.call hb; clear H hb; have H := H2; clear H2)
    | (go_at_call 16; refine (hP.nil_out q.f _ HF.out).mono ?_; rintro e w2 ⟨rfl, hb⟩; have H2 := H.call hb; clear H hb; have H := H2; clear H2))
  go_upto_region 11 with (first
    | (go_at_call 13; refine (even9_r 4 1 _).mono ?_; rintro e w2 ⟨B1, B2, d1, d2, rfl, hT4, hb, hf4⟩; have H2 := H.call hb; clear H hb; have H := H2; clear H2; have HT4 := Lib.hid hT4; clear hT4 hf4)
    | (go_at_call 12; refine (hP.new_yes B1 B2 d1 d2 (evT 4 1) 1 _ (by omega) HT4.out (evT_right 4 1)).mono ?_; rintro e w2 ⟨p, rd, own, rfl, hx, hb, ho, hr⟩; have hsz := H.below.size; have H2 := H.call hb; clear H hb hr HT4; have HX := Lib.hid (And.intro hx (And.intro (fun i hi => Nat.le_trans hsz (ho i hi)) (T.out.1.mem H2))); have HG := Lib.hid (And.intro (H2.at 0 rfl) (H2.at 1 rfl)); have HW := Lib.hid H2.below; clear hx ho hsz H2; have H := Mem.start w2))
  have G1 := HG.out.1
  have G2 := HG.out.2
  cases R
  · go_wp2_with (first
      | ((with_reducible show wpList _ _ _ (⟨_, .load 32 _, _, _, _, _⟩ :: _) _ _); refine load_held (G1.below H.below G1.lt) (by first | exact wanted_none rfl | exact wanted_some rfl rfl rfl rfl) (by exact rfl) (by exact rfl) Try.underlying32 rfl (by exact tbInfo) ?_)
      | ((with_reducible show wpList _ _ _ (⟨_, .load 40 _, _, _, _, _⟩ :: _) _ _); refine wpList_wanted (by first | exact wanted_none rfl | exact wanted_some rfl rfl rfl rfl) (fun K9 hK9 => wp_load_mid _ _ rfl bp 4 rfl _ _ (pkt_range (d := q.f) (G2.below H.below G2.lt)) Try.underlying40 rfl Hs.flowInfo (hK9 _ _ ?_)))
      | (go_at_call 21; refine (hP.nil_map _).mono ?_; rintro e w2 ⟨rfl, hb⟩; have H2 := H.call hb; clear H hb; have H := H2; clear H2)
      | (go_at_call 22; refine (hP.nil_done q.f _ HF.out).mono ?_; rintro e w2 ⟨rfl, hb⟩; have H2 := H.call hb; clear H hb; have H := H2; clear H2)
      | (go_at_call 23; with_reducible refine (kTn _ (HX.out.2.2.mem H)).mono ?_; rintro e w2 ⟨rfl, hb⟩; have H2 := H.call hb; clear H hb; have H := H2; clear H2)
      | (go_at_call 23; with_reducible refine (kTb _ rd own p _ (hP.on HX.out.1 (fun i hi => H.below.block i (hP.lt HX.out.1 i hi)) H.below.size) (HX.out.2.2.mem H) (fun hr i hi ho => by have := HLT.out hr i hi; have := HX.out.2.1 i ho; omega)).mono ?_; rintro e w9 ⟨rfl, hF⟩; have HW2 := Lib.hid ((HW.out.trans (H.below.mono HW.out.size)).trans (hF.below (Nat.le_trans HW.out.size H.below.size) HX.out.2.1)); clear H hF HW HX; have HW := HW2; clear HW2))
    go_ret
    exact ⟨by simp, HW.out⟩
  · go_wp2_with (first
      | ((with_reducible show wpList _ _ _ (⟨_, .load 32 _, _, _, _, _⟩ :: _) _ _); refine load_held (G1.below H.below G1.lt) (by first | exact wanted_none rfl | exact wanted_some rfl rfl rfl rfl) (by exact rfl) (by exact rfl) Try.underlying32 rfl (by exact tbInfo) ?_)
      | ((with_reducible show wpList _ _ _ (⟨_, .load 40 _, _, _, _, _⟩ :: _) _ _); refine wpList_wanted (by first | exact wanted_none rfl | exact wanted_some rfl rfl rfl rfl) (fun K9 hK9 => wp_load_mid _ _ rfl bp 4 rfl _ _ (pkt_range (d := q.f) (G2.below H.below G2.lt)) Try.underlying40 rfl Hs.flowInfo (hK9 _ _ ?_)))
      | (go_at_call 21; refine (hP.nil_map _).mono ?_; rintro e w2 ⟨rfl, hb⟩; have H2 := H.call hb; clear H hb; have H := H2; clear H2)
      | (go_at_call 22; refine (hP.nil_done q.f _ HF.out).mono ?_; rintro e w2 ⟨rfl, hb⟩; have H2 := H.call hb; clear H hb; have H := H2; clear H2)
      | (go_at_call 23; with_reducible refine (kTn _ (HX.out.2.2.mem H)).mono ?_; rintro e w2 ⟨rfl, hb⟩; have H2 := H.call hb; clear H hb; have H := H2; clear H2)
      | (go_at_call 23; with_reducible refine (kTb _ rd own p _ (hP.on HX.out.1 (fun i hi => H.below.block i (hP.lt HX.out.1 i hi)) H.below.size) (HX.out.2.2.mem H) (fun hr i hi ho => by have := HLT.out hr i hi; have := HX.out.2.1 i ho; omega)).mono ?_; rintro e w9 ⟨rfl, hF⟩; have HW2 := Lib.hid ((HW.out.trans (H.below.mono HW.out.size)).trans (hF.below (Nat.le_trans HW.out.size H.below.size) HX.out.2.1)); clear H hF HW HX; have HW := HW2; clear HW2))
    go_ret
    exact ⟨by simp, HW.out⟩
end
end Go.Proofs.Ytaoaapbbadipfaa
end
