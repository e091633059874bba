/-
  SteerMaps, walked. Conditions: as the interface says.
-/
import Derived.Test.YtaoaapbbadipfaaMGu
/- SteerMaps, walked. Conditions: as the interface says. -/
section
namespace Go.Proofs.Ytaoaapbbadipfaa
set_option linter.unusedSimpArgs false
set_option linter.unusedVariables false
set_option maxRecDepth 100000
open Go.ChangeShapes Go.WideShapes Go.ChangeAt Go.RowKit

theorem evT2 {N : Nat} (h : 2 ≤ N ∧ N ≤ 20) : ∃ c0 c1 : Nat, 1 ≤ c1 ∧ c1 ≤ c0 ∧ c0 + c1 = N ∧ evT (N : Int) 2 = ⟨N, evenC 2 16, [((0 : Int), (c0 : Int)), ((c0 : Int), (c1 : Int))]⟩ := by
  have e : evT (N : Int) 2 = evenT N 2 := if_pos (show EvOk N 2 by unfold EvOk; omega)
  have h0 : offN N 2 0 = 0 := offN_zero N 2
  have h1 : offN N 2 1 = cntN N 2 0 := by rw [offN_succ, h0]; omega
  have h2 : offN N 2 1 + cntN N 2 1 = N := by rw [← offN_succ]; exact offN_all (by omega)
  refine ⟨cntN N 2 0, cntN N 2 1, ?_, ?_, by omega, ?_⟩
  · unfold cntN
    omega
  · unfold cntN
    split <;> split <;> omega
  · rw [e]
    simp only [evenT, evenS, List.range_succ, List.range_zero, List.nil_append, List.map_append, List.map_cons, List.map_nil, List.cons_append, h0, h1]
    rfl
/-- an even table of two classes -/
theorem two_spn {N c0 c1 : Nat} {s : SS} (ht : s.t = ⟨N, evenC 2 16, [((0 : Int), (c0 : Int)), ((c0 : Int), (c1 : Int))]⟩) : s.spn 0 = (0, (c0 : Int)) ∧ s.spn 1 = ((c0 : Int), (c1 : Int)) := by
  constructor
  · show s.t.spAt 0 = _
    rw [ht]
    rfl
  · show s.t.spAt 1 = _
    rw [ht]
    rfl
theorem allQ_len (X : Int) (Y : Nat) : (allQ (X, (Y : Int))).length = Y := by simp [allQ]
theorem maps_facts {N C c0 c1 : Nat} (h : 1 ≤ c1 ∧ c1 ≤ c0 ∧ c0 + c1 = N) (hN : N ≤ 20) (hC : C ≤ 62) {s0 : SS} (ht : s0.t = ⟨N, evenC 2 16, [((0 : Int), (c0 : Int)), ((c0 : Int), (c1 : Int))]⟩) (hm : s0.maps = fun _ => []) :
    s0.mapE (C : Int) [(N : Int) - 1] = 0 ∧ (s0.map (C : Int) [(N : Int) - 1]).candV 0 (C : Int) = allQ (0, (c0 : Int)) ∧ (s0.map (C : Int) [(N : Int) - 1]).candV 1 (C : Int) = [(N : Int) - 1] ∧ (s0.map (C : Int) [(N : Int) - 1]).candV 1 ((C : Int) + 1) = allQ ((c0 : Int), (c1 : Int)) ∧ SS.candE 0 (C : Int) = 0 ∧ SS.candE 1 (C : Int) = 0 ∧ SS.candE 1 ((C : Int) + 1) = 0 := by
  have e1 : s0.mapOk (C : Int) [(N : Int) - 1] = true := by
    have hq : s0.t.q = N := by rw [ht]
    simp only [SS.mapOk, okTo, List.length_cons, List.length_nil, hq]
    simp
    omega
  have e2 : s0.map (C : Int) [(N : Int) - 1] = s0.mapped (C : Int) [(N : Int) - 1] := by rw [SS.map, e1]; rfl
  have hsp := two_spn (s := s0.mapped (C : Int) [(N : Int) - 1]) ht
  have k0 : cOk 0 (C : Int) = true := by simp [cOk]; omega
  have k1 : cOk 1 (C : Int) = true := by simp [cOk]; omega
  have k2 : cOk 1 ((C : Int) + 1) = true := by simp [cOk]; omega
  have m1 : (s0.mapped (C : Int) [(N : Int) - 1]).maps C = [(N : Int) - 1] := if_pos (by simp)
  have m2 : (s0.mapped (C : Int) [(N : Int) - 1]).maps (C + 1) = [] := by
    show (if C + 1 = ((C : Int)).toNat then [(N : Int) - 1] else s0.maps (C + 1)) = []
    rw [if_neg (by simp), hm]
  refine ⟨by rw [SS.mapE, e1]; rfl, ?_, ?_, ?_, by rw [SS.candE, k0]; rfl, by rw [SS.candE, k1]; rfl, by rw [SS.candE, k2]; rfl⟩
  · rw [e2, SS.candV, k0]
    show candL ((s0.mapped (C : Int) [(N : Int) - 1]).maps ((C : Int)).toNat) _ = _
    rw [Int.toNat_natCast, m1, hsp.1, candL, if_pos]
    simp [inS]
    omega
  · rw [e2, SS.candV, k1]
    show candL ((s0.mapped (C : Int) [(N : Int) - 1]).maps ((C : Int)).toNat) _ = _
    have hin : inS ((c0 : Int), (c1 : Int)) ((N : Int) - 1) = true := by simp [inS]; omega
    rw [Int.toNat_natCast, m1, hsp.2, candL, List.filter_cons, hin]
    rfl
  · rw [e2, SS.candV, k2]
    show candL ((s0.mapped (C : Int) [(N : Int) - 1]).maps ((C : Int) + 1).toNat) _ = _
    rw [show ((C : Int) + 1).toNat = C + 1 by omega, m2, hsp.2]
    rfl
section
variable {P : PT}
theorem pack_tb {w W W' : World} {A1 A2 : Option Addr} {c1 c2 b : Nat} {t : TB} {ty : TypeId} {cs : Array Value} (O : St NoT NoT w W (fun i => False ∨ tbS A1 A2 i) (fun X => True ∧ TbAt X.heap.size X A1 A2 c1 c2 t) 0 ss0 0 0 ss0 0) (H : Mem W W' [(b, ty, cs)]) :
    ∃ T K, Kept T K ∧ (∀ X, K X → TbAt X.heap.size X A1 A2 c1 c2 t ∧ Held X b ty cs) ∧ (∀ i, tbS A1 A2 i → T i) ∧ St NoT NoT w W' T K 0 ss0 0 0 ss0 0 :=
  ⟨_, _, ((Kept.no _).tb A1 A2 c1 c2 t).box b ty cs, fun X h => ⟨h.1.2, h.2⟩, fun i hi => .inl (.inr hi), O.box NoT.pt NoT.pt ((Kept.no _).tb A1 A2 c1 c2 t) H⟩
set_option maxHeartbeats 400000 in
theorem maps_w (hP : PSteer P) (cpu n : Int) (hn1 : I64 n) (w : World) : Calls Try.prog 10 #[.int .i64 cpu, .int .i64 n] w fun e w' => e = .returned (.bool true) ∧ Below w.heap.size w w' := by
  have H := Mem.start w
  by_cases h : 0 ≤ cpu ∧ cpu ≤ 62 ∧ 2 ≤ n ∧ n ≤ 20
  · obtain ⟨C, rfl⟩ := Int.eq_ofNat_of_zero_le h.1
    obtain ⟨N, rfl⟩ := Int.eq_ofNat_of_zero_le (show 0 ≤ n by omega)
    have hC : C ≤ 62 := by omega
    have hN : 2 ≤ N ∧ N ≤ 20 := by omega
    clear h
    have t1 : decide ((C : Int) < 0) = false := decide_eq_false (by omega)
    have t2 : decide (62 < (C : Int)) = false := decide_eq_false (by omega)
    have t3 : decide ((N : Int) < 2) = false := decide_eq_false (by omega)
    have t4 : decide (20 < (N : Int)) = false := decide_eq_false (by omega)
    obtain ⟨c0, c1, g1, g2, g3, ht⟩ := evT2 hN
    obtain ⟨t, hte⟩ : ∃ t, evT (N : Int) 2 = t := ⟨_, rfl⟩
    have kE := fun W (h : St NoT NoT w W (fun _ => False) (fun _ => True) 0 ss0 0 0 ss0 0) => h.even NoT.pt NoT.pt (Kept.no _) (N : Int) 2
    rw [hte] at ht kE
    have hr : t.right = true := hte ▸ evT_right (N : Int) 2
    obtain ⟨f1, f2, f3, f4, f5, f6, f7⟩ := maps_facts (C := C) (s0 := SS.new t 1) ⟨g1, g2, g3⟩ hN.2 hC ht rfl
    obtain ⟨s1, hs1⟩ : ∃ s, (SS.new t 1).map (C : Int) [(N : Int) - 1] = s := ⟨_, rfl⟩
    rw [hs1] at f2 f3 f4
    have HTE := Lib.hid ht
    have HS1 := Lib.hid hs1
    clear ht hte hs1
    have O := Lib.hid ((St.start w ss0).none NoT.pt NoT.pt)
    go_enter Try.func10, Try.ntmps10
    go_upto_region 5 with (first
    | go_skip
    | (go_at_call 11; with_reducible refine (shown9 hP _).mono ?_; rintro e w2 ⟨rfl, hb⟩; have H2 := H.call hb; clear H hb; have H := H2; clear H2)
    | (go_at_call 13; refine (kE _ (O.out.on NoT.pt NoT.pt (Kept.no _) H.below)).mono ?_; rintro e w2 ⟨A1, A2, c1', c2', rfl, O2⟩; clear O H; have O := Lib.hid O2; clear O2; have H := Mem.start w2)
    | ((with_reducible show wpList _ _ _ _ _ (World.alloc _ (.cells _ _))); refine mem_newb H ?_; intro b w3 hbk H2; try rw [← hbk]; clear hbk H; have H := H2; clear H2; simp only [List.cons_append, List.nil_append, List.set_cons_zero, List.set_cons_succ, List.setIfInBounds_toArray] at H)
    | ((with_reducible show wpList _ _ _ (⟨_, .store 32 _ _, _, _, _, _⟩ :: _) _ _); refine mem_store (i := 0) H (by first | exact wanted_none rfl | exact wanted_some rfl rfl rfl rfl) (by exact rfl) (by exact rfl) (by exact rfl) (by exact rfl) (by exact tbInfo) (by exact rfl) (by exact rfl) ?_; intro w2 H2; clear H; have H := H2; clear H2; simp only [List.cons_append, List.nil_append, List.set_cons_zero, List.set_cons_succ, List.setIfInBounds_toArray] at H))
    obtain ⟨T1, K1, hk1, hK1, hT1, O3⟩ := pack_tb O.out H
    clear O H
    have O := Lib.hid O3
    have HK := Lib.hid hk1
    have HF := Lib.hid hK1
    have HT := Lib.hid hT1
    have hb6 := (HF.out _ O.out.kp).2
    clear O3 hk1 hK1 hT1
    have H := Mem.start w2
    go_upto_region 6 with (first
    | ((with_reducible show wpList _ _ _ (⟨_, .load 32 _, _, _, _, _⟩ :: _) _ _); refine load_held (HF.out _ O.out.kp).2 (by first | exact wanted_none rfl | exact wanted_some rfl rfl rfl rfl) (by exact rfl) (by exact rfl) Try.underlying32 rfl (by exact tbInfo) ?_)
    | (go_at_call 12; refine (O.out.newP hP NoT.pt HK.out A1 A2 c1' c2' t 1 (by omega) (HF.out _ O.out.kp).1 hr HT.out).mono ?_; rintro e w2 ⟨p, rfl, O2⟩; clear O H; have O := Lib.hid O2; clear O2; have H := Mem.start w2))
    have kN := fun W h A hr => map_one (P := P) (W0 := w) (W := W) (T := T1) (K := K1) (p := p) (N := 0) (s := SS.new t 1) hP HK.out h (C : Int) ((N : Int) - 1) (by unfold I64; omega) (by unfold I64; omega) A hr
    rw [f1, HS1.out] at kN
    go_upto_region 7 with (first
    | ((with_reducible show wpList _ _ _ _ _ (World.alloc _ (.cells _ _))); refine mem_new H ?_; intro w2 H2; clear H; have H := H2; clear H2; simp only [List.cons_append, List.nil_append, List.set_cons_zero, List.set_cons_succ, List.setIfInBounds_toArray] at H)
    | (go_at_call 21; refine (kN _ (O.out.on hP.pt NoT.pt HK.out H.below) _ (rowI_box (H.at 0 rfl))).mono ?_; rintro e w2 ⟨rfl, O2⟩; clear O H; have O := Lib.hid O2; clear O2; have H := Mem.start w2))
    have kx := fun W h => St.candP (P := P) (P2 := NoT) (W0 := w) (W := W) (T := T1) (K := K1) (p1 := p) (N1 := 0) (s1 := s1) (p2 := 0) (s2 := ss0) (N2 := 0) hP NoT.pt HK.out h 0 (C : Int) (by unfold I64; omega) (by unfold I64; omega)
    rw [f2, f5] at kx
    unfold CandP at kx
    go_upto_region 8 with (first
    | (go_at_call 20; refine (kx _ (O.out.on hP.pt NoT.pt HK.out H.below)).mono ?_; rintro e w2 ⟨vx, rfl, O2⟩; clear O H; have O := Lib.hid O2; clear O2; have H := Mem.start w2))
    have HKx := Lib.hid (HK.out.sl vx (allQ (0, (c0 : Int))))
    have ky := fun W h => St.candP (P := P) (P2 := NoT) (W0 := w) (W := W) (p1 := p) (N1 := 0) (s1 := s1) (p2 := 0) (s2 := ss0) (N2 := 0) hP NoT.pt HKx.out h 1 (C : Int) (by unfold I64; omega) (by unfold I64; omega)
    rw [f3, f6] at ky
    unfold CandP at ky
    go_upto_region 9 with (first
    | (go_at_call 20; refine (ky _ (O.out.on hP.pt NoT.pt HKx.out H.below)).mono ?_; rintro e w2 ⟨vy, rfl, O2⟩; clear O H; have O := Lib.hid O2; clear O2; have H := Mem.start w2))
    have HKy := Lib.hid (HKx.out.sl vy [(N : Int) - 1])
    have kz := fun W h => St.candP (P := P) (P2 := NoT) (W0 := w) (W := W) (p1 := p) (N1 := 0) (s1 := s1) (p2 := 0) (s2 := ss0) (N2 := 0) hP NoT.pt HKy.out h 1 ((C : Int) + 1) (by unfold I64; omega) (by unfold I64; omega)
    rw [f4, f7] at kz
    unfold CandP at kz
    go_upto_region 10 with (first
    | (go_at_call 20; refine (kz _ (O.out.on hP.pt NoT.pt HKy.out H.below)).mono ?_; rintro e w2 ⟨vz, rfl, O2⟩; clear O H; have O := Lib.hid O2; clear O2; have H := Mem.start w2))
    obtain ⟨⟨⟨hk1, hx⟩, hy⟩, hz⟩ := O.out.kp
    obtain ⟨hT, hB⟩ := HF.out _ hk1
    have hl : t.sp.length = 2 := by rw [HTE.out]; rfl
    have q2 := hB.cell 2
    have hbl := hB.lt
    obtain ⟨b0, o0, hA0, hb0, r0, r1⟩ := hT.sp 0 ((0 : Int), (c0 : Int)) (by rw [HTE.out]; rfl)
    obtain ⟨b1, o1, hA1, hb1, r2, r3⟩ := hT.sp 1 ((c0 : Int), (c1 : Int)) (by rw [HTE.out]; rfl)
    rw [hA0] at hA1
    cases hA1
    simp only [List.getElem?_toArray, List.getElem?_cons_zero, List.getElem?_cons_succ] at q2
    rw [hA0, hl] at q2
    obtain ⟨Ax, dx, hvx⟩ : ∃ Ax dx, vx = .slice Ax c0 dx := by
      obtain ⟨Ax, dx, e, _⟩ := hx
      rw [allQ_len] at e
      exact ⟨Ax, dx, e⟩
    obtain ⟨Az, dz, hvz⟩ : ∃ Az dz, vz = .slice Az c1 dz := by
      obtain ⟨Az, dz, e, _⟩ := hz
      rw [allQ_len] at e
      exact ⟨Az, dz, e⟩
    have HKz := Lib.hid (HKy.out.sl vz (allQ ((c0 : Int), (c1 : Int))))
    have O5 := Lib.hid O.out
    clear O
    simp only [Nat.zero_mul, Nat.one_mul, Nat.add_zero] at r1 r3
    have HV := Lib.hid (And.intro hvx hvz)
    have ks := fun W (h : Below w2.heap.size w2 W) v hv => same_sl vy v [(N : Int) - 1] W (by simp) (O5.out.on hP.pt NoT.pt HKz.out h).kp.1.2 hv
    clear hk1 hx hy hz hT hB hA0 hb1 r0 r2 hl
    rw [hvx, hvz]
    clear hvx hvz
    go_wp2_with (first
      | go_skip
      | (go_at_call 27; refine (ks _ H.below _ ⟨_, _, rfl, by simp, by simp [maxLen], rowI_box (H.at 0 rfl)⟩).mono ?_; rintro e w6 ⟨rfl, hb⟩; have H2 := H.call hb; clear H hb; have H := H2; clear H2; have q2' := (H.old (p := ⟨b, 2, none⟩) hbl).trans q2; have r3' := (H.old (p := ⟨b0, o0 + 2 + 1, none⟩) hb0).trans r3)
      | ((with_reducible show wpList _ _ _ _ _ (World.alloc _ (.cells _ _))); refine mem_new H ?_; intro w2 H2; clear H; have H := H2; clear H2; simp only [List.cons_append, List.nil_append, List.set_cons_zero, List.set_cons_succ, List.setIfInBounds_toArray] at H))
    go_ret
    exact ⟨by simp, O5.out.bel.trans (H.below.mono O5.out.le)⟩
  · by_cases h1 : cpu < 0
    · have t1 : decide (cpu < 0) = true := decide_eq_true h1
      clear h
      go_enter Try.func10, Try.ntmps10
      go_wp2_with (first
        | go_skip
        | (go_at_call 11; with_reducible refine (shown9 hP _).mono ?_; rintro e w2 ⟨rfl, hb⟩; have H2 := H.call hb; clear H hb; have H := H2; clear H2))
      go_ret
      exact ⟨rfl, H.below⟩
    · by_cases h2 : 62 < cpu
      · have t1 : decide (cpu < 0) = false := decide_eq_false h1
        have t2 : decide (62 < cpu) = true := decide_eq_true h2
        clear h
        go_enter Try.func10, Try.ntmps10
        go_wp2_with (first
          | go_skip
          | (go_at_call 11; with_reducible refine (shown9 hP _).mono ?_; rintro e w2 ⟨rfl, hb⟩; have H2 := H.call hb; clear H hb; have H := H2; clear H2))
        go_ret
        exact ⟨rfl, H.below⟩
      · by_cases h3 : n < 2
        · have t1 : decide (cpu < 0) = false := decide_eq_false h1
          have t2 : decide (62 < cpu) = false := decide_eq_false h2
          have t3 : decide (n < 2) = true := decide_eq_true h3
          clear h
          go_enter Try.func10, Try.ntmps10
          go_wp2_with (first
            | go_skip
            | (go_at_call 11; with_reducible refine (shown9 hP _).mono ?_; rintro e w2 ⟨rfl, hb⟩; have H2 := H.call hb; clear H hb; have H := H2; clear H2))
          go_ret
          exact ⟨rfl, H.below⟩
        · have t1 : decide (cpu < 0) = false := decide_eq_false h1
          have t2 : decide (62 < cpu) = false := decide_eq_false h2
          have t3 : decide (n < 2) = false := decide_eq_false h3
          have t4 : decide (20 < n) = true := decide_eq_true (by omega)
          clear h
          go_enter Try.func10, Try.ntmps10
          go_wp2_with (first
            | go_skip
            | (go_at_call 11; with_reducible refine (shown9 hP _).mono ?_; rintro e w2 ⟨rfl, hb⟩; have H2 := H.call hb; clear H hb; have H := H2; clear H2))
          go_ret
          exact ⟨rfl, H.below⟩
end
end Go.Proofs.Ytaoaapbbadipfaa
end
