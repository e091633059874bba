/-
  SteerFlows, walked. Conditions: as the interface says.
-/
import Derived.Test.YtaoaapbbadipfaaMHg
/- SteerFlows, walked. Conditions: as the interface says. -/
section
namespace Go.Proofs.Ytaoaapbbadipfaa
set_option linter.unusedSimpArgs false
set_option linter.unusedVariables false
set_option maxRecDepth 100000
open Go.ChangeShapes Go.WideShapes Go.ChangeAt Go.RowKit

theorem flows_facts {za zb : Int} (hza : 0 ≤ za ∧ za ≤ 4294967295) (hzb : 0 ≤ zb ∧ zb ≤ 4294967295) {s0 : SS} (h0 : s0 = SS.new (evT 8 2) 3) : ∃ qb oq on vx vy : Int, s0.chooseV zb 0 0 = qb ∧ SS.chooseE 0 0 = 0 ∧ s0.choose zb 0 0 = s0.set zb qb 1 ∧
    (∀ j, 1 ≤ j → (s0.set zb qb j).chooseV zb 0 0 = qb ∧ (s0.set zb qb j).choose zb 0 0 = s0.set zb qb (j + 1)) ∧ (s0.set zb qb 1).outQ za = oq ∧ (s0.set zb qb 1).outN za = on ∧ (∀ j, 1 ≤ j → (s0.set zb qb j).chooseV za 0 0 = vx) ∧ s0.chooseV za 0 0 = vy ∧ ((on = 1 ∧ vx = oq) ∨ (on = 0 ∧ vx = vy)) := by
  have hsp : s0.spn 0 = (0, 4) := by rw [h0]; rfl
  have hca : s0.cand 0 0 = allQ (0, ((4 : Nat) : Int)) := by
    rw [SS.cand, hsp, h0]
    rfl
  have hc : (0 : Nat) < 64 := by omega
  have hp : (0 : Int) ≤ 0 ∧ (0 : Int) < 16 := by omega
  obtain ⟨f1, f2, f3⟩ := fresh_c (s := s0) (z := zb) hc hp (by rw [h0]; rfl) (by rw [h0]; rfl)
  obtain ⟨g1, g2, g3⟩ := fresh_c (s := s0) (z := za) hc hp (by rw [h0]; rfl) (by rw [h0]; rfl)
  have hb := pick_bd (X := 0) (Y := 4) (by omega) hzb
  rw [← hca] at hb
  have hin : inS (s0.spn 0) (pickQ (s0.cand 0 0) zb) = true := by
    rw [hsp]
    simp [inS]
    omega
  have hst : ∀ j : Int, 1 ≤ j → (s0.set zb (pickQ (s0.cand 0 0) zb) j).chooseV zb 0 0 = pickQ (s0.cand 0 0) zb ∧ (s0.set zb (pickQ (s0.cand 0 0) zb) j).choose zb 0 0 = s0.set zb (pickQ (s0.cand 0 0) zb) (j + 1) := fun j hj => by
    obtain ⟨e1, e2, _⟩ := sticks_c (s := s0) (z := zb) hc hp hj hin
    exact ⟨e1, e2⟩
  by_cases hzz : za = zb
  · subst hzz
    exact ⟨pickQ (s0.cand 0 0) za, pickQ (s0.cand 0 0) za, 1, pickQ (s0.cand 0 0) za, pickQ (s0.cand 0 0) za, f1, f3, f2, hst, by rw [SS.outQ, set_fl], by rw [SS.outN, set_fl], fun j hj => (hst j hj).1, g1, .inl ⟨rfl, rfl⟩⟩
  · have hfl : ∀ q j : Int, (s0.set zb q j).fl za = none := fun q j => by
      show (if za = zb then some (q, j) else s0.fl za) = none
      rw [if_neg hzz, h0]
      rfl
    refine ⟨pickQ (s0.cand 0 0) zb, -1, 0, pickQ (s0.cand 0 0) za, pickQ (s0.cand 0 0) za, f1, f3, f2, hst, by rw [SS.outQ, hfl], by rw [SS.outN, hfl], fun j hj => ?_, g1, .inr ⟨rfl, rfl⟩⟩
    obtain ⟨e1, _, _⟩ := fresh_c (s := s0.set zb (pickQ (s0.cand 0 0) zb) j) (z := za) hc hp (by rw [SS.outN, hfl]) (by rw [SS.stays, hfl])
    exact e1
theorem pack_two {P1 P2 : PT} {W0 W W' : World} {T : Nat → Prop} {K : World → Prop} {p1 N1 p2 N2 : Nat} {s1 s2 : SS} (o1 : PtOk P1) (o2 : PtOk P2) (hk : Kept T K) (O : St P1 P2 W0 W T K p1 s1 N1 p2 s2 N2) {b b' : Nat} {ty ty' : TypeId} {cs cs' : Array Value} (H : Mem W W' [(b, ty, cs), (b', ty', cs')]) :
    ∃ T' K', Kept T' K' ∧ (∀ X, K' X → K X ∧ Held X b ty cs ∧ Held X b' ty' cs') ∧ St P1 P2 W0 W' T' K' p1 s1 N1 p2 s2 N2 := by
  have g := H.held _ List.mem_cons_self
  have g' := H.held _ (List.mem_cons_of_mem _ List.mem_cons_self)
  refine ⟨_, _, (hk.box b ty cs).box b' ty' cs', fun X h => ⟨h.1.1, h.1.2, h.2⟩, O.grow o1 o2 H.below (fun i hi => ?_) ⟨⟨?_, g.2⟩, g'.2⟩⟩
  · rcases hi with (hi | rfl) | rfl
    · exact .inl hi
    · exact .inr ⟨g.1, g.2.lt⟩
    · exact .inr ⟨g'.1, g'.2.lt⟩
  · obtain ⟨rd, own, rd2, own2, h⟩ := O
    exact hk W W' h.keep H.below.size fun i hi => H.below.block i (h.free i hi).1
section
variable {P : PT}
set_option maxHeartbeats 1000000 in
theorem flows9_w (hP : PSteer P) (a b : Hs.FV) (ha : a.Fits) (hb : b.Fits) (n : Int) (hn1 : I64 n) (w : World) : Calls Try.prog 9 #[Hs.fv a, Hs.fv b, .int .i64 n] w fun e w' => e = .returned (.bool true) ∧ Below w.heap.size w w' := by
  have H := Mem.start w
  by_cases h : 0 ≤ n ∧ n ≤ 40
  · obtain ⟨M, rfl⟩ := Int.eq_ofNat_of_zero_le h.1
    have hM : M ≤ 40 := by omega
    clear h
    have t1 : decide ((M : Int) < 0) = false := decide_eq_false (by omega)
    have t2 : decide (40 < (M : Int)) = false := decide_eq_false (by omega)
    obtain ⟨za, hza⟩ : ∃ z, hashI a 3 = z := ⟨_, rfl⟩
    obtain ⟨zb, hzb⟩ : ∃ z, hashI b 3 = z := ⟨_, rfl⟩
    have hab := hashI_bd a 3
    have hbb := hashI_bd b 3
    rw [hza] at hab
    rw [hzb] at hbb
    obtain ⟨s0, hs0⟩ : ∃ s0, SS.new (evT 8 2) 3 = s0 := ⟨_, rfl⟩
    obtain ⟨qb, oq, on, vx, vy, f1, f2, f3, f4, f5, f6, f7, f8, f9⟩ := flows_facts hab hbb hs0.symm
    have hs03 : s0.salt = 3 := by rw [← hs0]; rfl
    have HS0 := Lib.hid hs0
    have HE := Lib.hid f9
    clear hab hbb hs0 f9
    have O := Lib.hid ((St.start w ss0).none NoT.pt NoT.pt)
    go_enter Try.func9, Try.ntmps9
    go_upto_region 1 with (first
    | ((with_reducible show wpList _ _ _ _ _ (World.alloc _ (.cells _ _))); refine mem_newb (l := []) H ?_; intro ba w3 hbk H2; try rw [← hbk]; clear hbk H; have H := H2; clear H2; simp only [List.cons_append, List.nil_append, List.set_cons_zero, List.set_cons_succ, List.setIfInBounds_toArray] at H)
    | ((with_reducible show wpList _ _ _ _ _ (World.alloc _ (.cells _ _))); refine mem_newb (l := [_]) H ?_; intro bb w3 hbk H2; try rw [← hbk]; clear hbk H; have H := H2; clear H2; simp only [List.cons_append, List.nil_append, List.set_cons_zero, List.set_cons_succ, List.setIfInBounds_toArray] at H))
    obtain ⟨T1, K1, hk1, hK1, O3⟩ := pack_two NoT.pt NoT.pt (Kept.no _) O.out H
    clear O H
    have O := Lib.hid O3
    have HK := Lib.hid hk1
    have HA := Lib.hid (fun X h => (hK1 X h).2.1)
    have HB := Lib.hid (fun X h => (hK1 X h).2.2)
    clear O3 hk1 hK1
    have H := Mem.start w3
    go_upto_region 5 with (first
    | go_skip
    | (go_at_call 11; with_reducible refine (shown9 hP _).mono ?_; rintro e w2 ⟨rfl, hb⟩; have H2 := H.call hb; clear H hb; have H := H2; clear H2)
    | (go_at_call 13; refine ((O.out.on NoT.pt NoT.pt HK.out H.below).even NoT.pt NoT.pt HK.out 8 2).mono ?_; rintro e w2 ⟨A1, A2, c1', c2', rfl, O2⟩; clear O H; have O := Lib.hid O2; clear O2; have H := Mem.start w2)
    | (go_at_call 12; refine ((O.out.on NoT.pt NoT.pt (HK.out.tb A1 A2 c1' c2' (evT 8 2)) H.below).newP hP NoT.pt (HK.out.tb A1 A2 c1' c2' (evT 8 2)) A1 A2 c1' c2' (evT 8 2) 3 (by omega) (O.out.on NoT.pt NoT.pt (HK.out.tb A1 A2 c1' c2' (evT 8 2)) H.below).kp.2 (evT_right 8 2) (fun i hi => .inr hi)).mono ?_; rintro e w2 ⟨p, rfl, O2⟩; clear O H; have O := Lib.hid (O2.less hP.pt NoT.pt (fun i hi => .inl hi) (fun h => h.1)); clear O2; have H := Mem.start w2))
    rw [HS0.out] at O
    go_upto_region 6 with (first
    | go_skip
    | (go_at_call 13; refine ((O.out.on hP.pt NoT.pt HK.out H.below).even hP.pt NoT.pt HK.out 8 2).mono ?_; rintro e w2 ⟨A1, A2, c1', c2', rfl, O2⟩; clear O H; have O := Lib.hid O2; clear O2; have H := Mem.start w2)
    | (go_at_call 12; refine ((O.out.on hP.pt NoT.pt (HK.out.tb A1 A2 c1' c2' (evT 8 2)) H.below).symm.newP hP hP.pt (HK.out.tb A1 A2 c1' c2' (evT 8 2)) A1 A2 c1' c2' (evT 8 2) 3 (by omega) (O.out.on hP.pt NoT.pt (HK.out.tb A1 A2 c1' c2' (evT 8 2)) H.below).kp.2 (evT_right 8 2) (fun i hi => .inr hi)).mono ?_; rintro e w2 ⟨p2, rfl, O2⟩; clear O H; have O := Lib.hid ((O2.less hP.pt hP.pt (fun i hi => .inl hi) (fun h => h.1)).symm); clear O2; have H := Mem.start w2))
    rw [HS0.out] at O
    have hI0 : I64 0 := by unfold I64; omega
    have kC := fun W p2 h => chooseF (P := P) (P2 := P) (W0 := w) (W := W) (T := T1) (K := K1) (p := p) (N := 0) (s := s0) (p2 := p2) (s2 := s0) (N2 := 0) hP hP.pt HK.out h (by omega) hI0 hI0 hb hs03 hzb
    rw [f1, f2, f3] at kC
    have kO := fun W p2 h => outF (P := P) (P2 := P) (W0 := w) (W := W) (T := T1) (K := K1) (p := p) (N := 1) (s := s0.set zb qb 1) (p2 := p2) (s2 := s0) (N2 := 0) hP hP.pt HK.out h (by omega) ha hs03 hza
    rw [f5, f6] at kO
    have kL : ∀ W (k : Nat), k ≤ 42 → St P P w W T1 K1 p (s0.set zb qb ((k : Int) + 1)) (k + 1) p2 s0 0 → Calls _ _ _ W fun e w' => e = .returned (.tuple #[.int .i64 qb, .int .i64 0]) ∧ St P P w w' T1 K1 p (s0.set zb qb ((k : Int) + 1 + 1)) (k + 1 + 1) p2 s0 0 := fun W k hk h => by
      have h2 := chooseF (pr := 0) (c := 0) hP hP.pt HK.out h (by omega) hI0 hI0 hb (s := s0.set zb qb ((k : Int) + 1)) hs03 hzb
      obtain ⟨e1, e2⟩ := f4 ((k : Int) + 1) (by omega)
      rw [e1, e2, f2] at h2
      exact h2
    have kX : ∀ W (k : Nat), k ≤ 42 → St P P w W T1 K1 p (s0.set zb qb ((k : Int) + 1)) (k + 1) p2 s0 0 → Calls _ _ _ W fun e w' => e = .returned (.tuple #[.int .i64 vx, .int .i64 0]) ∧ St P P w w' T1 K1 p ((s0.set zb qb ((k : Int) + 1)).choose za 0 0) (k + 1 + 1) p2 s0 0 := fun W k hk h => by
      have h2 := chooseF (pr := 0) (c := 0) hP hP.pt HK.out h (by omega) hI0 hI0 ha (s := s0.set zb qb ((k : Int) + 1)) hs03 hza
      rw [f7 _ (by omega), f2] at h2
      exact h2
    have kY : ∀ W p1 (s1 : SS) N1, St P P w W T1 K1 p1 s1 N1 p2 s0 0 → Calls _ _ _ W fun e w' => e = .returned (.tuple #[.int .i64 vy, .int .i64 0]) ∧ St P P w w' T1 K1 p1 s1 N1 p2 (s0.choose za 0 0) (0 + 1) := fun W p1 s1 N1 h => by
      have h2 := chooseF (pr := 0) (c := 0) hP hP.pt HK.out h.symm (by omega) hI0 hI0 ha (s := s0) hs03 hza
      rw [f8, f2] at h2
      exact h2.mono fun e w' ⟨h3, h4⟩ => ⟨h3, h4.symm⟩
    clear f1 f2 f3 f4 f5 f6 f7 f8 hs03 hza hzb ha hb
    go_upto_region 7 with (first
    | ((with_reducible show wpList _ _ _ (⟨_, .load 40 _, _, _, _, _⟩ :: _) _ _); refine load_held ((HB.out _ O.out.kp).below H.below (HB.out _ O.out.kp).lt) (by first | exact wanted_none rfl | exact wanted_some rfl rfl rfl rfl) (by exact rfl) (by exact rfl) Try.underlying40 rfl (by exact Hs.flowInfo) ?_)
    | (go_at_call 19; refine (kC _ _ (O.out.on hP.pt hP.pt HK.out H.below)).mono ?_; rintro e w2 ⟨rfl, O2⟩; clear O H; have O := Lib.hid O2; clear O2; have H := Mem.start w2))
    go_upto_region 8 with (first
    | ((with_reducible show wpList _ _ _ (⟨_, .load 40 _, _, _, _, _⟩ :: _) _ _); refine load_held ((HA.out _ O.out.kp).below H.below (HA.out _ O.out.kp).lt) (by first | exact wanted_none rfl | exact wanted_some rfl rfl rfl rfl) (by exact rfl) (by exact rfl) Try.underlying40 rfl (by exact Hs.flowInfo) ?_)
    | (go_at_call 16; refine (kO _ _ (O.out.on hP.pt hP.pt HK.out H.below)).mono ?_; rintro e w2 ⟨rfl, O2⟩; clear O H; have O := Lib.hid O2; clear O2; have H := Mem.start w2))
    have O1 : St P P w w2 T1 K1 p (s0.set zb qb (((0 : Nat) : Int) + 1)) (0 + 1) p2 s0 0 := O.out
    clear O kC kO
    go_upto_region 9 with fail
    go_loopw [14] (fun i wr => ∃ k : Nat, k ≤ M ∧ i = .int .i64 k ∧ Hid (St P P w wr T1 K1 p (s0.set zb qb ((k : Int) + 1)) (k + 1) p2 s0 0)) (fun i _ => M - (intOf i).toNat)
    case atStart => exact ⟨0, Nat.zero_le _, rfl, Lib.hid (O1.on hP.pt hP.pt HK.out H.below)⟩
    case round =>
      clear O1 H
      obtain ⟨k, hk, rfl, O⟩ := hrel
      have H := Mem.start wr
      by_cases hlt : k < M
      · have kL1 := fun W h => kL W k (by omega) h
        clear kL kX kY
        go_wp2_with (first
        | ((with_reducible show wpList _ _ _ (⟨_, .load 40 _, _, _, _, _⟩ :: _) _ _); refine load_held ((HB.out _ O.out.kp).below H.below (HB.out _ O.out.kp).lt) (by first | exact wanted_none rfl | exact wanted_some rfl rfl rfl rfl) (by exact rfl) (by exact rfl) Try.underlying40 rfl (by exact Hs.flowInfo) ?_)
        | (go_at_call 19; refine (kL1 _ (O.out.on hP.pt hP.pt HK.out H.below)).mono ?_; rintro e w2 ⟨rfl, O2⟩; clear O H; have O := Lib.hid O2; clear O2; have H := Mem.start w2))
        go_roundw
        case rel =>
          have O2 := (O.out.on hP.pt hP.pt HK.out H.below)
          rw [show (k : Int) + 1 + 1 = ((k + 1 : Nat) : Int) + 1 by omega] at O2
          exact ⟨k + 1, by omega, by go_num, Lib.hid O2⟩
        case measure => simp [intOf]; omega
      · obtain rfl : k = M := by omega
        have kX1 := fun W h => kX W k (by omega) h
        clear kL hlt kX
        go_upto_region 13 with (first
    | go_skip
    | ((with_reducible show wpList _ _ _ (⟨_, .load 40 _, _, _, _, _⟩ :: _) _ _); refine load_held ((HA.out _ O.out.kp).below H.below (HA.out _ O.out.kp).lt) (by first | exact wanted_none rfl | exact wanted_some rfl rfl rfl rfl) (by exact rfl) (by exact rfl) Try.underlying40 rfl (by exact Hs.flowInfo) ?_)
    | (go_at_call 19; refine (kX1 _ (O.out.on hP.pt hP.pt HK.out H.below)).mono ?_; rintro e w2 ⟨rfl, O2⟩; clear O H; have O := Lib.hid O2; clear O2; have H := Mem.start w2))
        go_upto_region 14 with (first
    | ((with_reducible show wpList _ _ _ (⟨_, .load 40 _, _, _, _, _⟩ :: _) _ _); refine load_held ((HA.out _ O.out.kp).below H.below (HA.out _ O.out.kp).lt) (by first | exact wanted_none rfl | exact wanted_some rfl rfl rfl rfl) (by exact rfl) (by exact rfl) Try.underlying40 rfl (by exact Hs.flowInfo) ?_)
    | (go_at_call 19; refine (kY _ _ _ _ (O.out.on hP.pt hP.pt HK.out H.below)).mono ?_; rintro e w2 ⟨rfl, O2⟩; clear O H; have O := Lib.hid O2; clear O2; have H := Mem.start w2))
        rcases HE.out with ⟨h1, h2⟩ | ⟨h1, h2⟩
        · have t3 : decide (0 < on) = true := decide_eq_true (by omega)
          clear HE h1
          go_wp2_with (first | go_skip)
          go_ret
          exact ⟨by simp [h2], O.out.bel.trans (H.below.mono O.out.le)⟩
        · have t3 : decide (0 < on) = false := decide_eq_false (by omega)
          clear HE h1
          go_wp2_with (first | go_skip)
          go_ret
          exact ⟨by simp [h2], O.out.bel.trans (H.below.mono O.out.le)⟩
  · by_cases h1 : n < 0
    · have t1 : decide (n < 0) = true := decide_eq_true h1
      clear h
      go_enter Try.func9, Try.ntmps9
      go_wp2_with (first
        | go_skip
        | (go_at_call 11; with_reducible refine (shown9 hP _).mono ?_; rintro e w2 ⟨rfl, hb⟩; have H2 := H.call hb; clear H hb; have H := H2; clear H2)
        | ((with_reducible show wpList _ _ _ _ _ (World.alloc _ (.cells _ _))); refine mem_new H ?_; intro w2 H2; clear H; have H := H2; clear H2; simp only [List.cons_append, List.nil_append, List.set_cons_zero, List.set_cons_succ, List.setIfInBounds_toArray] at H))
      go_ret
      exact ⟨rfl, H.below⟩
    · have t1 : decide (n < 0) = false := decide_eq_false h1
      have t2 : decide (40 < n) = true := decide_eq_true (by omega)
      clear h
      go_enter Try.func9, Try.ntmps9
      go_wp2_with (first
        | go_skip
        | (go_at_call 11; with_reducible refine (shown9 hP _).mono ?_; rintro e w2 ⟨rfl, hb⟩; have H2 := H.call hb; clear H hb; have H := H2; clear H2)
        | ((with_reducible show wpList _ _ _ _ _ (World.alloc _ (.cells _ _))); refine mem_new H ?_; intro w2 H2; clear H; have H := H2; clear H2; simp only [List.cons_append, List.nil_append, List.set_cons_zero, List.set_cons_succ, List.setIfInBounds_toArray] at H))
      go_ret
      exact ⟨rfl, H.below⟩
end
end Go.Proofs.Ytaoaapbbadipfaa
end
