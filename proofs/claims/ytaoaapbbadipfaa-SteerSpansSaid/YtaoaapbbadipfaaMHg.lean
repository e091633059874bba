/-
  SteerSticks, walked. Conditions: as the interface says.
-/
import Derived.Test.YtaoaapbbadipfaaMHf
/- SteerSticks, walked. Conditions: as the interface says. -/
section
namespace Go.Proofs.Ytaoaapbbadipfaa
set_option linter.unusedSimpArgs false
set_option linter.unusedVariables false
set_option maxRecDepth 100000
open Go.ChangeShapes Go.WideShapes Go.ChangeAt Go.RowKit

theorem pkInfo : (Try.prog.info? 42).map (·.size) = some 9 := by kernel_rfl
abbrev fvC (f : Hs.FV) : Array Value := #[.int .u32 f.a, .int .u32 f.b, .int .u16 f.sp, .int .u16 f.dp, .int .u8 f.q]
abbrev pkL (q : PK) : Array Value := #[.int .u32 q.id, .int .u32 q.len, .int .i64 q.prio, .int .i64 q.cpu, .int .u32 q.f.a, .int .u32 q.f.b, .int .u16 q.f.sp, .int .u16 q.f.dp, .int .u8 q.f.q]
theorem set_fl (s : SS) (n q o : Int) : (s.set n q o).fl n = some (q, o) := by
  show (if n = n then some (q, o) else s.fl n) = _
  rw [if_pos rfl]
/-- one class of eight queues -/
theorem one_spn {s : SS} (ht : s.t = evT 8 1) : s.spn 0 = (0, 8) := by
  show s.t.spAt 0 = _
  rw [ht]
  rfl
theorem okC {C : Nat} (hC : C < 64) {p : Int} (hp : 0 ≤ p ∧ p < 16) : cOk p (C : Int) = true := by simp [cOk]; omega
/-- what a flow that has packets out does, as long as its queue is in the span -/
theorem sticks_c {s : SS} {z q j p : Int} {C : Nat} (hC : C < 64) (hp : 0 ≤ p ∧ p < 16) (hj : 1 ≤ j) (hq : inS (s.spn p) q = true) : (s.set z q j).chooseV z p (C : Int) = q ∧ (s.set z q j).choose z p (C : Int) = s.set z q (j + 1) ∧ SS.chooseE p (C : Int) = 0 := by
  have e1 : (s.set z q j).stays z p = true := by
    rw [SS.stays, set_fl]
    have : (j == 0) = false := by rw [beq_eq_false_iff_ne]; omega
    show (!(j == 0) && inS (s.spn p) q) = true
    rw [this, hq]
    rfl
  have e2 : (s.set z q j).queue z p (C : Int) = q := by rw [SS.queue, e1, SS.outQ, set_fl]; rfl
  have e3 : (s.set z q j).outN z = j := by rw [SS.outN, set_fl]
  refine ⟨?_, ?_, by rw [SS.chooseE, SS.candE, okC hC hp]; rfl⟩
  · rw [SS.chooseV, okC hC hp, e2]
    rfl
  · rw [SS.choose, okC hC hp, e2, e3]
    exact set_set s z q j q (j + 1)
/-- .. and one that has none -/
theorem fresh_c {s : SS} {z p : Int} {C : Nat} (hC : C < 64) (hp : 0 ≤ p ∧ p < 16) (hn : s.outN z = 0) (hst : s.stays z p = false) : s.chooseV z p (C : Int) = pickQ (s.cand p (C : Int)) z ∧ s.choose z p (C : Int) = s.set z (pickQ (s.cand p (C : Int)) z) 1 ∧ SS.chooseE p (C : Int) = 0 := by
  have e2 : s.queue z p (C : Int) = pickQ (s.cand p (C : Int)) z := by rw [SS.queue, hst]; rfl
  refine ⟨?_, ?_, by rw [SS.chooseE, SS.candE, okC hC hp]; rfl⟩
  · rw [SS.chooseV, okC hC hp, e2]
    rfl
  · rw [SS.choose, okC hC hp, e2, hn]
    rfl
theorem done_c {s : SS} {z q j : Int} (hj : 1 ≤ j) : (s.set z q j).doneE z = 0 ∧ (s.set z q j).done z = s.set z q (j - 1) := by
  have e1 : (s.set z q j).outN z = j := by rw [SS.outN, set_fl]
  have e2 : (j == 0) = false := by rw [beq_eq_false_iff_ne]; omega
  have e3 : (s.set z q j).outQ z = q := by rw [SS.outQ, set_fl]
  refine ⟨by rw [SS.doneE, e1, e2]; rfl, ?_⟩
  rw [SS.done, e1, e2, e3]
  exact set_set s z q j q (j - 1)
theorem pick_bd {X : Int} {Y : Nat} (hY : 1 ≤ Y ∧ Y ≤ 64) {z : Int} (hz : 0 ≤ z ∧ z ≤ 4294967295) : X ≤ pickQ (allQ (X, (Y : Int))) z ∧ pickQ (allQ (X, (Y : Int))) z < X + Y := by
  have hs := Hs.scl_in (a := z) (n := (Y : Int)) hz (by omega)
  have hl : (allQ (X, (Y : Int))).length = Y := allQ_len X Y
  obtain ⟨k, hk⟩ := Int.eq_ofNat_of_zero_le hs.1
  have e : z * (Y : Int) / 4294967296 = (k : Int) := hk
  rw [hk] at hs
  rw [pickQ, hl, e, Int.toNat_natCast, List.getD_eq_getElem?_getD]
  simp only [allQ, Int.toNat_natCast, List.getElem?_map, List.getElem?_range (show k < Y by omega)]
  simp
  omega
theorem sticks_facts {z : Int} (hz : 0 ≤ z ∧ z ≤ 4294967295) {C : Nat} (hC : C < 64) {s0 : SS} (h0 : s0 = SS.new (evT 8 1) 3) : ∃ (q oth : Int) (B : SS), 0 ≤ q ∧ q < 8 ∧ oth = Int.tmod (q + 1) 8 ∧ (0 ≤ oth ∧ oth < 8) ∧ B.salt = 3 ∧ inS (B.spn 0) q = true ∧ s0.chooseV z 0 (C : Int) = q ∧ SS.chooseE 0 (C : Int) = 0 ∧ (s0.choose z 0 (C : Int)).mapE (C : Int) [oth] = 0 ∧ (s0.choose z 0 (C : Int)).map (C : Int) [oth] = B.set z q 1 ∧ (s0.choose z 0 (C : Int)).salt = 3 ∧ (B.set z q 0).chooseV z 0 (C : Int) = oth := by
  have hsp : s0.spn 0 = (0, 8) := one_spn (by rw [h0]; rfl)
  have hca : s0.cand 0 (C : Int) = allQ (0, ((8 : Nat) : Int)) := by
    rw [SS.cand, hsp, h0]
    rfl
  obtain ⟨f1, f2, f3⟩ := fresh_c (s := s0) (z := z) hC (p := 0) (by omega) (by rw [h0]; rfl) (by rw [h0]; rfl)
  have hb := pick_bd (X := 0) (Y := 8) (by omega) hz
  rw [← hca] at hb
  obtain ⟨q, hq⟩ : ∃ q, pickQ (s0.cand 0 (C : Int)) z = q := ⟨_, rfl⟩
  rw [hq] at f1 f2 hb
  have hq2 : 0 ≤ q ∧ q < 8 := by omega
  have ho : 0 ≤ Int.tmod (q + 1) 8 ∧ Int.tmod (q + 1) 8 < 8 := by
    rw [Int.tmod_eq_emod_of_nonneg (by omega)]
    omega
  obtain ⟨oth, hoth⟩ : ∃ o, Int.tmod (q + 1) 8 = o := ⟨_, rfl⟩
  rw [hoth] at ho
  have hok : (s0.set z q 1).mapOk (C : Int) [oth] = true := by
    have hq8 : (s0.set z q 1).t.q = 8 := by rw [h0]; rfl
    simp only [SS.mapOk, okTo, List.length_cons, List.length_nil, hq8]
    simp
    omega
  have hspB : (s0.mapped (C : Int) [oth]).spn 0 = (0, 8) := hsp
  refine ⟨q, oth, s0.mapped (C : Int) [oth], hq2.1, hq2.2, hoth.symm, ho, by rw [h0]; rfl, ?_, f1, f3, ?_, ?_, by rw [f2, h0]; rfl, ?_⟩
  · rw [hspB]
    simp [inS]
    omega
  · rw [f2, SS.mapE, hok]
    rfl
  · rw [f2, SS.map, hok]
    rfl
  · have hc : ((s0.mapped (C : Int) [oth]).set z q 0).cand 0 (C : Int) = [oth] := by
      show candL ((s0.mapped (C : Int) [oth]).maps ((C : Int)).toNat) ((s0.mapped (C : Int) [oth]).spn 0) = _
      have hm : (s0.mapped (C : Int) [oth]).maps C = [oth] := if_pos (by simp)
      have hin : inS (0, 8) oth = true := by simp [inS]; omega
      rw [Int.toNat_natCast, hm, hspB, candL, List.filter_cons, hin]
      rfl
    have hfr := fresh_c (s := (s0.mapped (C : Int) [oth]).set z q 0) (z := z) hC (p := 0) (by omega) (by rw [SS.outN, set_fl]) (by rw [SS.stays, set_fl]; rfl)
    rw [hfr.1, hc]
    exact pick_one oth z hz
/-- what a law holds, under a name -/
theorem pack_box {P1 P2 : PT} {W0 W W' : World} {T : Nat → Prop} {K : World → Prop} {p1 N1 p2 N2 : Nat} {s1 s2 : SS} (o1 : PtOk P1) (o2 : PtOk P2) (hk : Kept T K) (O : St P1 P2 W0 W T K p1 s1 N1 p2 s2 N2) {b : Nat} {ty : TypeId} {cs : Array Value} (H : Mem W W' [(b, ty, cs)]) :
    ∃ T' K', Kept T' K' ∧ (∀ X, K' X → K X ∧ Held X b ty cs) ∧ St P1 P2 W0 W' T' K' p1 s1 N1 p2 s2 N2 :=
  ⟨_, _, hk.box b ty cs, fun X h => h, O.box o1 o2 hk H⟩
section
variable {P P2 : PT} {W0 W : World} {T : Nat → Prop} {K : World → Prop} {p N p2 N2 : Nat} {s s2 : SS}
theorem chooseF (hP : PSteer P) (o2 : PtOk P2) (hk : Kept T K) (h : St P P2 W0 W T K p s N p2 s2 N2) (hN : N ≤ 900) {pr c : Int} (hp : I64 pr) (hc : I64 c) {f : Hs.FV} (hf : f.Fits) {z salt : Int} (hs : s.salt = salt) (hz : hashI f salt = z) : Calls Try.prog 19 #[.pointer (some ⟨p, 0, none⟩), .agg (pkL ⟨0, 0, pr, c, f⟩)] W fun e w' => e = .returned (.tuple #[.int .i64 (s.chooseV z pr c), .int .i64 (SS.chooseE pr c)]) ∧ St P P2 W0 w' T K p (s.choose z pr c) (N + 1) p2 s2 N2 := by
  subst hz
  subst hs
  exact h.chooseP hP o2 hk hN ⟨0, 0, pr, c, f⟩ ⟨by simp, by simp, hp, hc, hf⟩
theorem doneF (hP : PSteer P) (o2 : PtOk P2) (hk : Kept T K) (h : St P P2 W0 W T K p s N p2 s2 N2) (hN : N ≤ 1000) {f : Hs.FV} (hf : f.Fits) {z salt : Int} (hs : s.salt = salt) (hz : hashI f salt = z) : Calls Try.prog 22 #[.pointer (some ⟨p, 0, none⟩), .agg (fvC f)] W fun e w' => e = .returned (.int .i64 (s.doneE z)) ∧ St P P2 W0 w' T K p (s.done z) N p2 s2 N2 := by
  subst hz
  subst hs
  exact h.doneP hP o2 hk hN f hf
theorem outF (hP : PSteer P) (o2 : PtOk P2) (hk : Kept T K) (h : St P P2 W0 W T K p s N p2 s2 N2) (hN : N ≤ 1000) {f : Hs.FV} (hf : f.Fits) {z salt : Int} (hs : s.salt = salt) (hz : hashI f salt = z) : Calls Try.prog 16 #[.pointer (some ⟨p, 0, none⟩), .agg (fvC f)] W fun e w' => e = .returned (.tuple #[.int .i64 (s.outQ z), .int .i64 (s.outN z)]) ∧ St P P2 W0 w' T K p s N p2 s2 N2 := by
  subst hz
  subst hs
  exact h.outP hP o2 hk hN f hf
end
section
variable {P : PT}
set_option maxHeartbeats 1000000 in
theorem sticks_w (hP : PSteer P) (f : Hs.FV) (hf : f.Fits) (cpu n : Int) (hc1 : I64 cpu) (hn1 : I64 n) (w : World) : Calls Try.prog 6 #[Hs.fv f, .int .i64 cpu, .int .i64 n] w fun e w' => e = .returned (.bool true) ∧ Below w.heap.size w w' := by
  have H := Mem.start w
  by_cases h : 0 ≤ cpu ∧ cpu ≤ 63 ∧ 1 ≤ n ∧ n ≤ 40
  · obtain ⟨C, rfl⟩ := Int.eq_ofNat_of_zero_le h.1
    obtain ⟨M, rfl⟩ := Int.eq_ofNat_of_zero_le (show 0 ≤ n by omega)
    have hC : C < 64 := by omega
    have hM : 1 ≤ M ∧ M ≤ 40 := by omega
    clear h
    have t1 : decide ((C : Int) < 0) = false := decide_eq_false (by omega)
    have t2 : decide (63 < (C : Int)) = false := decide_eq_false (by omega)
    have t3 : decide ((M : Int) < 1) = false := decide_eq_false (by omega)
    have t4 : decide (40 < (M : Int)) = false := decide_eq_false (by omega)
    obtain ⟨z, hz⟩ : ∃ z, hashI f 3 = z := ⟨_, rfl⟩
    have hzb := hashI_bd f 3
    rw [hz] at hzb
    obtain ⟨s0, hs0⟩ : ∃ s0, SS.new (evT 8 1) 3 = s0 := ⟨_, rfl⟩
    obtain ⟨q, oth, B, hq0, hq8, hoth, ho8, hB3, hBin, f1, f2, f3, f4, f5, f6⟩ := sticks_facts hzb hC hs0.symm
    have hs03 : s0.salt = 3 := by rw [← hs0]; rfl
    obtain ⟨s1, hs1⟩ : ∃ s1, s0.choose z 0 (C : Int) = s1 := ⟨_, rfl⟩
    rw [hs1] at f3 f4 f5
    have HS0 := Lib.hid hs0
    have HQ := Lib.hid (And.intro hq0 (And.intro hq8 (And.intro ho8.1 ho8.2)))
    have hm8 : (wrap64 (q + 1)).tmod 8 = oth := by rw [IntWalk.wrap64_in _ (by omega)]; exact hoth.symm
    clear hzb hs0 hoth hq0 hq8 ho8
    have O := Lib.hid ((St.start w ss0).none NoT.pt NoT.pt)
    go_enter Try.func6, Try.ntmps6
    go_upto_region 1 with (first
    | ((with_reducible show wpList _ _ _ _ _ (World.alloc _ (.cells _ _))); refine mem_newb H ?_; intro bf w3 hbk H2; try rw [← hbk]; clear hbk H; have H := H2; clear H2; simp only [List.cons_append, List.nil_append, List.set_cons_zero, List.set_cons_succ, List.setIfInBounds_toArray] at H))
    obtain ⟨T1, K1, hk1, hK1, O3⟩ := pack_box NoT.pt NoT.pt (Kept.no _) O.out H
    clear O H
    have O := Lib.hid O3
    have HK := Lib.hid hk1
    have HF := Lib.hid (fun X h => (hK1 X h).2)
    clear O3 hk1 hK1
    have H := Mem.start w3
    go_upto_region 5 with (first
    | go_skip
    | (go_at_call 11; with_reducible refine (shown9 hP _).mono ?_; rintro e w2 ⟨rfl, hb⟩; have H2 := H.call hb; clear H hb; have H := H2; clear H2)
    | (go_at_call 13; refine ((O.out.on NoT.pt NoT.pt HK.out H.below).even NoT.pt NoT.pt HK.out 8 1).mono ?_; rintro e w2 ⟨A1, A2, c1', c2', rfl, O2⟩; clear O H; have O := Lib.hid O2; clear O2; have H := Mem.start w2)
    | (go_at_call 12; refine (((O.out.on NoT.pt NoT.pt (HK.out.tb A1 A2 c1' c2' (evT 8 1)) H.below).newP hP NoT.pt (HK.out.tb A1 A2 c1' c2' (evT 8 1)) A1 A2 c1' c2' (evT 8 1) 3 (by omega) (O.out.on NoT.pt NoT.pt (HK.out.tb A1 A2 c1' c2' (evT 8 1)) H.below).kp.2 (evT_right 8 1) (fun i hi => .inr hi))).mono ?_; rintro e w2 ⟨p, rfl, O2⟩; clear O H; have O := Lib.hid (O2.less hP.pt NoT.pt (fun i hi => .inl hi) (fun h => h.1)); clear O2; have H := Mem.start w2))
    rw [HS0.out] at O
    go_upto_region 6 with (first
    | ((with_reducible show wpList _ _ _ (⟨_, .load 40 _, _, _, _, _⟩ :: _) _ _); refine load_held ((HF.out _ O.out.kp).below H.below (HF.out _ O.out.kp).lt) (by first | exact wanted_none rfl | exact wanted_some rfl rfl rfl rfl) (by exact rfl) (by exact rfl) Try.underlying40 rfl (by exact Hs.flowInfo) ?_)
    | ((with_reducible show wpList _ _ _ _ _ (World.alloc _ (.cells _ _))); refine mem_newb H ?_; intro bp w3 hbk H2; try rw [← hbk]; clear hbk H; have H := H2; clear H2; simp only [List.cons_append, List.nil_append, List.set_cons_zero, List.set_cons_succ, List.setIfInBounds_toArray] at H)
    | ((with_reducible show wpList _ _ _ (⟨_, .store 42 _ _, _, _, _, _⟩ :: _) _ _); refine mem_store (i := 0) H (by first | exact wanted_none rfl | exact wanted_some rfl rfl rfl rfl) (by exact rfl) (by exact rfl) (by exact rfl) (by exact rfl) (by exact pkInfo) (by exact rfl) (by exact rfl) ?_; intro w2 H2; clear H; have H := H2; clear H2; simp only [List.cons_append, List.nil_append, List.set_cons_zero, List.set_cons_succ, List.setIfInBounds_toArray] at H))
    obtain ⟨T2, K2, hk2, hK2, O3⟩ := pack_box hP.pt NoT.pt HK.out O.out H
    have HP := Lib.hid (fun X h => And.intro (HF.out X (hK2 X h).1) (hK2 X h).2)
    clear O H HK HF hK2
    have O := Lib.hid O3
    have HK := Lib.hid hk2
    clear O3 hk2
    have H := Mem.start w2
    have hI0 : I64 0 := by unfold I64; omega
    have hIC : I64 (C : Int) := by unfold I64; omega
    have kC := fun W h => chooseF (P := P) (P2 := NoT) (W0 := w) (W := W) (T := T2) (K := K2) (p := p) (N := 0) (s := s0) (p2 := 0) (s2 := ss0) (N2 := 0) hP NoT.pt HK.out h (by omega) hI0 hIC hf hs03 hz
    rw [f1, f2, hs1] at kC
    have kM := fun W h A hr => map_one (P := P) (W0 := w) (W := W) (T := T2) (K := K2) (p := p) (N := 1) (s := s1) hP HK.out h (C : Int) oth hIC (by have := HQ.out; unfold I64; omega) A hr
    rw [f3, f4] at kM
    have kL : ∀ W (k : Nat), k ≤ 42 → St P NoT w W T2 K2 p (B.set z q ((k : Int) + 1)) (k + 1) 0 ss0 0 → Calls _ _ _ W fun e w' => e = .returned (.tuple #[.int .i64 q, .int .i64 0]) ∧ St P NoT w w' T2 K2 p (B.set z q ((k : Int) + 1 + 1)) (k + 1 + 1) 0 ss0 0 := fun W k hk h => by
      have h2 := chooseF (pr := 0) (c := (C : Int)) hP NoT.pt HK.out h (by omega) hI0 hIC hf (s := B.set z q ((k : Int) + 1)) hB3 hz
      obtain ⟨e1, e2, e3⟩ := sticks_c (s := B) (z := z) (q := q) (j := (k : Int) + 1) (p := 0) hC (by omega) (by omega) hBin
      rw [e1, e2, e3] at h2
      exact h2
    have kD : ∀ W (j : Int) (N : Nat), 1 ≤ j → N ≤ 100 → St P NoT w W T2 K2 p (B.set z q j) N 0 ss0 0 → Calls _ _ _ W fun e w' => e = .returned (.int .i64 0) ∧ St P NoT w w' T2 K2 p (B.set z q (j - 1)) N 0 ss0 0 := fun W j N hj hN h => by
      have h2 := doneF hP NoT.pt HK.out h (by omega) hf (s := B.set z q j) hB3 hz
      obtain ⟨e1, e2⟩ := done_c (s := B) (z := z) (q := q) hj
      rw [e1, e2] at h2
      exact h2
    have kZ : ∀ W (N : Nat), N ≤ 100 → St P NoT w W T2 K2 p (B.set z q 0) N 0 ss0 0 → Calls _ _ _ W fun e w' => e = .returned (.tuple #[.int .i64 oth, .int .i64 0]) ∧ St P NoT w w' T2 K2 p ((B.set z q 0).choose z 0 (C : Int)) (N + 1) 0 ss0 0 := fun W N hN h => by
      have h2 := chooseF (pr := 0) (c := (C : Int)) hP NoT.pt HK.out h (by omega) hI0 hIC hf (s := B.set z q 0) hB3 hz
      rw [f6, f2] at h2
      exact h2
    clear f1 f2 f3 f4 f5 f6 hB3 hBin hs03 hz hs1 hf
    go_upto_region 7 with (first
    | ((with_reducible show wpList _ _ _ (⟨_, .load 42 _, _, _, _, _⟩ :: _) _ _); refine load_held ((HP.out _ O.out.kp).2.below H.below (HP.out _ O.out.kp).2.lt) (by first | exact wanted_none rfl | exact wanted_some rfl rfl rfl rfl) (by exact rfl) (by exact rfl) Try.underlying42 rfl (by exact pkInfo) ?_)
    | (go_at_call 19; refine (kC _ (O.out.on hP.pt NoT.pt HK.out H.below)).mono ?_; rintro e w2 ⟨rfl, O2⟩; clear O H; have O := Lib.hid O2; clear O2; have H := Mem.start w2))
    go_upto_region 11 with (first
    | go_skip
    | ((with_reducible show wpList _ _ _ _ _ (World.alloc _ (.cells _ _))); refine mem_new H ?_; intro w2 H2; clear H; have H := H2; clear H2; simp only [List.cons_append, List.nil_append, List.set_cons_zero, List.set_cons_succ, List.setIfInBounds_toArray] at H)
    | (go_at_call 21; refine (kM _ (O.out.on hP.pt NoT.pt HK.out H.below) _ (rowI_box (H.at 0 rfl))).mono ?_; rintro e w2 ⟨rfl, O2⟩; clear O H; have O := Lib.hid O2; clear O2; have H := Mem.start w2))
    have O1 : St P NoT w w2 T2 K2 p (B.set z q (((0 : Nat) : Int) + 1)) (0 + 1) 0 ss0 0 := O.out
    clear O kC kM hm8
    go_upto_region 12 with fail
    go_loopw [15] (fun i wr => ∃ k : Nat, k ≤ M ∧ i = .int .i64 k ∧ Hid (St P NoT w wr T2 K2 p (B.set z q ((k : Int) + 1)) (k + 1) 0 ss0 0)) (fun i _ => M - (intOf i).toNat)
    case atStart => exact ⟨0, Nat.zero_le _, rfl, Lib.hid (O1.on hP.pt NoT.pt HK.out H.below)⟩
    case round =>
      clear O1 H
      obtain ⟨k, hk, rfl, O⟩ := hrel
      have H := Mem.start wr
      by_cases hlt : k < M
      · have kL1 := fun W h => kL W k (by omega) h
        clear kL kD kZ
        go_wp2_with (first
      | ((with_reducible show wpList _ _ _ (⟨_, .load 42 _, _, _, _, _⟩ :: _) _ _); refine load_held ((HP.out _ O.out.kp).2.below H.below (HP.out _ O.out.kp).2.lt) (by first | exact wanted_none rfl | exact wanted_some rfl rfl rfl rfl) (by exact rfl) (by exact rfl) Try.underlying42 rfl (by exact pkInfo) ?_)
      | (go_at_call 19; refine (kL1 _ (O.out.on hP.pt NoT.pt HK.out H.below)).mono ?_; rintro e w2 ⟨rfl, O2⟩; clear O H; have O := Lib.hid O2; clear O2; have H := Mem.start w2))
        go_roundw
        case rel =>
          have O2 := (O.out.on hP.pt NoT.pt HK.out H.below)
          rw [show (k : Int) + 1 + 1 = ((k + 1 : Nat) : Int) + 1 by omega] at O2
          exact ⟨k + 1, by omega, by go_num, Lib.hid O2⟩
        case measure => simp [intOf]; omega
      · obtain rfl : k = M := by omega
        clear kL hlt
        go_upto_region 18 with fail
        have O1 := O.out
        clear O
        go_loopw [18] (fun i wr => ∃ j : Nat, j ≤ k + 1 ∧ i = .int .i64 j ∧ Hid (St P NoT w wr T2 K2 p (B.set z q ((k : Int) + 1 - (j : Int))) (k + 1) 0 ss0 0)) (fun i _ => k + 1 - (intOf i).toNat)
        case atStart =>
          rw [show (k : Int) + 1 = (k : Int) + 1 - ((0 : Nat) : Int) by omega] at O1
          exact ⟨0, Nat.zero_le _, rfl, Lib.hid (O1.on hP.pt NoT.pt HK.out H.below)⟩
        case round =>
          clear O1 H
          obtain ⟨j, hj, rfl, O⟩ := hrel
          have H := Mem.start wr
          by_cases hlt : j ≤ k
          · have kD1 := fun W h => kD W ((k : Int) + 1 - (j : Int)) (k + 1) (by omega) (by omega) h
            clear kD kZ
            go_wp2_with (first
      | ((with_reducible show wpList _ _ _ (⟨_, .load 40 _, _, _, _, _⟩ :: _) _ _); refine load_held ((HP.out _ O.out.kp).1.below H.below (HP.out _ O.out.kp).1.lt) (by first | exact wanted_none rfl | exact wanted_some rfl rfl rfl rfl) (by exact rfl) (by exact rfl) Try.underlying40 rfl (by exact Hs.flowInfo) ?_)
      | (go_at_call 22; refine (kD1 _ (O.out.on hP.pt NoT.pt HK.out H.below)).mono ?_; rintro e w2 ⟨rfl, O2⟩; clear O H; have O := Lib.hid O2; clear O2; have H := Mem.start w2))
            go_roundw
            case rel =>
              have O2 := (O.out.on hP.pt NoT.pt HK.out H.below)
              rw [show (k : Int) + 1 - (j : Int) - 1 = (k : Int) + 1 - ((j + 1 : Nat) : Int) by omega] at O2
              exact ⟨j + 1, by omega, by go_num, Lib.hid O2⟩
            case measure => simp [intOf]; omega
          · obtain rfl : j = k + 1 := by omega
            have O1 := O.out
            rw [show (k : Int) + 1 - ((k + 1 : Nat) : Int) = 0 by omega] at O1
            clear O
            have O := Lib.hid O1
            have kZ1 := fun W h => kZ W (k + 1) (by omega) h
            clear kD kZ O1
            go_wp2_with (first
      | go_skip
      | ((with_reducible show wpList _ _ _ (⟨_, .load 42 _, _, _, _, _⟩ :: _) _ _); refine load_held ((HP.out _ O.out.kp).2.below H.below (HP.out _ O.out.kp).2.lt) (by first | exact wanted_none rfl | exact wanted_some rfl rfl rfl rfl) (by exact rfl) (by exact rfl) Try.underlying42 rfl (by exact pkInfo) ?_)
      | (go_at_call 19; refine (kZ1 _ (O.out.on hP.pt NoT.pt HK.out H.below)).mono ?_; rintro e w2 ⟨rfl, O2⟩; clear O H; have O := Lib.hid O2; clear O2; have H := Mem.start w2))
            go_ret
            exact ⟨by simp, O.out.bel.trans (H.below.mono O.out.le)⟩
  · by_cases h1 : cpu < 0
    · have t1 : decide (cpu < 0) = true := decide_eq_true h1
      clear h
      go_enter Try.func6, Try.ntmps6
      go_wp2_with (first
        | go_skip
        | (go_at_call 11; with_reducible refine (shown9 hP _).mono ?_; rintro e w2 ⟨rfl, hb⟩; have H2 := H.call hb; clear H hb; have H := H2; clear H2)
        | ((with_reducible show wpList _ _ _ _ _ (World.alloc _ (.cells _ _))); refine mem_new H ?_; intro w2 H2; clear H; have H := H2; clear H2; simp only [List.cons_append, List.nil_append, List.set_cons_zero, List.set_cons_succ, List.setIfInBounds_toArray] at H))
      go_ret
      exact ⟨rfl, H.below⟩
    · by_cases h2 : 63 < cpu
      · have t1 : decide (cpu < 0) = false := decide_eq_false h1
        have t2 : decide (63 < cpu) = true := decide_eq_true h2
        clear h
        go_enter Try.func6, Try.ntmps6
        go_wp2_with (first
          | go_skip
          | (go_at_call 11; with_reducible refine (shown9 hP _).mono ?_; rintro e w2 ⟨rfl, hb⟩; have H2 := H.call hb; clear H hb; have H := H2; clear H2)
          | ((with_reducible show wpList _ _ _ _ _ (World.alloc _ (.cells _ _))); refine mem_new H ?_; intro w2 H2; clear H; have H := H2; clear H2; simp only [List.cons_append, List.nil_append, List.set_cons_zero, List.set_cons_succ, List.setIfInBounds_toArray] at H))
        go_ret
        exact ⟨rfl, H.below⟩
      · by_cases h3 : n < 1
        · have t1 : decide (cpu < 0) = false := decide_eq_false h1
          have t2 : decide (63 < cpu) = false := decide_eq_false h2
          have t3 : decide (n < 1) = true := decide_eq_true h3
          clear h
          go_enter Try.func6, Try.ntmps6
          go_wp2_with (first
            | go_skip
            | (go_at_call 11; with_reducible refine (shown9 hP _).mono ?_; rintro e w2 ⟨rfl, hb⟩; have H2 := H.call hb; clear H hb; have H := H2; clear H2)
            | ((with_reducible show wpList _ _ _ _ _ (World.alloc _ (.cells _ _))); refine mem_new H ?_; intro w2 H2; clear H; have H := H2; clear H2; simp only [List.cons_append, List.nil_append, List.set_cons_zero, List.set_cons_succ, List.setIfInBounds_toArray] at H))
          go_ret
          exact ⟨rfl, H.below⟩
        · have t1 : decide (cpu < 0) = false := decide_eq_false h1
          have t2 : decide (63 < cpu) = false := decide_eq_false h2
          have t3 : decide (n < 1) = false := decide_eq_false h3
          have t4 : decide (40 < n) = true := decide_eq_true (by omega)
          clear h
          go_enter Try.func6, Try.ntmps6
          go_wp2_with (first
            | go_skip
            | (go_at_call 11; with_reducible refine (shown9 hP _).mono ?_; rintro e w2 ⟨rfl, hb⟩; have H2 := H.call hb; clear H hb; have H := H2; clear H2)
            | ((with_reducible show wpList _ _ _ _ _ (World.alloc _ (.cells _ _))); refine mem_new H ?_; intro w2 H2; clear H; have H := H2; clear H2; simp only [List.cons_append, List.nil_append, List.set_cons_zero, List.set_cons_succ, List.setIfInBounds_toArray] at H))
          go_ret
          exact ⟨rfl, H.below⟩
end
end Go.Proofs.Ytaoaapbbadipfaa
end
