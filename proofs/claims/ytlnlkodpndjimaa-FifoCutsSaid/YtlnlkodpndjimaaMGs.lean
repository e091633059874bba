/-
  FifoCuts, walked. Conditions: as the interface says; the acts lie where their slice says.
-/
import Derived.Test.YtlnlkodpndjimaaMGr
/- FifoCuts, walked. Conditions: as the interface says; the acts lie where their slice says. -/
section
namespace Go.Proofs.Ytlnlkodpndjimaa.Fi
set_option linter.unusedSimpArgs false
set_option linter.unusedVariables false
set_option maxRecDepth 100000
open Go.ChangeShapes Go.WideShapes Go.ChangeAt Go.RowKit Go.Maps

theorem yields_cellR {P : Program} {ops : Array Oper} {o : Oper} {a : Act} {R : World → Prop} {b j : Nat} {ty : TypeId} {x : Operand} {d : TypeDesc} {v : Value} (hR : ∀ w, R w → w.cell? ⟨b, j, none⟩ = some v) (hw : Region.wanted o (yielded ops a.tmps) = true) (ho : o.op = .load ty x) (hx : opnd a x = some (.pointer (some ⟨b, j, none⟩)))
    (hu : P.underlying ty = some d) (hd : (match d with | .struct _ | .array _ _ => true | _ => false) = false) : YieldsG P ops R o v a := by
  refine ⟨hw, fun w h => ?_, fun w => ?_⟩
  · have hc : w.cell? ⟨b, j, none⟩ = some v := hR w h
    have hagg : (isAgg ty).run P w = .ok false w := by
      unfold isAgg
      rw [Sem.run_bind, run_underlying hu w]
      cases d <;> simp_all
    unfold execOp
    simp only [ho, opnd_eval hx, Instr.loadAt, Instr.sureAddr, Sem.run_bind, Sem.run_pure, Result.andThen_ok, loadVar, hagg]
    simp [go_sem, hc]
  · unfold Oper.about
    rw [ho]
theorem cut_at {L : List PV} {kpn j t : Nat} (h1 : kpn ≤ L.length) (h2 : t + j + 1 = L.length) (h3 : kpn ≤ t) : (L.drop kpn).reverse[j]? = L[t]? := by
  rw [List.getElem?_reverse (by rw [List.length_drop]; omega), List.getElem?_drop, List.length_drop]
  congr 1
  omega
section
variable {P : PT}
set_option maxHeartbeats 4000000 in
theorem cuts_w (hP : PFifo P) (n b : Int) (A : Option Addr) (len cap : Nat) (xs : Nat → AX) (hl : len ≤ cap) (hc : cap ≤ maxLen) (am ac : Int) (w : World) (hA : ActsX w A len xs) : Calls Try.prog 8 #[.int .i64 n, .int .i64 b, .slice A len cap, .int .i64 am, .int .i64 ac] w fun e w' => e = .returned (.bool true) ∧ Below w.heap.size w w' := by
  have H := Mem.start w
  cases hok : okN n b with
  | false =>
    have kf := fun W (h : Below w.heap.size w W) => fill_no hP n b hok A len cap xs hl hc w hA W h
    clear hok hA
    go_enter Try.func8, Try.ntmps8
    go_wp2_with (first
    | go_skip
    | go_skip
    | (go_at_call 10; refine (shown10 hP _).mono ?_; rintro e w2 ⟨rfl, hb⟩; have H2 := H.call hb; clear H hb; have H := H2; clear H2)
    | (go_at_call 24; refine (kf _ H.below).mono ?_; rintro e w2 ⟨rfl, hb⟩; have H2 := H.call hb; clear H hb; have H := H2; clear H2))
    go_ret
    exact ⟨by simp, H.below⟩
  | true =>
    have O := Lib.hid (St.start w ⟨[], 0, 0⟩)
    have k1 := fun W (h : St NoT NoT w W (fun _ => False) (fun _ => True) 0 ⟨[], 0, 0⟩ 0 0 ⟨[], 0, 0⟩ 0) => fill_yes hP NoT.pt (Kept.no _) n b hok A len cap xs hl hc hA h
    obtain ⟨N, hN⟩ : ∃ N, min len 80 = N := ⟨_, rfl⟩
    obtain ⟨s, hs⟩ : ∃ s, fillS ⟨[], n, b⟩ xs N = s := ⟨_, rfl⟩
    simp only [hN, hs] at k1
    have hN80 : N ≤ 80 := by omega
    clear hok hA hs hN
    go_enter Try.func8, Try.ntmps8
    go_upto_region 2 with (first
    | go_skip
    | (go_at_call 10; refine (shown10 hP _).mono ?_; rintro e w2 ⟨rfl, hb⟩; have O2 := St.on NoT.pt NoT.pt (Kept.no _) O.out hb; clear O; have O := Lib.hid O2; clear O2; have H2 := H.call hb; clear H hb; have H := H2; clear H2))
    go_upto_region 3 with (first
    | go_skip
    | (go_at_call 24; refine (k1 _ O.out).mono ?_; rintro e w2 ⟨p, rfl, O2⟩; clear O H; have O := Lib.hid O2; clear O2; have H := Mem.start w2))
    clear k1
    have hfa := O.out.facts hP
    obtain ⟨L, hL⟩ : ∃ L, s.l = L := ⟨_, rfl⟩
    obtain ⟨nL, hnL⟩ : ∃ m, L.length = m := ⟨_, rfl⟩
    have hL5 : nL ≤ 80 := by rw [← hnL, ← hL]; omega
    have HNL := Lib.hid hnL
    have HFA := Lib.hid hfa
    have ka := fun W (h : St P NoT w W (fun _ => False) (fun _ => True) p s N 0 ⟨[], 0, 0⟩ 0) => allP hP NoT.pt (Kept.no _) h (by omega)
    unfold ToldP at ka
    rw [hL] at ka
    have HL := Lib.hid hL
    clear hnL hfa hL
    go_upto_region 6 with (first
    | go_skip
    | (go_at_call 15; refine (ka _ (O.out.on hP.pt NoT.pt (Kept.no _) H.below)).mono ?_; rintro e w2 ⟨va, rfl, O2⟩; obtain ⟨A1, a1, hva, _, _⟩ := O2.kp.2.shape; rw [HNL.out] at hva; subst hva; clear O H; have O := Lib.hid O2; clear O2; have H := Mem.start w2))
    clear ka
    have kl := fun W (h : St P NoT w W (fun i => False ∨ qb (.slice A1 nL a1) i) (fun X => True ∧ Que X (.slice A1 nL a1) L) p s N 0 ⟨[], 0, 0⟩ 0) => limitsP hP NoT.pt ((Kept.no _).que _ _) h (by omega) am ac
    unfold ToldP at kl
    cases hok2 : okN am ac with
    | false =>
      rw [show limE am ac = 2 by rw [limE, hok2]; rfl, show limS s am ac = s by rw [limS, hok2]; rfl, show limV s am ac = [] by rw [limV, hok2]; rfl] at kl
      clear hok2
      go_upto_region 7 with (first
        | go_skip
        | (go_at_call 20; refine (kl _ (O.out.on hP.pt NoT.pt ((Kept.no _).que _ _) H.below)).mono ?_; rintro e w2 ⟨va, rfl, O2⟩; obtain ⟨A2, a2, hva, _, _⟩ := O2.kp.2.shape; rw [List.length_nil] at hva; subst hva; clear O H; have O := Lib.hid O2; clear O2; have H := Mem.start w2))
      clear kl
      have kb := fun W (h : St P NoT w W (fun i => (False ∨ qb (.slice A1 nL a1) i) ∨ qb (.slice A2 0 a2) i) (fun X => (True ∧ Que X (.slice A1 nL a1) L) ∧ Que X (.slice A2 0 a2) []) p s N 0 ⟨[], 0, 0⟩ 0) => allP hP NoT.pt (((Kept.no _).que _ _).que _ _) h (by omega)
      unfold ToldP at kb
      rw [HL.out] at kb
      go_upto_region 8 with (first
        | go_skip
        | (go_at_call 15; refine (kb _ (O.out.on hP.pt NoT.pt (((Kept.no _).que _ _).que _ _) H.below)).mono ?_; rintro e w2 ⟨va, rfl, O2⟩; obtain ⟨A3, a3, hva, _, _⟩ := O2.kp.2.shape; rw [HNL.out] at hva; subst hva; clear O H; have O := Lib.hid O2; clear O2; have H := Mem.start w2))
      clear kb
      have ks := fun W (h : Below w2.heap.size w2 W) => same_r A1 A3 nL a1 nL a3 L L W ((O.out.on hP.pt NoT.pt ((((Kept.no _).que _ _).que _ _).que _ _) h).kp.1.1.2) ((O.out.on hP.pt NoT.pt ((((Kept.no _).que _ _).que _ _).que _ _) h).kp.2) HNL.out HNL.out (by omega) (by omega)
      simp only [decide_true] at ks
      go_wp2_with (first
    | go_skip
    | go_skip
    | (go_at_call 14; refine (ks _ H.below).mono ?_; rintro e w5 ⟨rfl, hb⟩; have H2 := H.call hb; clear H hb; have H := H2; clear H2))
      go_ret
      exact ⟨by simp, O.out.bel.trans (H.below.mono O.out.bel.size)⟩
    | true =>
      obtain ⟨kpn, hkp⟩ : ∃ kpn, Fi.kp s.l am ac s.l.length = kpn := ⟨_, rfl⟩
      have hkl : kpn ≤ nL := by rw [← hkp, ← HNL.out, ← HL.out]; exact kp_le _ _ _ _
      have hoo : 0 ≤ am ∧ 0 ≤ ac := by simp [okN] at hok2; omega
      have hfit := kp_fits s.l am ac hoo.1 hoo.2 s.l.length
      have hmost := kp_most s.l am ac s.l.length
      rw [hkp] at hfit hmost
      rw [show limE am ac = 0 by rw [limE, hok2]; rfl, show limS s am ac = ⟨s.l.take kpn, am, ac⟩ by rw [limS, hok2, if_pos rfl, hkp], show limV s am ac = (s.l.drop kpn).reverse by rw [limV, hok2, if_pos rfl, hkp]] at kl
      rw [HL.out] at kl hfit hmost
      rw [HNL.out] at hmost
      obtain ⟨Y, hY⟩ : ∃ Y, L.take kpn = Y := ⟨_, rfl⟩
      obtain ⟨X, hX⟩ : ∃ X, (L.drop kpn).reverse = X := ⟨_, rfl⟩
      obtain ⟨nX, hnX⟩ : ∃ m, X.length = m := ⟨_, rfl⟩
      have hsum : kpn + nX = nL := by rw [← hnX, ← hX, List.length_reverse, List.length_drop, HNL.out]; omega
      have hnY : Y.length = kpn := by rw [← hY, List.length_take, HNL.out]; omega
      obtain ⟨S, hS1⟩ : ∃ S, Fi.bytes Y = S := ⟨_, rfl⟩
      rw [hY, hS1] at hfit
      rw [hX, hY] at kl
      obtain ⟨s', hs'⟩ : ∃ s', (⟨Y, am, ac⟩ : FF) = s' := ⟨_, rfl⟩
      rw [hs'] at kl
      have HM := Lib.hid (And.intro hX (And.intro hY (And.intro hnX (And.intro hnY (And.intro hs' (And.intro hS1 (And.intro hmost hsum)))))))
      have hSb : 0 ≤ S ∧ S ≤ 5000 * 65535 := by
        rw [← hS1]
        exact sum_bd (l := Y) (fun z hz => HFA.out.2.2.2 z (by rw [HL.out]; rw [← hY] at hz; exact List.mem_of_mem_take hz)) (N := 80) (by omega) (by omega)
      clear hok2 hkp hmost hX hY hnX hnY hs' hS1 hoo
      go_upto_region 7 with (first
        | go_skip
        | (go_at_call 20; refine (kl _ (O.out.on hP.pt NoT.pt ((Kept.no _).que _ _) H.below)).mono ?_; rintro e w2 ⟨va, rfl, O2⟩; obtain ⟨A2, a2, hva, _, _⟩ := O2.kp.2.shape; rw [HM.out.2.2.1] at hva; subst hva; clear O H; have O := Lib.hid O2; clear O2; have H := Mem.start w2))
      clear kl
      have kb := fun W (h : St P NoT w W (fun i => (False ∨ qb (.slice A1 nL a1) i) ∨ qb (.slice A2 nX a2) i) (fun Z => (True ∧ Que Z (.slice A1 nL a1) L) ∧ Que Z (.slice A2 nX a2) X) p s' N 0 ⟨[], 0, 0⟩ 0) => allP hP NoT.pt (((Kept.no _).que _ _).que _ _) h (by omega)
      unfold ToldP at kb
      rw [show s'.l = Y by rw [← HM.out.2.2.2.2.1]] at kb
      go_upto_region 8 with (first
        | go_skip
        | (go_at_call 15; refine (kb _ (O.out.on hP.pt NoT.pt (((Kept.no _).que _ _).que _ _) H.below)).mono ?_; rintro e w2 ⟨va, rfl, O2⟩; obtain ⟨A3, a3, hva, _, _⟩ := O2.kp.2.shape; rw [HM.out.2.2.2.1] at hva; subst hva; clear O H; have O := Lib.hid O2; clear O2; have H := Mem.start w2))
      clear kb
      obtain ⟨T2, K2, hk2, hO2, hKK⟩ : ∃ T2 K2, Kept T2 K2 ∧ St P NoT w w2 T2 K2 p s' N 0 ⟨[], 0, 0⟩ 0 ∧ ∀ Z, K2 Z → Que Z (.slice A1 nL a1) L ∧ Que Z (.slice A2 nX a2) X ∧ Que Z (.slice A3 kpn a3) Y := ⟨_, _, ((((Kept.no _).que _ _).que _ _).que _ _), O.out, fun Z h => ⟨h.1.1.2, h.1.2, h.2⟩⟩
      have HK2 := Lib.hid hk2
      have HKK := Lib.hid hKK
      clear O
      have O := Lib.hid hO2
      clear hk2 hKK hO2
      have hcp : nL ≤ a1 ∧ a1 ≤ 9223372036854775807 ∧ nX ≤ a2 ∧ a2 ≤ 9223372036854775807 ∧ kpn ≤ a3 ∧ a3 ≤ 9223372036854775807 := by
        obtain ⟨h1, h2, h3⟩ := HKK.out _ O.out.kp
        obtain ⟨_, _, e1, g1, f1⟩ := h1.shape
        obtain ⟨_, _, e2, g2, f2⟩ := h2.shape
        obtain ⟨_, _, e3, g3, f3⟩ := h3.shape
        rw [HNL.out] at e1 g1
        rw [HM.out.2.2.1] at e2 g2
        rw [HM.out.2.2.2.1] at e3 g3
        cases e1
        cases e2
        cases e3
        unfold maxLen at f1 f2 f3
        omega
      have w1 : IntKind.i64.wrap ((kpn : Int) + (nX : Int)) = (nL : Int) := by rw [wrap_id (by omega) (by omega)]; omega
      have t7 : decide ((kpn : Int) > am) = false := decide_eq_false (by omega)
      have t8 : decide (S > ac) = false := decide_eq_false (by omega)
      have ks := fun W (h : Below w2.heap.size w2 W) => same_r A3 A1 kpn a3 kpn a1 Y (L.take kpn) W ((HKK.out _ (O.out.on hP.pt NoT.pt HK2.out h).kp).2.2) ((HKK.out _ (O.out.on hP.pt NoT.pt HK2.out h).kp).1.take (by rw [HNL.out]; exact hkl)) HM.out.2.2.2.1 (by rw [List.length_take, HNL.out]; omega) (by omega) (by omega)
      rw [HM.out.2.1] at ks
      simp only [decide_true] at ks
      have kbs := fun W (h : St P NoT w W T2 K2 p s' N 0 ⟨[], 0, 0⟩ 0) => bytesP hP NoT.pt HK2.out h (by omega)
      rw [show Fi.bytes s'.l = S by rw [← HM.out.2.2.2.2.1]; exact HM.out.2.2.2.2.2.1] at kbs
      have hpre := Lib.hid (And.intro hfit hsum)
      clear hfit hsum
      go_upto_region 12 with (first
        | go_skip
        | (go_at_call 14; refine (ks _ H.below).mono ?_; rintro e w5 ⟨rfl, hb⟩; have H2 := H.call hb; clear H hb; have H := H2; clear H2)
        | (go_at_call 16; refine (kbs _ (O.out.on hP.pt NoT.pt HK2.out H.below)).mono ?_; rintro e w2 ⟨rfl, O2⟩; clear O H; have O := Lib.hid O2; clear O2; have H := Mem.start w2))
      clear w1 t7 t8 ks
      have O9 := Lib.hid (O.out.on hP.pt NoT.pt HK2.out H.below)
      clear O H
      have O := O9
      clear O9
      have H := Mem.start w2
      go_wp2
      go_loopw [18] (fun iv wr => ∃ j : Nat, j ≤ nX ∧ iv = .int .i64 j ∧ Mem w2 wr []) (fun iv _ => nX - (intOf iv).toNat)
      case atStart => exact ⟨0, Nat.zero_le _, rfl, H⟩
      case round =>
        clear H
        obtain ⟨j, hj, rfl, H⟩ := hrel
        by_cases hlt : j < nX
        · obtain ⟨t, ht⟩ : ∃ t, t + j + 1 = nL := ⟨nL - 1 - j, by have := hpre.out.2; omega⟩
          have hkt : kpn ≤ t := by have := hpre.out.2; omega
          have hcat := cut_at (L := L) (kpn := kpn) (j := j) (t := t) (by rw [HNL.out]; exact hkl) (by rw [HNL.out]; exact ht) hkt
          rw [HM.out.1] at hcat
          obtain ⟨y, hy⟩ : ∃ y, L[t]? = some y := ⟨L[t]'(by rw [HNL.out]; omega), List.getElem?_eq_getElem _⟩
          rw [hy] at hcat
          obtain ⟨g1, o1, hA1, _, _⟩ := (HKK.out _ O.out.kp).1.at hy
          obtain ⟨g2, o2, hA2, _, _⟩ := (HKK.out _ O.out.kp).2.1.at hcat
          subst hA1 hA2
          have HR1 := Lib.hid (fun (wx : World) (h : Mem w2 wx []) => show wx.rangeAt g1 (o1 + t * 9) (pvCs y) from by
            obtain ⟨g', off', e, _, hc⟩ := (HKK.out _ (O.out.on hP.pt NoT.pt HK2.out h.below).kp).1.at hy
            cases e
            exact range9 hc)
          have HR2 := Lib.hid (fun (wx : World) (h : Mem w2 wx []) => show wx.rangeAt g2 (o2 + j * 9) (pvCs y) from by
            obtain ⟨g', off', e, _, hc⟩ := (HKK.out _ (O.out.on hP.pt NoT.pt HK2.out h.below).kp).2.1.at hcat
            cases e
            exact range9 hc)
          have w7 : IntKind.i64.wrap ((nL : Int) - 1) = (nL : Int) - 1 := wrap_id (by omega) (by omega)
          have w9 : IntKind.i64.wrap ((nL : Int) - 1 - (j : Int)) = (t : Int) := by rw [wrap_id (by omega) (by omega)]; omega
          have htn : t < nL := by omega
          clear hy hcat ht
          go_upto_region 15 with (fail)
          refine region_mem H 13 rfl (by kernel_rfl) (fun wr2 hS => ?_)
          clear H
          refine wpAnyR_take (i := 0) (v := (.slice (some ⟨g2, o2, none⟩) nX a2)) rfl rfl (by kernel_rfl) (by kernel_rfl) (by kernel_rfl) (fun _ _ _ h => h) (Nat.le_refl _) ⟨by rfl, fun w _ => (by go_simp; try (first | rfl | simp)), fun _ => rfl⟩ hS ?_
          simp only [List.getElem_toArray, List.getElem_cons_zero, List.getElem_cons_succ, Act.put, List.setIfInBounds_toArray, List.set_cons_zero, List.set_cons_succ]
          refine wpAnyR_take (i := 1) (v := (.int .i64 j)) rfl rfl (by kernel_rfl) (by kernel_rfl) (by kernel_rfl) (fun _ _ _ h => h) (Nat.le_refl _) ⟨by rfl, fun w _ => (by go_simp; try (first | rfl | simp)), fun _ => rfl⟩ hS ?_
          simp only [List.getElem_toArray, List.getElem_cons_zero, List.getElem_cons_succ, Act.put, List.setIfInBounds_toArray, List.set_cons_zero, List.set_cons_succ]
          refine wpAnyR_take (i := 2) (v := (.pointer (some ⟨g2, o2 + j * 9, none⟩))) rfl rfl (by kernel_rfl) (by kernel_rfl) (by kernel_rfl) (fun _ _ _ h => h) (Nat.le_refl _) ⟨by rfl, fun w _ => (by go_simp; try (first | rfl | (intro h; omega) | (simp; omega) | simp)), fun _ => rfl⟩ hS ?_
          simp only [List.getElem_toArray, List.getElem_cons_zero, List.getElem_cons_succ, Act.put, List.setIfInBounds_toArray, List.set_cons_zero, List.set_cons_succ]
          refine wpAnyR_take (i := 3) (v := (pv y)) rfl rfl (by kernel_rfl) (by kernel_rfl) (by kernel_rfl) (fun _ _ _ h => h) (Nat.le_refl _) (yields_midR (fun w h => HR2.out _ h) (by exact rfl) (by exact rfl) (by exact rfl) Try.underlying37 rfl (by exact pkInfo)) hS ?_
          simp only [List.getElem_toArray, List.getElem_cons_zero, List.getElem_cons_succ, Act.put, List.setIfInBounds_toArray, List.set_cons_zero, List.set_cons_succ]
          refine wpAnyR_take (i := 4) (v := (.slice (some ⟨g1, o1, none⟩) nL a1)) rfl rfl (by kernel_rfl) (by kernel_rfl) (by kernel_rfl) (fun _ _ _ h => h) (Nat.le_refl _) ⟨by rfl, fun w _ => (by go_simp; try (first | rfl | simp)), fun _ => rfl⟩ hS ?_
          simp only [List.getElem_toArray, List.getElem_cons_zero, List.getElem_cons_succ, Act.put, List.setIfInBounds_toArray, List.set_cons_zero, List.set_cons_succ]
          refine wpAnyR_take (i := 5) (v := (.slice (some ⟨g1, o1, none⟩) nL a1)) rfl rfl (by kernel_rfl) (by kernel_rfl) (by kernel_rfl) (fun _ _ _ h => h) (Nat.le_refl _) ⟨by rfl, fun w _ => (by go_simp; try (first | rfl | simp)), fun _ => rfl⟩ hS ?_
          simp only [List.getElem_toArray, List.getElem_cons_zero, List.getElem_cons_succ, Act.put, List.setIfInBounds_toArray, List.set_cons_zero, List.set_cons_succ]
          refine wpAnyR_take (i := 6) (v := (.int .i64 nL)) rfl rfl (by kernel_rfl) (by kernel_rfl) (by kernel_rfl) (fun _ _ _ h => h) (Nat.le_refl _) ⟨by rfl, fun w _ => (by go_simp; try (first | rfl | simp)), fun _ => rfl⟩ hS ?_
          simp only [List.getElem_toArray, List.getElem_cons_zero, List.getElem_cons_succ, Act.put, List.setIfInBounds_toArray, List.set_cons_zero, List.set_cons_succ]
          refine wpAnyR_take (i := 7) (v := (.int .i64 ((nL : Int) - 1))) rfl rfl (by kernel_rfl) (by kernel_rfl) (by kernel_rfl) (fun _ _ _ h => h) (Nat.le_refl _) ⟨by rfl, fun w _ => (by go_simp; try (first | rfl | exact w7 | simp)), fun _ => rfl⟩ hS ?_
          simp only [List.getElem_toArray, List.getElem_cons_zero, List.getElem_cons_succ, Act.put, List.setIfInBounds_toArray, List.set_cons_zero, List.set_cons_succ]
          refine wpAnyR_take (i := 8) (v := (.int .i64 j)) rfl rfl (by kernel_rfl) (by kernel_rfl) (by kernel_rfl) (fun _ _ _ h => h) (Nat.le_refl _) ⟨by rfl, fun w _ => (by go_simp; try (first | rfl | simp)), fun _ => rfl⟩ hS ?_
          simp only [List.getElem_toArray, List.getElem_cons_zero, List.getElem_cons_succ, Act.put, List.setIfInBounds_toArray, List.set_cons_zero, List.set_cons_succ]
          refine wpAnyR_take (i := 9) (v := (.int .i64 t)) rfl rfl (by kernel_rfl) (by kernel_rfl) (by kernel_rfl) (fun _ _ _ h => h) (Nat.le_refl _) ⟨by rfl, fun w _ => (by go_simp; try (first | rfl | exact w9 | simp)), fun _ => rfl⟩ hS ?_
          simp only [List.getElem_toArray, List.getElem_cons_zero, List.getElem_cons_succ, Act.put, List.setIfInBounds_toArray, List.set_cons_zero, List.set_cons_succ]
          refine wpAnyR_take (i := 10) (v := (.pointer (some ⟨g1, o1 + t * 9, none⟩))) rfl rfl (by kernel_rfl) (by kernel_rfl) (by kernel_rfl) (fun _ _ _ h => h) (Nat.le_refl _) ⟨by rfl, fun w _ => (by go_simp; try (first | rfl | (intro h; omega) | (simp; omega) | simp)), fun _ => rfl⟩ hS ?_
          simp only [List.getElem_toArray, List.getElem_cons_zero, List.getElem_cons_succ, Act.put, List.setIfInBounds_toArray, List.set_cons_zero, List.set_cons_succ]
          refine wpAnyR_take (i := 11) (v := (pv y)) rfl rfl (by kernel_rfl) (by kernel_rfl) (by kernel_rfl) (fun _ _ _ h => h) (Nat.le_refl _) (yields_midR (fun w h => HR1.out _ h) (by exact rfl) (by exact rfl) (by exact rfl) Try.underlying37 rfl (by exact pkInfo)) hS ?_
          simp only [List.getElem_toArray, List.getElem_cons_zero, List.getElem_cons_succ, Act.put, List.setIfInBounds_toArray, List.set_cons_zero, List.set_cons_succ]
          refine wpAnyR_take (i := 12) (v := (.bool false)) rfl rfl (by kernel_rfl) (by kernel_rfl) (by kernel_rfl) (fun _ _ _ h => h) (Nat.le_refl _) (yields_neq_same (q := y) (by exact rfl) (by exact rfl) (by exact rfl) (by exact rfl)) hS ?_
          simp only [List.getElem_toArray, List.getElem_cons_zero, List.getElem_cons_succ, Act.put, List.setIfInBounds_toArray, List.set_cons_zero, List.set_cons_succ]
          refine wpAnyG_done (by kernel_rfl) ?_ _
          have H := hS
          clear hS
          clear w7 w9
          go_wp2
          go_roundw
          case rel => exact ⟨j + 1, by omega, by go_num, H⟩
          case measure => simp [intOf]; omega
        · obtain rfl : j = nX := by omega
          have hpr := hpre.out
          have hmost := HM.out.2.2.2.2.2.2.1
          have HP0 := Lib.hid hpr
          by_cases hx0 : j = 0
          · have hx1 := Lib.hid hx0
            clear hpr hmost
            have t9 : ((j : Int) == 0) = true := by rw [hx0]; rfl
            have t10 : (j : Int) = 0 := by omega
            obtain rfl : j = 0 := hx0
            go_upto_region 17 with (fail)
            have O5 : St P NoT w _ T2 K2 p s' N 0 ⟨[], 0, 0⟩ 0 := (O.out.on hP.pt NoT.pt HK2.out H.below).on hP.pt NoT.pt HK2.out (Mem.start _).drew.below
            refine (wpIn_wide (n := 6)).1 (wpIn_region_G (fun wx => St P NoT w wx T2 K2 p s' N 0 ⟨[], 0, 0⟩ 0) 29 29 rfl (by kernel_rfl) (fun _ => ?_))
            have hS := O5
            clear O H
            refine wpAnyR_take (i := 0) (v := (.bool true)) rfl rfl (by kernel_rfl) (by kernel_rfl) (by kernel_rfl) (fun _ _ _ h => h) (Nat.le_refl _) ⟨by rfl, fun w _ => (by go_simp; try (first | rfl | simp)), fun _ => rfl⟩ hS ?_
            simp only [List.getElem_toArray, List.getElem_cons_zero, List.getElem_cons_succ, Act.put, List.setIfInBounds_toArray, List.set_cons_zero, List.set_cons_succ]
            refine wpAnyR_take (i := 1) (v := (.bool true)) rfl rfl (by kernel_rfl) (by kernel_rfl) (by kernel_rfl) (fun _ _ _ h => h) (Nat.le_refl _) ⟨by rfl, fun w _ => (by go_simp; try (first | rfl | simp)), fun _ => rfl⟩ hS ?_
            simp only [List.getElem_toArray, List.getElem_cons_zero, List.getElem_cons_succ, Act.put, List.setIfInBounds_toArray, List.set_cons_zero, List.set_cons_succ]
            refine wpAnyR_take (i := 2) (v := (.slice A2 0 a2)) rfl rfl (by kernel_rfl) (by kernel_rfl) (by kernel_rfl) (fun _ _ _ h => h) (Nat.le_refl _) ⟨by rfl, fun w _ => (by go_simp; try (first | rfl | simp)), fun _ => rfl⟩ hS ?_
            simp only [List.getElem_toArray, List.getElem_cons_zero, List.getElem_cons_succ, Act.put, List.setIfInBounds_toArray, List.set_cons_zero, List.set_cons_succ]
            refine wpAnyR_take (i := 3) (v := (.int .i64 0)) rfl rfl (by kernel_rfl) (by kernel_rfl) (by kernel_rfl) (fun _ _ _ h => h) (Nat.le_refl _) ⟨by rfl, fun w _ => (by go_simp; try (first | rfl | simp)), fun _ => rfl⟩ hS ?_
            simp only [List.getElem_toArray, List.getElem_cons_zero, List.getElem_cons_succ, Act.put, List.setIfInBounds_toArray, List.set_cons_zero, List.set_cons_succ]
            refine wpAnyR_take (i := 4) (v := (.bool true)) rfl rfl (by kernel_rfl) (by kernel_rfl) (by kernel_rfl) (fun _ _ _ h => h) (Nat.le_refl _) ⟨by rfl, fun w _ => (by go_simp; try (first | rfl | simp)), fun _ => rfl⟩ hS ?_
            simp only [List.getElem_toArray, List.getElem_cons_zero, List.getElem_cons_succ, Act.put, List.setIfInBounds_toArray, List.set_cons_zero, List.set_cons_succ]
            refine wpAnyR_take (i := 5) (v := (.bool true)) rfl rfl (by kernel_rfl) (by kernel_rfl) (by kernel_rfl) (fun _ _ _ h => h) (Nat.le_refl _) ⟨by rfl, fun w _ => (by go_simp; try (first | rfl | simp)), fun _ => rfl⟩ hS ?_
            simp only [List.getElem_toArray, List.getElem_cons_zero, List.getElem_cons_succ, Act.put, List.setIfInBounds_toArray, List.set_cons_zero, List.set_cons_succ]
            refine wpAnyU_take (i := 6) rfl (fun _ => trivial) rfl (by kernel_rfl) (by kernel_rfl) (by kernel_rfl) (fun _ _ _ h => h) (Nat.le_refl _) (by rfl) hS ?_
            simp only [List.getElem_toArray, List.getElem_cons_zero, List.getElem_cons_succ, Act.put, List.setIfInBounds_toArray, List.set_cons_zero, List.set_cons_succ]
            refine wpAnyU_take (i := 7) rfl (fun _ => trivial) rfl (by kernel_rfl) (by kernel_rfl) (by kernel_rfl) (fun _ _ _ h => h) (Nat.le_refl _) (by rfl) hS ?_
            simp only [List.getElem_toArray, List.getElem_cons_zero, List.getElem_cons_succ, Act.put, List.setIfInBounds_toArray, List.set_cons_zero, List.set_cons_succ]
            refine wpAnyU_take (i := 8) rfl (fun _ => trivial) rfl (by kernel_rfl) (by kernel_rfl) (by kernel_rfl) (fun _ _ _ h => h) (Nat.le_refl _) (by rfl) hS ?_
            simp only [List.getElem_toArray, List.getElem_cons_zero, List.getElem_cons_succ, Act.put, List.setIfInBounds_toArray, List.set_cons_zero, List.set_cons_succ]
            refine wpAnyU_take (i := 9) rfl (fun _ => trivial) rfl (by kernel_rfl) (by kernel_rfl) (by kernel_rfl) (fun _ _ _ h => h) (Nat.le_refl _) (by rfl) hS ?_
            simp only [List.getElem_toArray, List.getElem_cons_zero, List.getElem_cons_succ, Act.put, List.setIfInBounds_toArray, List.set_cons_zero, List.set_cons_succ]
            refine wpAnyU_take (i := 10) rfl (fun _ => trivial) rfl (by kernel_rfl) (by kernel_rfl) (by kernel_rfl) (fun _ _ _ h => h) (Nat.le_refl _) (by rfl) hS ?_
            simp only [List.getElem_toArray, List.getElem_cons_zero, List.getElem_cons_succ, Act.put, List.setIfInBounds_toArray, List.set_cons_zero, List.set_cons_succ]
            refine wpAnyR_take (i := 11) (v := (.bool true)) rfl rfl (by kernel_rfl) (by kernel_rfl) (by kernel_rfl) (fun _ _ _ h => h) (Nat.le_refl _) ⟨by rfl, fun w _ => (by go_simp; try (first | rfl | simp)), fun _ => rfl⟩ hS ?_
            simp only [List.getElem_toArray, List.getElem_cons_zero, List.getElem_cons_succ, Act.put, List.setIfInBounds_toArray, List.set_cons_zero, List.set_cons_succ]
            refine wpAnyR_take (i := 12) (v := (.bool true)) rfl rfl (by kernel_rfl) (by kernel_rfl) (by kernel_rfl) (fun _ _ _ h => h) (Nat.le_refl _) ⟨by rfl, fun w _ => (by go_simp; try (first | rfl | simp)), fun _ => rfl⟩ hS ?_
            simp only [List.getElem_toArray, List.getElem_cons_zero, List.getElem_cons_succ, Act.put, List.setIfInBounds_toArray, List.set_cons_zero, List.set_cons_succ]
            refine wpAnyU_take (i := 13) rfl (fun _ => trivial) rfl (by kernel_rfl) (by kernel_rfl) (by kernel_rfl) (fun _ _ _ h => h) (Nat.le_refl _) (by rfl) hS ?_
            simp only [List.getElem_toArray, List.getElem_cons_zero, List.getElem_cons_succ, Act.put, List.setIfInBounds_toArray, List.set_cons_zero, List.set_cons_succ]
            refine wpAnyU_take (i := 14) rfl (fun _ => trivial) rfl (by kernel_rfl) (by kernel_rfl) (by kernel_rfl) (fun _ _ _ h => h) (Nat.le_refl _) (by rfl) hS ?_
            simp only [List.getElem_toArray, List.getElem_cons_zero, List.getElem_cons_succ, Act.put, List.setIfInBounds_toArray, List.set_cons_zero, List.set_cons_succ]
            refine wpAnyU_take (i := 15) rfl (fun _ => trivial) rfl (by kernel_rfl) (by kernel_rfl) (by kernel_rfl) (fun _ _ _ h => h) (Nat.le_refl _) (by rfl) hS ?_
            simp only [List.getElem_toArray, List.getElem_cons_zero, List.getElem_cons_succ, Act.put, List.setIfInBounds_toArray, List.set_cons_zero, List.set_cons_succ]
            refine wpAnyU_take (i := 16) rfl (fun _ => trivial) rfl (by kernel_rfl) (by kernel_rfl) (by kernel_rfl) (fun _ _ _ h => h) (Nat.le_refl _) (by rfl) hS ?_
            simp only [List.getElem_toArray, List.getElem_cons_zero, List.getElem_cons_succ, Act.put, List.setIfInBounds_toArray, List.set_cons_zero, List.set_cons_succ]
            refine wpAnyU_take (i := 17) rfl (fun _ => trivial) rfl (by kernel_rfl) (by kernel_rfl) (by kernel_rfl) (fun _ _ _ h => h) (Nat.le_refl _) (by rfl) hS ?_
            simp only [List.getElem_toArray, List.getElem_cons_zero, List.getElem_cons_succ, Act.put, List.setIfInBounds_toArray, List.set_cons_zero, List.set_cons_succ]
            refine wpAnyU_take (i := 18) rfl (fun _ => trivial) rfl (by kernel_rfl) (by kernel_rfl) (by kernel_rfl) (fun _ _ _ h => h) (Nat.le_refl _) (by rfl) hS ?_
            simp only [List.getElem_toArray, List.getElem_cons_zero, List.getElem_cons_succ, Act.put, List.setIfInBounds_toArray, List.set_cons_zero, List.set_cons_succ]
            refine wpAnyU_take (i := 19) rfl (fun _ => trivial) rfl (by kernel_rfl) (by kernel_rfl) (by kernel_rfl) (fun _ _ _ h => h) (Nat.le_refl _) (by rfl) hS ?_
            simp only [List.getElem_toArray, List.getElem_cons_zero, List.getElem_cons_succ, Act.put, List.setIfInBounds_toArray, List.set_cons_zero, List.set_cons_succ]
            refine wpAnyU_take (i := 20) rfl (fun _ => trivial) rfl (by kernel_rfl) (by kernel_rfl) (by kernel_rfl) (fun _ _ _ h => h) (Nat.le_refl _) (by rfl) hS ?_
            simp only [List.getElem_toArray, List.getElem_cons_zero, List.getElem_cons_succ, Act.put, List.setIfInBounds_toArray, List.set_cons_zero, List.set_cons_succ]
            refine wpAnyU_take (i := 21) rfl (fun _ => trivial) rfl (by kernel_rfl) (by kernel_rfl) (by kernel_rfl) (fun _ _ _ h => h) (Nat.le_refl _) (by rfl) hS ?_
            simp only [List.getElem_toArray, List.getElem_cons_zero, List.getElem_cons_succ, Act.put, List.setIfInBounds_toArray, List.set_cons_zero, List.set_cons_succ]
            refine wpAnyU_take (i := 22) rfl (fun _ => trivial) rfl (by kernel_rfl) (by kernel_rfl) (by kernel_rfl) (fun _ _ _ h => h) (Nat.le_refl _) (by rfl) hS ?_
            simp only [List.getElem_toArray, List.getElem_cons_zero, List.getElem_cons_succ, Act.put, List.setIfInBounds_toArray, List.set_cons_zero, List.set_cons_succ]
            refine wpAnyU_take (i := 23) rfl (fun _ => trivial) rfl (by kernel_rfl) (by kernel_rfl) (by kernel_rfl) (fun _ _ _ h => h) (Nat.le_refl _) (by rfl) hS ?_
            simp only [List.getElem_toArray, List.getElem_cons_zero, List.getElem_cons_succ, Act.put, List.setIfInBounds_toArray, List.set_cons_zero, List.set_cons_succ]
            refine wpAnyU_take (i := 24) rfl (fun _ => trivial) rfl (by kernel_rfl) (by kernel_rfl) (by kernel_rfl) (fun _ _ _ h => h) (Nat.le_refl _) (by rfl) hS ?_
            simp only [List.getElem_toArray, List.getElem_cons_zero, List.getElem_cons_succ, Act.put, List.setIfInBounds_toArray, List.set_cons_zero, List.set_cons_succ]
            refine wpAnyU_take (i := 25) rfl (fun _ => trivial) rfl (by kernel_rfl) (by kernel_rfl) (by kernel_rfl) (fun _ _ _ h => h) (Nat.le_refl _) (by rfl) hS ?_
            simp only [List.getElem_toArray, List.getElem_cons_zero, List.getElem_cons_succ, Act.put, List.setIfInBounds_toArray, List.set_cons_zero, List.set_cons_succ]
            refine wpAnyR_take (i := 26) (v := (.bool true)) rfl rfl (by kernel_rfl) (by kernel_rfl) (by kernel_rfl) (fun _ _ _ h => h) (Nat.le_refl _) ⟨by rfl, fun w _ => (by go_simp; try (first | rfl | simp)), fun _ => rfl⟩ hS ?_
            simp only [List.getElem_toArray, List.getElem_cons_zero, List.getElem_cons_succ, Act.put, List.setIfInBounds_toArray, List.set_cons_zero, List.set_cons_succ]
            refine wpAnyR_take (i := 27) (v := (.bool true)) rfl rfl (by kernel_rfl) (by kernel_rfl) (by kernel_rfl) (fun _ _ _ h => h) (Nat.le_refl _) ⟨by rfl, fun w _ => (by go_simp; try (first | rfl | simp)), fun _ => rfl⟩ hS ?_
            simp only [List.getElem_toArray, List.getElem_cons_zero, List.getElem_cons_succ, Act.put, List.setIfInBounds_toArray, List.set_cons_zero, List.set_cons_succ]
            refine wpAnyG_one (i := 28) (by kernel_rfl) rfl (fun K hK => ?_)
            go_simp
            refine hK _ _ (.inr hS) ?_
            clear hK K
            refine wpAnyG_done (by kernel_rfl) ?_ _
            clear hS
            have HO5 := Lib.hid O5
            clear O5
            go_wp2
            go_ret
            exact ⟨rfl, HO5.out.bel⟩
          · have hne : ¬ (j : Int) = 0 := by omega
            have w8 : IntKind.i64.wrap ((kpn : Int) + 1) = (kpn : Int) + 1 := wrap_id (by omega) (by omega)
            have hmo := hmost (by omega)
            obtain ⟨m, hm⟩ : ∃ m, j = m + 1 := ⟨j - 1, by omega⟩
            have hcat := cut_at (L := L) (kpn := kpn) (j := m) (t := kpn) (by rw [HNL.out]; exact hkl) (by rw [HNL.out]; omega) (Nat.le_refl _)
            rw [HM.out.1] at hcat
            obtain ⟨y, hy⟩ : ∃ y, L[kpn]? = some y := ⟨L[kpn]'(by rw [HNL.out]; omega), List.getElem?_eq_getElem _⟩
            rw [hy] at hcat
            have hyz := HFA.out.2.2.2 y (by rw [HL.out]; exact List.mem_of_getElem? hy)
            have hbt := bytes_take hy
            rw [HM.out.2.1, HM.out.2.2.2.2.2.1] at hbt
            rw [hbt] at hmo
            by_cases hg : am < (kpn : Int) + 1
            · have t11 : decide ((kpn : Int) + 1 > am) = true := decide_eq_true hg
              clear hpr hmost hm hcat hy hyz hbt hmo hg
              go_upto_region 17 with (fail)
              have O5 : St P NoT w _ T2 K2 p s' N 0 ⟨[], 0, 0⟩ 0 := (O.out.on hP.pt NoT.pt HK2.out H.below).on hP.pt NoT.pt HK2.out (Mem.start _).drew.below
              refine (wpIn_wide (n := 6)).1 (wpIn_region_G (fun wx => St P NoT w wx T2 K2 p s' N 0 ⟨[], 0, 0⟩ 0) 29 29 rfl (by kernel_rfl) (fun _ => ?_))
              have hS := O5
              clear O H
              refine wpAnyR_take (i := 0) (v := (.bool true)) rfl rfl (by kernel_rfl) (by kernel_rfl) (by kernel_rfl) (fun _ _ _ h => h) (Nat.le_refl _) ⟨by rfl, fun w _ => (by go_simp; try (first | rfl | simp)), fun _ => rfl⟩ hS ?_
              simp only [List.getElem_toArray, List.getElem_cons_zero, List.getElem_cons_succ, Act.put, List.setIfInBounds_toArray, List.set_cons_zero, List.set_cons_succ]
              refine wpAnyR_take (i := 1) (v := (.bool true)) rfl rfl (by kernel_rfl) (by kernel_rfl) (by kernel_rfl) (fun _ _ _ h => h) (Nat.le_refl _) ⟨by rfl, fun w _ => (by go_simp; try (first | rfl | simp)), fun _ => rfl⟩ hS ?_
              simp only [List.getElem_toArray, List.getElem_cons_zero, List.getElem_cons_succ, Act.put, List.setIfInBounds_toArray, List.set_cons_zero, List.set_cons_succ]
              refine wpAnyR_take (i := 2) (v := (.slice A2 j a2)) rfl rfl (by kernel_rfl) (by kernel_rfl) (by kernel_rfl) (fun _ _ _ h => h) (Nat.le_refl _) ⟨by rfl, fun w _ => (by go_simp; try (first | rfl | simp)), fun _ => rfl⟩ hS ?_
              simp only [List.getElem_toArray, List.getElem_cons_zero, List.getElem_cons_succ, Act.put, List.setIfInBounds_toArray, List.set_cons_zero, List.set_cons_succ]
              refine wpAnyR_take (i := 3) (v := (.int .i64 j)) rfl rfl (by kernel_rfl) (by kernel_rfl) (by kernel_rfl) (fun _ _ _ h => h) (Nat.le_refl _) ⟨by rfl, fun w _ => (by go_simp; try (first | rfl | simp)), fun _ => rfl⟩ hS ?_
              simp only [List.getElem_toArray, List.getElem_cons_zero, List.getElem_cons_succ, Act.put, List.setIfInBounds_toArray, List.set_cons_zero, List.set_cons_succ]
              refine wpAnyR_take (i := 4) (v := (.bool false)) rfl rfl (by kernel_rfl) (by kernel_rfl) (by kernel_rfl) (fun _ _ _ h => h) (Nat.le_refl _) ⟨by rfl, fun w _ => (by go_simp; try (first | rfl | exact hne | simp)), fun _ => rfl⟩ hS ?_
              simp only [List.getElem_toArray, List.getElem_cons_zero, List.getElem_cons_succ, Act.put, List.setIfInBounds_toArray, List.set_cons_zero, List.set_cons_succ]
              refine wpAnyR_take (i := 5) (v := (.bool false)) rfl rfl (by kernel_rfl) (by kernel_rfl) (by kernel_rfl) (fun _ _ _ h => h) (Nat.le_refl _) ⟨by rfl, fun w _ => (by go_simp; try (first | rfl | simp)), fun _ => rfl⟩ hS ?_
              simp only [List.getElem_toArray, List.getElem_cons_zero, List.getElem_cons_succ, Act.put, List.setIfInBounds_toArray, List.set_cons_zero, List.set_cons_succ]
              refine wpAnyR_take (i := 6) (v := (.slice A3 kpn a3)) rfl rfl (by kernel_rfl) (by kernel_rfl) (by kernel_rfl) (fun _ _ _ h => h) (Nat.le_refl _) ⟨by rfl, fun w _ => (by go_simp; try (first | rfl | simp)), fun _ => rfl⟩ hS ?_
              simp only [List.getElem_toArray, List.getElem_cons_zero, List.getElem_cons_succ, Act.put, List.setIfInBounds_toArray, List.set_cons_zero, List.set_cons_succ]
              refine wpAnyR_take (i := 7) (v := (.int .i64 kpn)) rfl rfl (by kernel_rfl) (by kernel_rfl) (by kernel_rfl) (fun _ _ _ h => h) (Nat.le_refl _) ⟨by rfl, fun w _ => (by go_simp; try (first | rfl | simp)), fun _ => rfl⟩ hS ?_
              simp only [List.getElem_toArray, List.getElem_cons_zero, List.getElem_cons_succ, Act.put, List.setIfInBounds_toArray, List.set_cons_zero, List.set_cons_succ]
              refine wpAnyR_take (i := 8) (v := (.int .i64 ((kpn : Int) + 1))) rfl rfl (by kernel_rfl) (by kernel_rfl) (by kernel_rfl) (fun _ _ _ h => h) (Nat.le_refl _) ⟨by rfl, fun w _ => (by go_simp; try (first | rfl | exact w8 | simp)), fun _ => rfl⟩ hS ?_
              simp only [List.getElem_toArray, List.getElem_cons_zero, List.getElem_cons_succ, Act.put, List.setIfInBounds_toArray, List.set_cons_zero, List.set_cons_succ]
              refine wpAnyR_take (i := 9) (v := (.int .i64 am)) rfl rfl (by kernel_rfl) (by kernel_rfl) (by kernel_rfl) (fun _ _ _ h => h) (Nat.le_refl _) ⟨by rfl, fun w _ => (by go_simp; try (first | rfl | simp)), fun _ => rfl⟩ hS ?_
              simp only [List.getElem_toArray, List.getElem_cons_zero, List.getElem_cons_succ, Act.put, List.setIfInBounds_toArray, List.set_cons_zero, List.set_cons_succ]
              refine wpAnyR_take (i := 10) (v := (.bool true)) rfl rfl (by kernel_rfl) (by kernel_rfl) (by kernel_rfl) (fun _ _ _ h => h) (Nat.le_refl _) ⟨by rfl, fun w _ => (by go_simp; try (first | rfl | exact t11 | simp)), fun _ => rfl⟩ hS ?_
              simp only [List.getElem_toArray, List.getElem_cons_zero, List.getElem_cons_succ, Act.put, List.setIfInBounds_toArray, List.set_cons_zero, List.set_cons_succ]
              refine wpAnyR_take (i := 11) (v := (.bool true)) rfl rfl (by kernel_rfl) (by kernel_rfl) (by kernel_rfl) (fun _ _ _ h => h) (Nat.le_refl _) ⟨by rfl, fun w _ => (by go_simp; try (first | rfl | simp)), fun _ => rfl⟩ hS ?_
              simp only [List.getElem_toArray, List.getElem_cons_zero, List.getElem_cons_succ, Act.put, List.setIfInBounds_toArray, List.set_cons_zero, List.set_cons_succ]
              refine wpAnyR_take (i := 12) (v := (.bool true)) rfl rfl (by kernel_rfl) (by kernel_rfl) (by kernel_rfl) (fun _ _ _ h => h) (Nat.le_refl _) ⟨by rfl, fun w _ => (by go_simp; try (first | rfl | simp)), fun _ => rfl⟩ hS ?_
              simp only [List.getElem_toArray, List.getElem_cons_zero, List.getElem_cons_succ, Act.put, List.setIfInBounds_toArray, List.set_cons_zero, List.set_cons_succ]
              refine wpAnyU_take (i := 13) rfl (fun _ => trivial) rfl (by kernel_rfl) (by kernel_rfl) (by kernel_rfl) (fun _ _ _ h => h) (Nat.le_refl _) (by rfl) hS ?_
              simp only [List.getElem_toArray, List.getElem_cons_zero, List.getElem_cons_succ, Act.put, List.setIfInBounds_toArray, List.set_cons_zero, List.set_cons_succ]
              refine wpAnyU_take (i := 14) rfl (fun _ => trivial) rfl (by kernel_rfl) (by kernel_rfl) (by kernel_rfl) (fun _ _ _ h => h) (Nat.le_refl _) (by rfl) hS ?_
              simp only [List.getElem_toArray, List.getElem_cons_zero, List.getElem_cons_succ, Act.put, List.setIfInBounds_toArray, List.set_cons_zero, List.set_cons_succ]
              refine wpAnyU_take (i := 15) rfl (fun _ => trivial) rfl (by kernel_rfl) (by kernel_rfl) (by kernel_rfl) (fun _ _ _ h => h) (Nat.le_refl _) (by rfl) hS ?_
              simp only [List.getElem_toArray, List.getElem_cons_zero, List.getElem_cons_succ, Act.put, List.setIfInBounds_toArray, List.set_cons_zero, List.set_cons_succ]
              refine wpAnyU_take (i := 16) rfl (fun _ => trivial) rfl (by kernel_rfl) (by kernel_rfl) (by kernel_rfl) (fun _ _ _ h => h) (Nat.le_refl _) (by rfl) hS ?_
              simp only [List.getElem_toArray, List.getElem_cons_zero, List.getElem_cons_succ, Act.put, List.setIfInBounds_toArray, List.set_cons_zero, List.set_cons_succ]
              refine wpAnyU_take (i := 17) rfl (fun _ => trivial) rfl (by kernel_rfl) (by kernel_rfl) (by kernel_rfl) (fun _ _ _ h => h) (Nat.le_refl _) (by rfl) hS ?_
              simp only [List.getElem_toArray, List.getElem_cons_zero, List.getElem_cons_succ, Act.put, List.setIfInBounds_toArray, List.set_cons_zero, List.set_cons_succ]
              refine wpAnyU_take (i := 18) rfl (fun _ => trivial) rfl (by kernel_rfl) (by kernel_rfl) (by kernel_rfl) (fun _ _ _ h => h) (Nat.le_refl _) (by rfl) hS ?_
              simp only [List.getElem_toArray, List.getElem_cons_zero, List.getElem_cons_succ, Act.put, List.setIfInBounds_toArray, List.set_cons_zero, List.set_cons_succ]
              refine wpAnyU_take (i := 19) rfl (fun _ => trivial) rfl (by kernel_rfl) (by kernel_rfl) (by kernel_rfl) (fun _ _ _ h => h) (Nat.le_refl _) (by rfl) hS ?_
              simp only [List.getElem_toArray, List.getElem_cons_zero, List.getElem_cons_succ, Act.put, List.setIfInBounds_toArray, List.set_cons_zero, List.set_cons_succ]
              refine wpAnyU_take (i := 20) rfl (fun _ => trivial) rfl (by kernel_rfl) (by kernel_rfl) (by kernel_rfl) (fun _ _ _ h => h) (Nat.le_refl _) (by rfl) hS ?_
              simp only [List.getElem_toArray, List.getElem_cons_zero, List.getElem_cons_succ, Act.put, List.setIfInBounds_toArray, List.set_cons_zero, List.set_cons_succ]
              refine wpAnyU_take (i := 21) rfl (fun _ => trivial) rfl (by kernel_rfl) (by kernel_rfl) (by kernel_rfl) (fun _ _ _ h => h) (Nat.le_refl _) (by rfl) hS ?_
              simp only [List.getElem_toArray, List.getElem_cons_zero, List.getElem_cons_succ, Act.put, List.setIfInBounds_toArray, List.set_cons_zero, List.set_cons_succ]
              refine wpAnyU_take (i := 22) rfl (fun _ => trivial) rfl (by kernel_rfl) (by kernel_rfl) (by kernel_rfl) (fun _ _ _ h => h) (Nat.le_refl _) (by rfl) hS ?_
              simp only [List.getElem_toArray, List.getElem_cons_zero, List.getElem_cons_succ, Act.put, List.setIfInBounds_toArray, List.set_cons_zero, List.set_cons_succ]
              refine wpAnyU_take (i := 23) rfl (fun _ => trivial) rfl (by kernel_rfl) (by kernel_rfl) (by kernel_rfl) (fun _ _ _ h => h) (Nat.le_refl _) (by rfl) hS ?_
              simp only [List.getElem_toArray, List.getElem_cons_zero, List.getElem_cons_succ, Act.put, List.setIfInBounds_toArray, List.set_cons_zero, List.set_cons_succ]
              refine wpAnyU_take (i := 24) rfl (fun _ => trivial) rfl (by kernel_rfl) (by kernel_rfl) (by kernel_rfl) (fun _ _ _ h => h) (Nat.le_refl _) (by rfl) hS ?_
              simp only [List.getElem_toArray, List.getElem_cons_zero, List.getElem_cons_succ, Act.put, List.setIfInBounds_toArray, List.set_cons_zero, List.set_cons_succ]
              refine wpAnyU_take (i := 25) rfl (fun _ => trivial) rfl (by kernel_rfl) (by kernel_rfl) (by kernel_rfl) (fun _ _ _ h => h) (Nat.le_refl _) (by rfl) hS ?_
              simp only [List.getElem_toArray, List.getElem_cons_zero, List.getElem_cons_succ, Act.put, List.setIfInBounds_toArray, List.set_cons_zero, List.set_cons_succ]
              refine wpAnyR_take (i := 26) (v := (.bool true)) rfl rfl (by kernel_rfl) (by kernel_rfl) (by kernel_rfl) (fun _ _ _ h => h) (Nat.le_refl _) ⟨by rfl, fun w _ => (by go_simp; try (first | rfl | simp)), fun _ => rfl⟩ hS ?_
              simp only [List.getElem_toArray, List.getElem_cons_zero, List.getElem_cons_succ, Act.put, List.setIfInBounds_toArray, List.set_cons_zero, List.set_cons_succ]
              refine wpAnyR_take (i := 27) (v := (.bool true)) rfl rfl (by kernel_rfl) (by kernel_rfl) (by kernel_rfl) (fun _ _ _ h => h) (Nat.le_refl _) ⟨by rfl, fun w _ => (by go_simp; try (first | rfl | simp)), fun _ => rfl⟩ hS ?_
              simp only [List.getElem_toArray, List.getElem_cons_zero, List.getElem_cons_succ, Act.put, List.setIfInBounds_toArray, List.set_cons_zero, List.set_cons_succ]
              refine wpAnyG_one (i := 28) (by kernel_rfl) rfl (fun K hK => ?_)
              go_simp
              refine hK _ _ (.inr hS) ?_
              clear hK K
              refine wpAnyG_done (by kernel_rfl) ?_ _
              clear hS
              have HO5 := Lib.hid O5
              clear O5
              go_wp2
              go_ret
              exact ⟨rfl, HO5.out.bel⟩
            · have t11 : decide ((kpn : Int) + 1 > am) = false := decide_eq_false hg
              have t12 : decide (S + y.len > ac) = true := decide_eq_true (by omega)
              obtain ⟨g2, o2, hA2, _, _⟩ := (HKK.out _ O.out.kp).2.1.at hcat
              subst hA2
              have HR2 := Lib.hid (fun (wx : World) (h : St P NoT w wx T2 K2 p s' N 0 ⟨[], 0, 0⟩ 0) => show wx.cell? ⟨g2, o2 + m * 9 + 1, none⟩ = some (.int .u32 y.len) from by
                obtain ⟨g', off', e, _, hc⟩ := (HKK.out _ h.kp).2.1.at hcat
                cases e
                exact hc 1 (by omega))
              have w10 : IntKind.i64.wrap ((j : Int) - 1) = (m : Int) := by rw [wrap_id (by omega) (by omega)]; omega
              have w11 : IntKind.i64.wrap y.len = y.len := wrap_id (by omega) (by omega)
              have w12 : IntKind.i64.wrap (S + y.len) = S + y.len := wrap_id (by omega) (by omega)
              have hmj : m < j := by omega
              clear hpr hmost hm hcat hy hyz hbt hmo hg
              go_upto_region 17 with (fail)
              have O5 : St P NoT w _ T2 K2 p s' N 0 ⟨[], 0, 0⟩ 0 := (O.out.on hP.pt NoT.pt HK2.out H.below).on hP.pt NoT.pt HK2.out (Mem.start _).drew.below
              refine (wpIn_wide (n := 6)).1 (wpIn_region_G (fun wx => St P NoT w wx T2 K2 p s' N 0 ⟨[], 0, 0⟩ 0) 29 29 rfl (by kernel_rfl) (fun _ => ?_))
              have hS := O5
              clear O H
              refine wpAnyR_take (i := 0) (v := (.bool true)) rfl rfl (by kernel_rfl) (by kernel_rfl) (by kernel_rfl) (fun _ _ _ h => h) (Nat.le_refl _) ⟨by rfl, fun w _ => (by go_simp; try (first | rfl | simp)), fun _ => rfl⟩ hS ?_
              simp only [List.getElem_toArray, List.getElem_cons_zero, List.getElem_cons_succ, Act.put, List.setIfInBounds_toArray, List.set_cons_zero, List.set_cons_succ]
              refine wpAnyR_take (i := 1) (v := (.bool true)) rfl rfl (by kernel_rfl) (by kernel_rfl) (by kernel_rfl) (fun _ _ _ h => h) (Nat.le_refl _) ⟨by rfl, fun w _ => (by go_simp; try (first | rfl | simp)), fun _ => rfl⟩ hS ?_
              simp only [List.getElem_toArray, List.getElem_cons_zero, List.getElem_cons_succ, Act.put, List.setIfInBounds_toArray, List.set_cons_zero, List.set_cons_succ]
              refine wpAnyR_take (i := 2) (v := (.slice (some ⟨g2, o2, none⟩) j a2)) rfl rfl (by kernel_rfl) (by kernel_rfl) (by kernel_rfl) (fun _ _ _ h => h) (Nat.le_refl _) ⟨by rfl, fun w _ => (by go_simp; try (first | rfl | simp)), fun _ => rfl⟩ hS ?_
              simp only [List.getElem_toArray, List.getElem_cons_zero, List.getElem_cons_succ, Act.put, List.setIfInBounds_toArray, List.set_cons_zero, List.set_cons_succ]
              refine wpAnyR_take (i := 3) (v := (.int .i64 j)) rfl rfl (by kernel_rfl) (by kernel_rfl) (by kernel_rfl) (fun _ _ _ h => h) (Nat.le_refl _) ⟨by rfl, fun w _ => (by go_simp; try (first | rfl | simp)), fun _ => rfl⟩ hS ?_
              simp only [List.getElem_toArray, List.getElem_cons_zero, List.getElem_cons_succ, Act.put, List.setIfInBounds_toArray, List.set_cons_zero, List.set_cons_succ]
              refine wpAnyR_take (i := 4) (v := (.bool false)) rfl rfl (by kernel_rfl) (by kernel_rfl) (by kernel_rfl) (fun _ _ _ h => h) (Nat.le_refl _) ⟨by rfl, fun w _ => (by go_simp; try (first | rfl | exact hne | simp)), fun _ => rfl⟩ hS ?_
              simp only [List.getElem_toArray, List.getElem_cons_zero, List.getElem_cons_succ, Act.put, List.setIfInBounds_toArray, List.set_cons_zero, List.set_cons_succ]
              refine wpAnyR_take (i := 5) (v := (.bool false)) rfl rfl (by kernel_rfl) (by kernel_rfl) (by kernel_rfl) (fun _ _ _ h => h) (Nat.le_refl _) ⟨by rfl, fun w _ => (by go_simp; try (first | rfl | simp)), fun _ => rfl⟩ hS ?_
              simp only [List.getElem_toArray, List.getElem_cons_zero, List.getElem_cons_succ, Act.put, List.setIfInBounds_toArray, List.set_cons_zero, List.set_cons_succ]
              refine wpAnyR_take (i := 6) (v := (.slice A3 kpn a3)) rfl rfl (by kernel_rfl) (by kernel_rfl) (by kernel_rfl) (fun _ _ _ h => h) (Nat.le_refl _) ⟨by rfl, fun w _ => (by go_simp; try (first | rfl | simp)), fun _ => rfl⟩ hS ?_
              simp only [List.getElem_toArray, List.getElem_cons_zero, List.getElem_cons_succ, Act.put, List.setIfInBounds_toArray, List.set_cons_zero, List.set_cons_succ]
              refine wpAnyR_take (i := 7) (v := (.int .i64 kpn)) rfl rfl (by kernel_rfl) (by kernel_rfl) (by kernel_rfl) (fun _ _ _ h => h) (Nat.le_refl _) ⟨by rfl, fun w _ => (by go_simp; try (first | rfl | simp)), fun _ => rfl⟩ hS ?_
              simp only [List.getElem_toArray, List.getElem_cons_zero, List.getElem_cons_succ, Act.put, List.setIfInBounds_toArray, List.set_cons_zero, List.set_cons_succ]
              refine wpAnyR_take (i := 8) (v := (.int .i64 ((kpn : Int) + 1))) rfl rfl (by kernel_rfl) (by kernel_rfl) (by kernel_rfl) (fun _ _ _ h => h) (Nat.le_refl _) ⟨by rfl, fun w _ => (by go_simp; try (first | rfl | exact w8 | simp)), fun _ => rfl⟩ hS ?_
              simp only [List.getElem_toArray, List.getElem_cons_zero, List.getElem_cons_succ, Act.put, List.setIfInBounds_toArray, List.set_cons_zero, List.set_cons_succ]
              refine wpAnyR_take (i := 9) (v := (.int .i64 am)) rfl rfl (by kernel_rfl) (by kernel_rfl) (by kernel_rfl) (fun _ _ _ h => h) (Nat.le_refl _) ⟨by rfl, fun w _ => (by go_simp; try (first | rfl | simp)), fun _ => rfl⟩ hS ?_
              simp only [List.getElem_toArray, List.getElem_cons_zero, List.getElem_cons_succ, Act.put, List.setIfInBounds_toArray, List.set_cons_zero, List.set_cons_succ]
              refine wpAnyR_take (i := 10) (v := (.bool false)) rfl rfl (by kernel_rfl) (by kernel_rfl) (by kernel_rfl) (fun _ _ _ h => h) (Nat.le_refl _) ⟨by rfl, fun w _ => (by go_simp; try (first | rfl | exact t11 | simp)), fun _ => rfl⟩ hS ?_
              simp only [List.getElem_toArray, List.getElem_cons_zero, List.getElem_cons_succ, Act.put, List.setIfInBounds_toArray, List.set_cons_zero, List.set_cons_succ]
              refine wpAnyR_take (i := 11) (v := (.bool false)) rfl rfl (by kernel_rfl) (by kernel_rfl) (by kernel_rfl) (fun _ _ _ h => h) (Nat.le_refl _) ⟨by rfl, fun w _ => (by go_simp; try (first | rfl | simp)), fun _ => rfl⟩ hS ?_
              simp only [List.getElem_toArray, List.getElem_cons_zero, List.getElem_cons_succ, Act.put, List.setIfInBounds_toArray, List.set_cons_zero, List.set_cons_succ]
              refine wpAnyR_take (i := 12) (v := (.bool false)) rfl rfl (by kernel_rfl) (by kernel_rfl) (by kernel_rfl) (fun _ _ _ h => h) (Nat.le_refl _) ⟨by rfl, fun w _ => (by go_simp; try (first | rfl | simp)), fun _ => rfl⟩ hS ?_
              simp only [List.getElem_toArray, List.getElem_cons_zero, List.getElem_cons_succ, Act.put, List.setIfInBounds_toArray, List.set_cons_zero, List.set_cons_succ]
              refine wpAnyR_take (i := 13) (v := (.pointer (some ⟨p, 0, none⟩))) rfl rfl (by kernel_rfl) (by kernel_rfl) (by kernel_rfl) (fun _ _ _ h => h) (Nat.le_refl _) ⟨by rfl, fun w _ => (by go_simp; try (first | rfl | simp)), fun _ => rfl⟩ hS ?_
              simp only [List.getElem_toArray, List.getElem_cons_zero, List.getElem_cons_succ, Act.put, List.setIfInBounds_toArray, List.set_cons_zero, List.set_cons_succ]
              refine wpAnyR_take (i := 15) (v := (.slice (some ⟨g2, o2, none⟩) j a2)) rfl rfl (by kernel_rfl) (by kernel_rfl) (by kernel_rfl) (fun _ _ _ h => h) (Nat.le_refl _) ⟨by rfl, fun w _ => (by go_simp; try (first | rfl | simp)), fun _ => rfl⟩ hS ?_
              simp only [List.getElem_toArray, List.getElem_cons_zero, List.getElem_cons_succ, Act.put, List.setIfInBounds_toArray, List.set_cons_zero, List.set_cons_succ]
              refine wpAnyR_take (i := 16) (v := (.slice (some ⟨g2, o2, none⟩) j a2)) rfl rfl (by kernel_rfl) (by kernel_rfl) (by kernel_rfl) (fun _ _ _ h => h) (Nat.le_refl _) ⟨by rfl, fun w _ => (by go_simp; try (first | rfl | simp)), fun _ => rfl⟩ hS ?_
              simp only [List.getElem_toArray, List.getElem_cons_zero, List.getElem_cons_succ, Act.put, List.setIfInBounds_toArray, List.set_cons_zero, List.set_cons_succ]
              refine wpAnyR_take (i := 17) (v := (.int .i64 j)) rfl rfl (by kernel_rfl) (by kernel_rfl) (by kernel_rfl) (fun _ _ _ h => h) (Nat.le_refl _) ⟨by rfl, fun w _ => (by go_simp; try (first | rfl | simp)), fun _ => rfl⟩ hS ?_
              simp only [List.getElem_toArray, List.getElem_cons_zero, List.getElem_cons_succ, Act.put, List.setIfInBounds_toArray, List.set_cons_zero, List.set_cons_succ]
              refine wpAnyR_take (i := 18) (v := (.int .i64 m)) rfl rfl (by kernel_rfl) (by kernel_rfl) (by kernel_rfl) (fun _ _ _ h => h) (Nat.le_refl _) ⟨by rfl, fun w _ => (by go_simp; try (first | rfl | exact w10 | simp)), fun _ => rfl⟩ hS ?_
              simp only [List.getElem_toArray, List.getElem_cons_zero, List.getElem_cons_succ, Act.put, List.setIfInBounds_toArray, List.set_cons_zero, List.set_cons_succ]
              refine wpAnyR_take (i := 19) (v := (.pointer (some ⟨g2, o2 + m * 9, none⟩))) rfl rfl (by kernel_rfl) (by kernel_rfl) (by kernel_rfl) (fun _ _ _ h => h) (Nat.le_refl _) ⟨by rfl, fun w _ => (by go_simp; try (first | rfl | (intro h; omega) | (simp; omega) | simp)), fun _ => rfl⟩ hS ?_
              simp only [List.getElem_toArray, List.getElem_cons_zero, List.getElem_cons_succ, Act.put, List.setIfInBounds_toArray, List.set_cons_zero, List.set_cons_succ]
              refine wpAnyR_take (i := 20) (v := (.pointer (some ⟨g2, o2 + m * 9 + 1, none⟩))) rfl rfl (by kernel_rfl) (by kernel_rfl) (by kernel_rfl) (fun _ _ _ h => h) (Nat.le_refl _) ⟨by rfl, fun w _ => (by go_simp; try (first | rfl | simp)), fun _ => rfl⟩ hS ?_
              simp only [List.getElem_toArray, List.getElem_cons_zero, List.getElem_cons_succ, Act.put, List.setIfInBounds_toArray, List.set_cons_zero, List.set_cons_succ]
              refine wpAnyR_take (i := 21) (v := (.int .u32 y.len)) rfl rfl (by kernel_rfl) (by kernel_rfl) (by kernel_rfl) (fun _ _ _ h => h) (Nat.le_refl _) (yields_cellR (fun w h => HR2.out _ h) (by exact rfl) (by exact rfl) (by exact rfl) (by first | exact Try.underlying32 | exact Try.underlying3 | exact Try.underlying41) rfl) hS ?_
              simp only [List.getElem_toArray, List.getElem_cons_zero, List.getElem_cons_succ, Act.put, List.setIfInBounds_toArray, List.set_cons_zero, List.set_cons_succ]
              refine wpAnyR_take (i := 22) (v := (.int .i64 y.len)) rfl rfl (by kernel_rfl) (by kernel_rfl) (by kernel_rfl) (fun _ _ _ h => h) (Nat.le_refl _) ⟨by rfl, fun w _ => (by go_simp; try (first | rfl | exact w11 | simp)), fun _ => rfl⟩ hS ?_
              simp only [List.getElem_toArray, List.getElem_cons_zero, List.getElem_cons_succ, Act.put, List.setIfInBounds_toArray, List.set_cons_zero, List.set_cons_succ]
              refine wpAnyR_take (i := 24) (v := (.int .i64 ac)) rfl rfl (by kernel_rfl) (by kernel_rfl) (by kernel_rfl) (fun _ _ _ h => h) (Nat.le_refl _) ⟨by rfl, fun w _ => (by go_simp; try (first | rfl | simp)), fun _ => rfl⟩ hS ?_
              simp only [List.getElem_toArray, List.getElem_cons_zero, List.getElem_cons_succ, Act.put, List.setIfInBounds_toArray, List.set_cons_zero, List.set_cons_succ]
              refine wpAnyG_one (i := 14) (by kernel_rfl) rfl (fun K hK => ?_)
              go_simp
              refine ⟨trivial, (callsIn_wide.2 (kbs _ O5)).mono ?_⟩
              rintro e w5 ⟨rfl, O6⟩
              refine hK _ _ (.inr O6) ?_
              clear hK K hS O5
              have O5 := O6
              have hS := O6
              clear O6
              try simp only [List.getElem_toArray, List.getElem_cons_zero, List.getElem_cons_succ, Act.put, List.setIfInBounds_toArray, List.set_cons_zero, List.set_cons_succ]
              refine wpAnyR_take (i := 23) (v := (.int .i64 (S + y.len))) rfl rfl (by kernel_rfl) (by kernel_rfl) (by kernel_rfl) (fun _ _ _ h => h) (Nat.le_refl _) ⟨by rfl, fun w _ => (by go_simp; try (first | rfl | exact w12 | simp)), fun _ => rfl⟩ hS ?_
              simp only [List.getElem_toArray, List.getElem_cons_zero, List.getElem_cons_succ, Act.put, List.setIfInBounds_toArray, List.set_cons_zero, List.set_cons_succ]
              refine wpAnyR_take (i := 25) (v := (.bool true)) rfl rfl (by kernel_rfl) (by kernel_rfl) (by kernel_rfl) (fun _ _ _ h => h) (Nat.le_refl _) ⟨by rfl, fun w _ => (by go_simp; try (first | rfl | exact t12 | simp)), fun _ => rfl⟩ hS ?_
              simp only [List.getElem_toArray, List.getElem_cons_zero, List.getElem_cons_succ, Act.put, List.setIfInBounds_toArray, List.set_cons_zero, List.set_cons_succ]
              refine wpAnyR_take (i := 26) (v := (.bool true)) rfl rfl (by kernel_rfl) (by kernel_rfl) (by kernel_rfl) (fun _ _ _ h => h) (Nat.le_refl _) ⟨by rfl, fun w _ => (by go_simp; try (first | rfl | simp)), fun _ => rfl⟩ hS ?_
              simp only [List.getElem_toArray, List.getElem_cons_zero, List.getElem_cons_succ, Act.put, List.setIfInBounds_toArray, List.set_cons_zero, List.set_cons_succ]
              refine wpAnyR_take (i := 27) (v := (.bool true)) rfl rfl (by kernel_rfl) (by kernel_rfl) (by kernel_rfl) (fun _ _ _ h => h) (Nat.le_refl _) ⟨by rfl, fun w _ => (by go_simp; try (first | rfl | simp)), fun _ => rfl⟩ hS ?_
              simp only [List.getElem_toArray, List.getElem_cons_zero, List.getElem_cons_succ, Act.put, List.setIfInBounds_toArray, List.set_cons_zero, List.set_cons_succ]
              refine wpAnyG_one (i := 28) (by kernel_rfl) rfl (fun K hK => ?_)
              go_simp
              refine hK _ _ (.inr hS) ?_
              clear hK K
              refine wpAnyG_done (by kernel_rfl) ?_ _
              clear hS
              have HO5 := Lib.hid O5
              clear O5
              go_wp2
              go_ret
              exact ⟨rfl, HO5.out.bel⟩
end
end Go.Proofs.Ytlnlkodpndjimaa.Fi
end
