/-
  FifoSums, walked. Conditions: as the interface says; the acts lie where their slice says.
-/
import Derived.Test.YtlnlkodpndjimaaMGo
/- FifoSums, walked. Conditions: as the interface says; the acts lie where their slice says. -/
section
namespace Go.Proofs.Ytlnlkodpndjimaa.Fi
set_option linter.unusedSimpArgs false
set_option linter.unusedVariables false
set_option maxRecDepth 100000
open Go.ChangeShapes Go.WideShapes Go.ChangeAt Go.RowKit Go.Maps

/-- where the law's fifo lies, between two acts -/
def SumJ (P : PT) (w : World) (p k : Nat) (V : World) : Prop := ∃ s N, N ≤ k ∧ ST P w p s N V
section
variable {P : PT} {w W : World} {p k : Nat}
theorem SumJ.on (hP : PFifo P) (h : SumJ P w p k W) {V : World} (hb : Below W.heap.size W V) : SumJ P w p k V := by
  obtain ⟨s, N, h1, h2⟩ := h
  exact ⟨s, N, h1, St.on hP.pt NoT.pt (Kept.no _) h2 hb⟩
theorem SumJ.bel (h : SumJ P w p k W) : Below w.heap.size w W := by
  obtain ⟨s, N, h1, h2⟩ := h
  exact St.bel h2
theorem yields_neq_same {ops : Array Oper} {o : Oper} {a : Act} {R : World → Prop} {x y : Operand} {t : TypeId} {q : PV} (hw : Region.wanted o (yielded ops a.tmps) = true) (ho : o.op = .binOp .neq 37 x y t) (hx : opnd a x = some (pv q)) (hy : opnd a y = some (pv q)) : YieldsG Try.prog ops R o (.bool false) a := by
  have h := yields_neq (R := R) hw ho hx hy
  rw [show (!decide (q = q)) = false by simp] at h
  exact h
set_option maxHeartbeats 4000000 in
theorem sums_w (hP : PFifo P) (n b : Int) (A : Option Addr) (len cap : Nat) (xs : Nat → AX) (hl : len ≤ cap) (hc : cap ≤ maxLen) (w : World) (hA : ActsX w A len xs) : Calls Try.prog 9 #[.int .i64 n, .int .i64 b, .slice A len cap] w fun e w' => e = .returned (.bool true) ∧ Below w.heap.size w w' := by
  have H := Mem.start w
  have HA := Lib.hid hA
  unfold maxLen at hc
  clear hA
  cases hok : okN n b with
  | false =>
    have kn := fun w => hP.new_no n b w hok
    clear hok
    go_enter Try.func9, Try.ntmps9
    go_wp2_with (first
    | go_skip
    | go_skip
    | (go_at_call 10; refine (shown10 hP _).mono ?_; rintro e w2 ⟨rfl, hb⟩; have H2 := H.call hb; clear H hb; have H := H2; clear H2)
    | (go_at_call 11; refine (kn _).mono ?_; rintro e w2 ⟨rfl, hb⟩; have H2 := H.call hb; clear H hb; have H := H2; clear H2))
    go_ret
    exact ⟨by simp, H.below⟩
  | true =>
    have O := Lib.hid (St.start w ⟨[], 0, 0⟩)
    have HOK := Lib.hid hok
    clear hok
    go_enter Try.func9, Try.ntmps9
    go_upto_region 2 with (first
    | go_skip
    | (go_at_call 10; refine (shown10 hP _).mono ?_; rintro e w2 ⟨rfl, hb⟩; have O2 := St.on NoT.pt NoT.pt (Kept.no _) O.out hb; clear O; have O := Lib.hid O2; clear O2; have H2 := H.call hb; clear H hb; have H := H2; clear H2))
    go_upto_region 3 with (first
    | go_skip
    | (go_at_call 11; refine (O.out.newP hP NoT.pt (Kept.no _) n b HOK.out).mono ?_; rintro e w2 ⟨p, rfl, O2⟩; clear O H; have O := Lib.hid O2; clear O2; have H := Mem.start w2))
    have J0 : SumJ P w p 0 w2 := ⟨_, 0, Nat.le_refl _, O.out⟩
    have HJ := Lib.hid J0
    clear J0 O
    go_wp2
    go_loopw [10] (fun iv wr => ∃ k : Nat, k ≤ len ∧ k ≤ 80 ∧ iv = .int .i64 k ∧ Hid (SumJ P w p k wr)) (fun iv _ => len - (intOf iv).toNat)
    case atStart => exact ⟨0, Nat.zero_le _, Nat.zero_le _, rfl, Lib.hid (HJ.out.on hP H.below)⟩
    case round =>
      clear HJ H
      obtain ⟨k, hk, hk80, rfl, HJ⟩ := hrel
      have H := Mem.start wr
      by_cases hlt : k < len ∧ k < 80
      · obtain ⟨bA, oA, hA, hb, hx⟩ := HA.out.plain axC_len (by decide) (by omega)
        obtain ⟨hfit, hcells⟩ := hx k hlt.1
        have t1 : decide ((k : Int) < (len : Int)) = true := decide_eq_true (by omega)
        have t2 : decide ((k : Int) < 80) = true := decide_eq_true (by omega)
        obtain ⟨x, hxx⟩ : ∃ x, xs k = x := ⟨_, rfl⟩
        rw [hxx] at hfit hcells
        have HB := Lib.hid (fun (W : World) (h : Below w.heap.size w W) => show W.rangeAt bA (oA + k * 12 + 1) (pvCs x.q) from fun j v hj => by
          have h2 := hcells (1 + j) v (by
            match j, hj with
            | 0, hj => exact hj
            | 1, hj => exact hj
            | 2, hj => exact hj
            | 3, hj => exact hj
            | 4, hj => exact hj
            | 5, hj => exact hj
            | 6, hj => exact hj
            | 7, hj => exact hj
            | 8, hj => exact hj)
          rw [← h2, ← Nat.add_assoc]
          unfold World.cell?
          rw [h.block bA hb])
        obtain ⟨q, hq⟩ : ∃ q, x.q = q := ⟨_, rfl⟩
        rw [hq] at HB
        have HX := Lib.hid (show q.Fits by rw [← hq]; exact hfit.q)
        subst hA
        clear hfit hcells hxx hx hq
        obtain ⟨s, N, hN, h2⟩ := HJ.out
        have hfa := h2.facts hP
        obtain ⟨L, hL⟩ : ∃ L, s.l = L := ⟨_, rfl⟩
        obtain ⟨nW, hnW⟩ : ∃ m, L.length = m := ⟨_, rfl⟩
        have HNW := Lib.hid hnW
        have hW5 : nW ≤ 100 := by rw [← hnW, ← hL]; omega
        have kA := fun W (h : ST P w p s N W) => allP hP NoT.pt (Kept.no _) h (by omega)
        unfold ToldP at kA
        rw [hL] at kA
        have O := Lib.hid h2
        obtain ⟨s', hs'⟩ : ∃ y, putS s q = y := ⟨_, rfl⟩
        obtain ⟨E, hE⟩ : ∃ y, putE s q = y := ⟨_, rfl⟩
        obtain ⟨L', hL'⟩ : ∃ L, s'.l = L := ⟨_, rfl⟩
        obtain ⟨nI, hnI⟩ : ∃ m, L'.length = m := ⟨_, rfl⟩
        have HNI := Lib.hid hnI
        have HYES := Lib.hid (show E = 0 → L' = L ++ [q] from fun h0 => by
          rw [← hL', ← hs', putS, hE, if_pos h0]
          show s.l ++ [q] = L ++ [q]
          rw [hL])
        have HNO := Lib.hid (show E ≠ 0 → L' = L from fun h0 => by
          rw [← hL', ← hs', putS, hE, if_neg h0]
          exact hL)
        have HN := Lib.hid hN
        have HSE := Lib.hid (And.intro hs' (And.intro hE (And.intro hL hL')))
        clear HJ h2 hN hL hnW hs' hE hL' hnI hfa
        go_upto_region 9 with (first
          | go_skip
          | (go_at_call 15; refine (kA _ (O.out.on hP.pt NoT.pt (Kept.no _) H.below)).mono ?_; rintro e w2 ⟨va, rfl, O2⟩; obtain ⟨A1, a1, hva, _, _⟩ := O2.kp.2.shape; rw [HNW.out] at hva; subst hva; clear O H; have O := Lib.hid O2; clear O2; have H := Mem.start w2))
        have kput := fun W (h : St P NoT w W (fun i => False ∨ qb (.slice A1 nW a1) i) (fun X => True ∧ Que X (.slice A1 nW a1) L) p s N 0 ⟨[], 0, 0⟩ 0) => putP hP NoT.pt ((Kept.no _).que _ _) h (by have := HN.out; omega) q HX.out
        rw [HSE.out.1, HSE.out.2.1] at kput
        clear kA
        go_upto_region 10 with (first
          | go_skip
          | ((with_reducible show wpList _ _ _ (⟨_, .load 37 _, _, _, _, _⟩ :: _) _ _); refine wpList_load_mid rfl _ _ rfl bA (oA + k * 12 + 1) rfl _ _ (HB.out _ (O.out.bel.trans (H.below.mono O.out.bel.size))) Try.underlying37 rfl pkInfo ?_)
          | (go_at_call 21; refine (kput _ (O.out.on hP.pt NoT.pt ((Kept.no _).que _ _) H.below)).mono ?_; rintro e w2 ⟨rfl, O2⟩; clear O H; have O := Lib.hid O2; clear O2; have H := Mem.start w2))
        have kI := fun W (h : St P NoT w W (fun i => False ∨ qb (.slice A1 nW a1) i) (fun X => True ∧ Que X (.slice A1 nW a1) L) p s' (N + 1) 0 ⟨[], 0, 0⟩ 0) => allP hP NoT.pt ((Kept.no _).que _ _) h (by have := HN.out; omega)
        unfold ToldP at kI
        rw [HSE.out.2.2.2] at kI
        clear kput
        go_upto_region 11 with (first
          | go_skip
          | (go_at_call 15; refine (kI _ (O.out.on hP.pt NoT.pt ((Kept.no _).que _ _) H.below)).mono ?_; rintro e w2 ⟨va, rfl, O2⟩; obtain ⟨A2, a2, hva, _, _⟩ := O2.kp.2.shape; rw [HNI.out] at hva; subst hva; clear O H; have O := Lib.hid O2; clear O2; have H := Mem.start w2))
        clear kI
        obtain ⟨T2, K2, hk2, hO2, hKK⟩ : ∃ T2 K2, Kept T2 K2 ∧ St P NoT w w2 T2 K2 p s' (N + 1) 0 ⟨[], 0, 0⟩ 0 ∧ ∀ X, K2 X → Que X (.slice A1 nW a1) L ∧ Que X (.slice A2 nI a2) L' := ⟨_, _, ((Kept.no _).que _ _).que _ _, O.out, fun X h => ⟨h.1.2, h.2⟩⟩
        have HK2 := Lib.hid hk2
        have HKK := Lib.hid hKK
        clear O
        have O := Lib.hid hO2
        clear hk2 hKK hO2
        have hfa := O.out.facts hP
        obtain ⟨S, hS1⟩ : ∃ S, Fi.bytes L' = S := ⟨_, rfl⟩
        have hI5 : nI ≤ 100 := by rw [← HNI.out, ← HSE.out.2.2.2]; have := HN.out; omega
        have kB := fun W (h : St P NoT w W T2 K2 p s' (N + 1) 0 ⟨[], 0, 0⟩ 0) => bytesP hP NoT.pt HK2.out h (by have := HN.out; omega)
        have kBr := fun W (h : Que W (.slice A2 nI a2) L') => bytes_r A2 nI a2 L' W h HNI.out (by omega) (by have := hfa.2.2.1; rw [HSE.out.2.2.2] at this; exact this)
        simp only [hS1] at kBr
        rw [HSE.out.2.2.2, hS1] at kB
        clear hS1 hfa
        by_cases hE0 : E = 0
        · have t5 : (E == 0) = true := by rw [hE0]; rfl
          have t6 : (!(E == 0)) = false := by rw [t5]; rfl
          have hLL := HYES.out hE0
          obtain rfl : nI = nW + 1 := by rw [← HNI.out, hLL, List.length_append, HNW.out]; rfl
          have hat : L'[nW]? = some q := by rw [hLL, List.getElem?_append_right (by rw [HNW.out]; exact Nat.le_refl _), HNW.out, Nat.sub_self]; rfl
          obtain ⟨g, off, hA2, _, _⟩ := (HKK.out _ O.out.kp).2.at hat
          subst hA2
          have HRG := Lib.hid (fun (wx : World) (h : St P NoT w wx T2 K2 p s' (N + 1) 0 ⟨[], 0, 0⟩ 0) => show wx.rangeAt g (off + nW * 9) (pvCs q) from by
            obtain ⟨g', off', e, _, hc⟩ := (HKK.out _ h.kp).2.at hat
            cases e
            exact range9 hc)
          have w1 : IntKind.i64.wrap ((nW : Int) + 1) = (nW : Int) + 1 := wrap_id (by omega) (by omega)
          have wN : IntKind.i64.wrap (nW : Int) = (nW : Int) := wrap_id (by omega) (by omega)
          have hcp : nW + 1 ≤ a2 ∧ a2 ≤ 9223372036854775807 := by
            obtain ⟨A9, c9, e9, h8, h9⟩ := (HKK.out _ O.out.kp).2.shape
            rw [HNI.out] at e9 h8
            cases e9
            exact ⟨h8, by unfold maxLen at h9; omega⟩
          have HEE := Lib.hid hE0
          clear hE0 hLL hat
          have O5 : St P NoT w _ T2 K2 p s' (N + 1) 0 ⟨[], 0, 0⟩ 0 := (O.out.on hP.pt NoT.pt HK2.out H.below).on hP.pt NoT.pt HK2.out (Mem.start _).drew.below
          refine (wpIn_wide (n := 6)).1 (wpIn_region_G (fun wx => St P NoT w wx T2 K2 p s' (N + 1) 0 ⟨[], 0, 0⟩ 0) 41 41 rfl (by kernel_rfl) (fun _ => ?_))
          have hS := O5
          clear O H
          refine wpAnyR_take (i := 0) (v := (.int .i64 E)) rfl rfl (by kernel_rfl) (by kernel_rfl) (by kernel_rfl) (fun _ _ _ h => h) (Nat.le_refl _) ⟨by rfl, fun w _ => (by go_simp; try (first | rfl | simp)), fun _ => rfl⟩ hS ?_
          simp only [List.getElem_toArray, List.getElem_cons_zero, List.getElem_cons_succ, Act.put, List.setIfInBounds_toArray, List.set_cons_zero, List.set_cons_succ]
          refine wpAnyR_take (i := 1) (v := (.bool true)) rfl rfl (by kernel_rfl) (by kernel_rfl) (by kernel_rfl) (fun _ _ _ h => h) (Nat.le_refl _) ⟨by rfl, fun w _ => (by go_simp; try (first | rfl | exact t5 | simp)), fun _ => rfl⟩ hS ?_
          simp only [List.getElem_toArray, List.getElem_cons_zero, List.getElem_cons_succ, Act.put, List.setIfInBounds_toArray, List.set_cons_zero, List.set_cons_succ]
          refine wpAnyR_take (i := 2) (v := (.bool true)) rfl rfl (by kernel_rfl) (by kernel_rfl) (by kernel_rfl) (fun _ _ _ h => h) (Nat.le_refl _) ⟨by rfl, fun w _ => (by go_simp; try (first | rfl | simp)), fun _ => rfl⟩ hS ?_
          simp only [List.getElem_toArray, List.getElem_cons_zero, List.getElem_cons_succ, Act.put, List.setIfInBounds_toArray, List.set_cons_zero, List.set_cons_succ]
          refine wpAnyR_take (i := 3) (v := (.slice (some ⟨g, off, none⟩) (nW + 1) a2)) rfl rfl (by kernel_rfl) (by kernel_rfl) (by kernel_rfl) (fun _ _ _ h => h) (Nat.le_refl _) ⟨by rfl, fun w _ => (by go_simp; try (first | rfl | simp)), fun _ => rfl⟩ hS ?_
          simp only [List.getElem_toArray, List.getElem_cons_zero, List.getElem_cons_succ, Act.put, List.setIfInBounds_toArray, List.set_cons_zero, List.set_cons_succ]
          refine wpAnyR_take (i := 4) (v := (.int .i64 ((nW : Int) + 1))) rfl rfl (by kernel_rfl) (by kernel_rfl) (by kernel_rfl) (fun _ _ _ h => h) (Nat.le_refl _) ⟨by rfl, fun w _ => (by go_simp; try (first | rfl | omega | simp)), fun _ => rfl⟩ hS ?_
          simp only [List.getElem_toArray, List.getElem_cons_zero, List.getElem_cons_succ, Act.put, List.setIfInBounds_toArray, List.set_cons_zero, List.set_cons_succ]
          refine wpAnyR_take (i := 5) (v := (.slice A1 nW a1)) rfl rfl (by kernel_rfl) (by kernel_rfl) (by kernel_rfl) (fun _ _ _ h => h) (Nat.le_refl _) ⟨by rfl, fun w _ => (by go_simp; try (first | rfl | simp)), fun _ => rfl⟩ hS ?_
          simp only [List.getElem_toArray, List.getElem_cons_zero, List.getElem_cons_succ, Act.put, List.setIfInBounds_toArray, List.set_cons_zero, List.set_cons_succ]
          refine wpAnyR_take (i := 6) (v := (.int .i64 nW)) rfl rfl (by kernel_rfl) (by kernel_rfl) (by kernel_rfl) (fun _ _ _ h => h) (Nat.le_refl _) ⟨by rfl, fun w _ => (by go_simp; try (first | rfl | simp)), fun _ => rfl⟩ hS ?_
          simp only [List.getElem_toArray, List.getElem_cons_zero, List.getElem_cons_succ, Act.put, List.setIfInBounds_toArray, List.set_cons_zero, List.set_cons_succ]
          refine wpAnyR_take (i := 7) (v := (.int .i64 ((nW : Int) + 1))) rfl rfl (by kernel_rfl) (by kernel_rfl) (by kernel_rfl) (fun _ _ _ h => h) (Nat.le_refl _) ⟨by rfl, fun w _ => (by go_simp; try (first | rfl | exact w1 | simp)), fun _ => rfl⟩ hS ?_
          simp only [List.getElem_toArray, List.getElem_cons_zero, List.getElem_cons_succ, Act.put, List.setIfInBounds_toArray, List.set_cons_zero, List.set_cons_succ]
          refine wpAnyR_take (i := 8) (v := (.bool false)) rfl rfl (by kernel_rfl) (by kernel_rfl) (by kernel_rfl) (fun _ _ _ h => h) (Nat.le_refl _) ⟨by rfl, fun w _ => (by go_simp; try (first | rfl | simp)), fun _ => rfl⟩ hS ?_
          simp only [List.getElem_toArray, List.getElem_cons_zero, List.getElem_cons_succ, Act.put, List.setIfInBounds_toArray, List.set_cons_zero, List.set_cons_succ]
          refine wpAnyR_take (i := 9) (v := (.bool false)) rfl rfl (by kernel_rfl) (by kernel_rfl) (by kernel_rfl) (fun _ _ _ h => h) (Nat.le_refl _) ⟨by rfl, fun w _ => (by go_simp; try (first | rfl | simp)), fun _ => rfl⟩ hS ?_
          simp only [List.getElem_toArray, List.getElem_cons_zero, List.getElem_cons_succ, Act.put, List.setIfInBounds_toArray, List.set_cons_zero, List.set_cons_succ]
          refine wpAnyR_take (i := 10) (v := (.slice (some ⟨g, off, none⟩) (nW + 1) a2)) rfl rfl (by kernel_rfl) (by kernel_rfl) (by kernel_rfl) (fun _ _ _ h => h) (Nat.le_refl _) ⟨by rfl, fun w _ => (by go_simp; try (first | rfl | simp)), fun _ => rfl⟩ hS ?_
          simp only [List.getElem_toArray, List.getElem_cons_zero, List.getElem_cons_succ, Act.put, List.setIfInBounds_toArray, List.set_cons_zero, List.set_cons_succ]
          refine wpAnyR_take (i := 11) (v := (.slice (some ⟨g, off, none⟩) (nW + 1) a2)) rfl rfl (by kernel_rfl) (by kernel_rfl) (by kernel_rfl) (fun _ _ _ h => h) (Nat.le_refl _) ⟨by rfl, fun w _ => (by go_simp; try (first | rfl | simp)), fun _ => rfl⟩ hS ?_
          simp only [List.getElem_toArray, List.getElem_cons_zero, List.getElem_cons_succ, Act.put, List.setIfInBounds_toArray, List.set_cons_zero, List.set_cons_succ]
          refine wpAnyR_take (i := 12) (v := (.int .i64 ((nW : Int) + 1))) rfl rfl (by kernel_rfl) (by kernel_rfl) (by kernel_rfl) (fun _ _ _ h => h) (Nat.le_refl _) ⟨by rfl, fun w _ => (by go_simp; try (first | rfl | omega | simp)), fun _ => rfl⟩ hS ?_
          simp only [List.getElem_toArray, List.getElem_cons_zero, List.getElem_cons_succ, Act.put, List.setIfInBounds_toArray, List.set_cons_zero, List.set_cons_succ]
          refine wpAnyR_take (i := 13) (v := (.int .i64 nW)) rfl rfl (by kernel_rfl) (by kernel_rfl) (by kernel_rfl) (fun _ _ _ h => h) (Nat.le_refl _) ⟨by rfl, fun w _ => (by go_simp; try (first | rfl | exact wN | simp)), fun _ => rfl⟩ hS ?_
          simp only [List.getElem_toArray, List.getElem_cons_zero, List.getElem_cons_succ, Act.put, List.setIfInBounds_toArray, List.set_cons_zero, List.set_cons_succ]
          refine wpAnyR_take (i := 14) (v := (.pointer (some ⟨g, off + nW * 9, none⟩))) rfl rfl (by kernel_rfl) (by kernel_rfl) (by kernel_rfl) (fun _ _ _ h => h) (Nat.le_refl _) ⟨by rfl, fun w _ => (by go_simp; try (first | rfl | (intro h; omega) | simp)), fun _ => rfl⟩ hS ?_
          simp only [List.getElem_toArray, List.getElem_cons_zero, List.getElem_cons_succ, Act.put, List.setIfInBounds_toArray, List.set_cons_zero, List.set_cons_succ]
          refine wpAnyR_take (i := 15) (v := (pv q)) rfl rfl (by kernel_rfl) (by kernel_rfl) (by kernel_rfl) (fun _ _ _ h => h) (Nat.le_refl _) (yields_midR (fun w h => HRG.out _ h) (by exact rfl) (by exact rfl) (by exact rfl) Try.underlying37 rfl (by exact pkInfo)) hS ?_
          simp only [List.getElem_toArray, List.getElem_cons_zero, List.getElem_cons_succ, Act.put, List.setIfInBounds_toArray, List.set_cons_zero, List.set_cons_succ]
          refine wpAnyR_take (i := 16) (v := (.slice (some ⟨bA, oA, none⟩) len cap)) rfl rfl (by kernel_rfl) (by kernel_rfl) (by kernel_rfl) (fun _ _ _ h => h) (Nat.le_refl _) ⟨by rfl, fun w _ => (by go_simp; try (first | rfl | simp)), fun _ => rfl⟩ hS ?_
          simp only [List.getElem_toArray, List.getElem_cons_zero, List.getElem_cons_succ, Act.put, List.setIfInBounds_toArray, List.set_cons_zero, List.set_cons_succ]
          refine wpAnyR_take (i := 17) (v := (.int .i64 k)) rfl rfl (by kernel_rfl) (by kernel_rfl) (by kernel_rfl) (fun _ _ _ h => h) (Nat.le_refl _) ⟨by rfl, fun w _ => (by go_simp; try (first | rfl | simp)), fun _ => rfl⟩ hS ?_
          simp only [List.getElem_toArray, List.getElem_cons_zero, List.getElem_cons_succ, Act.put, List.setIfInBounds_toArray, List.set_cons_zero, List.set_cons_succ]
          refine wpAnyR_take (i := 18) (v := (.pointer (some ⟨bA, oA + k * 12, none⟩))) rfl rfl (by kernel_rfl) (by kernel_rfl) (by kernel_rfl) (fun _ _ _ h => h) (Nat.le_refl _) ⟨by rfl, fun w _ => (by go_simp; try (first | rfl | simp)), fun _ => rfl⟩ hS ?_
          simp only [List.getElem_toArray, List.getElem_cons_zero, List.getElem_cons_succ, Act.put, List.setIfInBounds_toArray, List.set_cons_zero, List.set_cons_succ]
          refine wpAnyR_take (i := 19) (v := (.pointer (some ⟨bA, oA + k * 12 + 1, none⟩))) rfl rfl (by kernel_rfl) (by kernel_rfl) (by kernel_rfl) (fun _ _ _ h => h) (Nat.le_refl _) ⟨by rfl, fun w _ => (by go_simp; try (first | rfl | simp)), fun _ => rfl⟩ hS ?_
          simp only [List.getElem_toArray, List.getElem_cons_zero, List.getElem_cons_succ, Act.put, List.setIfInBounds_toArray, List.set_cons_zero, List.set_cons_succ]
          refine wpAnyR_take (i := 20) (v := (pv q)) rfl rfl (by kernel_rfl) (by kernel_rfl) (by kernel_rfl) (fun _ _ _ h => h) (Nat.le_refl _) (yields_midR (fun w h => HB.out _ (St.bel h)) (by exact rfl) (by exact rfl) (by exact rfl) Try.underlying37 rfl (by exact pkInfo)) hS ?_
          simp only [List.getElem_toArray, List.getElem_cons_zero, List.getElem_cons_succ, Act.put, List.setIfInBounds_toArray, List.set_cons_zero, List.set_cons_succ]
          refine wpAnyR_take (i := 21) (v := (.bool false)) rfl rfl (by kernel_rfl) (by kernel_rfl) (by kernel_rfl) (fun _ _ _ h => h) (Nat.le_refl _) (yields_neq_same (q := q) (by exact rfl) (by exact rfl) (by exact rfl) (by exact rfl)) hS ?_
          simp only [List.getElem_toArray, List.getElem_cons_zero, List.getElem_cons_succ, Act.put, List.setIfInBounds_toArray, List.set_cons_zero, List.set_cons_succ]
          refine wpAnyR_take (i := 22) (v := (.bool false)) rfl rfl (by kernel_rfl) (by kernel_rfl) (by kernel_rfl) (fun _ _ _ h => h) (Nat.le_refl _) ⟨by rfl, fun w _ => (by go_simp; try (first | rfl | simp)), fun _ => rfl⟩ hS ?_
          simp only [List.getElem_toArray, List.getElem_cons_zero, List.getElem_cons_succ, Act.put, List.setIfInBounds_toArray, List.set_cons_zero, List.set_cons_succ]
          refine wpAnyR_take (i := 23) (v := (.bool false)) rfl rfl (by kernel_rfl) (by kernel_rfl) (by kernel_rfl) (fun _ _ _ h => h) (Nat.le_refl _) ⟨by rfl, fun w _ => (by go_simp; try (first | rfl | simp)), fun _ => rfl⟩ hS ?_
          simp only [List.getElem_toArray, List.getElem_cons_zero, List.getElem_cons_succ, Act.put, List.setIfInBounds_toArray, List.set_cons_zero, List.set_cons_succ]
          refine wpAnyR_take (i := 24) (v := (.bool false)) rfl rfl (by kernel_rfl) (by kernel_rfl) (by kernel_rfl) (fun _ _ _ h => h) (Nat.le_refl _) ⟨by rfl, fun w _ => (by go_simp; try (first | rfl | simp)), fun _ => rfl⟩ hS ?_
          simp only [List.getElem_toArray, List.getElem_cons_zero, List.getElem_cons_succ, Act.put, List.setIfInBounds_toArray, List.set_cons_zero, List.set_cons_succ]
          refine wpAnyR_take (i := 25) (v := (.int .i64 E)) rfl rfl (by kernel_rfl) (by kernel_rfl) (by kernel_rfl) (fun _ _ _ h => h) (Nat.le_refl _) ⟨by rfl, fun w _ => (by go_simp; try (first | rfl | simp)), fun _ => rfl⟩ hS ?_
          simp only [List.getElem_toArray, List.getElem_cons_zero, List.getElem_cons_succ, Act.put, List.setIfInBounds_toArray, List.set_cons_zero, List.set_cons_succ]
          refine wpAnyR_take (i := 26) (v := (.bool false)) rfl rfl (by kernel_rfl) (by kernel_rfl) (by kernel_rfl) (fun _ _ _ h => h) (Nat.le_refl _) ⟨by rfl, fun w _ => (by go_simp; try (first | rfl | exact HEE.out | simp)), fun _ => rfl⟩ hS ?_
          simp only [List.getElem_toArray, List.getElem_cons_zero, List.getElem_cons_succ, Act.put, List.setIfInBounds_toArray, List.set_cons_zero, List.set_cons_succ]
          refine wpAnyR_take (i := 27) (v := (.bool false)) rfl rfl (by kernel_rfl) (by kernel_rfl) (by kernel_rfl) (fun _ _ _ h => h) (Nat.le_refl _) ⟨by rfl, fun w _ => (by go_simp; try (first | rfl | simp)), fun _ => rfl⟩ hS ?_
          simp only [List.getElem_toArray, List.getElem_cons_zero, List.getElem_cons_succ, Act.put, List.setIfInBounds_toArray, List.set_cons_zero, List.set_cons_succ]
          refine wpAnyU_take (i := 28) rfl (fun _ => trivial) rfl (by kernel_rfl) (by kernel_rfl) (by kernel_rfl) (fun _ _ _ h => h) (Nat.le_refl _) (by rfl) hS ?_
          simp only [List.getElem_toArray, List.getElem_cons_zero, List.getElem_cons_succ, Act.put, List.setIfInBounds_toArray, List.set_cons_zero, List.set_cons_succ]
          refine wpAnyU_take (i := 29) rfl (fun _ => trivial) rfl (by kernel_rfl) (by kernel_rfl) (by kernel_rfl) (fun _ _ _ h => h) (Nat.le_refl _) (by rfl) hS ?_
          simp only [List.getElem_toArray, List.getElem_cons_zero, List.getElem_cons_succ, Act.put, List.setIfInBounds_toArray, List.set_cons_zero, List.set_cons_succ]
          refine wpAnyU_take (i := 30) rfl (fun _ => trivial) rfl (by kernel_rfl) (by kernel_rfl) (by kernel_rfl) (fun _ _ _ h => h) (Nat.le_refl _) (by rfl) hS ?_
          simp only [List.getElem_toArray, List.getElem_cons_zero, List.getElem_cons_succ, Act.put, List.setIfInBounds_toArray, List.set_cons_zero, List.set_cons_succ]
          refine wpAnyU_take (i := 31) rfl (fun _ => trivial) rfl (by kernel_rfl) (by kernel_rfl) (by kernel_rfl) (fun _ _ _ h => h) (Nat.le_refl _) (by rfl) hS ?_
          simp only [List.getElem_toArray, List.getElem_cons_zero, List.getElem_cons_succ, Act.put, List.setIfInBounds_toArray, List.set_cons_zero, List.set_cons_succ]
          refine wpAnyR_take (i := 32) (v := (.bool false)) rfl rfl (by kernel_rfl) (by kernel_rfl) (by kernel_rfl) (fun _ _ _ h => h) (Nat.le_refl _) ⟨by rfl, fun w _ => (by go_simp; try (first | rfl | simp)), fun _ => rfl⟩ hS ?_
          simp only [List.getElem_toArray, List.getElem_cons_zero, List.getElem_cons_succ, Act.put, List.setIfInBounds_toArray, List.set_cons_zero, List.set_cons_succ]
          refine wpAnyR_take (i := 33) (v := (.bool false)) rfl rfl (by kernel_rfl) (by kernel_rfl) (by kernel_rfl) (fun _ _ _ h => h) (Nat.le_refl _) ⟨by rfl, fun w _ => (by go_simp; try (first | rfl | simp)), fun _ => rfl⟩ hS ?_
          simp only [List.getElem_toArray, List.getElem_cons_zero, List.getElem_cons_succ, Act.put, List.setIfInBounds_toArray, List.set_cons_zero, List.set_cons_succ]
          refine wpAnyR_take (i := 34) (v := (.bool false)) rfl rfl (by kernel_rfl) (by kernel_rfl) (by kernel_rfl) (fun _ _ _ h => h) (Nat.le_refl _) ⟨by rfl, fun w _ => (by go_simp; try (first | rfl | simp)), fun _ => rfl⟩ hS ?_
          simp only [List.getElem_toArray, List.getElem_cons_zero, List.getElem_cons_succ, Act.put, List.setIfInBounds_toArray, List.set_cons_zero, List.set_cons_succ]
          refine wpAnyR_take (i := 35) (v := (.pointer (some ⟨p, 0, none⟩))) rfl rfl (by kernel_rfl) (by kernel_rfl) (by kernel_rfl) (fun _ _ _ h => h) (Nat.le_refl _) ⟨by rfl, fun w _ => (by go_simp; try (first | rfl | simp)), fun _ => rfl⟩ hS ?_
          simp only [List.getElem_toArray, List.getElem_cons_zero, List.getElem_cons_succ, Act.put, List.setIfInBounds_toArray, List.set_cons_zero, List.set_cons_succ]
          refine wpAnyR_take (i := 37) (v := (.slice (some ⟨g, off, none⟩) (nW + 1) a2)) rfl rfl (by kernel_rfl) (by kernel_rfl) (by kernel_rfl) (fun _ _ _ h => h) (Nat.le_refl _) ⟨by rfl, fun w _ => (by go_simp; try (first | rfl | simp)), fun _ => rfl⟩ hS ?_
          simp only [List.getElem_toArray, List.getElem_cons_zero, List.getElem_cons_succ, Act.put, List.setIfInBounds_toArray, List.set_cons_zero, List.set_cons_succ]
          refine wpAnyG_one (i := 36) (by kernel_rfl) rfl (fun K hK => ?_)
          go_simp
          refine ⟨trivial, (callsIn_wide.2 (kB _ O5)).mono ?_⟩
          rintro e w5 ⟨rfl, O6⟩
          refine hK _ _ (.inr O6) ?_
          clear hK K hS O5
          have O5 := O6
          have hS := O6
          clear O6
          try simp only [List.getElem_toArray, List.getElem_cons_zero, List.getElem_cons_succ, Act.put, List.setIfInBounds_toArray, List.set_cons_zero, List.set_cons_succ]
          refine wpAnyG_one (i := 38) (by kernel_rfl) rfl (fun K hK => ?_)
          go_simp
          refine ⟨trivial, (callsIn_wide.2 (kBr _ (HKK.out _ O5.kp).2)).mono ?_⟩
          rintro e w5 ⟨rfl, hb⟩
          have O6 := O5.on hP.pt NoT.pt HK2.out hb
          refine hK _ _ (.inr O6) ?_
          clear hK K hS O5 hb
          have O5 := O6
          have hS := O6
          clear O6
          try simp only [List.getElem_toArray, List.getElem_cons_zero, List.getElem_cons_succ, Act.put, List.setIfInBounds_toArray, List.set_cons_zero, List.set_cons_succ]
          refine wpAnyR_take (i := 39) (v := (.bool false)) rfl rfl (by kernel_rfl) (by kernel_rfl) (by kernel_rfl) (fun _ _ _ h => h) (Nat.le_refl _) ⟨by rfl, fun w _ => (by go_simp; try (first | rfl | simp)), fun _ => rfl⟩ hS ?_
          simp only [List.getElem_toArray, List.getElem_cons_zero, List.getElem_cons_succ, Act.put, List.setIfInBounds_toArray, List.set_cons_zero, List.set_cons_succ]
          refine wpAnyR_take (i := 40) (v := (.bool false)) rfl rfl (by kernel_rfl) (by kernel_rfl) (by kernel_rfl) (fun _ _ _ h => h) (Nat.le_refl _) ⟨by rfl, fun w _ => (by go_simp; try (first | rfl | simp)), fun _ => rfl⟩ hS ?_
          simp only [List.getElem_toArray, List.getElem_cons_zero, List.getElem_cons_succ, Act.put, List.setIfInBounds_toArray, List.set_cons_zero, List.set_cons_succ]
          refine wpAnyG_done (by kernel_rfl) ?_ _
          clear hS
          have HO5 := Lib.hid O5
          clear O5
          go_wp2
          go_roundw
          case rel => exact ⟨k + 1, by omega, by omega, by go_num, Lib.hid ⟨s', N + 1, by have := HN.out; omega, HO5.out.none⟩⟩
          case measure => simp [intOf]; omega
        · have t5 : (E == 0) = false := by simpa using hE0
          have t6 : (!(E == 0)) = true := by rw [t5]; rfl
          have hLL := HNO.out hE0
          obtain rfl : nI = nW := by rw [← HNI.out, hLL, HNW.out]
          have kS := fun W (h1 : Que W (.slice A1 nI a1) L) (h2 : Que W (.slice A2 nI a2) L') => same_r A1 A2 nI a1 nI a2 L L W h1 (by rw [← hLL]; exact h2) HNW.out HNW.out (by omega) (by omega)
          simp only [decide_true] at kS
          have HEE := Lib.hid hE0
          clear hE0
          have HLL := Lib.hid hLL
          clear hLL
          have O5 : St P NoT w _ T2 K2 p s' (N + 1) 0 ⟨[], 0, 0⟩ 0 := (O.out.on hP.pt NoT.pt HK2.out H.below).on hP.pt NoT.pt HK2.out (Mem.start _).drew.below
          refine (wpIn_wide (n := 6)).1 (wpIn_region_G (fun wx => St P NoT w wx T2 K2 p s' (N + 1) 0 ⟨[], 0, 0⟩ 0) 41 41 rfl (by kernel_rfl) (fun _ => ?_))
          have hS := O5
          clear O H
          refine wpAnyR_take (i := 0) (v := (.int .i64 E)) rfl rfl (by kernel_rfl) (by kernel_rfl) (by kernel_rfl) (fun _ _ _ h => h) (Nat.le_refl _) ⟨by rfl, fun w _ => (by go_simp; try (first | rfl | simp)), fun _ => rfl⟩ hS ?_
          simp only [List.getElem_toArray, List.getElem_cons_zero, List.getElem_cons_succ, Act.put, List.setIfInBounds_toArray, List.set_cons_zero, List.set_cons_succ]
          refine wpAnyR_take (i := 1) (v := (.bool false)) rfl rfl (by kernel_rfl) (by kernel_rfl) (by kernel_rfl) (fun _ _ _ h => h) (Nat.le_refl _) ⟨by rfl, fun w _ => (by go_simp; try (first | rfl | exact t5 | simp)), fun _ => rfl⟩ hS ?_
          simp only [List.getElem_toArray, List.getElem_cons_zero, List.getElem_cons_succ, Act.put, List.setIfInBounds_toArray, List.set_cons_zero, List.set_cons_succ]
          refine wpAnyR_take (i := 2) (v := (.bool false)) rfl rfl (by kernel_rfl) (by kernel_rfl) (by kernel_rfl) (fun _ _ _ h => h) (Nat.le_refl _) ⟨by rfl, fun w _ => (by go_simp; try (first | rfl | simp)), fun _ => rfl⟩ hS ?_
          simp only [List.getElem_toArray, List.getElem_cons_zero, List.getElem_cons_succ, Act.put, List.setIfInBounds_toArray, List.set_cons_zero, List.set_cons_succ]
          refine wpAnyU_take (i := 3) rfl (fun _ => trivial) rfl (by kernel_rfl) (by kernel_rfl) (by kernel_rfl) (fun _ _ _ h => h) (Nat.le_refl _) (by rfl) hS ?_
          simp only [List.getElem_toArray, List.getElem_cons_zero, List.getElem_cons_succ, Act.put, List.setIfInBounds_toArray, List.set_cons_zero, List.set_cons_succ]
          refine wpAnyU_take (i := 4) rfl (fun _ => trivial) rfl (by kernel_rfl) (by kernel_rfl) (by kernel_rfl) (fun _ _ _ h => h) (Nat.le_refl _) (by rfl) hS ?_
          simp only [List.getElem_toArray, List.getElem_cons_zero, List.getElem_cons_succ, Act.put, List.setIfInBounds_toArray, List.set_cons_zero, List.set_cons_succ]
          refine wpAnyU_take (i := 5) rfl (fun _ => trivial) rfl (by kernel_rfl) (by kernel_rfl) (by kernel_rfl) (fun _ _ _ h => h) (Nat.le_refl _) (by rfl) hS ?_
          simp only [List.getElem_toArray, List.getElem_cons_zero, List.getElem_cons_succ, Act.put, List.setIfInBounds_toArray, List.set_cons_zero, List.set_cons_succ]
          refine wpAnyU_take (i := 6) rfl (fun _ => trivial) rfl (by kernel_rfl) (by kernel_rfl) (by kernel_rfl) (fun _ _ _ h => h) (Nat.le_refl _) (by rfl) hS ?_
          simp only [List.getElem_toArray, List.getElem_cons_zero, List.getElem_cons_succ, Act.put, List.setIfInBounds_toArray, List.set_cons_zero, List.set_cons_succ]
          refine wpAnyU_take (i := 7) rfl (fun _ => trivial) rfl (by kernel_rfl) (by kernel_rfl) (by kernel_rfl) (fun _ _ _ h => h) (Nat.le_refl _) (by rfl) hS ?_
          simp only [List.getElem_toArray, List.getElem_cons_zero, List.getElem_cons_succ, Act.put, List.setIfInBounds_toArray, List.set_cons_zero, List.set_cons_succ]
          refine wpAnyU_take (i := 8) rfl (fun _ => trivial) rfl (by kernel_rfl) (by kernel_rfl) (by kernel_rfl) (fun _ _ _ h => h) (Nat.le_refl _) (by rfl) hS ?_
          simp only [List.getElem_toArray, List.getElem_cons_zero, List.getElem_cons_succ, Act.put, List.setIfInBounds_toArray, List.set_cons_zero, List.set_cons_succ]
          refine wpAnyU_take (i := 9) rfl (fun _ => trivial) rfl (by kernel_rfl) (by kernel_rfl) (by kernel_rfl) (fun _ _ _ h => h) (Nat.le_refl _) (by rfl) hS ?_
          simp only [List.getElem_toArray, List.getElem_cons_zero, List.getElem_cons_succ, Act.put, List.setIfInBounds_toArray, List.set_cons_zero, List.set_cons_succ]
          refine wpAnyU_take (i := 10) rfl (fun _ => trivial) rfl (by kernel_rfl) (by kernel_rfl) (by kernel_rfl) (fun _ _ _ h => h) (Nat.le_refl _) (by rfl) hS ?_
          simp only [List.getElem_toArray, List.getElem_cons_zero, List.getElem_cons_succ, Act.put, List.setIfInBounds_toArray, List.set_cons_zero, List.set_cons_succ]
          refine wpAnyU_take (i := 11) rfl (fun _ => trivial) rfl (by kernel_rfl) (by kernel_rfl) (by kernel_rfl) (fun _ _ _ h => h) (Nat.le_refl _) (by rfl) hS ?_
          simp only [List.getElem_toArray, List.getElem_cons_zero, List.getElem_cons_succ, Act.put, List.setIfInBounds_toArray, List.set_cons_zero, List.set_cons_succ]
          refine wpAnyU_take (i := 12) rfl (fun _ => trivial) rfl (by kernel_rfl) (by kernel_rfl) (by kernel_rfl) (fun _ _ _ h => h) (Nat.le_refl _) (by rfl) hS ?_
          simp only [List.getElem_toArray, List.getElem_cons_zero, List.getElem_cons_succ, Act.put, List.setIfInBounds_toArray, List.set_cons_zero, List.set_cons_succ]
          refine wpAnyU_take (i := 13) rfl (fun _ => trivial) rfl (by kernel_rfl) (by kernel_rfl) (by kernel_rfl) (fun _ _ _ h => h) (Nat.le_refl _) (by rfl) hS ?_
          simp only [List.getElem_toArray, List.getElem_cons_zero, List.getElem_cons_succ, Act.put, List.setIfInBounds_toArray, List.set_cons_zero, List.set_cons_succ]
          refine wpAnyU_take (i := 14) rfl (fun _ => trivial) rfl (by kernel_rfl) (by kernel_rfl) (by kernel_rfl) (fun _ _ _ h => h) (Nat.le_refl _) (by rfl) hS ?_
          simp only [List.getElem_toArray, List.getElem_cons_zero, List.getElem_cons_succ, Act.put, List.setIfInBounds_toArray, List.set_cons_zero, List.set_cons_succ]
          refine wpAnyU_take (i := 15) rfl (fun _ => trivial) rfl (by kernel_rfl) (by kernel_rfl) (by kernel_rfl) (fun _ _ _ h => h) (Nat.le_refl _) (by rfl) hS ?_
          simp only [List.getElem_toArray, List.getElem_cons_zero, List.getElem_cons_succ, Act.put, List.setIfInBounds_toArray, List.set_cons_zero, List.set_cons_succ]
          refine wpAnyU_take (i := 16) rfl (fun _ => trivial) rfl (by kernel_rfl) (by kernel_rfl) (by kernel_rfl) (fun _ _ _ h => h) (Nat.le_refl _) (by rfl) hS ?_
          simp only [List.getElem_toArray, List.getElem_cons_zero, List.getElem_cons_succ, Act.put, List.setIfInBounds_toArray, List.set_cons_zero, List.set_cons_succ]
          refine wpAnyU_take (i := 17) rfl (fun _ => trivial) rfl (by kernel_rfl) (by kernel_rfl) (by kernel_rfl) (fun _ _ _ h => h) (Nat.le_refl _) (by rfl) hS ?_
          simp only [List.getElem_toArray, List.getElem_cons_zero, List.getElem_cons_succ, Act.put, List.setIfInBounds_toArray, List.set_cons_zero, List.set_cons_succ]
          refine wpAnyU_take (i := 18) rfl (fun _ => trivial) rfl (by kernel_rfl) (by kernel_rfl) (by kernel_rfl) (fun _ _ _ h => h) (Nat.le_refl _) (by rfl) hS ?_
          simp only [List.getElem_toArray, List.getElem_cons_zero, List.getElem_cons_succ, Act.put, List.setIfInBounds_toArray, List.set_cons_zero, List.set_cons_succ]
          refine wpAnyU_take (i := 19) rfl (fun _ => trivial) rfl (by kernel_rfl) (by kernel_rfl) (by kernel_rfl) (fun _ _ _ h => h) (Nat.le_refl _) (by rfl) hS ?_
          simp only [List.getElem_toArray, List.getElem_cons_zero, List.getElem_cons_succ, Act.put, List.setIfInBounds_toArray, List.set_cons_zero, List.set_cons_succ]
          refine wpAnyU_take (i := 20) rfl (fun _ => trivial) rfl (by kernel_rfl) (by kernel_rfl) (by kernel_rfl) (fun _ _ _ h => h) (Nat.le_refl _) (by rfl) hS ?_
          simp only [List.getElem_toArray, List.getElem_cons_zero, List.getElem_cons_succ, Act.put, List.setIfInBounds_toArray, List.set_cons_zero, List.set_cons_succ]
          refine wpAnyU_take (i := 21) rfl (fun _ => trivial) rfl (by kernel_rfl) (by kernel_rfl) (by kernel_rfl) (fun _ _ _ h => h) (Nat.le_refl _) (by rfl) hS ?_
          simp only [List.getElem_toArray, List.getElem_cons_zero, List.getElem_cons_succ, Act.put, List.setIfInBounds_toArray, List.set_cons_zero, List.set_cons_succ]
          refine wpAnyU_take (i := 22) rfl (fun _ => trivial) rfl (by kernel_rfl) (by kernel_rfl) (by kernel_rfl) (fun _ _ _ h => h) (Nat.le_refl _) (by rfl) hS ?_
          simp only [List.getElem_toArray, List.getElem_cons_zero, List.getElem_cons_succ, Act.put, List.setIfInBounds_toArray, List.set_cons_zero, List.set_cons_succ]
          refine wpAnyR_take (i := 23) (v := (.bool false)) rfl rfl (by kernel_rfl) (by kernel_rfl) (by kernel_rfl) (fun _ _ _ h => h) (Nat.le_refl _) ⟨by rfl, fun w _ => (by go_simp; try (first | rfl | simp)), fun _ => rfl⟩ hS ?_
          simp only [List.getElem_toArray, List.getElem_cons_zero, List.getElem_cons_succ, Act.put, List.setIfInBounds_toArray, List.set_cons_zero, List.set_cons_succ]
          refine wpAnyR_take (i := 24) (v := (.bool false)) rfl rfl (by kernel_rfl) (by kernel_rfl) (by kernel_rfl) (fun _ _ _ h => h) (Nat.le_refl _) ⟨by rfl, fun w _ => (by go_simp; try (first | rfl | simp)), fun _ => rfl⟩ hS ?_
          simp only [List.getElem_toArray, List.getElem_cons_zero, List.getElem_cons_succ, Act.put, List.setIfInBounds_toArray, List.set_cons_zero, List.set_cons_succ]
          refine wpAnyR_take (i := 25) (v := (.int .i64 E)) rfl rfl (by kernel_rfl) (by kernel_rfl) (by kernel_rfl) (fun _ _ _ h => h) (Nat.le_refl _) ⟨by rfl, fun w _ => (by go_simp; try (first | rfl | simp)), fun _ => rfl⟩ hS ?_
          simp only [List.getElem_toArray, List.getElem_cons_zero, List.getElem_cons_succ, Act.put, List.setIfInBounds_toArray, List.set_cons_zero, List.set_cons_succ]
          refine wpAnyR_take (i := 26) (v := (.bool true)) rfl rfl (by kernel_rfl) (by kernel_rfl) (by kernel_rfl) (fun _ _ _ h => h) (Nat.le_refl _) ⟨by rfl, fun w _ => (by go_simp; try (first | rfl | exact HEE.out | simp)), fun _ => rfl⟩ hS ?_
          simp only [List.getElem_toArray, List.getElem_cons_zero, List.getElem_cons_succ, Act.put, List.setIfInBounds_toArray, List.set_cons_zero, List.set_cons_succ]
          refine wpAnyR_take (i := 27) (v := (.bool true)) rfl rfl (by kernel_rfl) (by kernel_rfl) (by kernel_rfl) (fun _ _ _ h => h) (Nat.le_refl _) ⟨by rfl, fun w _ => (by go_simp; try (first | rfl | simp)), fun _ => rfl⟩ hS ?_
          simp only [List.getElem_toArray, List.getElem_cons_zero, List.getElem_cons_succ, Act.put, List.setIfInBounds_toArray, List.set_cons_zero, List.set_cons_succ]
          refine wpAnyR_take (i := 28) (v := (.slice A1 nI a1)) rfl rfl (by kernel_rfl) (by kernel_rfl) (by kernel_rfl) (fun _ _ _ h => h) (Nat.le_refl _) ⟨by rfl, fun w _ => (by go_simp; try (first | rfl | simp)), fun _ => rfl⟩ hS ?_
          simp only [List.getElem_toArray, List.getElem_cons_zero, List.getElem_cons_succ, Act.put, List.setIfInBounds_toArray, List.set_cons_zero, List.set_cons_succ]
          refine wpAnyR_take (i := 29) (v := (.slice A2 nI a2)) rfl rfl (by kernel_rfl) (by kernel_rfl) (by kernel_rfl) (fun _ _ _ h => h) (Nat.le_refl _) ⟨by rfl, fun w _ => (by go_simp; try (first | rfl | simp)), fun _ => rfl⟩ hS ?_
          simp only [List.getElem_toArray, List.getElem_cons_zero, List.getElem_cons_succ, Act.put, List.setIfInBounds_toArray, List.set_cons_zero, List.set_cons_succ]
          refine wpAnyG_one (i := 30) (by kernel_rfl) rfl (fun K hK => ?_)
          go_simp
          refine ⟨trivial, (callsIn_wide.2 (kS _ (HKK.out _ O5.kp).1 (HKK.out _ O5.kp).2)).mono ?_⟩
          rintro e w5 ⟨rfl, hb⟩
          have O6 := O5.on hP.pt NoT.pt HK2.out hb
          refine hK _ _ (.inr O6) ?_
          clear hK K hS O5 hb
          have O5 := O6
          have hS := O6
          clear O6
          try simp only [List.getElem_toArray, List.getElem_cons_zero, List.getElem_cons_succ, Act.put, List.setIfInBounds_toArray, List.set_cons_zero, List.set_cons_succ]
          refine wpAnyR_take (i := 31) (v := (.bool false)) rfl rfl (by kernel_rfl) (by kernel_rfl) (by kernel_rfl) (fun _ _ _ h => h) (Nat.le_refl _) ⟨by rfl, fun w _ => (by go_simp; try (first | rfl | simp)), fun _ => rfl⟩ hS ?_
          simp only [List.getElem_toArray, List.getElem_cons_zero, List.getElem_cons_succ, Act.put, List.setIfInBounds_toArray, List.set_cons_zero, List.set_cons_succ]
          refine wpAnyR_take (i := 32) (v := (.bool false)) rfl rfl (by kernel_rfl) (by kernel_rfl) (by kernel_rfl) (fun _ _ _ h => h) (Nat.le_refl _) ⟨by rfl, fun w _ => (by go_simp; try (first | rfl | simp)), fun _ => rfl⟩ hS ?_
          simp only [List.getElem_toArray, List.getElem_cons_zero, List.getElem_cons_succ, Act.put, List.setIfInBounds_toArray, List.set_cons_zero, List.set_cons_succ]
          refine wpAnyR_take (i := 33) (v := (.bool false)) rfl rfl (by kernel_rfl) (by kernel_rfl) (by kernel_rfl) (fun _ _ _ h => h) (Nat.le_refl _) ⟨by rfl, fun w _ => (by go_simp; try (first | rfl | simp)), fun _ => rfl⟩ hS ?_
          simp only [List.getElem_toArray, List.getElem_cons_zero, List.getElem_cons_succ, Act.put, List.setIfInBounds_toArray, List.set_cons_zero, List.set_cons_succ]
          refine wpAnyR_take (i := 34) (v := (.bool false)) rfl rfl (by kernel_rfl) (by kernel_rfl) (by kernel_rfl) (fun _ _ _ h => h) (Nat.le_refl _) ⟨by rfl, fun w _ => (by go_simp; try (first | rfl | simp)), fun _ => rfl⟩ hS ?_
          simp only [List.getElem_toArray, List.getElem_cons_zero, List.getElem_cons_succ, Act.put, List.setIfInBounds_toArray, List.set_cons_zero, List.set_cons_succ]
          refine wpAnyR_take (i := 35) (v := (.pointer (some ⟨p, 0, none⟩))) rfl rfl (by kernel_rfl) (by kernel_rfl) (by kernel_rfl) (fun _ _ _ h => h) (Nat.le_refl _) ⟨by rfl, fun w _ => (by go_simp; try (first | rfl | simp)), fun _ => rfl⟩ hS ?_
          simp only [List.getElem_toArray, List.getElem_cons_zero, List.getElem_cons_succ, Act.put, List.setIfInBounds_toArray, List.set_cons_zero, List.set_cons_succ]
          refine wpAnyR_take (i := 37) (v := (.slice A2 nI a2)) rfl rfl (by kernel_rfl) (by kernel_rfl) (by kernel_rfl) (fun _ _ _ h => h) (Nat.le_refl _) ⟨by rfl, fun w _ => (by go_simp; try (first | rfl | simp)), fun _ => rfl⟩ hS ?_
          simp only [List.getElem_toArray, List.getElem_cons_zero, List.getElem_cons_succ, Act.put, List.setIfInBounds_toArray, List.set_cons_zero, List.set_cons_succ]
          refine wpAnyG_one (i := 36) (by kernel_rfl) rfl (fun K hK => ?_)
          go_simp
          refine ⟨trivial, (callsIn_wide.2 (kB _ O5)).mono ?_⟩
          rintro e w5 ⟨rfl, O6⟩
          refine hK _ _ (.inr O6) ?_
          clear hK K hS O5
          have O5 := O6
          have hS := O6
          clear O6
          try simp only [List.getElem_toArray, List.getElem_cons_zero, List.getElem_cons_succ, Act.put, List.setIfInBounds_toArray, List.set_cons_zero, List.set_cons_succ]
          refine wpAnyG_one (i := 38) (by kernel_rfl) rfl (fun K hK => ?_)
          go_simp
          refine ⟨trivial, (callsIn_wide.2 (kBr _ (HKK.out _ O5.kp).2)).mono ?_⟩
          rintro e w5 ⟨rfl, hb⟩
          have O6 := O5.on hP.pt NoT.pt HK2.out hb
          refine hK _ _ (.inr O6) ?_
          clear hK K hS O5 hb
          have O5 := O6
          have hS := O6
          clear O6
          try simp only [List.getElem_toArray, List.getElem_cons_zero, List.getElem_cons_succ, Act.put, List.setIfInBounds_toArray, List.set_cons_zero, List.set_cons_succ]
          refine wpAnyR_take (i := 39) (v := (.bool false)) rfl rfl (by kernel_rfl) (by kernel_rfl) (by kernel_rfl) (fun _ _ _ h => h) (Nat.le_refl _) ⟨by rfl, fun w _ => (by go_simp; try (first | rfl | simp)), fun _ => rfl⟩ hS ?_
          simp only [List.getElem_toArray, List.getElem_cons_zero, List.getElem_cons_succ, Act.put, List.setIfInBounds_toArray, List.set_cons_zero, List.set_cons_succ]
          refine wpAnyR_take (i := 40) (v := (.bool false)) rfl rfl (by kernel_rfl) (by kernel_rfl) (by kernel_rfl) (fun _ _ _ h => h) (Nat.le_refl _) ⟨by rfl, fun w _ => (by go_simp; try (first | rfl | simp)), fun _ => rfl⟩ hS ?_
          simp only [List.getElem_toArray, List.getElem_cons_zero, List.getElem_cons_succ, Act.put, List.setIfInBounds_toArray, List.set_cons_zero, List.set_cons_succ]
          refine wpAnyG_done (by kernel_rfl) ?_ _
          clear hS
          have HO5 := Lib.hid O5
          clear O5
          go_wp2
          go_roundw
          case rel => exact ⟨k + 1, by omega, by omega, by go_num, Lib.hid ⟨s', N + 1, by have := HN.out; omega, HO5.out.none⟩⟩
          case measure => simp [intOf]; omega
      · by_cases hl2 : k < len
        · have t1 : decide ((k : Int) < (len : Int)) = true := decide_eq_true (by omega)
          have t2 : decide ((k : Int) < 80) = false := decide_eq_false (by omega)
          go_wp2
          go_ret
          exact ⟨rfl, HJ.out.bel⟩
        · have t1 : decide ((k : Int) < (len : Int)) = false := decide_eq_false (by omega)
          go_wp2
          go_ret
          exact ⟨rfl, HJ.out.bel⟩
end
end Go.Proofs.Ytlnlkodpndjimaa.Fi
end
