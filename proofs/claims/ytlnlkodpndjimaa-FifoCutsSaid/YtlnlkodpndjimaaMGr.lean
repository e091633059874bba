/-
  The laws' own filled of layer 10; FifoBack, walked. Conditions: as the interface says; the acts lie where their slice says. FifoBack, walked. Conditions: as the interface says; the acts lie where their slice says.
-/
import Derived.Test.YtlnlkodpndjimaaMGq
/- The laws' own filled of layer 10; FifoBack, walked. Conditions: as the interface says; the acts lie where their slice says. -/
section
namespace Go.Proofs.Ytlnlkodpndjimaa.Fi
set_option linter.unusedSimpArgs false
set_option linter.unusedVariables false
set_option maxRecDepth 100000
open Go.ChangeShapes Go.WideShapes Go.ChangeAt Go.RowKit Go.Maps

/-- packets put, one by one -/
def fillS (s : FF) (xs : Nat → AX) : Nat → FF
  | 0 => s
  | k + 1 => putS (fillS s xs k) (xs k).q
section
variable {P P2 : PT} {w W : World} {T : Nat → Prop} {K : World → Prop} {p1 N1 p2 N2 : Nat} {s1 s2 : FF}
set_option maxHeartbeats 2000000 in
theorem fill_no (hP : PFifo P) (n b : Int) (hok : okN n b = false) (A : Option Addr) (len cap : Nat) (xs : Nat → AX) (hl : len ≤ cap) (hc : cap ≤ maxLen) (w : World) (hA : ActsX w A len xs) (W : World) (hW : Below w.heap.size w W) : Calls Try.prog 24 #[.int .i64 n, .int .i64 b, .slice A len cap] W fun e w' => e = .returned (.tuple #[.pointer none, .int .i64 2]) ∧ Below W.heap.size W w' := by
  have H := Mem.start W
  have HA := Lib.hid hA
  have kn := fun w => hP.new_no n b w hok
  unfold maxLen at hc
  clear hA hok
  go_enter Try.func24, Try.ntmps24
  go_upto_region 2 with (first
    | go_skip
    | (go_at_call 11; refine (kn _).mono ?_; rintro e w2 ⟨rfl, hb⟩; have H2 := H.call hb; clear H hb; have H := H2; clear H2))
  clear kn
  go_wp2
  go_loopw [10] (fun iv wr => ∃ k : Nat, k ≤ len ∧ k ≤ 80 ∧ iv = .int .i64 k ∧ Mem W wr []) (fun iv _ => len - (intOf iv).toNat)
  case atStart => exact ⟨0, Nat.zero_le _, Nat.zero_le _, rfl, H⟩
  case round =>
    clear H
    obtain ⟨k, hk, hk80, rfl, H⟩ := hrel
    by_cases hlt : k < len ∧ k < 80
    · obtain ⟨bA, oA, hA, hb, hx⟩ := HA.out.plain axC_len (by decide) (by omega)
      obtain ⟨hfit, hcells⟩ := hx k hlt.1
      have t1 : decide ((k : Int) < (len : Int)) = true := decide_eq_true (by omega)
      have t2 : decide ((k : Int) < 80) = true := decide_eq_true (by omega)
      obtain ⟨x, hxx⟩ : ∃ x, xs k = x := ⟨_, rfl⟩
      rw [hxx] at hfit hcells
      have HB := Lib.hid (fun (W : World) (h : Below w.heap.size w W) => show W.rangeAt bA (oA + k * 12 + 1) (pvCs x.q) from fun j v hj => by
        have h2 := hcells (1 + j) v (by
          match j, hj with
          | 0, hj => exact hj
          | 1, hj => exact hj
          | 2, hj => exact hj
          | 3, hj => exact hj
          | 4, hj => exact hj
          | 5, hj => exact hj
          | 6, hj => exact hj
          | 7, hj => exact hj
          | 8, hj => exact hj)
        rw [← h2, ← Nat.add_assoc]
        unfold World.cell?
        rw [h.block bA hb])
      obtain ⟨q, hq⟩ : ∃ q, x.q = q := ⟨_, rfl⟩
      rw [hq] at HB
      have kp := fun w => hP.nil_put q w (by rw [← hq]; exact hfit.q)
      subst hA
      clear hfit hcells hxx hx hq
      go_wp2_with (first
        | go_skip
        | ((with_reducible show wpList _ _ _ (⟨_, .load 37 _, _, _, _, _⟩ :: _) _ _); refine wpList_load_mid rfl _ _ rfl bA (oA + k * 12 + 1) rfl _ _ (HB.out _ (hW.trans (H.below.mono hW.size))) Try.underlying37 rfl pkInfo ?_)
        | (go_at_call 21; refine (kp _).mono ?_; rintro e w2 ⟨rfl, hb⟩; have H2 := H.call hb; clear H hb; have H := H2; clear H2))
      go_roundw
      case rel => exact ⟨k + 1, by omega, by omega, by go_num, H⟩
      case measure => simp [intOf]; omega
    · by_cases hl2 : k < len
      · have t1 : decide ((k : Int) < (len : Int)) = true := decide_eq_true (by omega)
        have t2 : decide ((k : Int) < 80) = false := decide_eq_false (by omega)
        go_wp2
        refine bodyPost_ret (results_two rfl _ _ _) rfl ?_
        exact ⟨rfl, H.below⟩
      · have t1 : decide ((k : Int) < (len : Int)) = false := decide_eq_false (by omega)
        go_wp2
        refine bodyPost_ret (results_two rfl _ _ _) rfl ?_
        exact ⟨rfl, H.below⟩
set_option maxHeartbeats 2000000 in
theorem fill_yes (hP : PFifo P) (o2 : PtOk P2) (hk : Kept T K) (n b : Int) (hok : okN n b = true) (A : Option Addr) (len cap : Nat) (xs : Nat → AX) (hl : len ≤ cap) (hc : cap ≤ maxLen) (hA : ActsX w A len xs) (h : St NoT P2 w W T K p1 s1 N1 p2 s2 N2) :
    Calls Try.prog 24 #[.int .i64 n, .int .i64 b, .slice A len cap] W fun e w' => ∃ p, e = .returned (.tuple #[.pointer (some ⟨p, 0, none⟩), .int .i64 0]) ∧ St P P2 w w' T K p (fillS ⟨[], n, b⟩ xs (min len 80)) (min len 80) p2 s2 N2 := by
  have H := Mem.start W
  have HA := Lib.hid hA
  have O := Lib.hid h
  have HK := Lib.hid hk
  have HOK := Lib.hid hok
  unfold maxLen at hc
  clear hA h hk hok
  go_enter Try.func24, Try.ntmps24
  go_upto_region 2 with (first
    | go_skip
    | (go_at_call 11; refine (O.out.newP hP o2 HK.out n b HOK.out).mono ?_; rintro e w2 ⟨p, rfl, O2⟩; clear O H; have O := Lib.hid O2; clear O2; have H := Mem.start w2))
  have HJ := Lib.hid (show St P P2 w w2 T K p (fillS ⟨[], n, b⟩ xs 0) 0 p2 s2 N2 from O.out)
  clear O
  go_wp2
  go_loopw [10] (fun iv wr => ∃ k : Nat, k ≤ len ∧ k ≤ 80 ∧ iv = .int .i64 k ∧ Hid (St P P2 w wr T K p (fillS ⟨[], n, b⟩ xs k) k p2 s2 N2)) (fun iv _ => len - (intOf iv).toNat)
  case atStart => exact ⟨0, Nat.zero_le _, Nat.zero_le _, rfl, HJ⟩
  case round =>
    clear HJ H
    obtain ⟨k, hk, hk80, rfl, HJ⟩ := hrel
    have H := Mem.start wr
    by_cases hlt : k < len ∧ k < 80
    · obtain ⟨bA, oA, hA, hb, hx⟩ := HA.out.plain axC_len (by decide) (by omega)
      obtain ⟨hfit, hcells⟩ := hx k hlt.1
      have t1 : decide ((k : Int) < (len : Int)) = true := decide_eq_true (by omega)
      have t2 : decide ((k : Int) < 80) = true := decide_eq_true (by omega)
      obtain ⟨x, hxx⟩ : ∃ x, xs k = x := ⟨_, rfl⟩
      rw [hxx] at hfit hcells
      have HB := Lib.hid (fun (W : World) (h : Below w.heap.size w W) => show W.rangeAt bA (oA + k * 12 + 1) (pvCs x.q) from fun j v hj => by
        have h2 := hcells (1 + j) v (by
          match j, hj with
          | 0, hj => exact hj
          | 1, hj => exact hj
          | 2, hj => exact hj
          | 3, hj => exact hj
          | 4, hj => exact hj
          | 5, hj => exact hj
          | 6, hj => exact hj
          | 7, hj => exact hj
          | 8, hj => exact hj)
        rw [← h2, ← Nat.add_assoc]
        unfold World.cell?
        rw [h.block bA hb])
      obtain ⟨q, hq⟩ : ∃ q, x.q = q := ⟨_, rfl⟩
      rw [hq] at HB
      have kp := fun W (h : St P P2 w W T K p (fillS ⟨[], n, b⟩ xs k) k p2 s2 N2) => putP hP o2 HK.out h (by omega) q (by rw [← hq]; exact hfit.q)
      have hnx : putS (fillS ⟨[], n, b⟩ xs k) q = fillS ⟨[], n, b⟩ xs (k + 1) := by
        show _ = putS (fillS ⟨[], n, b⟩ xs k) (xs k).q
        rw [hxx, hq]
      rw [hnx] at kp
      subst hA
      clear hfit hcells hxx hx hq hnx
      obtain ⟨E, hE⟩ : ∃ E, putE (fillS ⟨[], n, b⟩ xs k) q = E := ⟨_, rfl⟩
      rw [hE] at kp
      clear hE
      go_wp2_with (first
        | go_skip
        | ((with_reducible show wpList _ _ _ (⟨_, .load 37 _, _, _, _, _⟩ :: _) _ _); refine wpList_load_mid rfl _ _ rfl bA (oA + k * 12 + 1) rfl _ _ (HB.out _ (HJ.out.bel.trans (H.below.mono HJ.out.bel.size))) Try.underlying37 rfl pkInfo ?_)
        | (go_at_call 21; refine (kp _ (HJ.out.on hP.pt o2 HK.out H.below)).mono ?_; rintro e w2 ⟨rfl, J2⟩; clear HJ H; have HJ := Lib.hid J2; clear J2; have H := Mem.start w2))
      go_roundw
      case rel => exact ⟨k + 1, by omega, by omega, by go_num, Lib.hid (HJ.out.on hP.pt o2 HK.out H.below)⟩
      case measure => simp [intOf]; omega
    · have HKK := Lib.hid (show min len 80 = k by omega)
      by_cases hl2 : k < len
      · have t1 : decide ((k : Int) < (len : Int)) = true := decide_eq_true (by omega)
        have t2 : decide ((k : Int) < 80) = false := decide_eq_false (by omega)
        go_wp2
        refine bodyPost_ret (results_two rfl _ _ _) rfl ?_
        exact ⟨p, rfl, by rw [HKK.out]; exact HJ.out⟩
      · have t1 : decide ((k : Int) < (len : Int)) = false := decide_eq_false (by omega)
        go_wp2
        refine bodyPost_ret (results_two rfl _ _ _) rfl ?_
        exact ⟨p, rfl, by rw [HKK.out]; exact HJ.out⟩
end
end Go.Proofs.Ytlnlkodpndjimaa.Fi
end
/- FifoBack, walked. Conditions: as the interface says; the acts lie where their slice says. -/
section
namespace Go.Proofs.Ytlnlkodpndjimaa.Fi
set_option linter.unusedSimpArgs false
set_option linter.unusedVariables false
set_option maxRecDepth 100000
open Go.ChangeShapes Go.WideShapes Go.ChangeAt Go.RowKit Go.Maps

theorem head_of {s : FF} (h : firstE s = 0) : s.l = firstV s :: s.l.tail := by
  cases hl : s.l with
  | nil => rw [firstE, if_pos hl] at h; cases h
  | cons a t => rw [firstV, hl]; rfl
theorem empty_of {s : FF} (h : firstE s ≠ 0) : s.l = [] := by
  cases hl : s.l with
  | nil => rfl
  | cons a t => exact absurd (by rw [firstE, if_neg (by rw [hl]; simp)]) h
section
variable {P : PT}
set_option maxHeartbeats 2000000 in
theorem back_w (hP : PFifo P) (n b : Int) (A : Option Addr) (len cap : Nat) (xs : Nat → AX) (hl : len ≤ cap) (hc : cap ≤ maxLen) (w : World) (hA : ActsX w A len xs) : Calls Try.prog 7 #[.int .i64 n, .int .i64 b, .slice A len cap] w fun e w' => e = .returned (.bool true) ∧ Below w.heap.size w w' := by
  have H := Mem.start w
  cases hok : okN n b with
  | false =>
    have kf := fun W (h : Below w.heap.size w W) => fill_no hP n b hok A len cap xs hl hc w hA W h
    clear hok hA
    go_enter Try.func7, Try.ntmps7
    go_wp2_with (first
    | go_skip
    | go_skip
    | (go_at_call 10; refine (shown10 hP _).mono ?_; rintro e w2 ⟨rfl, hb⟩; have H2 := H.call hb; clear H hb; have H := H2; clear H2)
    | (go_at_call 24; refine (kf _ H.below).mono ?_; rintro e w2 ⟨rfl, hb⟩; have H2 := H.call hb; clear H hb; have H := H2; clear H2))
    go_ret
    exact ⟨by simp, H.below⟩
  | true =>
    have O := Lib.hid (St.start w ⟨[], 0, 0⟩)
    have k1 := fun W (h : St NoT NoT w W (fun _ => False) (fun _ => True) 0 ⟨[], 0, 0⟩ 0 0 ⟨[], 0, 0⟩ 0) => fill_yes hP NoT.pt (Kept.no _) n b hok A len cap xs hl hc hA h
    have k2 := fun W pf s N (h : St P NoT w W (fun _ => False) (fun _ => True) pf s N 0 ⟨[], 0, 0⟩ 0) => fill_yes hP hP.pt (Kept.no _) n b hok A len cap xs hl hc hA h.symm
    obtain ⟨N, hN⟩ : ∃ N, min len 80 = N := ⟨_, rfl⟩
    obtain ⟨s, hs⟩ : ∃ s, fillS ⟨[], n, b⟩ xs N = s := ⟨_, rfl⟩
    simp only [hN, hs] at k1 k2
    have hN80 : N ≤ 80 := by omega
    clear hok hA hs hN
    go_enter Try.func7, Try.ntmps7
    go_upto_region 2 with (first
    | go_skip
    | (go_at_call 10; refine (shown10 hP _).mono ?_; rintro e w2 ⟨rfl, hb⟩; have O2 := St.on NoT.pt NoT.pt (Kept.no _) O.out hb; clear O; have O := Lib.hid O2; clear O2; have H2 := H.call hb; clear H hb; have H := H2; clear H2))
    go_upto_region 3 with (first
    | go_skip
    | (go_at_call 24; refine (k1 _ O.out).mono ?_; rintro e w2 ⟨pf, rfl, O2⟩; clear O H; have O := Lib.hid O2; clear O2; have H := Mem.start w2))
    go_upto_region 4 with (first
    | go_skip
    | (go_at_call 24; refine (k2 _ pf s N (O.out.on hP.pt NoT.pt (Kept.no _) H.below)).mono ?_; rintro e w2 ⟨pg, rfl, O2⟩; clear O H; have O := Lib.hid O2.symm; clear O2; have H := Mem.start w2))
    clear k1 k2
    have hfa := O.out.facts hP
    have kt := fun W (h : St P P w W (fun _ => False) (fun _ => True) pf s N pg s N) => takeP hP hP.pt (Kept.no _) h (by omega)
    obtain ⟨E, hE⟩ : ∃ E, firstE s = E := ⟨_, rfl⟩
    obtain ⟨q, hq⟩ : ∃ y, firstV s = y := ⟨_, rfl⟩
    obtain ⟨s', hs'⟩ : ∃ y, takeS s = y := ⟨_, rfl⟩
    rw [hE, hq, hs'] at kt
    by_cases hE0 : E = 0
    · have hl0 := head_of (hE.trans hE0)
      rw [hq] at hl0
      have hqm : q ∈ s.l := by rw [hl0]; exact List.mem_cons_self
      have HQ := Lib.hid (hfa.2.2.1 q hqm)
      have hqz := hfa.2.2.2 q hqm
      have hbe : backE q = 0 := by
        rw [backE, if_neg]
        simp [okP]
        omega
      have hbs : backS s' q = s := by
        rw [backS, hbe, if_pos rfl, ← hs']
        show (⟨q :: s.l.tail, s.n, s.b⟩ : FF) = s
        rw [← hl0]
      have t5 : (E == 0) = true := by rw [hE0]; rfl
      have HB := Lib.hid (And.intro hbe (And.intro hbs (And.intro hq (And.intro hE hE0))))
      have HFA := Lib.hid hfa
      clear hbe hbs hq hE hl0 hqm hqz hfa hs'
      obtain rfl : E = 0 := hE0
      go_upto_region 7 with (first
        | go_skip
        | (go_at_call 19; refine (kt _ (O.out.on hP.pt hP.pt (Kept.no _) H.below)).mono ?_; rintro e w2 ⟨rfl, O2⟩; clear O H; have O := Lib.hid O2; clear O2; have H := Mem.start w2)
        | ((with_reducible show wpList _ _ _ _ _ (World.alloc _ (.cells _ _))); refine mem_newb (l := []) H ?_; intro b12 w3 hbk H2; try rw [← hbk]; clear hbk H; have H := H2; clear H2; simp only [List.cons_append, List.nil_append, List.set_cons_zero, List.set_cons_succ, List.setIfInBounds_toArray] at H)
        | ((with_reducible show wpList _ _ _ (⟨_, .store 37 _ _, _, _, _, _⟩ :: _) _ _); refine mem_store (i := 0) H (by first | exact wanted_none rfl | exact wanted_some rfl rfl rfl rfl) (by exact rfl) (by exact rfl) (by exact rfl) (by exact rfl) (by exact pkInfo) (by exact rfl) (by exact rfl) ?_; intro w2 H2; clear H; have H := H2; clear H2; simp only [List.cons_append, List.nil_append, List.set_cons_zero, List.set_cons_succ, List.setIfInBounds_toArray] at H))
      clear kt t5
      obtain ⟨T1, K1, hk1, hK1, hT1, O1⟩ := pack_more hP.pt hP.pt (Kept.no _) O.out H
      have HK := Lib.hid hk1
      have HF := Lib.hid (fun X h => (hK1 X h).2)
      clear O H hk1 hK1 hT1
      have O := Lib.hid O1
      clear O1
      have H := Mem.start w2
      have kb := fun W (h : St P P w W T1 K1 pf s' N pg s N) => backP hP hP.pt HK.out h (by omega) q HQ.out
      rw [HB.out.1, HB.out.2.1] at kb
      go_upto_region 10 with (first
        | go_skip
        | ((with_reducible show wpList _ _ _ (⟨_, .load 37 _, _, _, _, _⟩ :: _) _ _); refine load_held (HF.out _ (O.out.on hP.pt hP.pt HK.out H.below).kp) (by first | exact wanted_none rfl | exact wanted_some rfl rfl rfl rfl) (by exact rfl) (by exact rfl) Try.underlying37 rfl (by exact pkInfo) ?_)
        | (go_at_call 22; refine (kb _ (O.out.on hP.pt hP.pt HK.out H.below)).mono ?_; rintro e w2 ⟨rfl, O2⟩; clear O H; have O := Lib.hid O2; clear O2; have H := Mem.start w2))
      clear kb
      have k1 := fun W (h : St P P w W T1 K1 pf s (N + 1) pg s N) => firstP hP hP.pt HK.out h (by omega)
      rw [HB.out.2.2.1, HB.out.2.2.2.1] at k1
      go_upto_region 11 with (first
        | go_skip
        | (go_at_call 18; refine (k1 _ (O.out.on hP.pt hP.pt HK.out H.below)).mono ?_; rintro e w2 ⟨rfl, O2⟩; clear O H; have O := Lib.hid O2; clear O2; have H := Mem.start w2)
        | ((with_reducible show wpList _ _ _ _ _ (World.alloc _ (.cells _ _))); refine mem_newb (l := []) H ?_; intro b15 w3 hbk H2; try rw [← hbk]; clear hbk H; have H := H2; clear H2; simp only [List.cons_append, List.nil_append, List.set_cons_zero, List.set_cons_succ, List.setIfInBounds_toArray] at H)
        | ((with_reducible show wpList _ _ _ (⟨_, .store 37 _ _, _, _, _, _⟩ :: _) _ _); refine mem_store (i := 0) H (by first | exact wanted_none rfl | exact wanted_some rfl rfl rfl rfl) (by exact rfl) (by exact rfl) (by exact rfl) (by exact rfl) (by exact pkInfo) (by exact rfl) (by exact rfl) ?_; intro w2 H2; clear H; have H := H2; clear H2; simp only [List.cons_append, List.nil_append, List.set_cons_zero, List.set_cons_succ, List.setIfInBounds_toArray] at H))
      clear k1
      obtain ⟨L, hL⟩ : ∃ L, s.l = L := ⟨_, rfl⟩
      obtain ⟨m, hm⟩ : ∃ m, L.length = m := ⟨_, rfl⟩
      have hm5 : m ≤ 5000 := by rw [← hm, ← hL]; have := HFA.out.1; omega
      obtain ⟨S, hS⟩ : ∃ S, Fi.bytes L = S := ⟨_, rfl⟩
      have HM := Lib.hid (And.intro hm hL)
      have kaf := fun W (h : St P P w W T1 K1 pf s (N + 1) pg s N) => allP hP hP.pt HK.out h (by omega)
      unfold ToldP at kaf
      rw [hL] at kaf
      have kag := fun W A1 a1 (h : St P P w W (fun i => T1 i ∨ qb (.slice A1 m a1) i) (fun X => K1 X ∧ Que X (.slice A1 m a1) L) pf s (N + 1) pg s N) => allP hP hP.pt (HK.out.que _ _) h.symm (by omega)
      unfold ToldP at kag
      rw [hL] at kag
      have ks := fun W A1 a1 A2 a2 (h1 : Que W (.slice A1 m a1) L) (h2 : Que W (.slice A2 m a2) L) => same_r A1 A2 m a1 m a2 L L W h1 h2 HM.out.1 HM.out.1 hm5 hm5
      simp only [decide_true] at ks
      have kbf := fun W T K (hk : Kept T K) (h : St P P w W T K pf s (N + 1) pg s N) => bytesP hP hP.pt hk h (by omega)
      have kbg := fun W T K (hk : Kept T K) (h : St P P w W T K pf s (N + 1) pg s N) => bytesP hP hP.pt hk h.symm (by omega)
      rw [hL, hS] at kbf kbg
      clear hm hL hS
      go_wp2_with (first
    | go_skip
    | go_skip
    | ((with_reducible show wpList _ _ _ (⟨_, .load 37 _, _, _, _, _⟩ :: _) _ _); refine mem_load (i := 0) H (by first | exact wanted_none rfl | exact wanted_some rfl rfl rfl rfl) (by exact rfl) (by exact rfl) (by exact rfl) Try.underlying37 rfl (by exact pkInfo) ?_)
    | ((with_reducible show wpList _ _ _ (⟨_, .load 37 _, _, _, _, _⟩ :: _) _ _); refine load_held (HF.out _ (O.out.on hP.pt hP.pt HK.out H.below).kp) (by first | exact wanted_none rfl | exact wanted_some rfl rfl rfl rfl) (by exact rfl) (by exact rfl) Try.underlying37 rfl (by exact pkInfo) ?_)
    | (go_at_call 15; with_reducible show Calls _ _ #[Value.pointer (some ⟨pf, 0, none⟩)] _ _; refine (kaf _ (O.out.on hP.pt hP.pt HK.out H.below)).mono ?_; rintro e w2 ⟨va, rfl, O2⟩; obtain ⟨A1, a1, hva, _, _⟩ := O2.kp.2.shape; rw [HM.out.1] at hva; subst hva; clear O H; have O := Lib.hid O2; clear O2; have H := Mem.start w2)
    | (go_at_call 15; with_reducible show Calls _ _ #[Value.pointer (some ⟨pg, 0, none⟩)] _ _; refine (kag _ _ _ (O.out.on hP.pt hP.pt (HK.out.que _ _) H.below)).mono ?_; rintro e w2 ⟨va, rfl, O2⟩; obtain ⟨A2, a2, hva, _, _⟩ := O2.kp.2.shape; rw [HM.out.1] at hva; subst hva; clear O H; have O := Lib.hid O2.symm; clear O2; have H := Mem.start w2)
    | (go_at_call 14; refine (ks _ _ _ _ _ (O.out.on hP.pt hP.pt ((HK.out.que _ _).que _ _) H.below).kp.1.2 (O.out.on hP.pt hP.pt ((HK.out.que _ _).que _ _) H.below).kp.2).mono ?_; rintro e w5 ⟨rfl, hb⟩; have H2 := H.call hb; clear H hb; have H := H2; clear H2)
    | (go_at_call 16; with_reducible show Calls _ _ #[Value.pointer (some ⟨pf, 0, none⟩)] _ _; refine (kbf _ _ _ ((HK.out.que _ _).que _ _) (O.out.on hP.pt hP.pt ((HK.out.que _ _).que _ _) H.below)).mono ?_; rintro e w2 ⟨rfl, O2⟩; clear O H; have O := Lib.hid O2; clear O2; have H := Mem.start w2)
    | (go_at_call 16; with_reducible show Calls _ _ #[Value.pointer (some ⟨pg, 0, none⟩)] _ _; refine (kbg _ _ _ ((HK.out.que _ _).que _ _) (O.out.on hP.pt hP.pt ((HK.out.que _ _).que _ _) H.below)).mono ?_; rintro e w2 ⟨rfl, O2⟩; clear O H; have O := Lib.hid O2.symm; clear O2; have H := Mem.start w2))
      go_ret
      exact ⟨by simp, O.out.bel.trans (H.below.mono O.out.bel.size)⟩
    · have hl0 := empty_of (fun h => hE0 (hE.symm.trans h))
      have t5 : (E == 0) = false := by simpa using hE0
      have HE := Lib.hid (And.intro hE0 (And.intro hE (And.intro hq (And.intro hs' hl0))))
      clear hE0 hE hq hs' hl0 hfa
      go_upto_region 8 with (first
        | go_skip
        | (go_at_call 19; refine (kt _ (O.out.on hP.pt hP.pt (Kept.no _) H.below)).mono ?_; rintro e w2 ⟨rfl, O2⟩; clear O H; have O := Lib.hid O2; clear O2; have H := Mem.start w2)
        | ((with_reducible show wpList _ _ _ _ _ (World.alloc _ (.cells _ _))); refine mem_newb (l := []) H ?_; intro b12 w3 hbk H2; try rw [← hbk]; clear hbk H; have H := H2; clear H2; simp only [List.cons_append, List.nil_append, List.set_cons_zero, List.set_cons_succ, List.setIfInBounds_toArray] at H)
        | ((with_reducible show wpList _ _ _ (⟨_, .store 37 _ _, _, _, _, _⟩ :: _) _ _); refine mem_store (i := 0) H (by first | exact wanted_none rfl | exact wanted_some rfl rfl rfl rfl) (by exact rfl) (by exact rfl) (by exact rfl) (by exact rfl) (by exact pkInfo) (by exact rfl) (by exact rfl) ?_; intro w2 H2; clear H; have H := H2; clear H2; simp only [List.cons_append, List.nil_append, List.set_cons_zero, List.set_cons_succ, List.setIfInBounds_toArray] at H))
      clear kt t5
      have kag := fun W (h : St P P w W (fun _ => False) (fun _ => True) pf s' N pg s N) => allP hP hP.pt (Kept.no _) h.symm (by omega)
      unfold ToldP at kag
      rw [HE.out.2.2.2.2] at kag
      go_wp2_with (first
    | go_skip
    | go_skip
    | (go_at_call 15; refine (kag _ (O.out.on hP.pt hP.pt (Kept.no _) H.below)).mono ?_; rintro e w2 ⟨va, rfl, O2⟩; obtain ⟨A1, a1, hva, _, _⟩ := O2.kp.2.shape; rw [List.length_nil] at hva; subst hva; clear O H; have O := Lib.hid O2; clear O2; have H := Mem.start w2))
      go_ret
      exact ⟨by simp, O.out.bel.trans (H.below.mono O.out.bel.size)⟩
end
end Go.Proofs.Ytlnlkodpndjimaa.Fi
end
