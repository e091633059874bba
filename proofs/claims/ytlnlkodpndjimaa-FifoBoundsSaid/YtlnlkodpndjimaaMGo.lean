/-
  FifoBounds, walked. Conditions: as the interface says; the acts lie where their slice says.
-/
import Derived.Test.YtlnlkodpndjimaaMGn
/- FifoBounds, walked. Conditions: as the interface says; the acts lie where their slice says. -/
section
namespace Go.Proofs.Ytlnlkodpndjimaa.Fi
set_option linter.unusedSimpArgs false
set_option linter.unusedVariables false
set_option maxRecDepth 100000
open Go.ChangeShapes Go.WideShapes Go.ChangeAt Go.RowKit Go.Maps

theorem mem0 {w W : World} (h : Below w.heap.size w W) : Mem w W [] := ⟨h, (fun _ h => by cases h), List.Pairwise.nil⟩
abbrev ST (P : PT) (w : World) (p : Nat) (s : FF) (N : Nat) (V : World) : Prop := St P NoT w V (fun _ => False) (fun _ => True) p s N 0 ⟨[], 0, 0⟩ 0
/-- where the law's fifo lies, between two acts, within its maxima -/
def BndJ (P : PT) (w : World) (p k : Nat) (n b : Int) (V : World) : Prop := ∃ s N, N ≤ k ∧ ST P w p s N V ∧ s.n = n ∧ s.b = b ∧ (s.l.length : Int) ≤ n ∧ Fi.bytes s.l ≤ b
section
variable {P : PT} {w W : World} {p k : Nat} {n b : Int}
theorem BndJ.on (hP : PFifo P) (h : BndJ P w p k n b W) {V : World} (hb : Below W.heap.size W V) : BndJ P w p k n b V := by
  obtain ⟨s, N, h1, h2, h3⟩ := h
  exact ⟨s, N, h1, St.on hP.pt NoT.pt (Kept.no _) h2 hb, h3⟩
theorem BndJ.bel (h : BndJ P w p k n b W) : Below w.heap.size w W := by
  obtain ⟨s, N, h1, h2, h3⟩ := h
  exact St.bel h2
theorem BndJ.mono (h : BndJ P w p k n b W) {j : Nat} (hj : k ≤ j) : BndJ P w p j n b W := by
  obtain ⟨s, N, h1, h2⟩ := h
  exact ⟨s, N, by omega, h2⟩
theorem BndJ.put (hP : PFifo P) (h : BndJ P w p k n b W) (hk : k ≤ 200) (q : PV) (hq : q.Fits) : Calls Try.prog 21 #[.pointer (some ⟨p, 0, none⟩), pv q] W fun e w' => (∃ E, e = .returned (.int .i64 E)) ∧ BndJ P w p (k + 1) n b w' := by
  obtain ⟨s, N, h1, h2, rfl, rfl, h5, h6⟩ := h
  refine (putP hP NoT.pt (Kept.no _) h2 (by omega) q hq).mono ?_
  rintro e w' ⟨rfl, h7⟩
  refine ⟨⟨_, rfl⟩, putS s q, N + 1, by omega, h7, ?_⟩
  unfold putS
  split
  · rename_i hE
    unfold putE at hE
    split at hE
    · cases hE
    · split at hE
      · cases hE
      · split at hE
        · cases hE
        · refine ⟨rfl, rfl, ?_, ?_⟩
          · simp only [List.length_append, List.length_cons, List.length_nil]
            omega
          · show Fi.bytes (s.l ++ [q]) ≤ s.b
            rw [bytes_append]
            simp [Fi.bytes] at *
            omega
  · exact ⟨rfl, rfl, h5, h6⟩
theorem BndJ.take (hP : PFifo P) (h : BndJ P w p k n b W) (hk : k ≤ 200) : Calls Try.prog 19 #[.pointer (some ⟨p, 0, none⟩)] W fun e w' => (∃ v, e = .returned v) ∧ BndJ P w p k n b w' := by
  obtain ⟨s, N, h1, h2, rfl, rfl, h5, h6⟩ := h
  have hsz := (h2.facts hP).2.2.2
  refine (takeP hP NoT.pt (Kept.no _) h2 (by omega)).mono ?_
  rintro e w' ⟨rfl, h7⟩
  refine ⟨⟨_, rfl⟩, takeS s, N, h1, h7, rfl, rfl, ?_, ?_⟩
  · show (s.l.tail.length : Int) ≤ s.n
    rw [List.length_tail]
    omega
  · show Fi.bytes s.l.tail ≤ s.b
    cases hl : s.l with
    | nil => rw [hl] at h6; exact h6
    | cons y t =>
      rw [hl, bytes_cons] at h6
      have := (hsz y (by rw [hl]; exact List.mem_cons_self)).1
      show Fi.bytes t ≤ s.b
      omega
theorem BndJ.limits (hP : PFifo P) (h : BndJ P w p k n b W) (hk : k ≤ 200) (an am : Int) (E : Int) (hE : limE an am = E) : Calls Try.prog 20 #[.pointer (some ⟨p, 0, none⟩), .int .i64 an, .int .i64 am] W fun e w' => ∃ va, e = .returned (.tuple #[va, .int .i64 E]) ∧ BndJ P w p k (if E = 0 then an else n) (if E = 0 then am else b) w' := by
  obtain ⟨s, N, h1, h2, rfl, rfl, h5, h6⟩ := h
  refine (limitsP hP NoT.pt (Kept.no _) h2 (by omega) an am).mono ?_
  rintro e w' ⟨va, rfl, h7⟩
  rw [hE]
  refine ⟨va, rfl, limS s an am, N, h1, h7.none, ?_⟩
  subst hE
  unfold limE limS
  cases hok : okN an am with
  | false => simp [h5, h6]
  | true =>
    have ho : 1 ≤ an ∧ 1 ≤ am := by simp [okN] at hok; omega
    have hkp := kp_fits s.l an am (by omega) (by omega) s.l.length
    have hle := kp_le s.l an am s.l.length
    simp only [if_true]
    refine ⟨trivial, trivial, ?_, hkp.2⟩
    rw [List.length_take]
    omega
theorem BndJ.all (hP : PFifo P) (h : BndJ P w p k n b W) (hk : k ≤ 200) : Calls Try.prog 15 #[.pointer (some ⟨p, 0, none⟩)] W fun e w' => ∃ A1 a1, ∃ m : Nat, e = .returned (.slice A1 m a1) ∧ (m : Int) ≤ n ∧ BndJ P w p k n b w' := by
  obtain ⟨s, N, h1, h2, h3, h4, h5, h6⟩ := h
  refine (allP hP NoT.pt (Kept.no _) h2 (by omega)).mono ?_
  rintro e w' ⟨va, rfl, h7⟩
  obtain ⟨A1, a1, hva, _, _⟩ := h7.kp.2.shape
  exact ⟨A1, a1, s.l.length, by rw [hva], h5, s, N, h1, h7.none, h3, h4, h5, h6⟩
theorem BndJ.bytes (hP : PFifo P) (h : BndJ P w p k n b W) (hk : k ≤ 200) : Calls Try.prog 16 #[.pointer (some ⟨p, 0, none⟩)] W fun e w' => ∃ S, e = .returned (.int .i64 S) ∧ S ≤ b ∧ BndJ P w p k n b w' := by
  obtain ⟨s, N, h1, h2, h3, h4, h5, h6⟩ := h
  refine (bytesP hP NoT.pt (Kept.no _) h2 (by omega)).mono ?_
  rintro e w' ⟨rfl, h7⟩
  exact ⟨_, rfl, h6, s, N, h1, h7, h3, h4, h5, h6⟩
set_option maxHeartbeats 4000000 in
theorem bounds_w (hP : PFifo P) (n0 b0 : Int) (A : Option Addr) (len cap : Nat) (xs : Nat → AX) (hl : len ≤ cap) (hc : cap ≤ maxLen) (w : World) (hA : ActsX w A len xs) : Calls Try.prog 6 #[.int .i64 n0, .int .i64 b0, .slice A len cap] w fun e w' => e = .returned (.bool true) ∧ Below w.heap.size w w' := by
  have H := Mem.start w
  have HA := Lib.hid hA
  unfold maxLen at hc
  clear hA
  cases hok : okN n0 b0 with
  | false =>
    have kn := fun w => hP.new_no n0 b0 w hok
    clear hok
    go_enter Try.func6, Try.ntmps6
    go_wp2_with (first
    | go_skip
    | go_skip
    | (go_at_call 10; refine (shown10 hP _).mono ?_; rintro e w2 ⟨rfl, hb⟩; have H2 := H.call hb; clear H hb; have H := H2; clear H2)
    | (go_at_call 11; refine (kn _).mono ?_; rintro e w2 ⟨rfl, hb⟩; have H2 := H.call hb; clear H hb; have H := H2; clear H2))
    go_ret
    exact ⟨by simp, H.below⟩
  | true =>
    have O := Lib.hid (St.start w ⟨[], 0, 0⟩)
    have HOK := Lib.hid hok
    clear hok
    go_enter Try.func6, Try.ntmps6
    go_upto_region 2 with (first
    | go_skip
    | (go_at_call 10; refine (shown10 hP _).mono ?_; rintro e w2 ⟨rfl, hb⟩; have O2 := St.on NoT.pt NoT.pt (Kept.no _) O.out hb; clear O; have O := Lib.hid O2; clear O2; have H2 := H.call hb; clear H hb; have H := H2; clear H2))
    go_upto_region 3 with (first
    | go_skip
    | (go_at_call 11; refine (O.out.newP hP NoT.pt (Kept.no _) n0 b0 HOK.out).mono ?_; rintro e w2 ⟨p, rfl, O2⟩; clear O H; have O := Lib.hid O2; clear O2; have H := Mem.start w2))
    have J0 : BndJ P w p 0 n0 b0 w2 := ⟨_, 0, Nat.le_refl _, O.out, rfl, rfl, by have := HOK.out; simp [okN] at this; show ((0 : Nat) : Int) ≤ n0; omega, by have := HOK.out; simp [okN] at this; show (0 : Int) ≤ b0; omega⟩
    have HJ := Lib.hid J0
    clear J0 O
    go_wp2
    go_loopw [0, 1, 10] (fun nv bv iv wr => ∃ k : Nat, ∃ n b : Int, k ≤ len ∧ k ≤ 80 ∧ nv = .int .i64 n ∧ bv = .int .i64 b ∧ iv = .int .i64 k ∧ Hid (BndJ P w p k n b wr)) (fun _ _ iv _ => len - (intOf iv).toNat)
    case atStart => exact ⟨0, n0, b0, Nat.zero_le _, Nat.zero_le _, rfl, rfl, rfl, Lib.hid (HJ.out.on hP H.below)⟩
    case round =>
      clear HJ H
      obtain ⟨k, n, b, hk, hk80, rfl, rfl, rfl, HJ⟩ := hrel
      have H := Mem.start wr
      by_cases hlt : k < len ∧ k < 80
      · obtain ⟨bA, off, hA, hb, hx⟩ := HA.out.plain axC_len (by decide) (by omega)
        obtain ⟨hfit, hcells⟩ := hx k hlt.1
        have t1 : decide ((k : Int) < (len : Int)) = true := decide_eq_true (by omega)
        have t2 : decide ((k : Int) < 80) = true := decide_eq_true (by omega)
        obtain ⟨x, hxx⟩ : ∃ x, xs k = x := ⟨_, rfl⟩
        rw [hxx] at hfit hcells
        obtain ⟨d, hd⟩ : ∃ d, x.d = d := ⟨_, rfl⟩
        obtain ⟨an, han⟩ : ∃ d, x.n = d := ⟨_, rfl⟩
        obtain ⟨am, ham⟩ : ∃ d, x.m = d := ⟨_, rfl⟩
        have cd : w.cell? ⟨bA, off + k * 12, none⟩ = some (.int .i64 d) := by rw [← hd]; exact hcells 0 _ rfl
        have cn : w.cell? ⟨bA, off + k * 12 + 10, none⟩ = some (.int .i64 an) := by rw [← han]; exact hcells 10 _ rfl
        have cm : w.cell? ⟨bA, off + k * 12 + 11, none⟩ = some (.int .i64 am) := by rw [← ham]; exact hcells 11 _ rfl
        have HB := Lib.hid (fun (W : World) (h : Below w.heap.size w W) => show W.rangeAt bA (off + k * 12 + 1) (pvCs x.q) from fun j v hj => by
          have h2 := hcells (1 + j) v (by
            match j, hj with
            | 0, hj => exact hj
            | 1, hj => exact hj
            | 2, hj => exact hj
            | 3, hj => exact hj
            | 4, hj => exact hj
            | 5, hj => exact hj
            | 6, hj => exact hj
            | 7, hj => exact hj
            | 8, hj => exact hj)
          rw [← h2, ← Nat.add_assoc]
          unfold World.cell?
          rw [h.block bA hb])
        have HX := Lib.hid hfit
        have HC := Lib.hid (fun (W : World) (h : Below w.heap.size w W) => show W.cell? ⟨bA, off + k * 12, none⟩ = some (.int .i64 d) ∧ W.cell? ⟨bA, off + k * 12 + 10, none⟩ = some (.int .i64 an) ∧ W.cell? ⟨bA, off + k * 12 + 11, none⟩ = some (.int .i64 am) from by
          refine ⟨?_, ?_, ?_⟩
          · rw [← cd]; unfold World.cell?; rw [h.block bA hb]
          · rw [← cn]; unfold World.cell?; rw [h.block bA hb]
          · rw [← cm]; unfold World.cell?; rw [h.block bA hb])
        subst hA
        clear hfit hcells hxx hx hd han ham
        have cdw := (HC.out _ HJ.out.bel).1
        have HCN := Lib.hid (And.intro cn cm)
        clear cd cn cm
        go_upto_region 9 with (fail)
        clear cdw
        obtain ⟨v, hv, hv6⟩ : ∃ v : Nat, (IntKind.u64.wrap d).tmod 6 = (v : Int) ∧ v < 6 := u64_tmod d 6 (by omega)
        rw [hv]
        clear hv
        have kput := fun W h => BndJ.put (P := P) (w := w) (W := W) (p := p) (k := k) (n := n) (b := b) hP h (by omega) x.q HX.out.q
        have ktake := fun W h => BndJ.take (P := P) (w := w) (W := W) (p := p) (k := k) (n := n) (b := b) hP h (by omega)
        match v, hv6 with
        | 0, _ =>
          go_upto_region 19 with (first
            | go_skip
            | ((with_reducible show wpList _ _ _ (⟨_, .load 37 _, _, _, _, _⟩ :: _) _ _); refine wpList_load_mid rfl _ _ rfl bA (off + k * 12 + 1) rfl _ _ (HB.out _ (HJ.out.bel.trans (H.below.mono HJ.out.bel.size))) Try.underlying37 rfl pkInfo ?_)
            | (go_at_call 21; refine (kput _ (HJ.out.on hP H.below)).mono ?_; rintro e w2 ⟨⟨E, rfl⟩, J2⟩; clear HJ H; have HJ := Lib.hid J2; clear J2; have H := Mem.start w2))
          have ka := fun W h => BndJ.all (P := P) (w := w) (W := W) (p := p) (k := k + 1) (n := n) (b := b) hP h (by omega)
          have kb := fun W h => BndJ.bytes (P := P) (w := w) (W := W) (p := p) (k := k + 1) (n := n) (b := b) hP h (by omega)
          go_wp2_with (first
            | go_skip
            | (go_at_call 15; refine (ka _ (HJ.out.on hP H.below)).mono ?_; rintro e w2 ⟨A1, a1, m1, rfl, hm1, J2⟩; clear HJ H; have HJ := Lib.hid J2; clear J2; have H := Mem.start w2; have t3 : decide ((m1 : Int) > n) = false := decide_eq_false (by omega))
            | (go_at_call 16; refine (kb _ (HJ.out.on hP H.below)).mono ?_; rintro e w2 ⟨S1, rfl, hS1, J2⟩; clear HJ H; have HJ := Lib.hid J2; clear J2; have H := Mem.start w2; have t4 : decide (S1 > b) = false := decide_eq_false (by omega)))
          clear t3 t4 hm1 hS1 ka kb
          go_roundw
          case rel => exact ⟨k + 1, n, b, by omega, by omega, rfl, rfl, by go_num, Lib.hid (HJ.out.on hP H.below)⟩
          case measure => simp [intOf]; omega
        | 1, _ =>
          go_upto_region 19 with (first
            | go_skip
            | ((with_reducible show wpList _ _ _ (⟨_, .load 37 _, _, _, _, _⟩ :: _) _ _); refine wpList_load_mid rfl _ _ rfl bA (off + k * 12 + 1) rfl _ _ (HB.out _ (HJ.out.bel.trans (H.below.mono HJ.out.bel.size))) Try.underlying37 rfl pkInfo ?_)
            | (go_at_call 21; refine (kput _ (HJ.out.on hP H.below)).mono ?_; rintro e w2 ⟨⟨E, rfl⟩, J2⟩; clear HJ H; have HJ := Lib.hid J2; clear J2; have H := Mem.start w2))
          have ka := fun W h => BndJ.all (P := P) (w := w) (W := W) (p := p) (k := k + 1) (n := n) (b := b) hP h (by omega)
          have kb := fun W h => BndJ.bytes (P := P) (w := w) (W := W) (p := p) (k := k + 1) (n := n) (b := b) hP h (by omega)
          go_wp2_with (first
            | go_skip
            | (go_at_call 15; refine (ka _ (HJ.out.on hP H.below)).mono ?_; rintro e w2 ⟨A1, a1, m1, rfl, hm1, J2⟩; clear HJ H; have HJ := Lib.hid J2; clear J2; have H := Mem.start w2; have t3 : decide ((m1 : Int) > n) = false := decide_eq_false (by omega))
            | (go_at_call 16; refine (kb _ (HJ.out.on hP H.below)).mono ?_; rintro e w2 ⟨S1, rfl, hS1, J2⟩; clear HJ H; have HJ := Lib.hid J2; clear J2; have H := Mem.start w2; have t4 : decide (S1 > b) = false := decide_eq_false (by omega)))
          clear t3 t4 hm1 hS1 ka kb
          go_roundw
          case rel => exact ⟨k + 1, n, b, by omega, by omega, rfl, rfl, by go_num, Lib.hid (HJ.out.on hP H.below)⟩
          case measure => simp [intOf]; omega
        | 2, _ =>
          have HJ1 := Lib.hid (HJ.out.mono (Nat.le_succ k))
          clear HJ
          have HJ := HJ1
          clear HJ1
          go_upto_region 19 with (fail)
          have ka := fun W h => BndJ.all (P := P) (w := w) (W := W) (p := p) (k := k + 1) (n := n) (b := b) hP h (by omega)
          have kb := fun W h => BndJ.bytes (P := P) (w := w) (W := W) (p := p) (k := k + 1) (n := n) (b := b) hP h (by omega)
          go_wp2_with (first
            | go_skip
            | (go_at_call 15; refine (ka _ (HJ.out.on hP H.below)).mono ?_; rintro e w2 ⟨A1, a1, m1, rfl, hm1, J2⟩; clear HJ H; have HJ := Lib.hid J2; clear J2; have H := Mem.start w2; have t3 : decide ((m1 : Int) > n) = false := decide_eq_false (by omega))
            | (go_at_call 16; refine (kb _ (HJ.out.on hP H.below)).mono ?_; rintro e w2 ⟨S1, rfl, hS1, J2⟩; clear HJ H; have HJ := Lib.hid J2; clear J2; have H := Mem.start w2; have t4 : decide (S1 > b) = false := decide_eq_false (by omega)))
          clear t3 t4 hm1 hS1 ka kb
          go_roundw
          case rel => exact ⟨k + 1, n, b, by omega, by omega, rfl, rfl, by go_num, Lib.hid (HJ.out.on hP H.below)⟩
          case measure => simp [intOf]; omega
        | 3, _ =>
          go_upto_region 19 with (first
            | go_skip
            | (go_at_call 19; refine (ktake _ (HJ.out.on hP H.below)).mono ?_; rintro e w2 ⟨⟨vt, rfl⟩, J2⟩; clear HJ H; have HJ := Lib.hid J2; clear J2; have H := Mem.start w2))
          have HJ1 := Lib.hid (HJ.out.mono (Nat.le_succ k))
          clear HJ
          have HJ := HJ1
          clear HJ1
          have ka := fun W h => BndJ.all (P := P) (w := w) (W := W) (p := p) (k := k + 1) (n := n) (b := b) hP h (by omega)
          have kb := fun W h => BndJ.bytes (P := P) (w := w) (W := W) (p := p) (k := k + 1) (n := n) (b := b) hP h (by omega)
          go_wp2_with (first
            | go_skip
            | (go_at_call 15; refine (ka _ (HJ.out.on hP H.below)).mono ?_; rintro e w2 ⟨A1, a1, m1, rfl, hm1, J2⟩; clear HJ H; have HJ := Lib.hid J2; clear J2; have H := Mem.start w2; have t3 : decide ((m1 : Int) > n) = false := decide_eq_false (by omega))
            | (go_at_call 16; refine (kb _ (HJ.out.on hP H.below)).mono ?_; rintro e w2 ⟨S1, rfl, hS1, J2⟩; clear HJ H; have HJ := Lib.hid J2; clear J2; have H := Mem.start w2; have t4 : decide (S1 > b) = false := decide_eq_false (by omega)))
          clear t3 t4 hm1 hS1 ka kb
          go_roundw
          case rel => exact ⟨k + 1, n, b, by omega, by omega, rfl, rfl, by go_num, Lib.hid (HJ.out.on hP H.below)⟩
          case measure => simp [intOf]; omega
        | 4, _ =>
          clear kput ktake
          obtain ⟨E, hE⟩ : ∃ E, limE an am = E := ⟨_, rfl⟩
          have kl := fun W h => BndJ.limits (P := P) (w := w) (W := W) (p := p) (k := k) (n := n) (b := b) hP h (by omega) an am E hE
          have HEE := Lib.hid hE
          clear hE
          go_upto_region 15 with (fail)
          have cn := HCN.out.1
          have cm := HCN.out.2
          have H0 := mem0 (HJ.out.bel.trans (H.below.mono HJ.out.bel.size))
          have HJ1 := Lib.hid ((HJ.out.on hP H.below).on hP (Mem.start _).drew.below)
          refine (wpIn_wide (n := 6)).1 (wpIn_region_G (fun wx => Mem w wx []) 17 17 rfl (by kernel_rfl) (fun _ => ?_))
          have hS := H0.drew
          clear H HJ H0
          refine wpAnyR_take (i := 0) (v := (.pointer (some ⟨p, 0, none⟩))) rfl rfl (by kernel_rfl) (by kernel_rfl) (by kernel_rfl) (fun _ _ _ h => h) (Nat.le_refl _) ⟨by rfl, fun w _ => (by go_simp; try (first | (simp only [IntKind.wrap_u32]; done) | rfl)), fun _ => rfl⟩ hS ?_
          simp only [List.getElem_toArray, List.getElem_cons_zero, List.getElem_cons_succ, Act.put, List.setIfInBounds_toArray, List.set_cons_zero, List.set_cons_succ]
          refine wpAnyR_take (i := 1) (v := (.slice (some ⟨bA, off, none⟩) len cap)) rfl rfl (by kernel_rfl) (by kernel_rfl) (by kernel_rfl) (fun _ _ _ h => h) (Nat.le_refl _) ⟨by rfl, fun w _ => (by go_simp; try (first | (simp only [IntKind.wrap_u32]; done) | rfl)), fun _ => rfl⟩ hS ?_
          simp only [List.getElem_toArray, List.getElem_cons_zero, List.getElem_cons_succ, Act.put, List.setIfInBounds_toArray, List.set_cons_zero, List.set_cons_succ]
          refine wpAnyR_take (i := 2) (v := (.int .i64 k)) rfl rfl (by kernel_rfl) (by kernel_rfl) (by kernel_rfl) (fun _ _ _ h => h) (Nat.le_refl _) ⟨by rfl, fun w _ => (by go_simp; try (first | (simp only [IntKind.wrap_u32]; done) | rfl)), fun _ => rfl⟩ hS ?_
          simp only [List.getElem_toArray, List.getElem_cons_zero, List.getElem_cons_succ, Act.put, List.setIfInBounds_toArray, List.set_cons_zero, List.set_cons_succ]
          refine wpAnyR_take (i := 3) (v := (.pointer (some ⟨bA, off + k * 12, none⟩))) rfl rfl (by kernel_rfl) (by kernel_rfl) (by kernel_rfl) (fun _ _ _ h => h) (Nat.le_refl _) ⟨by rfl, fun w _ => (by go_simp; try (first | (simp only [IntKind.wrap_u32]; done) | rfl)), fun _ => rfl⟩ hS ?_
          simp only [List.getElem_toArray, List.getElem_cons_zero, List.getElem_cons_succ, Act.put, List.setIfInBounds_toArray, List.set_cons_zero, List.set_cons_succ]
          refine wpAnyR_take (i := 4) (v := (.pointer (some ⟨bA, off + k * 12 + 10, none⟩))) rfl rfl (by kernel_rfl) (by kernel_rfl) (by kernel_rfl) (fun _ _ _ h => h) (Nat.le_refl _) ⟨by rfl, fun w _ => (by go_simp; try (first | (simp only [IntKind.wrap_u32]; done) | rfl)), fun _ => rfl⟩ hS ?_
          simp only [List.getElem_toArray, List.getElem_cons_zero, List.getElem_cons_succ, Act.put, List.setIfInBounds_toArray, List.set_cons_zero, List.set_cons_succ]
          refine wpAnyR_take (i := 5) (v := (.int .i64 an)) rfl rfl (by kernel_rfl) (by kernel_rfl) (by kernel_rfl) (fun _ _ _ h => h) (Nat.le_refl _) (yields_old cn hb (by exact rfl) (by exact rfl) (by exact rfl) (by first | exact Try.underlying32 | exact Try.underlying3 | exact Try.underlying41) rfl) hS ?_
          simp only [List.getElem_toArray, List.getElem_cons_zero, List.getElem_cons_succ, Act.put, List.setIfInBounds_toArray, List.set_cons_zero, List.set_cons_succ]
          refine wpAnyR_take (i := 6) (v := (.slice (some ⟨bA, off, none⟩) len cap)) rfl rfl (by kernel_rfl) (by kernel_rfl) (by kernel_rfl) (fun _ _ _ h => h) (Nat.le_refl _) ⟨by rfl, fun w _ => (by go_simp; try (first | (simp only [IntKind.wrap_u32]; done) | rfl)), fun _ => rfl⟩ hS ?_
          simp only [List.getElem_toArray, List.getElem_cons_zero, List.getElem_cons_succ, Act.put, List.setIfInBounds_toArray, List.set_cons_zero, List.set_cons_succ]
          refine wpAnyR_take (i := 7) (v := (.int .i64 k)) rfl rfl (by kernel_rfl) (by kernel_rfl) (by kernel_rfl) (fun _ _ _ h => h) (Nat.le_refl _) ⟨by rfl, fun w _ => (by go_simp; try (first | (simp only [IntKind.wrap_u32]; done) | rfl)), fun _ => rfl⟩ hS ?_
          simp only [List.getElem_toArray, List.getElem_cons_zero, List.getElem_cons_succ, Act.put, List.setIfInBounds_toArray, List.set_cons_zero, List.set_cons_succ]
          refine wpAnyR_take (i := 8) (v := (.pointer (some ⟨bA, off + k * 12, none⟩))) rfl rfl (by kernel_rfl) (by kernel_rfl) (by kernel_rfl) (fun _ _ _ h => h) (Nat.le_refl _) ⟨by rfl, fun w _ => (by go_simp; try (first | (simp only [IntKind.wrap_u32]; done) | rfl)), fun _ => rfl⟩ hS ?_
          simp only [List.getElem_toArray, List.getElem_cons_zero, List.getElem_cons_succ, Act.put, List.setIfInBounds_toArray, List.set_cons_zero, List.set_cons_succ]
          refine wpAnyR_take (i := 9) (v := (.pointer (some ⟨bA, off + k * 12 + 11, none⟩))) rfl rfl (by kernel_rfl) (by kernel_rfl) (by kernel_rfl) (fun _ _ _ h => h) (Nat.le_refl _) ⟨by rfl, fun w _ => (by go_simp; try (first | (simp only [IntKind.wrap_u32]; done) | rfl)), fun _ => rfl⟩ hS ?_
          simp only [List.getElem_toArray, List.getElem_cons_zero, List.getElem_cons_succ, Act.put, List.setIfInBounds_toArray, List.set_cons_zero, List.set_cons_succ]
          refine wpAnyR_take (i := 10) (v := (.int .i64 am)) rfl rfl (by kernel_rfl) (by kernel_rfl) (by kernel_rfl) (fun _ _ _ h => h) (Nat.le_refl _) (yields_old cm hb (by exact rfl) (by exact rfl) (by exact rfl) (by first | exact Try.underlying32 | exact Try.underlying3 | exact Try.underlying41) rfl) hS ?_
          simp only [List.getElem_toArray, List.getElem_cons_zero, List.getElem_cons_succ, Act.put, List.setIfInBounds_toArray, List.set_cons_zero, List.set_cons_succ]
          refine wpAnyG_one (i := 11) (by kernel_rfl) rfl (fun K hK => ?_)
          go_simp
          refine ⟨trivial, (callsIn_wide.2 (kl _ HJ1.out)).mono ?_⟩
          rintro e w5 ⟨va, rfl, J2⟩
          refine hK _ _ (.inr (mem0 J2.bel)) ?_
          clear hK K hS HJ1
          have hS := mem0 J2.bel
          have HJ := Lib.hid J2
          clear J2
          try simp only [List.getElem_toArray, List.getElem_cons_zero, List.getElem_cons_succ, Act.put, List.setIfInBounds_toArray, List.set_cons_zero, List.set_cons_succ]
          refine wpAnyR_take (i := 12) (v := (.tuple #[va, .int .i64 E])) rfl rfl (by kernel_rfl) (by kernel_rfl) (by kernel_rfl) (fun _ _ _ h => h) (Nat.le_refl _) ⟨by rfl, fun w _ => (by go_simp; try (first | rfl | simp)), fun _ => rfl⟩ hS ?_
          simp only [List.getElem_toArray, List.getElem_cons_zero, List.getElem_cons_succ, Act.put, List.setIfInBounds_toArray, List.set_cons_zero, List.set_cons_succ]
          refine wpAnyR_take (i := 13) (v := va) rfl rfl (by kernel_rfl) (by kernel_rfl) (by kernel_rfl) (fun _ _ _ h => h) (Nat.le_refl _) ⟨by rfl, fun w _ => (by go_simp; try (first | rfl | simp)), fun _ => rfl⟩ hS ?_
          simp only [List.getElem_toArray, List.getElem_cons_zero, List.getElem_cons_succ, Act.put, List.setIfInBounds_toArray, List.set_cons_zero, List.set_cons_succ]
          refine wpAnyR_take (i := 14) (v := (.int .i64 E)) rfl rfl (by kernel_rfl) (by kernel_rfl) (by kernel_rfl) (fun _ _ _ h => h) (Nat.le_refl _) ⟨by rfl, fun w _ => (by go_simp; try (first | rfl | simp)), fun _ => rfl⟩ hS ?_
          simp only [List.getElem_toArray, List.getElem_cons_zero, List.getElem_cons_succ, Act.put, List.setIfInBounds_toArray, List.set_cons_zero, List.set_cons_succ]
          refine wpAnyG_one (i := 15) (by kernel_rfl) rfl (fun K hK => ?_)
          go_simp
          refine hK _ _ (.inr hS) ?_
          clear hK K
          refine wpAnyG_one (i := 16) (by kernel_rfl) rfl (fun K hK => ?_)
          go_simp
          refine hK _ _ (.inr hS) ?_
          clear hK K
          refine wpAnyG_done (by kernel_rfl) ?_ _
          clear hS
          clear cn cm kl
          by_cases hE0 : E = 0
          · have t5 : (E == 0) = true := by rw [hE0]; rfl
            rw [if_pos hE0, if_pos hE0] at HJ
            have hE1 := Lib.hid hE0
            clear hE0
            have cnw := (HC.out _ HJ.out.bel).2.1
            have cmw := (HC.out _ HJ.out.bel).2.2
            have H := Mem.start w5
            go_upto_region 19 with (fail)
            clear cnw cmw t5
            have HJ1 := Lib.hid (HJ.out.mono (Nat.le_succ k))
            clear HJ
            have HJ := HJ1
            clear HJ1
            have ka := fun W h => BndJ.all (P := P) (w := w) (W := W) (p := p) (k := k + 1) (n := an) (b := am) hP h (by omega)
            have kb := fun W h => BndJ.bytes (P := P) (w := w) (W := W) (p := p) (k := k + 1) (n := an) (b := am) hP h (by omega)
            go_wp2_with (first
              | go_skip
              | (go_at_call 15; refine (ka _ (HJ.out.on hP H.below)).mono ?_; rintro e w2 ⟨A1, a1, m1, rfl, hm1, J2⟩; clear HJ H; have HJ := Lib.hid J2; clear J2; have H := Mem.start w2; have t3 : decide ((m1 : Int) > an) = false := decide_eq_false (by omega))
              | (go_at_call 16; refine (kb _ (HJ.out.on hP H.below)).mono ?_; rintro e w2 ⟨S1, rfl, hS1, J2⟩; clear HJ H; have HJ := Lib.hid J2; clear J2; have H := Mem.start w2; have t4 : decide (S1 > am) = false := decide_eq_false (by omega)))
            clear t3 t4 hm1 hS1 ka kb
            go_roundw
            case rel => exact ⟨k + 1, an, am, by omega, by omega, rfl, rfl, by go_num, Lib.hid (HJ.out.on hP H.below)⟩
            case measure => simp [intOf]; omega
          · have t5 : (E == 0) = false := by simpa using hE0
            rw [if_neg hE0, if_neg hE0] at HJ
            have hE1 := Lib.hid hE0
            clear hE0
            have H := Mem.start w5
            go_upto_region 19 with (fail)
            clear t5
            have HJ1 := Lib.hid (HJ.out.mono (Nat.le_succ k))
            clear HJ
            have HJ := HJ1
            clear HJ1
            have ka := fun W h => BndJ.all (P := P) (w := w) (W := W) (p := p) (k := k + 1) (n := n) (b := b) hP h (by omega)
            have kb := fun W h => BndJ.bytes (P := P) (w := w) (W := W) (p := p) (k := k + 1) (n := n) (b := b) hP h (by omega)
            go_wp2_with (first
              | go_skip
              | (go_at_call 15; refine (ka _ (HJ.out.on hP H.below)).mono ?_; rintro e w2 ⟨A1, a1, m1, rfl, hm1, J2⟩; clear HJ H; have HJ := Lib.hid J2; clear J2; have H := Mem.start w2; have t3 : decide ((m1 : Int) > n) = false := decide_eq_false (by omega))
              | (go_at_call 16; refine (kb _ (HJ.out.on hP H.below)).mono ?_; rintro e w2 ⟨S1, rfl, hS1, J2⟩; clear HJ H; have HJ := Lib.hid J2; clear J2; have H := Mem.start w2; have t4 : decide (S1 > b) = false := decide_eq_false (by omega)))
            clear t3 t4 hm1 hS1 ka kb
            go_roundw
            case rel => exact ⟨k + 1, n, b, by omega, by omega, rfl, rfl, by go_num, Lib.hid (HJ.out.on hP H.below)⟩
            case measure => simp [intOf]; omega
        | 5, _ =>
          have HJ1 := Lib.hid (HJ.out.mono (Nat.le_succ k))
          clear HJ
          have HJ := HJ1
          clear HJ1
          go_upto_region 19 with (fail)
          have ka := fun W h => BndJ.all (P := P) (w := w) (W := W) (p := p) (k := k + 1) (n := n) (b := b) hP h (by omega)
          have kb := fun W h => BndJ.bytes (P := P) (w := w) (W := W) (p := p) (k := k + 1) (n := n) (b := b) hP h (by omega)
          go_wp2_with (first
            | go_skip
            | (go_at_call 15; refine (ka _ (HJ.out.on hP H.below)).mono ?_; rintro e w2 ⟨A1, a1, m1, rfl, hm1, J2⟩; clear HJ H; have HJ := Lib.hid J2; clear J2; have H := Mem.start w2; have t3 : decide ((m1 : Int) > n) = false := decide_eq_false (by omega))
            | (go_at_call 16; refine (kb _ (HJ.out.on hP H.below)).mono ?_; rintro e w2 ⟨S1, rfl, hS1, J2⟩; clear HJ H; have HJ := Lib.hid J2; clear J2; have H := Mem.start w2; have t4 : decide (S1 > b) = false := decide_eq_false (by omega)))
          clear t3 t4 hm1 hS1 ka kb
          go_roundw
          case rel => exact ⟨k + 1, n, b, by omega, by omega, rfl, rfl, by go_num, Lib.hid (HJ.out.on hP H.below)⟩
          case measure => simp [intOf]; omega
      · by_cases hl2 : k < len
        · have t1 : decide ((k : Int) < (len : Int)) = true := decide_eq_true (by omega)
          have t2 : decide ((k : Int) < 80) = false := decide_eq_false (by omega)
          go_wp2
          go_ret
          exact ⟨rfl, HJ.out.bel⟩
        · have t1 : decide ((k : Int) < (len : Int)) = false := decide_eq_false (by omega)
          go_wp2
          go_ret
          exact ⟨rfl, HJ.out.bel⟩
end
end Go.Proofs.Ytlnlkodpndjimaa.Fi
end
