/-
  TallySums, walked. Conditions: as the interface says; the acts lie where their slice says.
-/
import Derived.Test.YtdhjdkhhhdcjdaaMGj
import Derived.Test.YtdhjdkhhhdcjdaaMGa
/- TallySums, walked. Conditions: as the interface says; the acts lie where their slice says. -/
section
namespace Go.Proofs.Ytdhjdkhhhdcjdaa.Ta
set_option linter.unusedSimpArgs false
set_option linter.unusedVariables false
set_option maxRecDepth 100000
open Go.Joins Go.Deep Go.ChangeShapes Go.WideShapes Go.ChangeAt Go.RowKit

theorem mem_of {W0 W : World} (h : Below W0.heap.size W0 W) : Mem W0 W [] := ⟨h, (fun _ h => by cases h), .nil⟩
abbrev X4 (a b c d : C6) (s0 s1 s2 s3 : Int) : TS := ⟨[a, b, c, d], [s0, s1, s2, s3], none⟩
def tot (a b c d : C6) : Int := w64 (w64 (w64 (w64 (0 + a.c3) + b.c3) + c.c3) + d.c3)
/-- four queues without an open change, so many delivered -/
def Even4 (X : TS) (t : Int) : Prop := ∃ a b c d s0 s1 s2 s3, X = X4 a b c d s0 s1 s2 s3 ∧ s0 % 2 = 0 ∧ s1 % 2 = 0 ∧ s2 % 2 = 0 ∧ s3 % 2 = 0 ∧ tot a b c d = t
theorem add_c3 (c d : C6) : (c.add d).c3 = w64 (c.c3 + d.c3) := rfl
theorem e4_zero : Even4 (zeroT 4) 0 := ⟨zero6, zero6, zero6, zero6, 0, 0, 0, 0, rfl, rfl, rfl, rfl, rfl, by decide⟩
theorem e4_no {X : TS} {t q : Int} (h : Even4 X t) (hq : hasQ X q = false) (e : C6) : openE X q = 2 ∧ noteS X q e = X := by
  have h1 : openE X q = 2 := by rw [openE, if_pos hq]
  exact ⟨h1, by rw [noteS, h1]; rfl⟩
theorem e4_yes {X : TS} {t q : Int} (h : Even4 X t) (hq : hasQ X q = true) (e : C6) : openE X q = 0 ∧ Even4 (noteS X q e) (w64 (t + e.c3)) := by
  obtain ⟨a, b, c, d, s0, s1, s2, s3, rfl, h0, h1, h2, h3, rfl⟩ := h
  obtain ⟨k, rfl, hk⟩ := has_at hq
  simp at hk
  have key : ∀ j : Nat, j < 4 → sq (X4 a b c d s0 s1 s2 s3) (j : Int) % 2 = 0 := fun j hj => by
    match j, hj with
    | 0, _ => exact h0
    | 1, _ => exact h1
    | 2, _ => exact h2
    | 3, _ => exact h3
  have e0 : openE (X4 a b c d s0 s1 s2 s3) (k : Int) = 0 := by
    rw [openE, hq, if_neg (by decide), if_neg (by rw [key k hk]; decide)]
  refine ⟨e0, ?_⟩
  rw [noteS, if_pos e0]
  match k, hk with
  | 0, _ => exact ⟨a.add e, b, c, d, s0 + 2, s1, s2, s3, rfl, by omega, h1, h2, h3, by simp only [tot, add_c3, w64_mod]; omega⟩
  | 1, _ => exact ⟨a, b.add e, c, d, s0, s1 + 2, s2, s3, rfl, h0, by omega, h2, h3, by simp only [tot, add_c3, w64_mod]; omega⟩
  | 2, _ => exact ⟨a, b, c.add e, d, s0, s1, s2 + 2, s3, rfl, h0, h1, by omega, h3, by simp only [tot, add_c3, w64_mod]; omega⟩
  | 3, _ => exact ⟨a, b, c, d.add e, s0, s1, s2, s3 + 2, rfl, h0, h1, h2, by omega, by simp only [tot, add_c3, w64_mod]; omega⟩
theorem e4_sum {X : TS} {t : Int} (h : Even4 X t) : sumE X = 0 ∧ (sumV X).c3 = t := by
  obtain ⟨a, b, c, d, s0, s1, s2, s3, rfl, h0, h1, h2, h3, rfl⟩ := h
  have e : anyOdd (X4 a b c d s0 s1 s2 s3) = false := by simp [anyOdd]; omega
  exact ⟨by rw [sumE, e]; rfl, by rw [sumV, e]; rfl⟩
def part (X : TS) : Nat → Int
  | 0 => 0
  | j + 1 => w64 (part X j + (kq X (j : Int)).c3)
theorem e4_read {X : TS} {t : Int} (h : Even4 X t) {j : Nat} (hj : j < 4) : openE X (j : Int) = 0 ∧ readV X (j : Int) = kq X (j : Int) := by
  obtain ⟨a, b, c, d, s0, s1, s2, s3, rfl, h0, h1, h2, h3, rfl⟩ := h
  have key : sq (X4 a b c d s0 s1 s2 s3) (j : Int) % 2 = 0 := by
    match j, hj with
    | 0, _ => exact h0
    | 1, _ => exact h1
    | 2, _ => exact h2
    | 3, _ => exact h3
  have hq : hasQ (X4 a b c d s0 s1 s2 s3) (j : Int) = true := by simp [hasQ]; omega
  have e : openE (X4 a b c d s0 s1 s2 s3) (j : Int) = 0 := by rw [openE, hq, if_neg (by decide), if_neg (by rw [key]; decide)]
  exact ⟨e, by rw [readV, if_pos e]⟩
theorem e4_part {X : TS} {t : Int} (h : Even4 X t) : part X 4 = t := by
  obtain ⟨a, b, c, d, s0, s1, s2, s3, rfl, h0, h1, h2, h3, rfl⟩ := h
  rfl
section
variable {P : PT}
set_option maxHeartbeats 4000000 in
theorem sums_w (hP : PTally P) (A : Option Addr) (len cap : Nat) (xs : Nat → AX) (hl : len ≤ cap) (hc : cap ≤ maxLen) (w : World) (hA : ActsX w A len xs) : Calls Try.prog 6 #[.slice A len cap] w fun e w' => e = .returned (.bool true) ∧ Below w.heap.size w w' := by
  have HA := Lib.hid hA
  unfold maxLen at hc
  clear hA
  have H := Mem.start w
  have hk := kept0
  have O := Lib.hid (show St NoT NoT w w T0 K0 0 z0 0 0 z0 0 from St.start w z0)
  have HF := Lib.hid (fun (X : World) (_ : K0 X) => True.intro)
  go_enter Try.func6, Try.ntmps6
  go_upto_region 2 with (first
    | (go_at_call 10; refine (shown12 hP _).mono ?_; rintro e w2 ⟨rfl, hb⟩; have O2 := St.on NoT.pt NoT.pt hk O.out hb; clear O H hb; have O := Lib.hid O2; clear O2; have H := Mem.start w2))
  go_upto_region 5 with (first
    | go_skip
    | (go_at_call 11; refine (O.out.newL hP NoT.pt hk 4 (by decide)).mono ?_; rintro e w2 ⟨p, rfl, O2⟩; clear O H; have O := Lib.hid (show SN P w w2 T0 K0 p (zeroT 4) 0 from O2); clear O2; have H := Mem.start w2))
  clear H
  have HO := Lib.hid O.out
  clear O
  go_wp2
  go_loopw [6, 7] (fun tv iv wr => ∃ (k N : Nat) (t : Int) (X : TS), k ≤ len ∧ k ≤ 80 ∧ N ≤ 2 * k ∧ tv = .int .u64 t ∧ iv = .int .i64 k ∧ Hid (Even4 X t) ∧ Hid (SN P w wr T0 K0 p X N)) (fun _ iv _ => len - (intOf iv).toNat)
  case atStart => exact ⟨0, 0, 0, zeroT 4, Nat.zero_le _, Nat.zero_le _, Nat.le_refl _, rfl, rfl, Lib.hid e4_zero, Lib.hid HO.out⟩
  case round =>
    clear HO
    obtain ⟨k, N, t, X, hk1, hk80, hN, rfl, rfl, HE, O⟩ := hrel
    have H := True.intro
    by_cases hlt : k < len ∧ k < 80
    · obtain ⟨bA, off, hA, hb, hx⟩ := HA.out.plain axC_len (by decide) (by omega)
      obtain ⟨hfit, hcells⟩ := hx k hlt.1
      have t1 : decide ((k : Int) < (len : Int)) = true := decide_eq_true (by omega)
      have t2 : decide ((k : Int) < 80) = true := decide_eq_true (by omega)
      have HQ := Lib.hid (fun (W : World) (h : Below w.heap.size w W) => show W.cell? ⟨bA, off + k * 10 + 1, none⟩ = some (.int .i64 (xs k).q) from by
        have h2 := hcells 1 _ rfl
        rw [← h2]
        unfold World.cell?
        rw [h.block bA hb])
      have HB := Lib.hid (fun (W : World) (h : Below w.heap.size w W) => show W.rangeAt bA (off + k * 10 + 4) (cvCs (xs k).c) from fun i v hv => by
        have h2 := hcells (4 + i) v (by
          have hi := (List.getElem?_eq_some_iff.1 hv).1
          simp at hi
          match i, hi with
          | 0, _ => exact hv
          | 1, _ => exact hv
          | 2, _ => exact hv
          | 3, _ => exact hv
          | 4, _ => exact hv
          | 5, _ => exact hv)
        rw [← h2, Nat.add_assoc]
        unfold World.cell?
        rw [h.block bA hb])
      obtain ⟨x, hxx⟩ : ∃ x, xs k = x := ⟨_, rfl⟩
      rw [hxx] at HB HQ hfit
      have HX := Lib.hid hfit
      subst hA
      have hbe : bA < w.heap.size := hb
      clear hfit hcells hxx hx
      go_upto_region 8 with (first
    | go_skip
    | ((with_reducible show wpList _ _ _ (⟨_, .load 42 _, _, _, _, _⟩ :: _) _ _); refine wpList_load_mid rfl _ _ rfl bA (off + k * 10 + 4) rfl _ _ (HB.out _ O.out.bel) Try.underlying42 rfl cInfo ?_)
    | (go_at_call 23; refine (small_w _ _).mono ?_; rintro e w2 ⟨rfl, hb2⟩; have O2 := St.on hP.pt NoT.pt hk O.out hb2; clear O H hb2; have O := Lib.hid O2; clear O2; have H := Mem.start w2)
    | ((with_reducible show wpList _ _ _ _ _ (World.alloc _ (.cells _ _))); refine mem_newb (l := []) H ?_; intro bs w3 hbk H2; try rw [← hbk]; clear hbk H; have H := H2; clear H2; simp only [List.cons_append, List.nil_append, List.set_cons_zero, List.set_cons_succ, List.setIfInBounds_toArray] at H)
    | ((with_reducible show wpList _ _ _ (⟨_, .store 42 _ _, _, _, _, _⟩ :: _) _ _); refine mem_store (i := 0) H (by first | exact wanted_none rfl | exact wanted_some rfl rfl rfl rfl) (by exact rfl) (by exact rfl) (by exact rfl) (by exact rfl) (by exact cInfo) (by exact rfl) (by exact rfl) ?_; intro w2 H2; clear H; have H := H2; clear H2; simp only [List.cons_append, List.nil_append, List.set_cons_zero, List.set_cons_succ, List.setIfInBounds_toArray] at H))
      obtain ⟨T1, K1, hk1, hK1, hT1, O1⟩ := pack_more hP.pt NoT.pt hk O.out H
      have F1 := Lib.hid (fun (X : World) (h : K1 X) => And.intro (hK1 X h).2 (HF.out X (hK1 X h).1))
      clear H O hk HF hK1 hT1
      have hk := hk1
      have O := Lib.hid O1
      have HF := F1
      clear hk1 O1 F1
      have H := True.intro
      have kN := fun W (h : SN P w W T1 K1 p X N) => noteL hP NoT.pt hk h (by omega) x.q (sm x.c) HX.out.q (sm_fits HX.out.c)
      have i0 : ¬ ((k : Int) < 0) := by omega
      have i1 : k < len := hlt.1
      clear H
      cases hq : hasQ X x.q with
      | false =>
        have he := e4_no HE.out hq (sm x.c)
        rw [he.1, he.2] at kN
        clear he hq
        have O5 := St.on hP.pt NoT.pt hk O.out (Mem.start _).drew.below
        refine (wpIn_wide (n := 6)).1 (wpIn_region_G (fun wx => ∃ sp N1, SN P w wx T1 K1 p sp N1) 9 9 rfl (by kernel_rfl) (fun _ => ?_))
        have hS : ∃ sp N1, SN P w _ T1 K1 p sp N1 := ⟨X, N, O5⟩
        have hhx : ∀ wx, (∃ sp N1, SN P w wx T1 K1 p sp N1) → Held wx bs 42 (row6 (sm x.c)) := fun wx ⟨sp, N1, h⟩ => (HF.out _ h.kp).1
        have hq1 : ∀ wx, (∃ sp N1, SN P w wx T1 K1 p sp N1) → wx.cell? ⟨bA, off + k * 10 + 1, none⟩ = some (.int .i64 x.q) := fun wx ⟨sp, N1, h⟩ => HQ.out wx h.bel
        clear O
        refine wpAnyR_take (i := 0) (v := .pointer (some ⟨p, 0, none⟩)) rfl rfl (by kernel_rfl) (by kernel_rfl) (by kernel_rfl) (fun _ _ _ h => h) (Nat.le_refl _) ⟨by rfl, fun w _ => (by go_simp; try (first | rfl | simp)), fun _ => rfl⟩ hS ?_
        simp only [List.getElem_toArray, List.getElem_cons_zero, List.getElem_cons_succ, Act.put, List.setIfInBounds_toArray, List.set_cons_zero, List.set_cons_succ]
        refine wpAnyR_take (i := 1) (v := .slice (some ⟨bA, off, none⟩) len cap) rfl rfl (by kernel_rfl) (by kernel_rfl) (by kernel_rfl) (fun _ _ _ h => h) (Nat.le_refl _) ⟨by rfl, fun w _ => (by go_simp; try (first | rfl | simp)), fun _ => rfl⟩ hS ?_
        simp only [List.getElem_toArray, List.getElem_cons_zero, List.getElem_cons_succ, Act.put, List.setIfInBounds_toArray, List.set_cons_zero, List.set_cons_succ]
        refine wpAnyR_take (i := 2) (v := .int .i64 k) rfl rfl (by kernel_rfl) (by kernel_rfl) (by kernel_rfl) (fun _ _ _ h => h) (Nat.le_refl _) ⟨by rfl, fun w _ => (by go_simp; try (first | rfl | simp)), fun _ => rfl⟩ hS ?_
        simp only [List.getElem_toArray, List.getElem_cons_zero, List.getElem_cons_succ, Act.put, List.setIfInBounds_toArray, List.set_cons_zero, List.set_cons_succ]
        refine wpAnyR_take (i := 3) (v := .pointer (some ⟨bA, off + k * 10, none⟩)) rfl rfl (by kernel_rfl) (by kernel_rfl) (by kernel_rfl) (fun _ _ _ h => h) (Nat.le_refl _) ⟨by rfl, fun w _ => (by go_simp; try (first | rfl | (simp; done) | (simp; omega))), fun _ => rfl⟩ hS ?_
        simp only [List.getElem_toArray, List.getElem_cons_zero, List.getElem_cons_succ, Act.put, List.setIfInBounds_toArray, List.set_cons_zero, List.set_cons_succ]
        refine wpAnyR_take (i := 4) (v := .pointer (some ⟨bA, off + k * 10 + 1, none⟩)) rfl rfl (by kernel_rfl) (by kernel_rfl) (by kernel_rfl) (fun _ _ _ h => h) (Nat.le_refl _) ⟨by rfl, fun w _ => (by go_simp; try (first | rfl | simp)), fun _ => rfl⟩ hS ?_
        simp only [List.getElem_toArray, List.getElem_cons_zero, List.getElem_cons_succ, Act.put, List.setIfInBounds_toArray, List.set_cons_zero, List.set_cons_succ]
        refine wpAnyR_take (i := 5) (v := .int .i64 x.q) rfl rfl (by kernel_rfl) (by kernel_rfl) (by kernel_rfl) (fun _ _ _ h => h) (Nat.le_refl _) (yields_cellR (b := bA) (j := off + k * 10 + 1) hq1 (by first | exact wanted_none rfl | exact wanted_some rfl rfl rfl rfl) (by exact rfl) (by exact rfl) Try.underlying3 rfl) hS ?_
        simp only [List.getElem_toArray, List.getElem_cons_zero, List.getElem_cons_succ, Act.put, List.setIfInBounds_toArray, List.set_cons_zero, List.set_cons_succ]
        refine wpAnyR_take (i := 6) (v := cv (sm x.c)) rfl rfl (by kernel_rfl) (by kernel_rfl) (by kernel_rfl) (fun _ _ _ h => h) (Nat.le_refl _) (yields_held hhx (by first | exact wanted_none rfl | exact wanted_some rfl rfl rfl rfl) (by exact rfl) (by exact rfl) Try.underlying42 rfl cInfo) hS ?_
        simp only [List.getElem_toArray, List.getElem_cons_zero, List.getElem_cons_succ, Act.put, List.setIfInBounds_toArray, List.set_cons_zero, List.set_cons_succ]
        refine wpAnyG_one (i := 7) (by kernel_rfl) rfl (fun K hK => ?_)
        go_simp
        refine ⟨trivial, (callsIn_wide.2 (kN _ O5)).mono ?_⟩
        rintro e w5 ⟨rfl, O6⟩
        refine hK _ _ (.inr ⟨_, _, O6⟩) ?_
        clear hK K hS O5
        have O5 := O6
        clear O6
        have hS : ∃ sp N1, SN P w _ T1 K1 p sp N1 := ⟨_, _, O5⟩
        try simp only [List.getElem_toArray, List.getElem_cons_zero, List.getElem_cons_succ, Act.put, List.setIfInBounds_toArray, List.set_cons_zero, List.set_cons_succ]
        refine wpAnyR_take (i := 8) (v := .bool false) rfl rfl (by kernel_rfl) (by kernel_rfl) (by kernel_rfl) (fun _ _ _ h => h) (Nat.le_refl _) ⟨by rfl, fun w _ => (by go_simp; try (first | rfl | simp)), fun _ => rfl⟩ hS ?_
        simp only [List.getElem_toArray, List.getElem_cons_zero, List.getElem_cons_succ, Act.put, List.setIfInBounds_toArray, List.set_cons_zero, List.set_cons_succ]
        refine wpAnyG_done (by kernel_rfl) ?_ _
        clear hS hhx hq1
        have O := Lib.hid O5
        clear O5
        go_wp2
        have O2 := O.out.less (T' := T0) (K' := K0) (fun i hi => hi.elim) (fun _ => trivial)
        clear O kN
        have O := Lib.hid O2
        clear O2
        go_roundw
        case rel => exact ⟨k + 1, N + 2, t, X, by omega, by omega, by omega, rfl, by go_num, HE, O⟩
        case measure => simp [intOf]; omega
      | true =>
        have he := e4_yes HE.out hq (sm x.c)
        have HE2 := Lib.hid he.2
        rw [he.1] at kN
        clear he hq
        generalize noteS X x.q (sm x.c) = X' at kN HE2
        have O5 := St.on hP.pt NoT.pt hk O.out (Mem.start _).drew.below
        refine (wpIn_wide (n := 6)).1 (wpIn_region_G (fun wx => ∃ sp N1, SN P w wx T1 K1 p sp N1) 9 9 rfl (by kernel_rfl) (fun _ => ?_))
        have hS : ∃ sp N1, SN P w _ T1 K1 p sp N1 := ⟨X, N, O5⟩
        have hhx : ∀ wx, (∃ sp N1, SN P w wx T1 K1 p sp N1) → Held wx bs 42 (row6 (sm x.c)) := fun wx ⟨sp, N1, h⟩ => (HF.out _ h.kp).1
        have hq1 : ∀ wx, (∃ sp N1, SN P w wx T1 K1 p sp N1) → wx.cell? ⟨bA, off + k * 10 + 1, none⟩ = some (.int .i64 x.q) := fun wx ⟨sp, N1, h⟩ => HQ.out wx h.bel
        clear O
        refine wpAnyR_take (i := 0) (v := .pointer (some ⟨p, 0, none⟩)) rfl rfl (by kernel_rfl) (by kernel_rfl) (by kernel_rfl) (fun _ _ _ h => h) (Nat.le_refl _) ⟨by rfl, fun w _ => (by go_simp; try (first | rfl | simp)), fun _ => rfl⟩ hS ?_
        simp only [List.getElem_toArray, List.getElem_cons_zero, List.getElem_cons_succ, Act.put, List.setIfInBounds_toArray, List.set_cons_zero, List.set_cons_succ]
        refine wpAnyR_take (i := 1) (v := .slice (some ⟨bA, off, none⟩) len cap) rfl rfl (by kernel_rfl) (by kernel_rfl) (by kernel_rfl) (fun _ _ _ h => h) (Nat.le_refl _) ⟨by rfl, fun w _ => (by go_simp; try (first | rfl | simp)), fun _ => rfl⟩ hS ?_
        simp only [List.getElem_toArray, List.getElem_cons_zero, List.getElem_cons_succ, Act.put, List.setIfInBounds_toArray, List.set_cons_zero, List.set_cons_succ]
        refine wpAnyR_take (i := 2) (v := .int .i64 k) rfl rfl (by kernel_rfl) (by kernel_rfl) (by kernel_rfl) (fun _ _ _ h => h) (Nat.le_refl _) ⟨by rfl, fun w _ => (by go_simp; try (first | rfl | simp)), fun _ => rfl⟩ hS ?_
        simp only [List.getElem_toArray, List.getElem_cons_zero, List.getElem_cons_succ, Act.put, List.setIfInBounds_toArray, List.set_cons_zero, List.set_cons_succ]
        refine wpAnyR_take (i := 3) (v := .pointer (some ⟨bA, off + k * 10, none⟩)) rfl rfl (by kernel_rfl) (by kernel_rfl) (by kernel_rfl) (fun _ _ _ h => h) (Nat.le_refl _) ⟨by rfl, fun w _ => (by go_simp; try (first | rfl | (simp; done) | (simp; omega))), fun _ => rfl⟩ hS ?_
        simp only [List.getElem_toArray, List.getElem_cons_zero, List.getElem_cons_succ, Act.put, List.setIfInBounds_toArray, List.set_cons_zero, List.set_cons_succ]
        refine wpAnyR_take (i := 4) (v := .pointer (some ⟨bA, off + k * 10 + 1, none⟩)) rfl rfl (by kernel_rfl) (by kernel_rfl) (by kernel_rfl) (fun _ _ _ h => h) (Nat.le_refl _) ⟨by rfl, fun w _ => (by go_simp; try (first | rfl | simp)), fun _ => rfl⟩ hS ?_
        simp only [List.getElem_toArray, List.getElem_cons_zero, List.getElem_cons_succ, Act.put, List.setIfInBounds_toArray, List.set_cons_zero, List.set_cons_succ]
        refine wpAnyR_take (i := 5) (v := .int .i64 x.q) rfl rfl (by kernel_rfl) (by kernel_rfl) (by kernel_rfl) (fun _ _ _ h => h) (Nat.le_refl _) (yields_cellR (b := bA) (j := off + k * 10 + 1) hq1 (by first | exact wanted_none rfl | exact wanted_some rfl rfl rfl rfl) (by exact rfl) (by exact rfl) Try.underlying3 rfl) hS ?_
        simp only [List.getElem_toArray, List.getElem_cons_zero, List.getElem_cons_succ, Act.put, List.setIfInBounds_toArray, List.set_cons_zero, List.set_cons_succ]
        refine wpAnyR_take (i := 6) (v := cv (sm x.c)) rfl rfl (by kernel_rfl) (by kernel_rfl) (by kernel_rfl) (fun _ _ _ h => h) (Nat.le_refl _) (yields_held hhx (by first | exact wanted_none rfl | exact wanted_some rfl rfl rfl rfl) (by exact rfl) (by exact rfl) Try.underlying42 rfl cInfo) hS ?_
        simp only [List.getElem_toArray, List.getElem_cons_zero, List.getElem_cons_succ, Act.put, List.setIfInBounds_toArray, List.set_cons_zero, List.set_cons_succ]
        refine wpAnyG_one (i := 7) (by kernel_rfl) rfl (fun K hK => ?_)
        go_simp
        refine ⟨trivial, (callsIn_wide.2 (kN _ O5)).mono ?_⟩
        rintro e w5 ⟨rfl, O6⟩
        refine hK _ _ (.inr ⟨_, _, O6⟩) ?_
        clear hK K hS O5
        have O5 := O6
        clear O6
        have hS : ∃ sp N1, SN P w _ T1 K1 p sp N1 := ⟨_, _, O5⟩
        try simp only [List.getElem_toArray, List.getElem_cons_zero, List.getElem_cons_succ, Act.put, List.setIfInBounds_toArray, List.set_cons_zero, List.set_cons_succ]
        refine wpAnyR_take (i := 8) (v := .bool true) rfl rfl (by kernel_rfl) (by kernel_rfl) (by kernel_rfl) (fun _ _ _ h => h) (Nat.le_refl _) ⟨by rfl, fun w _ => (by go_simp; try (first | rfl | simp)), fun _ => rfl⟩ hS ?_
        simp only [List.getElem_toArray, List.getElem_cons_zero, List.getElem_cons_succ, Act.put, List.setIfInBounds_toArray, List.set_cons_zero, List.set_cons_succ]
        refine wpAnyG_done (by kernel_rfl) ?_ _
        clear hS hhx hq1
        have O := Lib.hid O5
        clear O5
        have c3 : World.cell? _ ⟨bs, 3, none⟩ = some (.int .u64 (sm x.c).c3) := (HF.out _ O.out.kp).1.cell 3
        generalize (sm x.c).c3 = y at *
        obtain ⟨tt, htt⟩ : ∃ tt, IntKind.u64.wrap (t + y) = tt := ⟨_, rfl⟩
        have HE3 : Hid (Even4 X' tt) := Lib.hid (by rw [← htt]; exact HE2.out)
        clear HE2
        go_wp2
        have O2 := O.out.less (T' := T0) (K' := K0) (fun i hi => hi.elim) (fun _ => trivial)
        clear O kN c3
        have O := Lib.hid O2
        clear O2
        go_roundw
        case rel => exact ⟨k + 1, N + 2, tt, X', by omega, by omega, by omega, by first | rfl | rw [htt], by go_num, HE3, O⟩
        case measure => simp [intOf]; omega
    · by_cases hl2 : k < len
      · have t1 : decide ((k : Int) < (len : Int)) = true := decide_eq_true (by omega)
        have t2 : decide ((k : Int) < 80) = false := decide_eq_false (by omega)
        clear hlt
        have hs := e4_sum HE.out
        go_upto_region 11 with (first
    | go_skip
    | (go_at_call 18; refine (told (sumL hP NoT.pt hk O.out (by omega)  ) (v' := .tuple #[cv (sumV X), .int .i64 0]) (R' := fun w' => SN P w w' T0 K0 p X N) (by rw [hs.1]) (fun _ h => h)).mono ?_; rintro e w2 ⟨rfl, O2⟩; clear O H; have O := Lib.hid O2; clear O2; have H := Mem.start w2)
    | ((with_reducible show wpList _ _ _ _ _ (World.alloc _ (.cells _ _))); refine mem_newb (l := []) H ?_; intro bz w3 hbk H2; try rw [← hbk]; clear hbk H; have H := H2; clear H2; simp only [List.cons_append, List.nil_append, List.set_cons_zero, List.set_cons_succ, List.setIfInBounds_toArray] at H)
    | ((with_reducible show wpList _ _ _ (⟨_, .store 42 _ _, _, _, _, _⟩ :: _) _ _); refine mem_store (i := 0) H (by first | exact wanted_none rfl | exact wanted_some rfl rfl rfl rfl) (by exact rfl) (by exact rfl) (by exact rfl) (by exact rfl) (by exact cInfo) (by exact rfl) (by exact rfl) ?_; intro w2 H2; clear H; have H := H2; clear H2; simp only [List.cons_append, List.nil_append, List.set_cons_zero, List.set_cons_succ, List.setIfInBounds_toArray] at H))
        obtain ⟨T1, K1, hk1, hK1, hT1, O1⟩ := pack_more hP.pt NoT.pt hk O.out H
        have F1 := Lib.hid (fun (X : World) (h : K1 X) => And.intro (hK1 X h).2 (HF.out X (hK1 X h).1))
        clear H O hk HF hK1 hT1
        have hk := hk1
        have O := Lib.hid O1
        have HF := F1
        clear hk1 O1 F1
        have H := True.intro
        have hk0 := hs.2
        clear hs H
        go_wp2
        go_loopw [11, 12] (fun av jv wr => ∃ j : Nat, j ≤ 4 ∧ av = .int .u64 (part X j) ∧ jv = .int .i64 j ∧ Hid (SN P w wr T1 K1 p X N)) (fun _ jv _ => 4 - (intOf jv).toNat)
        case atStart => exact ⟨0, Nat.zero_le _, rfl, rfl, O⟩
        case round =>
          clear O
          obtain ⟨j, hj, rfl, rfl, O⟩ := hrel
          have H := True.intro
          by_cases hj4 : j < 4
          · have t5 : decide ((j : Int) < 4) = true := decide_eq_true (by omega)
            have he := e4_read HE.out hj4
            go_upto_region 16 with (first
    | go_skip
    | (go_at_call 17; refine (told (readL hP NoT.pt hk O.out (by omega) (j : Int) (by omega)) (v' := .tuple #[cv (kq X (j : Int)), .int .i64 0]) (R' := fun w' => SN P w w' T1 K1 p X N) (by rw [he.1, he.2]) (fun _ h => h)).mono ?_; rintro e w2 ⟨rfl, O2⟩; clear O H; have O := Lib.hid O2; clear O2; have H := Mem.start w2)
    | ((with_reducible show wpList _ _ _ _ _ (World.alloc _ (.cells _ _))); refine mem_newb (l := []) H ?_; intro bd w3 hbk H2; try rw [← hbk]; clear hbk H; have H := H2; clear H2; simp only [List.cons_append, List.nil_append, List.set_cons_zero, List.set_cons_succ, List.setIfInBounds_toArray] at H)
    | ((with_reducible show wpList _ _ _ (⟨_, .store 42 _ _, _, _, _, _⟩ :: _) _ _); refine mem_store (i := 0) H (by first | exact wanted_none rfl | exact wanted_some rfl rfl rfl rfl) (by exact rfl) (by exact rfl) (by exact rfl) (by exact rfl) (by exact cInfo) (by exact rfl) (by exact rfl) ?_; intro w2 H2; clear H; have H := H2; clear H2; simp only [List.cons_append, List.nil_append, List.set_cons_zero, List.set_cons_succ, List.setIfInBounds_toArray] at H))
            have O2 := St.on hP.pt NoT.pt hk O.out H.below
            have c3 : World.cell? _ ⟨bd, 3, none⟩ = some (.int .u64 (kq X (j : Int)).c3) := (H.at 0 rfl).cell 3
            clear O H he
            have O := Lib.hid O2
            clear O2
            have hn : IntKind.u64.wrap (part X j + (kq X (j : Int)).c3) = part X (j + 1) := rfl
            obtain ⟨z, hz⟩ : ∃ z, part X (j + 1) = z := ⟨_, rfl⟩
            rw [hz] at hn
            have HZ := Lib.hid hz
            clear hz
            go_wp2
            go_roundw
            case rel => exact ⟨j + 1, by omega, by rw [HZ.out], by go_num, O⟩
            case measure => simp [intOf]; omega
          · obtain rfl : j = 4 := by omega
            have t5 : decide (((4 : Nat) : Int) < 4) = false := by decide
            rw [e4_part HE.out]
            have c3 : wr.cell? ⟨bz, 3, none⟩ = some (.int .u64 t) := by
              rw [← hk0]
              exact (HF.out _ O.out.kp).1.cell 3
            go_wp2
            go_ret
            exact ⟨by simp, O.out.bel⟩
      · have t1 : decide ((k : Int) < (len : Int)) = false := decide_eq_false (by omega)
        clear hlt
        have hs := e4_sum HE.out
        go_upto_region 11 with (first
    | go_skip
    | (go_at_call 18; refine (told (sumL hP NoT.pt hk O.out (by omega)  ) (v' := .tuple #[cv (sumV X), .int .i64 0]) (R' := fun w' => SN P w w' T0 K0 p X N) (by rw [hs.1]) (fun _ h => h)).mono ?_; rintro e w2 ⟨rfl, O2⟩; clear O H; have O := Lib.hid O2; clear O2; have H := Mem.start w2)
    | ((with_reducible show wpList _ _ _ _ _ (World.alloc _ (.cells _ _))); refine mem_newb (l := []) H ?_; intro bz w3 hbk H2; try rw [← hbk]; clear hbk H; have H := H2; clear H2; simp only [List.cons_append, List.nil_append, List.set_cons_zero, List.set_cons_succ, List.setIfInBounds_toArray] at H)
    | ((with_reducible show wpList _ _ _ (⟨_, .store 42 _ _, _, _, _, _⟩ :: _) _ _); refine mem_store (i := 0) H (by first | exact wanted_none rfl | exact wanted_some rfl rfl rfl rfl) (by exact rfl) (by exact rfl) (by exact rfl) (by exact rfl) (by exact cInfo) (by exact rfl) (by exact rfl) ?_; intro w2 H2; clear H; have H := H2; clear H2; simp only [List.cons_append, List.nil_append, List.set_cons_zero, List.set_cons_succ, List.setIfInBounds_toArray] at H))
        obtain ⟨T1, K1, hk1, hK1, hT1, O1⟩ := pack_more hP.pt NoT.pt hk O.out H
        have F1 := Lib.hid (fun (X : World) (h : K1 X) => And.intro (hK1 X h).2 (HF.out X (hK1 X h).1))
        clear H O hk HF hK1 hT1
        have hk := hk1
        have O := Lib.hid O1
        have HF := F1
        clear hk1 O1 F1
        have H := True.intro
        have hk0 := hs.2
        clear hs H
        go_wp2
        go_loopw [11, 12] (fun av jv wr => ∃ j : Nat, j ≤ 4 ∧ av = .int .u64 (part X j) ∧ jv = .int .i64 j ∧ Hid (SN P w wr T1 K1 p X N)) (fun _ jv _ => 4 - (intOf jv).toNat)
        case atStart => exact ⟨0, Nat.zero_le _, rfl, rfl, O⟩
        case round =>
          clear O
          obtain ⟨j, hj, rfl, rfl, O⟩ := hrel
          have H := True.intro
          by_cases hj4 : j < 4
          · have t5 : decide ((j : Int) < 4) = true := decide_eq_true (by omega)
            have he := e4_read HE.out hj4
            go_upto_region 16 with (first
    | go_skip
    | (go_at_call 17; refine (told (readL hP NoT.pt hk O.out (by omega) (j : Int) (by omega)) (v' := .tuple #[cv (kq X (j : Int)), .int .i64 0]) (R' := fun w' => SN P w w' T1 K1 p X N) (by rw [he.1, he.2]) (fun _ h => h)).mono ?_; rintro e w2 ⟨rfl, O2⟩; clear O H; have O := Lib.hid O2; clear O2; have H := Mem.start w2)
    | ((with_reducible show wpList _ _ _ _ _ (World.alloc _ (.cells _ _))); refine mem_newb (l := []) H ?_; intro bd w3 hbk H2; try rw [← hbk]; clear hbk H; have H := H2; clear H2; simp only [List.cons_append, List.nil_append, List.set_cons_zero, List.set_cons_succ, List.setIfInBounds_toArray] at H)
    | ((with_reducible show wpList _ _ _ (⟨_, .store 42 _ _, _, _, _, _⟩ :: _) _ _); refine mem_store (i := 0) H (by first | exact wanted_none rfl | exact wanted_some rfl rfl rfl rfl) (by exact rfl) (by exact rfl) (by exact rfl) (by exact rfl) (by exact cInfo) (by exact rfl) (by exact rfl) ?_; intro w2 H2; clear H; have H := H2; clear H2; simp only [List.cons_append, List.nil_append, List.set_cons_zero, List.set_cons_succ, List.setIfInBounds_toArray] at H))
            have O2 := St.on hP.pt NoT.pt hk O.out H.below
            have c3 : World.cell? _ ⟨bd, 3, none⟩ = some (.int .u64 (kq X (j : Int)).c3) := (H.at 0 rfl).cell 3
            clear O H he
            have O := Lib.hid O2
            clear O2
            have hn : IntKind.u64.wrap (part X j + (kq X (j : Int)).c3) = part X (j + 1) := rfl
            obtain ⟨z, hz⟩ : ∃ z, part X (j + 1) = z := ⟨_, rfl⟩
            rw [hz] at hn
            have HZ := Lib.hid hz
            clear hz
            go_wp2
            go_roundw
            case rel => exact ⟨j + 1, by omega, by rw [HZ.out], by go_num, O⟩
            case measure => simp [intOf]; omega
          · obtain rfl : j = 4 := by omega
            have t5 : decide (((4 : Nat) : Int) < 4) = false := by decide
            rw [e4_part HE.out]
            have c3 : wr.cell? ⟨bz, 3, none⟩ = some (.int .u64 t) := by
              rw [← hk0]
              exact (HF.out _ O.out.kp).1.cell 3
            go_wp2
            go_ret
            exact ⟨by simp, O.out.bel⟩
end
end Go.Proofs.Ytdhjdkhhhdcjdaa.Ta
end
