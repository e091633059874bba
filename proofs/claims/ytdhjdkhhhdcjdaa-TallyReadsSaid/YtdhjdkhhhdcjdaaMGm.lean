/-
  TallyReads, walked. Conditions: as the interface says; the acts lie where their slice says.
-/
import Derived.Test.YtdhjdkhhhdcjdaaMGl
/- TallyReads, walked. Conditions: as the interface says; the acts lie where their slice says. -/
section
namespace Go.Proofs.Ytdhjdkhhhdcjdaa.Ta
set_option linter.unusedSimpArgs false
set_option linter.unusedVariables false
set_option maxRecDepth 100000
open Go.Joins Go.Deep Go.ChangeShapes Go.WideShapes Go.ChangeAt Go.RowKit

abbrev flat (b : Int) : C6 := ⟨b, b, b, b, b, b⟩
theorem flat_get (b : Int) {i : Nat} (h : i < 6) : (flat b).get i = b := by
  match i, h with
  | 0, _ => rfl
  | 1, _ => rfl
  | 2, _ => rfl
  | 3, _ => rfl
  | 4, _ => rfl
  | 5, _ => rfl
/-- the counters while a change is made: the base, what is added, the writer's next step -/
def wc (b v : Int) (m : Nat) : C6 := (flat b).upto (flat v) (m - 1)
theorem wc_zero (b v : Int) : wc b v 0 = flat b := upto_zero _ _
theorem wc_one (b v : Int) : wc b v 1 = flat b := upto_zero _ _
theorem wc_seven (b v : Int) : wc b v 7 = flat (w64 (b + v)) := upto_six _ _
theorem wc_add (b v : Int) {m : Nat} (h1 : 1 ≤ m) (h6 : m ≤ 6) : (wc b v m).put (m - 1) (w64 ((wc b v m).get (m - 1) + v)) = wc b v (m + 1) := by
  have e := upto_next (flat b) (flat v) (m - 1)
  rw [flat_get v (show m - 1 < 6 by omega)] at e
  rw [wc, upto_get _ _ _ (show m - 1 < 6 by omega), e, wc, show m - 1 + 1 = m + 1 - 1 by omega]
/-- what a reader has loaded is of one time -/
structure RI (b s : Int) (r : Nat) (R : RD) : Prop where
  r : R.r = r
  q : R.q = 0
  a : R.at' ≤ 7
  s : R.at' ≠ 0 → R.s0 % 2 = 0 ∧ R.s0 ≤ s ∧ (R.s0 = s → ∀ v, v ∈ R.l → v = b) ∧ R.l.length + 1 = R.at'
theorem RI.later {b b' s s' : Int} {r : Nat} {R : RD} (h : RI b s r R) (hs : s < s') : RI b' s' r R :=
  ⟨h.r, h.q, h.a, fun h0 => by obtain ⟨a1, a2, a3, a4⟩ := h.s h0; exact ⟨a1, by omega, fun e => by omega, a4⟩⟩
theorem of6_all {l : List Int} {b : Int} (hl : l.length = 6) (h : ∀ v, v ∈ l → v = b) : of6 l = flat b := C6.ext' fun i hi => by
  rw [flat_get b hi, of6, get_mk _ hi, List.getD_eq_getElem?_getD, List.getElem?_eq_getElem (by omega)]
  exact h _ (List.getElem_mem _)
/-- what a step tells -/
def Tells (c : C6) (ok : Bool) (E : Int) : Prop := ok = true → E = 0 ∧ ∃ y, c = flat y
theorem ri_step {b v s : Int} {m r : Nat} {R : RD} (h : RI b s r R) (hm : m ≤ 7) (hs : s % 2 = if m = 0 then 0 else 1) : Tells (stepV (YR (wc b v m) s R) R) (stepOk (YR (wc b v m) s R) R) (stepE (YR (wc b v m) s R) R) ∧ RI b s r (stepR (YR (wc b v m) s R) R) := by
  obtain ⟨e1, e2⟩ := yr_sq (wc b v m) s R h.q
  by_cases h0 : R.at' = 0
  · refine ⟨fun ok => ?_, ?_⟩
    · rw [stepOk, h0] at ok
      simp at ok
    · rw [stepR, if_pos h0, e1]
      split
      · exact h
      · exact ⟨h.r, h.q, by simp, fun _ => ⟨by simp; omega, by simp, (fun _ v hv => by cases hv), rfl⟩⟩
  · obtain ⟨a1, a2, a3, a4⟩ := h.s h0
    by_cases h6 : R.at' ≤ 6
    · refine ⟨fun ok => ?_, ?_⟩
      · rw [stepOk, decide_eq_false (by omega)] at ok
        cases ok
      · rw [stepR, if_neg h0, if_pos h6, e2]
        refine ⟨h.r, h.q, by simp; omega, fun _ => ⟨a1, a2, fun e x hx => ?_, by simp; exact a4⟩⟩
        have e : R.s0 = s := e
        have hm0 : m = 0 := by
          by_cases h : m = 0
          · exact h
          · rw [if_neg h] at hs
            omega
        rcases List.mem_append.1 hx with hx | hx
        · exact a3 e x hx
        · rw [List.mem_singleton.1 hx, hm0, wc_zero, flat_get b (by omega)]
    · have h7 : R.at' = 7 := by have := h.a; omega
      refine ⟨fun ok => ?_, ?_⟩
      · rw [stepOk, e1] at ok
        simp at ok
        have e : R.s0 = s := ok.2.symm
        refine ⟨by rw [stepE, if_neg h0, if_neg h6, e1, if_pos ok.2], b, ?_⟩
        rw [stepV, if_pos (by rw [stepOk, e1]; simp; exact ok)]
        exact of6_all (by omega) (a3 e)
      · rw [stepR, if_neg h0, if_neg h6]
        exact ⟨h.r, h.q, by simp, fun h => absurd rfl h⟩
section
variable {P : PT} (hP : PTally P) {w W : World} {T : Nat → Prop} {K : World → Prop} (hk : Kept T K) {p N : Nat} {b v s : Int} {m r : Nat} {R : RD}
include hP hk
theorem ri_stepL (O : SN P w W T K p (YR (wc b v m) s R) N) (hN : N ≤ 1000000) (h : RI b s r R) (hm : m ≤ 7) (hs : s % 2 = if m = 0 then 0 else 1) : Calls Try.prog 14 #[.pointer (some ⟨r, 0, none⟩)] W fun e w' => ∃ R' c ok E, e = .returned (.tuple #[cv c, .bool ok, .int .i64 E]) ∧ Tells c ok E ∧ RI b s r R' ∧ SN P w w' T K p (YR (wc b v m) s R') N := by
  obtain ⟨a1, a2⟩ := ri_step (v := v) h hm hs
  have k := stepL hP NoT.pt hk O hN R rfl
  rw [h.r] at k
  exact k.mono fun e w' ⟨h1, h2⟩ => ⟨_, _, _, _, h1, a1, a2, h2⟩
end
section
variable {P : PT}
/-- the law's writer: its next step and the count -/
def par (m : Nat) : Int := if m = 0 then 0 else 1
set_option maxHeartbeats 8000000 in
theorem reads_w (hP : PTally P) (A : Option Addr) (len cap : Nat) (xs : Nat → AX) (hl : len ≤ cap) (hc : cap ≤ maxLen) (w : World) (hA : ActsX w A len xs) : Calls Try.prog 5 #[.slice A len cap] w fun e w' => e = .returned (.bool true) ∧ Below w.heap.size w w' := by
  have HA := Lib.hid hA
  unfold maxLen at hc
  clear hA
  have H := Mem.start w
  have hk := kept0
  have O := Lib.hid (show St NoT NoT w w T0 K0 0 z0 0 0 z0 0 from St.start w z0)
  have HF := Lib.hid (fun (X : World) (_ : K0 X) => True.intro)
  go_enter Try.func5, Try.ntmps5
  go_upto_region 2 with (first
    | (go_at_call 10; refine (shown12 hP _).mono ?_; rintro e w2 ⟨rfl, hb⟩; have O2 := St.on NoT.pt NoT.pt hk O.out hb; clear O H hb; have O := Lib.hid O2; clear O2; have H := Mem.start w2))
  go_upto_region 3 with (first
    | (go_at_call 11; refine (O.out.newL hP NoT.pt hk 1 (by decide)).mono ?_; rintro e w2 ⟨p, rfl, O2⟩; clear O H; have O := Lib.hid (show SN P w w2 T0 K0 p (X1 zero6 0) 0 from O2); clear O2; have H := Mem.start w2))
  go_upto_region 4 with (first
    | (go_at_call 13; refine (readerL hP NoT.pt hk O.out (by omega) 0 (show 0 < 1 by omega) rfl).mono ?_; rintro e w2 ⟨r, rfl, O2⟩; clear O H; have O := Lib.hid (show SN P w w2 T0 K0 p (YR zero6 0 ⟨r, 0, 0, 0, []⟩) 0 from O2); clear O2; have H := Mem.start w2))
  clear H
  go_wp2
  go_loopw [8, 9, 10] (fun mv vv iv wr => ∃ (k N m : Nat) (b v s : Int) (R : RD), k ≤ len ∧ k ≤ 200 ∧ N ≤ 2 * k ∧ m ≤ 7 ∧ mv = .int .i64 m ∧ vv = .int .u32 v ∧ iv = .int .i64 k ∧ (0 ≤ v ∧ v ≤ 4294967295) ∧ s % 2 = (if m = 0 then 0 else 1) ∧ RI b s r R ∧ Hid (SN P w wr T0 K0 p (YR (wc b v m) s R) N)) (fun _ _ iv _ => len - (intOf iv).toNat)
  case atStart => exact ⟨0, 0, 0, 0, 1, 0, _, Nat.zero_le _, Nat.zero_le _, Nat.le_refl _, by omega, rfl, rfl, rfl, by omega, rfl, ⟨rfl, rfl, Nat.zero_le _, fun h => absurd rfl h⟩, Lib.hid (by rw [wc_zero]; exact O.out)⟩
  case round =>
    clear O
    obtain ⟨k, N, m, b, v, s, R, hk1, hk200, hN, hm, rfl, rfl, rfl, hv, hs, hR, O⟩ := hrel
    have H := True.intro
    have HS := Lib.hid hs
    have HR := Lib.hid hR
    have HN2 := Lib.hid hN
    clear hs hR
    by_cases hlt : k < len ∧ k < 200
    · obtain ⟨bA, off, hA, hb, hx⟩ := HA.out.plain axC_len (by decide) (by omega)
      obtain ⟨hfit, hcells⟩ := hx k hlt.1
      have t1 : decide ((k : Int) < (len : Int)) = true := decide_eq_true (by omega)
      have t2 : decide ((k : Int) < 200) = true := decide_eq_true (by omega)
      have i0 : ¬ ((k : Int) < 0) := by omega
      have i1 : k < len := hlt.1
      have i2 : k < 200 := hlt.2
      have HD := Lib.hid (fun (W : World) (h : Below w.heap.size w W) => show W.cell? ⟨bA, off + k * 10, none⟩ = some (.int .i64 (xs k).d) from by
        have h2 := hcells 0 _ rfl
        rw [Nat.add_zero] at h2
        rw [← h2]
        unfold World.cell?
        rw [h.block bA hb])
      have HV := Lib.hid (fun (W : World) (h : Below w.heap.size w W) => show W.cell? ⟨bA, off + k * 10 + 3, none⟩ = some (.int .u32 (xs k).v) from by
        have h2 := hcells 3 _ rfl
        rw [← h2]
        unfold World.cell?
        rw [h.block bA hb])
      have hxv := hfit.v
      generalize (xs k).d = d at *
      generalize (xs k).v = v2 at *
      subst hA
      have c0 := HD.out _ O.out.bel
      clear hfit hcells hx hlt
      by_cases hd : d.tmod 2 = 0
      · have td : (d.tmod 2 == 0) = true := by simpa using hd
        by_cases h0 : m = 0
        · subst h0
          have hs0 : s % 2 = 0 := HS.out
          have e1 : openE (YR (wc b v 0) s R) 0 = 0 := by show (if s % 2 = 1 then (111 : Int) else 0) = 0; rw [if_neg (by omega)]
          have e2 : openS (YR (wc b v 0) s R) 0 = YR (wc b v2 1) (s + 1) R := by rw [openS, if_pos e1, wc_zero, wc_one]; rfl
          go_upto_region 15 with (first
    | go_skip
    | (go_at_call 19; refine (told (openL hP NoT.pt hk O.out (by omega) 0 (by omega)) (v' := .int .i64 0) (R' := fun w' => SN P w w' T0 K0 p (YR (wc b v2 1) (s + 1) R) (N + 2)) (by rw [e1]) (fun _ h => by rw [e2] at h; exact h)).mono ?_; rintro e w2 ⟨rfl, O2⟩; clear O H; have O := Lib.hid O2; clear O2; have H := Mem.start w2))
          have c3 := HV.out _ O.out.bel
          clear e1 e2 H c0
          go_wp2
          go_roundw
          case rel => exact ⟨k + 1, N + 2, 1, b, v2, s + 1, R, by omega, by omega, by omega, by omega, by go_num, rfl, by go_num, hxv, by rw [if_neg (by omega)]; omega, HR.out.later (by omega), O⟩
          case measure => simp [intOf]; omega
        · have hs1 : s % 2 = 1 := by have := HS.out; rwa [if_neg h0] at this
          have y0 : ((m : Int) == 0) = false := by simp; exact h0
          by_cases h6 : m ≤ 6
          · have y1 : decide ((m : Int) ≤ 6) = true := decide_eq_true (by omega)
            have w1 : IntKind.i64.wrap ((m : Int) - 1) = ((m - 1 : Nat) : Int) := by rw [wrap_id (by omega) (by omega)]; omega
            have hF : hasF ((m - 1 : Nat) : Int) = true := by simp only [hasF, Bool.and_eq_true, decide_eq_true_eq]; omega
            have e1 : addE (YR (wc b v m) s R) 0 ((m - 1 : Nat) : Int) = 0 := by
              rw [addE, hF]
              show (if s % 2 = 0 then (120 : Int) else 0) = 0
              rw [if_neg (by omega)]
            have e2 : addS (YR (wc b v m) s R) 0 ((m - 1 : Nat) : Int) v = YR (wc b v (m + 1)) s R := by
              rw [addS, if_pos e1, Int.toNat_natCast]
              show YR ((wc b v m).put (m - 1) (w64 ((wc b v m).get (m - 1) + v))) s R = _
              rw [wc_add b v (by omega) h6]
            have w2 : ((m : Int) + 1).tmod 8 = ((m + 1 : Nat) : Int) := by rw [Int.tmod_eq_emod_of_nonneg (by omega)]; omega
            go_upto_region 19 with (first
    | go_skip
    | (go_at_call 20; refine (told (addL hP NoT.pt hk O.out (by omega) 0 ((m - 1 : Nat) : Int) v (by omega) (by omega) hv) (v' := .int .i64 0) (R' := fun w' => SN P w w' T0 K0 p (YR (wc b v (m + 1)) s R) N) (by rw [e1]) (fun _ h => by rw [e2] at h; exact h)).mono ?_; rintro e w2 ⟨rfl, O2⟩; clear O H; have O := Lib.hid O2; clear O2; have H := Mem.start w2))
            clear e1 e2 H c0 hF w1
            go_wp2
            go_roundw
            case rel => exact ⟨k + 1, N, m + 1, b, v, s, R, by omega, by omega, by omega, by omega, by go_num, rfl, by go_num, hv, by rw [if_neg (by omega)]; exact hs1, HR.out, O⟩
            case measure => simp [intOf]; omega
          · obtain rfl : m = 7 := by omega
            have y1 : decide (((7 : Nat) : Int) ≤ 6) = false := by decide
            have e1 : shutE (YR (wc b v 7) s R) 0 = 0 := by show (if s % 2 = 0 then (120 : Int) else 0) = 0; rw [if_neg (by omega)]
            have e2 : shutS (YR (wc b v 7) s R) 0 = YR (wc (w64 (b + v)) v 0) (s + 1) R := by rw [shutS, if_pos e1, wc_zero, wc_seven]; rfl
            go_upto_region 19 with (first
    | go_skip
    | (go_at_call 21; refine (told (shutL hP NoT.pt hk O.out (by omega) 0 (by omega)) (v' := .int .i64 0) (R' := fun w' => SN P w w' T0 K0 p (YR (wc (w64 (b + v)) v 0) (s + 1) R) (N + 2)) (by rw [e1]) (fun _ h => by rw [e2] at h; exact h)).mono ?_; rintro e w2 ⟨rfl, O2⟩; clear O H; have O := Lib.hid O2; clear O2; have H := Mem.start w2))
            clear e1 e2 H c0
            go_wp2
            go_roundw
            case rel => exact ⟨k + 1, N + 2, 0, w64 (b + v), v, s + 1, R, by omega, by omega, by omega, by omega, by go_num, rfl, by go_num, hv, by rw [if_pos rfl]; omega, HR.out.later (by omega), O⟩
            case measure => simp [intOf]; omega
      · have td : (d.tmod 2 == 0) = false := by simpa using hd
        go_upto_region 23 with (first
    | go_skip
    | (go_at_call 14; refine (ri_stepL hP hk O.out (by omega) HR.out hm HS.out).mono ?_; rintro e w2 ⟨R', c, ok, E, rfl, hT, hR', O2⟩; clear O H; have O := Lib.hid O2; clear O2; have H := Mem.start w2)
    | ((with_reducible show wpList _ _ _ _ _ (World.alloc _ (.cells _ _))); refine mem_newb (l := []) H ?_; intro bx w3 hbk H2; try rw [← hbk]; clear hbk H; have H := H2; clear H2; simp only [List.cons_append, List.nil_append, List.set_cons_zero, List.set_cons_succ, List.setIfInBounds_toArray] at H)
    | ((with_reducible show wpList _ _ _ (⟨_, .store 42 _ _, _, _, _, _⟩ :: _) _ _); refine mem_store (i := 0) H (by first | exact wanted_none rfl | exact wanted_some rfl rfl rfl rfl) (by exact rfl) (by exact rfl) (by exact rfl) (by exact rfl) (by exact cInfo) (by exact rfl) (by exact rfl) ?_; intro w2 H2; clear H; have H := H2; clear H2; simp only [List.cons_append, List.nil_append, List.set_cons_zero, List.set_cons_succ, List.setIfInBounds_toArray] at H))
        have O2 := St.on hP.pt NoT.pt hk O.out H.below
        have d0 : World.cell? _ ⟨bx, 0, none⟩ = some (.int .u64 c.c0) := (H.at 0 rfl).cell 0
        have d1 : World.cell? _ ⟨bx, 1, none⟩ = some (.int .u64 c.c1) := (H.at 0 rfl).cell 1
        have d2 : World.cell? _ ⟨bx, 2, none⟩ = some (.int .u64 c.c2) := (H.at 0 rfl).cell 2
        have d3 : World.cell? _ ⟨bx, 3, none⟩ = some (.int .u64 c.c3) := (H.at 0 rfl).cell 3
        have d4 : World.cell? _ ⟨bx, 4, none⟩ = some (.int .u64 c.c4) := (H.at 0 rfl).cell 4
        have d5 : World.cell? _ ⟨bx, 5, none⟩ = some (.int .u64 c.c5) := (H.at 0 rfl).cell 5
        clear O H c0
        have O := Lib.hid O2
        clear O2
        cases ok with
        | false =>
          clear hT d0 d1 d2 d3 d4 d5
          go_wp2
          go_roundw
          case rel => exact ⟨k + 1, N, m, b, v, s, R', by omega, by omega, by omega, by omega, by go_num, rfl, by go_num, hv, HS.out, hR', O⟩
          case measure => simp [intOf]; omega
        | true =>
          obtain ⟨rfl, y, rfl⟩ := hT rfl
          simp only at d0 d1 d2 d3 d4 d5
          clear hT
          go_wp2
          go_roundw
          case rel => exact ⟨k + 1, N, m, b, v, s, R', by omega, by omega, by omega, by omega, by go_num, rfl, by go_num, hv, HS.out, hR', O⟩
          case measure => simp [intOf]; omega
    · by_cases hl2 : k < len
      · have t1 : decide ((k : Int) < (len : Int)) = true := decide_eq_true (by omega)
        have t2 : decide ((k : Int) < 200) = false := decide_eq_false (by omega)
        go_wp2
        go_ret
        exact ⟨by simp, O.out.bel⟩
      · have t1 : decide ((k : Int) < (len : Int)) = false := decide_eq_false (by omega)
        go_wp2
        go_ret
        exact ⟨by simp, O.out.bel⟩
end
end Go.Proofs.Ytdhjdkhhhdcjdaa.Ta
end
