/-
  A reader's steps; TallyRetries, walked. Conditions: as the interface says.
-/
import Derived.Test.YtdhjdkhhhdcjdaaMGk
/- A reader's steps; TallyRetries, walked. Conditions: as the interface says. -/
section
namespace Go.Proofs.Ytdhjdkhhhdcjdaa.Ta
set_option linter.unusedSimpArgs false
set_option linter.unusedVariables false
set_option maxRecDepth 100000
open Go.Joins Go.Deep Go.ChangeShapes Go.WideShapes Go.ChangeAt Go.RowKit

/-- one queue, and a reader of it -/
abbrev YR (c : C6) (s : Int) (R : RD) : TS := ⟨[c], [s], some R⟩
def gets (c : C6) (j : Nat) : List Int := (List.range j).map c.get
/-- a reader has begun at these counters, and made j steps -/
structure Rd (c : C6) (s : Int) (r j : Nat) (R : RD) : Prop where
  r : R.r = r
  q : R.q = 0
  a : R.at' = j
  s : j ≠ 0 → R.s0 = s ∧ R.l = gets c (j - 1)
/-- a reader has begun at another count -/
structure Rs (s : Int) (r j : Nat) (R : RD) : Prop where
  r : R.r = r
  q : R.q = 0
  a : R.at' = j
  s : R.s0 ≠ s
  j1 : 1 ≤ j
theorem yr_sq (c : C6) (s : Int) (R : RD) (h : R.q = 0) : sq (YR c s R) R.q = s ∧ kq (YR c s R) R.q = c := by
  rw [h]
  exact ⟨rfl, rfl⟩
theorem of6_gets (c : C6) : of6 (gets c 6) = c := rfl
theorem gets_next (c : C6) (j : Nat) : gets c j ++ [c.get j] = gets c (j + 1) := by simp [gets, List.range_succ]
theorem rd_next {c : C6} {s : Int} {r j : Nat} {R : RD} (h : Rd c s r j R) (hs : s % 2 = 0) (hj : j < 7) : stepE (YR c s R) R = 0 ∧ stepOk (YR c s R) R = false ∧ stepV (YR c s R) R = zero6 ∧ Rd c s r (j + 1) (stepR (YR c s R) R) := by
  obtain ⟨e1, e2⟩ := yr_sq c s R h.q
  have ok : stepOk (YR c s R) R = false := by rw [stepOk, h.a, decide_eq_false (by omega)]; rfl
  refine ⟨?_, ok, by rw [stepV, ok]; rfl, ?_⟩
  · rw [stepE, h.a, e1]
    by_cases h0 : j = 0
    · rw [if_pos h0, if_neg (by omega)]
    · rw [if_neg h0, if_pos (by omega)]
  · rw [stepR, h.a, e1, e2]
    by_cases h0 : j = 0
    · rw [if_pos h0, if_neg (by omega)]
      subst h0
      exact ⟨h.r, h.q, rfl, fun _ => ⟨rfl, rfl⟩⟩
    · rw [if_neg h0, if_pos (by omega)]
      refine ⟨h.r, h.q, rfl, fun _ => ⟨(h.s h0).1, ?_⟩⟩
      show R.l ++ [c.get (j - 1)] = gets c (j + 1 - 1)
      rw [(h.s h0).2, gets_next, show j - 1 + 1 = j + 1 - 1 by omega]
theorem rd_last {c : C6} {s : Int} {r : Nat} {R : RD} (h : Rd c s r 7 R) : stepE (YR c s R) R = 0 ∧ stepOk (YR c s R) R = true ∧ stepV (YR c s R) R = c ∧ Rd c s r 0 (stepR (YR c s R) R) := by
  obtain ⟨e1, e2⟩ := yr_sq c s R h.q
  have hs := h.s (by omega)
  have ok : stepOk (YR c s R) R = true := by rw [stepOk, h.a, e1, hs.1, decide_eq_true rfl]; rfl
  refine ⟨?_, ok, by rw [stepV, if_pos ok, hs.2]; exact of6_gets c, ?_⟩
  · rw [stepE, h.a, e1, hs.1, if_neg (by omega), if_neg (by omega), if_pos rfl]
  · rw [stepR, h.a, if_neg (by omega), if_neg (by omega)]
    exact ⟨h.r, h.q, rfl, fun h => absurd rfl h⟩
theorem rs_next {c : C6} {s : Int} {r j : Nat} {R : RD} (h : Rs s r j R) (hj : j < 7) : stepE (YR c s R) R = 0 ∧ stepOk (YR c s R) R = false ∧ stepV (YR c s R) R = zero6 ∧ Rs s r (j + 1) (stepR (YR c s R) R) := by
  have hj1 := h.j1
  have ok : stepOk (YR c s R) R = false := by rw [stepOk, h.a, decide_eq_false (by omega)]; rfl
  refine ⟨?_, ok, by rw [stepV, ok]; rfl, ?_⟩
  · rw [stepE, h.a, if_neg (by omega), if_pos (by omega)]
  · rw [stepR, h.a, if_neg (by omega), if_pos (by omega)]
    exact ⟨h.r, h.q, rfl, h.s, by omega⟩
theorem rs_last {c : C6} {s : Int} {r : Nat} {R : RD} (h : Rs s r 7 R) : stepE (YR c s R) R = 111 ∧ stepOk (YR c s R) R = false ∧ stepV (YR c s R) R = zero6 ∧ Rd c s r 0 (stepR (YR c s R) R) := by
  obtain ⟨e1, e2⟩ := yr_sq c s R h.q
  have ok : stepOk (YR c s R) R = false := by rw [stepOk, e1, decide_eq_false (Ne.symm h.s), Bool.and_false]
  refine ⟨?_, ok, by rw [stepV, ok]; rfl, ?_⟩
  · rw [stepE, h.a, e1, if_neg (by omega), if_neg (by omega), if_neg (Ne.symm h.s)]
  · rw [stepR, h.a, if_neg (by omega), if_neg (by omega)]
    exact ⟨h.r, h.q, rfl, fun h => absurd rfl h⟩
section
variable {P : PT} (hP : PTally P) {w W : World} {T : Nat → Prop} {K : World → Prop} (hk : Kept T K) {p N : Nat} {c : C6} {s : Int} {r j : Nat} {R : RD}
include hP hk
theorem rd_stepL (O : SN P w W T K p (YR c s R) N) (hN : N ≤ 1000000) (h : Rd c s r j R) (hs : s % 2 = 0) (hj : j < 7) : Calls Try.prog 14 #[.pointer (some ⟨r, 0, none⟩)] W fun e w' => e = .returned (.tuple #[cv zero6, .bool false, .int .i64 0]) ∧ ∃ R', Rd c s r (j + 1) R' ∧ SN P w w' T K p (YR c s R') N := by
  obtain ⟨a1, a2, a3, a4⟩ := rd_next h hs hj
  have k := stepL hP NoT.pt hk O hN R rfl
  rw [a1, a2, a3, h.r] at k
  exact k.mono fun e w' ⟨h1, h2⟩ => ⟨h1, _, a4, h2⟩
theorem rd_lastL (O : SN P w W T K p (YR c s R) N) (hN : N ≤ 1000000) (h : Rd c s r 7 R) : Calls Try.prog 14 #[.pointer (some ⟨r, 0, none⟩)] W fun e w' => e = .returned (.tuple #[cv c, .bool true, .int .i64 0]) ∧ ∃ R', Rd c s r 0 R' ∧ SN P w w' T K p (YR c s R') N := by
  obtain ⟨a1, a2, a3, a4⟩ := rd_last h
  have k := stepL hP NoT.pt hk O hN R rfl
  rw [a1, a2, a3, h.r] at k
  exact k.mono fun e w' ⟨h1, h2⟩ => ⟨h1, _, a4, h2⟩
theorem rs_stepL (O : SN P w W T K p (YR c s R) N) (hN : N ≤ 1000000) (h : Rs s r j R) (hj : j < 7) : Calls Try.prog 14 #[.pointer (some ⟨r, 0, none⟩)] W fun e w' => e = .returned (.tuple #[cv zero6, .bool false, .int .i64 0]) ∧ ∃ R', Rs s r (j + 1) R' ∧ SN P w w' T K p (YR c s R') N := by
  obtain ⟨a1, a2, a3, a4⟩ := rs_next (c := c) h hj
  have k := stepL hP NoT.pt hk O hN R rfl
  rw [a1, a2, a3, h.r] at k
  exact k.mono fun e w' ⟨h1, h2⟩ => ⟨h1, _, a4, h2⟩
theorem rs_lastL (O : SN P w W T K p (YR c s R) N) (hN : N ≤ 1000000) (h : Rs s r 7 R) : Calls Try.prog 14 #[.pointer (some ⟨r, 0, none⟩)] W fun e w' => e = .returned (.tuple #[cv zero6, .bool false, .int .i64 111]) ∧ ∃ R', Rd c s r 0 R' ∧ SN P w w' T K p (YR c s R') N := by
  obtain ⟨a1, a2, a3, a4⟩ := rs_last (c := c) h
  have k := stepL hP NoT.pt hk O hN R rfl
  rw [a1, a2, a3, h.r] at k
  exact k.mono fun e w' ⟨h1, h2⟩ => ⟨h1, _, a4, h2⟩
end
section
variable {P : PT}
/-- between the note and the last reading -/
def Ph2 (at' : Nat) (d : C6) (r i : Nat) (R : RD) : Prop := (i < 8 ∧ ((at' = 0 ∧ Rd d 2 r i R) ∨ (0 < at' ∧ Rs 2 r i R))) ∨ (i = 8 ∧ Rd d 2 r 0 R)
set_option maxHeartbeats 8000000 in
theorem retries_w (hP : PTally P) (c : C6) (at' : Int) (hc : c.Fits) (ha : I64 at') (w : World) : Calls Try.prog 9 #[cv c, .int .i64 at'] w fun e w' => e = .returned (.bool true) ∧ Below w.heap.size w w' := by
  have H := Mem.start w
  by_cases q0 : at' < 0
  · go_enter Try.func9, Try.ntmps9
    go_upto_region 1 with (first
    | ((with_reducible show wpList _ _ _ _ _ (World.alloc _ (.cells _ _))); refine mem_newb (l := []) H ?_; intro bc w3 hbk H2; try rw [← hbk]; clear hbk H; have H := H2; clear H2; simp only [List.cons_append, List.nil_append, List.set_cons_zero, List.set_cons_succ, List.setIfInBounds_toArray] at H))
    go_wp2_with (first
    | go_skip
    | (go_at_call 10; refine (shown12 hP _).mono ?_; rintro e w2 ⟨rfl, hb⟩; have H2 := H.call hb; clear H hb; have H := H2; clear H2))
    go_ret
    exact ⟨rfl, H.below⟩
  by_cases q1 : at' > 7
  · go_enter Try.func9, Try.ntmps9
    go_upto_region 1 with (first
    | ((with_reducible show wpList _ _ _ _ _ (World.alloc _ (.cells _ _))); refine mem_newb (l := []) H ?_; intro bc w3 hbk H2; try rw [← hbk]; clear hbk H; have H := H2; clear H2; simp only [List.cons_append, List.nil_append, List.set_cons_zero, List.set_cons_succ, List.setIfInBounds_toArray] at H))
    go_wp2_with (first
    | go_skip
    | (go_at_call 10; refine (shown12 hP _).mono ?_; rintro e w2 ⟨rfl, hb⟩; have H2 := H.call hb; clear H hb; have H := H2; clear H2))
    go_ret
    exact ⟨rfl, H.below⟩
  obtain ⟨a, rfl⟩ := Int.eq_ofNat_of_zero_le (show 0 ≤ at' by omega)
  have ha7 : a ≤ 7 := by omega
  obtain ⟨d, hd⟩ : ∃ d, sm c = d := ⟨_, rfl⟩
  have hdf : d.Fits := by rw [← hd]; exact sm_fits hc
  have hk := kept0
  have O := Lib.hid (show St NoT NoT w w T0 K0 0 z0 0 0 z0 0 from St.start w z0)
  have HF := Lib.hid (fun (X : World) (_ : K0 X) => True.intro)
  go_enter Try.func9, Try.ntmps9
  go_upto_region 1 with (first
    | ((with_reducible show wpList _ _ _ _ _ (World.alloc _ (.cells _ _))); refine mem_newb (l := []) H ?_; intro bc w3 hbk H2; try rw [← hbk]; clear hbk H; have H := H2; clear H2; simp only [List.cons_append, List.nil_append, List.set_cons_zero, List.set_cons_succ, List.setIfInBounds_toArray] at H))
  go_upto_region 2 with (first
    | (go_at_call 10; refine (shown12 hP _).mono ?_; rintro e w2 ⟨rfl, hb⟩; have H2 := H.call hb; clear H hb; have H := H2; clear H2))
  go_upto_region 5 with (first
    | go_skip
    | ((with_reducible show wpList _ _ _ (⟨_, .load 42 _, _, _, _, _⟩ :: _) _ _); refine load_held (H.at 0 rfl) (by first | exact wanted_none rfl | exact wanted_some rfl rfl rfl rfl) (by exact rfl) (by exact rfl) Try.underlying42 rfl cInfo ?_)
    | (go_at_call 23; refine (small_w _ _).mono ?_; rintro e w2 ⟨rfl, hb⟩; have H2 := H.call hb; clear H hb; have H := H2; clear H2)
    | ((with_reducible show wpList _ _ _ (⟨_, .store 42 _ _, _, _, _, _⟩ :: _) _ _); refine mem_store (i := 0) H (by first | exact wanted_none rfl | exact wanted_some rfl rfl rfl rfl) (by exact rfl) (by exact rfl) (by exact rfl) (by exact rfl) (by exact cInfo) (by exact rfl) (by exact rfl) ?_; intro w2 H2; clear H; have H := H2; clear H2; simp only [List.cons_append, List.nil_append, List.set_cons_zero, List.set_cons_succ, List.setIfInBounds_toArray] at H))
  try rw [hd] at H
  obtain ⟨T1, K1, hk1, hK1, hT1, O1⟩ := pack_more NoT.pt NoT.pt hk O.out H
  have F1 := Lib.hid (fun (X : World) (h : K1 X) => And.intro (hK1 X h).2 (HF.out X (hK1 X h).1))
  clear H O hk HF hK1 hT1
  have hk := hk1
  have O := Lib.hid O1
  have HF := F1
  clear hk1 O1 F1
  have H := True.intro
  go_upto_region 6 with (first
    | (go_at_call 11; refine (O.out.newL hP NoT.pt hk 1 (by decide)).mono ?_; rintro e w2 ⟨p, rfl, O2⟩; clear O H; have O := Lib.hid (show SN P w w2 T1 K1 p (X1 zero6 0) 0 from O2); clear O2; have H := Mem.start w2))
  go_upto_region 7 with (first
    | (go_at_call 13; refine (readerL hP NoT.pt hk O.out (by omega) 0 (show 0 < 1 by omega) rfl).mono ?_; rintro e w2 ⟨r, rfl, O2⟩; clear O H; have O := Lib.hid (show SN P w w2 T1 K1 p (YR zero6 0 ⟨r, 0, 0, 0, []⟩) 0 from O2); clear O2; have H := Mem.start w2))
  clear H hd
  go_wp2
  go_loopw [10] (fun iv wr => ∃ (i : Nat) (R : RD), i ≤ a ∧ iv = .int .i64 i ∧ Rd zero6 0 r i R ∧ Hid (SN P w wr T1 K1 p (YR zero6 0 R) 0)) (fun iv _ => a - (intOf iv).toNat)
  case atStart => exact ⟨0, _, Nat.zero_le _, rfl, ⟨rfl, rfl, rfl, fun h => absurd rfl h⟩, O⟩
  case round =>
    clear O
    obtain ⟨i, R, hi, rfl, hR, O⟩ := hrel
    have H := True.intro
    by_cases hlt : i < a
    · have t1 : decide ((i : Int) < (a : Int)) = true := decide_eq_true (by omega)
      go_upto_region 11 with (first
    | go_skip
    | (go_at_call 14; refine (rd_stepL hP hk O.out (by omega) hR (by omega) (by omega)).mono ?_; rintro e w2 ⟨rfl, R', hR', O2⟩; clear O H; have O := Lib.hid O2; clear O2; have H := Mem.start w2)
    | ((with_reducible show wpList _ _ _ _ _ (World.alloc _ (.cells _ _))); refine mem_newb (l := []) H ?_; intro bx w3 hbk H2; try rw [← hbk]; clear hbk H; have H := H2; clear H2; simp only [List.cons_append, List.nil_append, List.set_cons_zero, List.set_cons_succ, List.setIfInBounds_toArray] at H)
    | ((with_reducible show wpList _ _ _ (⟨_, .store 42 _ _, _, _, _, _⟩ :: _) _ _); refine mem_store (i := 0) H (by first | exact wanted_none rfl | exact wanted_some rfl rfl rfl rfl) (by exact rfl) (by exact rfl) (by exact rfl) (by exact rfl) (by exact cInfo) (by exact rfl) (by exact rfl) ?_; intro w2 H2; clear H; have H := H2; clear H2; simp only [List.cons_append, List.nil_append, List.set_cons_zero, List.set_cons_succ, List.setIfInBounds_toArray] at H))
      have O2 := St.on hP.pt NoT.pt hk O.out H.below
      clear H O
      have O := Lib.hid O2
      clear O2
      have H := True.intro
      clear hR
      go_wp2
      go_roundw
      case rel => exact ⟨i + 1, R', by omega, by go_num, hR', O⟩
      case measure => simp [intOf]; omega
    · obtain rfl : i = a := by omega
      have t1 : decide ((i : Int) < (i : Int)) = false := decide_eq_false (by omega)
      have g1 := (HF.out _ O.out.kp).1
      have hz := zero_add6 hdf
      go_upto_region 14 with (first
    | go_skip
    | ((with_reducible show wpList _ _ _ (⟨_, .load 42 _, _, _, _, _⟩ :: _) _ _); refine load_held g1 (by first | exact wanted_none rfl | exact wanted_some rfl rfl rfl rfl) (by exact rfl) (by exact rfl) Try.underlying42 rfl cInfo ?_)
    | (go_at_call 22; refine (told (noteL hP NoT.pt hk O.out (by omega) 0 d (by omega) hdf) (v' := .int .i64 0) (R' := fun w' => SN P w w' T1 K1 p (YR d 2 R) 2) (rfl) (fun _ h => by rw [← hz]; exact h)).mono ?_; rintro e w2 ⟨rfl, O2⟩; clear O H; have O := Lib.hid O2; clear O2; have H := Mem.start w2))
      clear g1 hz
      have hPh : Ph2 i d r i R := .inl ⟨by omega, by
        by_cases h0 : i = 0
        · subst h0
          exact .inl ⟨rfl, hR.r, hR.q, hR.a, fun h => absurd rfl h⟩
        · exact .inr ⟨by omega, hR.r, hR.q, hR.a, by rw [(hR.s h0).1]; decide, by omega⟩⟩
      clear hR H
      go_wp2
      go_loopw [15] (fun iv wr => ∃ (j : Nat) (R : RD), j ≤ 8 ∧ iv = .int .i64 j ∧ Ph2 i d r j R ∧ Hid (SN P w wr T1 K1 p (YR d 2 R) 2)) (fun iv _ => 8 - (intOf iv).toNat)
      case atStart => exact ⟨i, R, by omega, rfl, hPh, O⟩
      case round =>
        clear O hPh
        obtain ⟨j, R, hj, rfl, hPh, O⟩ := hrel
        have H := True.intro
        rcases hPh with ⟨hj8, ⟨h0, hR⟩ | ⟨h0, hR⟩⟩ | ⟨h8, hR⟩
        · have t1 : decide ((j : Int) < 8) = true := decide_eq_true (by omega)
          have y0 : decide ((i : Int) > 0) = false := decide_eq_false (by omega)
          have y1 : ((i : Int) == 0) = true := by simp; omega
          have HH := Lib.hid h0
          clear h0
          by_cases h7 : j = 7
          · subst h7
            have z0 : decide (((7 : Nat) : Int) < 7) = false := by decide
            have z1 : (((7 : Nat) : Int) == 7) = true := by decide
            skip
            skip
            go_upto_region 18 with (first
    | go_skip
    | (go_at_call 14; refine (rd_lastL hP hk O.out (by omega) hR).mono ?_; rintro e w2 ⟨rfl, R', hR', O2⟩; clear O H; have O := Lib.hid O2; clear O2; have H := Mem.start w2)
    | ((with_reducible show wpList _ _ _ _ _ (World.alloc _ (.cells _ _))); refine mem_newb (l := []) H ?_; intro bx w3 hbk H2; try rw [← hbk]; clear hbk H; have H := H2; clear H2; simp only [List.cons_append, List.nil_append, List.set_cons_zero, List.set_cons_succ, List.setIfInBounds_toArray] at H)
    | ((with_reducible show wpList _ _ _ (⟨_, .store 42 _ _, _, _, _, _⟩ :: _) _ _); refine mem_store (i := 0) H (by first | exact wanted_none rfl | exact wanted_some rfl rfl rfl rfl) (by exact rfl) (by exact rfl) (by exact rfl) (by exact rfl) (by exact cInfo) (by exact rfl) (by exact rfl) ?_; intro w2 H2; clear H; have H := H2; clear H2; simp only [List.cons_append, List.nil_append, List.set_cons_zero, List.set_cons_succ, List.setIfInBounds_toArray] at H))
            obtain ⟨T2, K2, hk2, hK2, hT2, O2⟩ := pack_more hP.pt NoT.pt hk O.out H
            have F2 := Lib.hid (fun (X : World) (h : K2 X) => And.intro (hK2 X h).2 (HF.out X (hK2 X h).1))
            clear H O HF
            have O := Lib.hid O2
            have HF := F2
            clear O2 F2
            have H := True.intro
            have gx := (HF.out _ O.out.kp).1
            have g1 := (HF.out _ O.out.kp).2.1
            have d0 : World.cell? _ ⟨bx, 0, none⟩ = some (.int .u64 d.c0) := gx.cell 0
            have d1 : World.cell? _ ⟨bx, 1, none⟩ = some (.int .u64 d.c1) := gx.cell 1
            have d2 : World.cell? _ ⟨bx, 2, none⟩ = some (.int .u64 d.c2) := gx.cell 2
            have d3 : World.cell? _ ⟨bx, 3, none⟩ = some (.int .u64 d.c3) := gx.cell 3
            have d4 : World.cell? _ ⟨bx, 4, none⟩ = some (.int .u64 d.c4) := gx.cell 4
            have d5 : World.cell? _ ⟨bx, 5, none⟩ = some (.int .u64 d.c5) := gx.cell 5
            have f0 : World.cell? _ ⟨bc, 0, none⟩ = some (.int .u64 d.c0) := g1.cell 0
            have f1 : World.cell? _ ⟨bc, 1, none⟩ = some (.int .u64 d.c1) := g1.cell 1
            have f2 : World.cell? _ ⟨bc, 2, none⟩ = some (.int .u64 d.c2) := g1.cell 2
            have f3 : World.cell? _ ⟨bc, 3, none⟩ = some (.int .u64 d.c3) := g1.cell 3
            have f4 : World.cell? _ ⟨bc, 4, none⟩ = some (.int .u64 d.c4) := g1.cell 4
            have f5 : World.cell? _ ⟨bc, 5, none⟩ = some (.int .u64 d.c5) := g1.cell 5
            clear hR H
            go_wp2_with (first
          | ((with_reducible show wpList _ _ _ (⟨_, .binOp .neq 42 _ _ _, _, _, _, _⟩ :: _) _ _); refine wpList_neq (by first | exact wanted_none rfl | exact wanted_some rfl rfl rfl rfl) (by exact rfl) (by exact rfl) (by exact rfl) (r := true) (by simp) ?_)
          | ((with_reducible show wpList _ _ _ (⟨_, .load 42 _, _, _, _, _⟩ :: _) _ _); refine load_held gx (by first | exact wanted_none rfl | exact wanted_some rfl rfl rfl rfl) (by exact rfl) (by exact rfl) Try.underlying42 rfl cInfo ?_)
          | ((with_reducible show wpList _ _ _ (⟨_, .load 42 _, _, _, _, _⟩ :: _) _ _); refine load_held g1 (by first | exact wanted_none rfl | exact wanted_some rfl rfl rfl rfl) (by exact rfl) (by exact rfl) Try.underlying42 rfl cInfo ?_))
            any_goals (exfalso; have := HH.out; omega)
            have O2 := O.out.less (T' := T1) (K' := K1) (fun i hi => hT2 i hi) (fun h => (hK2 _ h).1)
            clear O
            have O := Lib.hid O2
            clear O2
            go_roundw
            case rel => exact ⟨8, R', by omega, by go_num, .inr ⟨rfl, hR'⟩, O⟩
            case measure => simp [intOf]
          · have z0 : decide ((j : Int) < 7) = true := decide_eq_true (by omega)
            have z1 : ((j : Int) == 7) = false := by simp; omega
            go_upto_region 18 with (first
    | go_skip
    | (go_at_call 14; refine (rd_stepL hP hk O.out (by omega) hR (by omega) (by omega)).mono ?_; rintro e w2 ⟨rfl, R', hR', O2⟩; clear O H; have O := Lib.hid O2; clear O2; have H := Mem.start w2)
    | ((with_reducible show wpList _ _ _ _ _ (World.alloc _ (.cells _ _))); refine mem_newb (l := []) H ?_; intro bx w3 hbk H2; try rw [← hbk]; clear hbk H; have H := H2; clear H2; simp only [List.cons_append, List.nil_append, List.set_cons_zero, List.set_cons_succ, List.setIfInBounds_toArray] at H)
    | ((with_reducible show wpList _ _ _ (⟨_, .store 42 _ _, _, _, _, _⟩ :: _) _ _); refine mem_store (i := 0) H (by first | exact wanted_none rfl | exact wanted_some rfl rfl rfl rfl) (by exact rfl) (by exact rfl) (by exact rfl) (by exact rfl) (by exact cInfo) (by exact rfl) (by exact rfl) ?_; intro w2 H2; clear H; have H := H2; clear H2; simp only [List.cons_append, List.nil_append, List.set_cons_zero, List.set_cons_succ, List.setIfInBounds_toArray] at H))
            have O2 := St.on hP.pt NoT.pt hk O.out H.below
            clear H O
            have O := Lib.hid O2
            clear O2
            have H := True.intro
            clear hR H
            go_wp2
            go_roundw
            case rel => exact ⟨j + 1, R', by omega, by go_num, .inl ⟨by omega, .inl ⟨HH.out, hR'⟩⟩, O⟩
            case measure => simp [intOf]; omega
        · have t1 : decide ((j : Int) < 8) = true := decide_eq_true (by omega)
          by_cases h7 : j = 7
          · subst h7
            have z0 : decide (((7 : Nat) : Int) < 7) = false := by decide
            have z1 : (((7 : Nat) : Int) == 7) = true := by decide
            have y0 : decide ((i : Int) > 0) = true := decide_eq_true (by omega)
            have y1 : ((i : Int) == 0) = false := by simp; omega
            go_upto_region 18 with (first
    | go_skip
    | (go_at_call 14; refine (rs_lastL hP hk O.out (by omega) hR).mono ?_; rintro e w2 ⟨rfl, R', hR', O2⟩; clear O H; have O := Lib.hid O2; clear O2; have H := Mem.start w2)
    | ((with_reducible show wpList _ _ _ _ _ (World.alloc _ (.cells _ _))); refine mem_newb (l := []) H ?_; intro bx w3 hbk H2; try rw [← hbk]; clear hbk H; have H := H2; clear H2; simp only [List.cons_append, List.nil_append, List.set_cons_zero, List.set_cons_succ, List.setIfInBounds_toArray] at H)
    | ((with_reducible show wpList _ _ _ (⟨_, .store 42 _ _, _, _, _, _⟩ :: _) _ _); refine mem_store (i := 0) H (by first | exact wanted_none rfl | exact wanted_some rfl rfl rfl rfl) (by exact rfl) (by exact rfl) (by exact rfl) (by exact rfl) (by exact cInfo) (by exact rfl) (by exact rfl) ?_; intro w2 H2; clear H; have H := H2; clear H2; simp only [List.cons_append, List.nil_append, List.set_cons_zero, List.set_cons_succ, List.setIfInBounds_toArray] at H))
            have O2 := St.on hP.pt NoT.pt hk O.out H.below
            clear H O
            have O := Lib.hid O2
            clear O2
            have H := True.intro
            clear hR H
            go_wp2
            have O2 := O.out
            clear O
            have O := Lib.hid O2
            clear O2
            go_roundw
            case rel => exact ⟨8, R', by omega, by go_num, .inr ⟨rfl, hR'⟩, O⟩
            case measure => simp [intOf]
          · have z0 : decide ((j : Int) < 7) = true := decide_eq_true (by omega)
            have z1 : ((j : Int) == 7) = false := by simp; omega
            go_upto_region 18 with (first
    | go_skip
    | (go_at_call 14; refine (rs_stepL hP hk O.out (by omega) hR (by omega)).mono ?_; rintro e w2 ⟨rfl, R', hR', O2⟩; clear O H; have O := Lib.hid O2; clear O2; have H := Mem.start w2)
    | ((with_reducible show wpList _ _ _ _ _ (World.alloc _ (.cells _ _))); refine mem_newb (l := []) H ?_; intro bx w3 hbk H2; try rw [← hbk]; clear hbk H; have H := H2; clear H2; simp only [List.cons_append, List.nil_append, List.set_cons_zero, List.set_cons_succ, List.setIfInBounds_toArray] at H)
    | ((with_reducible show wpList _ _ _ (⟨_, .store 42 _ _, _, _, _, _⟩ :: _) _ _); refine mem_store (i := 0) H (by first | exact wanted_none rfl | exact wanted_some rfl rfl rfl rfl) (by exact rfl) (by exact rfl) (by exact rfl) (by exact rfl) (by exact cInfo) (by exact rfl) (by exact rfl) ?_; intro w2 H2; clear H; have H := H2; clear H2; simp only [List.cons_append, List.nil_append, List.set_cons_zero, List.set_cons_succ, List.setIfInBounds_toArray] at H))
            have O2 := St.on hP.pt NoT.pt hk O.out H.below
            clear H O
            have O := Lib.hid O2
            clear O2
            have H := True.intro
            clear hR H
            go_wp2
            go_roundw
            case rel => exact ⟨j + 1, R', by omega, by go_num, .inl ⟨by omega, .inr ⟨h0, hR'⟩⟩, O⟩
            case measure => simp [intOf]; omega
        · have t1 : decide ((j : Int) < 8) = false := decide_eq_false (by omega)
          have HJ8 := Lib.hid h8
          clear h8
          go_wp2
          go_loopw [19] (fun iv wr => ∃ (m : Nat) (R : RD), m ≤ 8 ∧ iv = .int .i64 m ∧ ((m < 8 ∧ Rd d 2 r m R) ∨ m = 8) ∧ Hid (SN P w wr T1 K1 p (YR d 2 R) 2)) (fun iv _ => 8 - (intOf iv).toNat)
          case atStart => exact ⟨0, R, by omega, rfl, .inl ⟨by omega, hR⟩, O⟩
          case round =>
            clear O hR
            obtain ⟨m, R, hm, rfl, hPh, O⟩ := hrel
            have H := True.intro
            rcases hPh with ⟨hm8, hR⟩ | h8
            · have t2 : decide ((m : Int) < 8) = true := decide_eq_true (by omega)
              by_cases h7 : m = 7
              · subst h7
                have z1 : (((7 : Nat) : Int) == 7) = true := by decide
                go_upto_region 24 with (first
    | go_skip
    | (go_at_call 14; refine (rd_lastL hP hk O.out (by omega) hR).mono ?_; rintro e w2 ⟨rfl, R', hR', O2⟩; clear O H; have O := Lib.hid O2; clear O2; have H := Mem.start w2)
    | ((with_reducible show wpList _ _ _ _ _ (World.alloc _ (.cells _ _))); refine mem_newb (l := []) H ?_; intro bx w3 hbk H2; try rw [← hbk]; clear hbk H; have H := H2; clear H2; simp only [List.cons_append, List.nil_append, List.set_cons_zero, List.set_cons_succ, List.setIfInBounds_toArray] at H)
    | ((with_reducible show wpList _ _ _ (⟨_, .store 42 _ _, _, _, _, _⟩ :: _) _ _); refine mem_store (i := 0) H (by first | exact wanted_none rfl | exact wanted_some rfl rfl rfl rfl) (by exact rfl) (by exact rfl) (by exact rfl) (by exact rfl) (by exact cInfo) (by exact rfl) (by exact rfl) ?_; intro w2 H2; clear H; have H := H2; clear H2; simp only [List.cons_append, List.nil_append, List.set_cons_zero, List.set_cons_succ, List.setIfInBounds_toArray] at H))
                obtain ⟨T2, K2, hk2, hK2, hT2, O2⟩ := pack_more hP.pt NoT.pt hk O.out H
                have F2 := Lib.hid (fun (X : World) (h : K2 X) => And.intro (hK2 X h).2 (HF.out X (hK2 X h).1))
                clear H O HF
                have O := Lib.hid O2
                have HF := F2
                clear O2 F2
                have H := True.intro
                have gx := (HF.out _ O.out.kp).1
                have g1 := (HF.out _ O.out.kp).2.1
                have d0 : World.cell? _ ⟨bx, 0, none⟩ = some (.int .u64 d.c0) := gx.cell 0
                have d1 : World.cell? _ ⟨bx, 1, none⟩ = some (.int .u64 d.c1) := gx.cell 1
                have d2 : World.cell? _ ⟨bx, 2, none⟩ = some (.int .u64 d.c2) := gx.cell 2
                have d3 : World.cell? _ ⟨bx, 3, none⟩ = some (.int .u64 d.c3) := gx.cell 3
                have d4 : World.cell? _ ⟨bx, 4, none⟩ = some (.int .u64 d.c4) := gx.cell 4
                have d5 : World.cell? _ ⟨bx, 5, none⟩ = some (.int .u64 d.c5) := gx.cell 5
                have f0 : World.cell? _ ⟨bc, 0, none⟩ = some (.int .u64 d.c0) := g1.cell 0
                have f1 : World.cell? _ ⟨bc, 1, none⟩ = some (.int .u64 d.c1) := g1.cell 1
                have f2 : World.cell? _ ⟨bc, 2, none⟩ = some (.int .u64 d.c2) := g1.cell 2
                have f3 : World.cell? _ ⟨bc, 3, none⟩ = some (.int .u64 d.c3) := g1.cell 3
                have f4 : World.cell? _ ⟨bc, 4, none⟩ = some (.int .u64 d.c4) := g1.cell 4
                have f5 : World.cell? _ ⟨bc, 5, none⟩ = some (.int .u64 d.c5) := g1.cell 5
                clear hR H
                go_wp2_with (first
          | ((with_reducible show wpList _ _ _ (⟨_, .binOp .neq 42 _ _ _, _, _, _, _⟩ :: _) _ _); refine wpList_neq (by first | exact wanted_none rfl | exact wanted_some rfl rfl rfl rfl) (by exact rfl) (by exact rfl) (by exact rfl) (r := true) (by simp) ?_)
          | ((with_reducible show wpList _ _ _ (⟨_, .load 42 _, _, _, _, _⟩ :: _) _ _); refine load_held gx (by first | exact wanted_none rfl | exact wanted_some rfl rfl rfl rfl) (by exact rfl) (by exact rfl) Try.underlying42 rfl cInfo ?_)
          | ((with_reducible show wpList _ _ _ (⟨_, .load 42 _, _, _, _, _⟩ :: _) _ _); refine load_held g1 (by first | exact wanted_none rfl | exact wanted_some rfl rfl rfl rfl) (by exact rfl) (by exact rfl) Try.underlying42 rfl cInfo ?_))
                have O2 := O.out.less (T' := T1) (K' := K1) (fun i hi => hT2 i hi) (fun h => (hK2 _ h).1)
                clear O
                have O := Lib.hid O2
                clear O2
                go_roundw
                case rel => exact ⟨8, R', by omega, by go_num, .inr rfl, O⟩
                case measure => simp [intOf]
              · have z1 : ((m : Int) == 7) = false := by simp; omega
                go_upto_region 24 with (first
    | go_skip
    | (go_at_call 14; refine (rd_stepL hP hk O.out (by omega) hR (by omega) (by omega)).mono ?_; rintro e w2 ⟨rfl, R', hR', O2⟩; clear O H; have O := Lib.hid O2; clear O2; have H := Mem.start w2)
    | ((with_reducible show wpList _ _ _ _ _ (World.alloc _ (.cells _ _))); refine mem_newb (l := []) H ?_; intro bx w3 hbk H2; try rw [← hbk]; clear hbk H; have H := H2; clear H2; simp only [List.cons_append, List.nil_append, List.set_cons_zero, List.set_cons_succ, List.setIfInBounds_toArray] at H)
    | ((with_reducible show wpList _ _ _ (⟨_, .store 42 _ _, _, _, _, _⟩ :: _) _ _); refine mem_store (i := 0) H (by first | exact wanted_none rfl | exact wanted_some rfl rfl rfl rfl) (by exact rfl) (by exact rfl) (by exact rfl) (by exact rfl) (by exact cInfo) (by exact rfl) (by exact rfl) ?_; intro w2 H2; clear H; have H := H2; clear H2; simp only [List.cons_append, List.nil_append, List.set_cons_zero, List.set_cons_succ, List.setIfInBounds_toArray] at H))
                have O2 := St.on hP.pt NoT.pt hk O.out H.below
                clear H O
                have O := Lib.hid O2
                clear O2
                have H := True.intro
                clear hR H
                go_wp2
                go_roundw
                case rel => exact ⟨m + 1, R', by omega, by go_num, .inl ⟨by omega, hR'⟩, O⟩
                case measure => simp [intOf]; omega
            · subst h8
              have t2 : decide (((8 : Nat) : Int) < 8) = false := by decide
              go_wp2
              go_ret
              exact ⟨by simp, O.out.bel⟩
end
end Go.Proofs.Ytdhjdkhhhdcjdaa.Ta
end
