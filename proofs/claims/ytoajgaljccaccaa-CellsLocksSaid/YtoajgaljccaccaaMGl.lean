/-
  CellsLocks, walked. Conditions: as the interface says; the acts lie where their slice says.
-/
import Derived.Test.YtoajgaljccaccaaMGk
/- CellsLocks, walked. Conditions: as the interface says; the acts lie where their slice says. -/
section
namespace Go.Proofs.Ytoajgaljccaccaa.Ce
set_option linter.unusedSimpArgs false
set_option linter.unusedVariables false
set_option maxRecDepth 100000
open Go.ChangeShapes Go.WideShapes Go.ChangeAt Go.RowKit

theorem mem_of {W0 W : World} (h : Below W0.heap.size W0 W) : Mem W0 W [] := ⟨h, (fun _ h => by cases h), .nil⟩
abbrev lS (h : Int) : CC := ⟨[], [h + 1], []⟩
theorem l_bad {h a : Int} (ha : a < 0 ∨ 63 < a) : unlockE (lS h) 0 a = 2 ∧ unlockS (lS h) 0 a = lS h ∧ lockE (lS h) 0 a = 2 ∧ lockS (lS h) 0 a = lS h := by
  have e : actor a = false := by simp [actor]; omega
  have e1 : unlockE (lS h) 0 a = 2 := by simp [unlockE, e]
  have e2 : lockE (lS h) 0 a = 2 := by simp [lockE, e]
  exact ⟨e1, by rw [unlockS, e1]; rfl, e2, by rw [lockS, e2]; rfl⟩
theorem l_un {h a : Int} (ha : 0 ≤ a ∧ a ≤ 63) (e : h = a) : unlockE (lS h) 0 a = 0 ∧ unlockS (lS h) 0 a = lS (-1) := by
  have e0 : actor a = true := by simp [actor]; omega
  have e1 : unlockE (lS h) 0 a = 0 := by simp [unlockE, has, val, e0, e]
  exact ⟨e1, by rw [unlockS, if_pos e1]; rfl⟩
theorem l_not {h a : Int} (ha : 0 ≤ a ∧ a ≤ 63) (e : ¬ h = a) : unlockE (lS h) 0 a = 110 ∧ unlockS (lS h) 0 a = lS h := by
  have e0 : actor a = true := by simp [actor]; omega
  have e1 : unlockE (lS h) 0 a = 110 := by simp [unlockE, has, val, e0]; omega
  exact ⟨e1, by rw [unlockS, e1]; rfl⟩
theorem l_lock {a : Int} (ha : 0 ≤ a ∧ a ≤ 63) : lockE (lS (-1)) 0 a = 0 ∧ lockS (lS (-1)) 0 a = lS a := by
  have e0 : actor a = true := by simp [actor]; omega
  have e1 : lockE (lS (-1)) 0 a = 0 := by simp [lockE, has, val, e0]
  exact ⟨e1, by rw [lockS, if_pos e1]; rfl⟩
theorem l_held {h a : Int} (ha : 0 ≤ a ∧ a ≤ 63) (e : 0 ≤ h) : lockE (lS h) 0 a = 110 ∧ lockS (lS h) 0 a = lS h := by
  have e0 : actor a = true := by simp [actor]; omega
  have e1 : lockE (lS h) 0 a = 110 := by simp [lockE, has, val, e0]; omega
  exact ⟨e1, by rw [lockS, e1]; rfl⟩
theorem l_holder (h : Int) : holder (lS h) 0 = h := by
  show h + 1 - 1 = h
  omega
section
variable {P : PT}
set_option maxHeartbeats 4000000 in
theorem locks_w (hP : PCells P) (A : Option Addr) (len cap : Nat) (xs : Nat → AX) (hl : len ≤ cap) (hc : cap ≤ maxLen) (w : World) (hA : ActsX w A len xs) : Calls Try.prog 5 #[.slice A len cap] w fun e w' => e = .returned (.bool true) ∧ Below w.heap.size w w' := by
  have H := Mem.start w
  have HA := Lib.hid hA
  unfold maxLen at hc
  clear hA
  have O := Lib.hid (St.start w ⟨[], [], []⟩)
  go_enter Try.func5, Try.ntmps5
  go_upto_region 2 with (first
    | (go_at_call 10; refine (shown11s hP w _ O.out).mono ?_; rintro e w2 ⟨rfl, O2⟩; clear O H; have O := Lib.hid O2; clear O2; have H := Mem.start w2))
  go_upto_region 3 with (first
    | (go_at_call 11; refine (O.out.newP hP NoT.pt (Kept.no _) 0 1 0 (by decide)).mono ?_; rintro e w2 ⟨p, rfl, O2⟩; clear O H; have O := Lib.hid (show SN P w w2 p (zeroC 0 1 0) 0 from O2); clear O2; have H := Mem.start w2))
  have HO := Lib.hid (show SN P w w2 p (lS (-1)) 0 from O.out)
  clear O
  go_wp2
  go_loopw [6, 7] (fun hv iv wr => ∃ (k : Nat) (h : Int), k ≤ len ∧ k ≤ 80 ∧ -1 ≤ h ∧ h ≤ 63 ∧ hv = .int .i64 h ∧ iv = .int .i64 k ∧ Hid (SN P w wr p (lS h) 0)) (fun _ iv _ => len - (intOf iv).toNat)
  case atStart => exact ⟨0, -1, Nat.zero_le _, Nat.zero_le _, by omega, by omega, rfl, rfl, Lib.hid HO.out⟩
  case round =>
    clear HO H
    obtain ⟨k, h, hk, hk80, hh1, hh2, rfl, rfl, O⟩ := hrel
    have H := mem_of O.out.bel
    by_cases hlt : k < len ∧ k < 80
    · obtain ⟨bA, off, hA, hb, hx⟩ := HA.out.plain axC_len (by decide) (by omega)
      obtain ⟨hfit, hcells⟩ := hx k hlt.1
      have t1 : decide ((k : Int) < (len : Int)) = true := decide_eq_true (by omega)
      have t2 : decide ((k : Int) < 80) = true := decide_eq_true (by omega)
      have c0 : w.cell? ⟨bA, off + k * 5, none⟩ = some (.int .i64 (xs k).d) := hcells 0 _ rfl
      have c2 : w.cell? ⟨bA, off + k * 5 + 2, none⟩ = some (.int .i64 (xs k).a) := hcells 2 _ rfl
      have hai := hfit.a
      have hdi := hfit.d
      generalize (xs k).a = a at *
      generalize (xs k).d = d at *
      subst hA
      clear hfit hcells hx
      go_upto_region 8 with (first
    | go_skip
    | ((with_reducible show wpList _ _ _ (⟨_, .load 3 _, _, _, _, _⟩ :: _) _ _); refine mem_loado H c2 hb (by first | exact wanted_none rfl | exact wanted_some rfl rfl rfl rfl) (by exact rfl) (by exact rfl) Try.underlying3 rfl ?_))
      by_cases hd : d.tmod 2 = 0
      · have td : (d.tmod 2 != 0) = false := by simpa using hd
        by_cases hbad : a < 0 ∨ 63 < a
        · have e := l_bad (h := h) hbad
          by_cases h0 : a < 0
          · skip
            have y0 : decide (a ≥ 0) = false := by simp; omega
            go_upto_region 16 with (first
      | go_skip
      | ((with_reducible show wpList _ _ _ (⟨_, .load 3 _, _, _, _, _⟩ :: _) _ _); refine mem_loado H c0 hb (by first | exact wanted_none rfl | exact wanted_some rfl rfl rfl rfl) (by exact rfl) (by exact rfl) Try.underlying3 rfl ?_)
      | (go_at_call 23; refine (told (lockP hP NoT.pt (Kept.no _) O.out (by omega) 0 a (by omega) hai) (v' := .int .i64 2) (R' := fun w' => SN P w w' p (lS (h)) 0) (by rw [e.2.2.1]) (fun _ h => by rw [e.2.2.2] at h; exact h)).mono ?_; rintro e w2 ⟨rfl, O2⟩; clear O H; have O := Lib.hid O2; have H := mem_of O2.bel; clear O2))
            go_wp2_with (first
      | go_skip
      | (go_at_call 16; refine (told (holderP hP NoT.pt (Kept.no _) O.out (by omega) 0 (by omega)) (v' := .int .i64 (h)) (R' := fun w' => SN P w w' p (lS (h)) 0) (by rw [l_holder]) (fun _ h => h)).mono ?_; rintro e w2 ⟨rfl, O2⟩; clear O H; have O := Lib.hid O2; have H := mem_of O2.bel; clear O2))
            go_roundw
            case rel => exact ⟨k + 1, h, by omega, by omega, by omega, by omega, rfl, by go_num, O⟩
            case measure => simp [intOf]; omega
          · skip
            have y0 : decide (a ≥ 0) = true := by simp; omega
            have y1 : decide (a < 64) = false := by simp; omega
            go_upto_region 16 with (first
      | go_skip
      | ((with_reducible show wpList _ _ _ (⟨_, .load 3 _, _, _, _, _⟩ :: _) _ _); refine mem_loado H c0 hb (by first | exact wanted_none rfl | exact wanted_some rfl rfl rfl rfl) (by exact rfl) (by exact rfl) Try.underlying3 rfl ?_)
      | (go_at_call 23; refine (told (lockP hP NoT.pt (Kept.no _) O.out (by omega) 0 a (by omega) hai) (v' := .int .i64 2) (R' := fun w' => SN P w w' p (lS (h)) 0) (by rw [e.2.2.1]) (fun _ h => by rw [e.2.2.2] at h; exact h)).mono ?_; rintro e w2 ⟨rfl, O2⟩; clear O H; have O := Lib.hid O2; have H := mem_of O2.bel; clear O2))
            go_wp2_with (first
      | go_skip
      | (go_at_call 16; refine (told (holderP hP NoT.pt (Kept.no _) O.out (by omega) 0 (by omega)) (v' := .int .i64 (h)) (R' := fun w' => SN P w w' p (lS (h)) 0) (by rw [l_holder]) (fun _ h => h)).mono ?_; rintro e w2 ⟨rfl, O2⟩; clear O H; have O := Lib.hid O2; have H := mem_of O2.bel; clear O2))
            go_roundw
            case rel => exact ⟨k + 1, h, by omega, by omega, by omega, by omega, rfl, by go_num, O⟩
            case measure => simp [intOf]; omega
        · have hr : 0 ≤ a ∧ a ≤ 63 := by omega
          by_cases h0 : h < 0
          · obtain rfl : h = -1 := by omega
            have y0 : decide (a ≥ 0) = true := by simp; omega
            have y1 : decide (a < 64) = true := by simp; omega
            go_upto_region 16 with (first
      | go_skip
      | ((with_reducible show wpList _ _ _ (⟨_, .load 3 _, _, _, _, _⟩ :: _) _ _); refine mem_loado H c0 hb (by first | exact wanted_none rfl | exact wanted_some rfl rfl rfl rfl) (by exact rfl) (by exact rfl) Try.underlying3 rfl ?_)
      | (go_at_call 23; refine (told (lockP hP NoT.pt (Kept.no _) O.out (by omega) 0 a (by omega) hai) (v' := .int .i64 0) (R' := fun w' => SN P w w' p (lS (a)) 0) (by rw [(l_lock hr).1]) (fun _ h => by rw [(l_lock hr).2] at h; exact h)).mono ?_; rintro e w2 ⟨rfl, O2⟩; clear O H; have O := Lib.hid O2; have H := mem_of O2.bel; clear O2))
            go_wp2_with (first
      | go_skip
      | (go_at_call 16; refine (told (holderP hP NoT.pt (Kept.no _) O.out (by omega) 0 (by omega)) (v' := .int .i64 (a)) (R' := fun w' => SN P w w' p (lS (a)) 0) (by rw [l_holder]) (fun _ h => h)).mono ?_; rintro e w2 ⟨rfl, O2⟩; clear O H; have O := Lib.hid O2; have H := mem_of O2.bel; clear O2))
            go_roundw
            case rel => exact ⟨k + 1, a, by omega, by omega, by omega, by omega, rfl, by go_num, O⟩
            case measure => simp [intOf]; omega
          · skip
            have y0 : decide (a ≥ 0) = true := by simp; omega
            have y1 : decide (a < 64) = true := by simp; omega
            go_upto_region 16 with (first
      | go_skip
      | ((with_reducible show wpList _ _ _ (⟨_, .load 3 _, _, _, _, _⟩ :: _) _ _); refine mem_loado H c0 hb (by first | exact wanted_none rfl | exact wanted_some rfl rfl rfl rfl) (by exact rfl) (by exact rfl) Try.underlying3 rfl ?_)
      | (go_at_call 23; refine (told (lockP hP NoT.pt (Kept.no _) O.out (by omega) 0 a (by omega) hai) (v' := .int .i64 110) (R' := fun w' => SN P w w' p (lS (h)) 0) (by rw [(l_held hr (by omega)).1]) (fun _ h => by rw [(l_held hr (by omega)).2] at h; exact h)).mono ?_; rintro e w2 ⟨rfl, O2⟩; clear O H; have O := Lib.hid O2; have H := mem_of O2.bel; clear O2))
            go_wp2_with (first
      | go_skip
      | (go_at_call 16; refine (told (holderP hP NoT.pt (Kept.no _) O.out (by omega) 0 (by omega)) (v' := .int .i64 (h)) (R' := fun w' => SN P w w' p (lS (h)) 0) (by rw [l_holder]) (fun _ h => h)).mono ?_; rintro e w2 ⟨rfl, O2⟩; clear O H; have O := Lib.hid O2; have H := mem_of O2.bel; clear O2))
            go_roundw
            case rel => exact ⟨k + 1, h, by omega, by omega, by omega, by omega, rfl, by go_num, O⟩
            case measure => simp [intOf]; omega
      · have td : (d.tmod 2 != 0) = true := by simpa using hd
        by_cases hbad : a < 0 ∨ 63 < a
        · have e := l_bad (h := h) hbad
          by_cases h0 : a < 0
          · skip
            have y0 : decide (a ≥ 0) = false := by simp; omega
            go_upto_region 11 with (first
      | go_skip
      | ((with_reducible show wpList _ _ _ (⟨_, .load 3 _, _, _, _, _⟩ :: _) _ _); refine mem_loado H c0 hb (by first | exact wanted_none rfl | exact wanted_some rfl rfl rfl rfl) (by exact rfl) (by exact rfl) Try.underlying3 rfl ?_)
      | (go_at_call 24; refine (told (unlockP hP NoT.pt (Kept.no _) O.out (by omega) 0 a (by omega) hai) (v' := .int .i64 2) (R' := fun w' => SN P w w' p (lS (h)) 0) (by rw [e.1]) (fun _ h => by rw [e.2.1] at h; exact h)).mono ?_; rintro e w2 ⟨rfl, O2⟩; clear O H; have O := Lib.hid O2; have H := mem_of O2.bel; clear O2))
            go_wp2_with (first
      | go_skip
      | (go_at_call 16; refine (told (holderP hP NoT.pt (Kept.no _) O.out (by omega) 0 (by omega)) (v' := .int .i64 (h)) (R' := fun w' => SN P w w' p (lS (h)) 0) (by rw [l_holder]) (fun _ h => h)).mono ?_; rintro e w2 ⟨rfl, O2⟩; clear O H; have O := Lib.hid O2; have H := mem_of O2.bel; clear O2))
            go_roundw
            case rel => exact ⟨k + 1, h, by omega, by omega, by omega, by omega, rfl, by go_num, O⟩
            case measure => simp [intOf]; omega
          · skip
            have y0 : decide (a ≥ 0) = true := by simp; omega
            have y1 : decide (a < 64) = false := by simp; omega
            go_upto_region 11 with (first
      | go_skip
      | ((with_reducible show wpList _ _ _ (⟨_, .load 3 _, _, _, _, _⟩ :: _) _ _); refine mem_loado H c0 hb (by first | exact wanted_none rfl | exact wanted_some rfl rfl rfl rfl) (by exact rfl) (by exact rfl) Try.underlying3 rfl ?_)
      | (go_at_call 24; refine (told (unlockP hP NoT.pt (Kept.no _) O.out (by omega) 0 a (by omega) hai) (v' := .int .i64 2) (R' := fun w' => SN P w w' p (lS (h)) 0) (by rw [e.1]) (fun _ h => by rw [e.2.1] at h; exact h)).mono ?_; rintro e w2 ⟨rfl, O2⟩; clear O H; have O := Lib.hid O2; have H := mem_of O2.bel; clear O2))
            go_wp2_with (first
      | go_skip
      | (go_at_call 16; refine (told (holderP hP NoT.pt (Kept.no _) O.out (by omega) 0 (by omega)) (v' := .int .i64 (h)) (R' := fun w' => SN P w w' p (lS (h)) 0) (by rw [l_holder]) (fun _ h => h)).mono ?_; rintro e w2 ⟨rfl, O2⟩; clear O H; have O := Lib.hid O2; have H := mem_of O2.bel; clear O2))
            go_roundw
            case rel => exact ⟨k + 1, h, by omega, by omega, by omega, by omega, rfl, by go_num, O⟩
            case measure => simp [intOf]; omega
        · have hr : 0 ≤ a ∧ a ≤ 63 := by omega
          by_cases h0 : h = a
          · skip
            have y0 : decide (a ≥ 0) = true := by simp; omega
            have y1 : decide (a < 64) = true := by simp; omega
            have y2 : (h == a) = true := by simpa using h0
            go_upto_region 11 with (first
      | go_skip
      | ((with_reducible show wpList _ _ _ (⟨_, .load 3 _, _, _, _, _⟩ :: _) _ _); refine mem_loado H c0 hb (by first | exact wanted_none rfl | exact wanted_some rfl rfl rfl rfl) (by exact rfl) (by exact rfl) Try.underlying3 rfl ?_)
      | (go_at_call 24; refine (told (unlockP hP NoT.pt (Kept.no _) O.out (by omega) 0 a (by omega) hai) (v' := .int .i64 0) (R' := fun w' => SN P w w' p (lS (-1)) 0) (by rw [(l_un hr h0).1]) (fun _ h => by rw [(l_un hr h0).2] at h; exact h)).mono ?_; rintro e w2 ⟨rfl, O2⟩; clear O H; have O := Lib.hid O2; have H := mem_of O2.bel; clear O2))
            go_wp2_with (first
      | go_skip
      | (go_at_call 16; refine (told (holderP hP NoT.pt (Kept.no _) O.out (by omega) 0 (by omega)) (v' := .int .i64 (-1)) (R' := fun w' => SN P w w' p (lS (-1)) 0) (by rw [l_holder]) (fun _ h => h)).mono ?_; rintro e w2 ⟨rfl, O2⟩; clear O H; have O := Lib.hid O2; have H := mem_of O2.bel; clear O2))
            go_roundw
            case rel => exact ⟨k + 1, -1, by omega, by omega, by omega, by omega, rfl, by go_num, O⟩
            case measure => simp [intOf]; omega
          · skip
            have y0 : decide (a ≥ 0) = true := by simp; omega
            have y1 : decide (a < 64) = true := by simp; omega
            have y2 : (h == a) = false := by simpa using h0
            go_upto_region 11 with (first
      | go_skip
      | ((with_reducible show wpList _ _ _ (⟨_, .load 3 _, _, _, _, _⟩ :: _) _ _); refine mem_loado H c0 hb (by first | exact wanted_none rfl | exact wanted_some rfl rfl rfl rfl) (by exact rfl) (by exact rfl) Try.underlying3 rfl ?_)
      | (go_at_call 24; refine (told (unlockP hP NoT.pt (Kept.no _) O.out (by omega) 0 a (by omega) hai) (v' := .int .i64 110) (R' := fun w' => SN P w w' p (lS (h)) 0) (by rw [(l_not hr h0).1]) (fun _ h => by rw [(l_not hr h0).2] at h; exact h)).mono ?_; rintro e w2 ⟨rfl, O2⟩; clear O H; have O := Lib.hid O2; have H := mem_of O2.bel; clear O2))
            go_wp2_with (first
      | go_skip
      | (go_at_call 16; refine (told (holderP hP NoT.pt (Kept.no _) O.out (by omega) 0 (by omega)) (v' := .int .i64 (h)) (R' := fun w' => SN P w w' p (lS (h)) 0) (by rw [l_holder]) (fun _ h => h)).mono ?_; rintro e w2 ⟨rfl, O2⟩; clear O H; have O := Lib.hid O2; have H := mem_of O2.bel; clear O2))
            go_roundw
            case rel => exact ⟨k + 1, h, by omega, by omega, by omega, by omega, rfl, by go_num, O⟩
            case measure => simp [intOf]; omega
    · by_cases hl2 : k < len
      · have t1 : decide ((k : Int) < (len : Int)) = true := decide_eq_true (by omega)
        have t2 : decide ((k : Int) < 80) = false := decide_eq_false (by omega)
        go_wp2
        go_ret
        exact ⟨by simp, O.out.bel⟩
      · have t1 : decide ((k : Int) < (len : Int)) = false := decide_eq_false (by omega)
        go_wp2
        go_ret
        exact ⟨by simp, O.out.bel⟩
end
end Go.Proofs.Ytoajgaljccaccaa.Ce
end
