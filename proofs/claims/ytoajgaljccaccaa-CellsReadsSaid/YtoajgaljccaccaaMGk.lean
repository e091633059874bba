/-
  CellsCounts, walked. Conditions: as the interface says.
-/
import Derived.Test.YtoajgaljccaccaaMGj
/- CellsCounts, walked. Conditions: as the interface says. -/
section
namespace Go.Proofs.Ytoajgaljccaccaa.Ce
set_option linter.unusedSimpArgs false
set_option linter.unusedVariables false
set_option maxRecDepth 100000
open Go.ChangeShapes Go.WideShapes Go.ChangeAt Go.RowKit

abbrev cS (c : Int) : CC := ⟨[], [], [0, c]⟩
theorem c_change {c : Int} (h : c % 2 = 0) : stepE (cS c) 1 0 = 0 ∧ stepS (cS c) 1 0 = cS (c + 1) := by
  have e : stepE (cS c) 1 0 = 0 := by simp [stepE, has, val, h]
  exact ⟨e, by rw [stepS, if_pos e]; rfl⟩
theorem c_odd {c : Int} (h : c % 2 = 0) : stepE (cS (c + 1)) 1 0 = 111 ∧ stepS (cS (c + 1)) 1 0 = cS (c + 1) := by
  have e : stepE (cS (c + 1)) 1 0 = 111 := by simp [stepE, has, val]; omega
  exact ⟨e, by rw [stepS, e]; rfl⟩
theorem c_begin {c : Int} (h : c % 2 = 0) : beginV (cS (c + 1)) 1 = 0 ∧ beginE (cS (c + 1)) 1 = 111 := by
  constructor
  · simp [beginV, has, val]; omega
  · simp [beginE, has, val]; omega
theorem c_settle {c : Int} (h : c % 2 = 0) : stepE (cS (c + 1)) 1 1 = 0 ∧ stepS (cS (c + 1)) 1 1 = cS (c + 2) := by
  have e : stepE (cS (c + 1)) 1 1 = 0 := by simp [stepE, has, val]; omega
  exact ⟨e, by rw [stepS, if_pos e]; show (⟨[], [], [0, c + 1 + 1]⟩ : CC) = _; rw [show c + 1 + 1 = c + 2 by omega]⟩
theorem c_even {c : Int} (h : c % 2 = 0) : beginV (cS c) 1 = c ∧ beginE (cS c) 1 = 0 ∧ endV (cS c) 1 c = true ∧ endV (cS c) 0 1 = false ∧ stepE (cS c) 1 1 = 111 := by
  refine ⟨?_, ?_, ?_, ?_, ?_⟩
  · simp [beginV, has, val, h]
  · simp [beginE, has, val, h]
  · simp [endV, has, val]
  · simp [endV, has, val]
  · simp [stepE, has, val, h]
section
variable {P : PT}
set_option maxHeartbeats 4000000 in
theorem counts_w (hP : PCells P) (n : Int) (hn : I64 n) (w : World) : Calls Try.prog 8 #[.int .i64 n] w fun e w' => e = .returned (.bool true) ∧ Below w.heap.size w w' := by
  have H := Mem.start w
  by_cases q0 : n < 0
  · go_enter Try.func8, Try.ntmps8
    go_wp2_with (first
    | go_skip
    | (go_at_call 10; refine (shown11 hP _).mono ?_; rintro e w2 ⟨rfl, hb⟩; have H2 := H.call hb; clear H hb; have H := H2; clear H2))
    go_ret
    exact ⟨rfl, H.below⟩
  by_cases q1 : n > 100
  · go_enter Try.func8, Try.ntmps8
    go_wp2_with (first
    | go_skip
    | (go_at_call 10; refine (shown11 hP _).mono ?_; rintro e w2 ⟨rfl, hb⟩; have H2 := H.call hb; clear H hb; have H := H2; clear H2))
    go_ret
    exact ⟨rfl, H.below⟩
  obtain ⟨n, rfl⟩ := Int.eq_ofNat_of_zero_le (show 0 ≤ n by omega)
  have hn1 : n ≤ 100 := by omega
  have O := Lib.hid (St.start w ⟨[], [], []⟩)
  go_enter Try.func8, Try.ntmps8
  go_upto_region 2 with (first
    | (go_at_call 10; refine (shown11s hP w _ O.out).mono ?_; rintro e w2 ⟨rfl, O2⟩; clear O H; have O := Lib.hid O2; clear O2; have H := Mem.start w2))
  go_upto_region 5 with (first
    | go_skip
    | (go_at_call 11; refine (O.out.newP hP NoT.pt (Kept.no _) 0 0 2 (by decide)).mono ?_; rintro e w2 ⟨p, rfl, O2⟩; clear O H; have O := Lib.hid (show SN P w w2 p (zeroC 0 0 2) 0 from O2); clear O2; have H := Mem.start w2))
  have HO := Lib.hid (show SN P w w2 p (cS 0) 0 from O.out)
  clear O
  go_wp2
  go_loopw [6] (fun iv wr => ∃ k : Nat, k ≤ n ∧ iv = .int .i64 k ∧ Hid (SN P w wr p (cS (2 * k)) (3 * k))) (fun iv _ => n - (intOf iv).toNat)
  case atStart => exact ⟨0, Nat.zero_le _, rfl, Lib.hid HO.out⟩
  case round =>
    clear HO H
    obtain ⟨k, hk, rfl, O⟩ := hrel
    have H := Mem.start wr
    have hc : (2 * (k : Int)) % 2 = 0 := by omega
    by_cases hlt : k < n
    · have t1 : decide ((k : Int) < (n : Int)) = true := decide_eq_true (by omega)
      have e1 := c_change hc
      have e2 := c_begin hc
      have e3 := c_odd hc
      have e4 := c_settle hc
      have e5 : 2 * (k : Int) + 2 = 2 * ((k + 1 : Nat) : Int) := by omega
      go_upto_region 9 with (first
    | go_skip
    | (go_at_call 25; refine (told (changeP hP NoT.pt (Kept.no _) O.out (by omega) 1 (by omega)) (v' := .int .i64 0) (R' := fun w' => SN P w w' p (cS (2 * k + 1)) (3 * k + 1)) (by rw [e1.1]) (fun _ h => by rw [e1.2] at h; exact h)).mono ?_; rintro e w2 ⟨rfl, O2⟩; clear O H; have O := Lib.hid O2; clear O2; have H := Mem.start w2))
      go_upto_region 10 with (first
    | (go_at_call 20; refine (told (beginP hP NoT.pt (Kept.no _) O.out (by omega) 1 (by omega)) (v' := .tuple #[.int .i64 0, .int .i64 111]) (R' := fun w' => SN P w w' p (cS (2 * k + 1)) (3 * k + 1)) (by rw [e2.1, e2.2]) (fun _ h => h)).mono ?_; rintro e w2 ⟨rfl, O2⟩; clear O H; have O := Lib.hid O2; clear O2; have H := Mem.start w2))
      go_upto_region 11 with (first
    | (go_at_call 25; refine (told (changeP hP NoT.pt (Kept.no _) O.out (by omega) 1 (by omega)) (v' := .int .i64 111) (R' := fun w' => SN P w w' p (cS (2 * k + 1)) (3 * k + 2)) (by rw [e3.1]) (fun _ h => by rw [e3.2] at h; exact h)).mono ?_; rintro e w2 ⟨rfl, O2⟩; clear O H; have O := Lib.hid O2; clear O2; have H := Mem.start w2))
      go_upto_region 12 with (first
    | (go_at_call 26; refine (told (settleP hP NoT.pt (Kept.no _) O.out (by omega) 1 (by omega)) (v' := .int .i64 0) (R' := fun w' => SN P w w' p (cS (2 * ((k + 1 : Nat) : Int))) (3 * (k + 1))) (by rw [e4.1]) (fun _ h => by rw [e4.2, e5] at h; exact h)).mono ?_; rintro e w2 ⟨rfl, O2⟩; clear O H; have O := Lib.hid O2; clear O2; have H := Mem.start w2))
      go_wp2
      go_roundw
      case rel => exact ⟨k + 1, by omega, by go_num, O⟩
      case measure => simp [intOf]; omega
    · obtain rfl : k = n := by omega
      have t1 : decide ((k : Int) < (k : Int)) = false := decide_eq_false (by omega)
      have e := c_even hc
      go_upto_region 15 with (first
    | go_skip
    | (go_at_call 20; refine (told (beginP hP NoT.pt (Kept.no _) O.out (by omega) 1 (by omega)) (v' := .tuple #[.int .i64 (2 * k), .int .i64 0]) (R' := fun w' => SN P w w' p (cS (2 * k)) (3 * k)) (by rw [e.1, e.2.1]) (fun _ h => h)).mono ?_; rintro e w2 ⟨rfl, O2⟩; clear O H; have O := Lib.hid O2; clear O2; have H := Mem.start w2))
      go_upto_region 16 with (first
    | (go_at_call 21; refine (told (finP hP NoT.pt (Kept.no _) O.out (by omega) 1 (2 * k) (by omega) (by omega)) (v' := .tuple #[.bool true, .int .i64 0]) (R' := fun w' => SN P w w' p (cS (2 * k)) (3 * k)) (by rw [e.2.2.1]; rfl) (fun _ h => h)).mono ?_; rintro e w2 ⟨rfl, O2⟩; clear O H; have O := Lib.hid O2; clear O2; have H := Mem.start w2))
      go_upto_region 17 with (first
    | (go_at_call 21; refine (told (finP hP NoT.pt (Kept.no _) O.out (by omega) 0 1 (by omega) (by omega)) (v' := .tuple #[.bool false, .int .i64 0]) (R' := fun w' => SN P w w' p (cS (2 * k)) (3 * k)) (by rw [e.2.2.2.1]; rfl) (fun _ h => h)).mono ?_; rintro e w2 ⟨rfl, O2⟩; clear O H; have O := Lib.hid O2; clear O2; have H := Mem.start w2))
      go_wp2_with (first
    | go_skip
    | (go_at_call 26; refine (told (settleP hP NoT.pt (Kept.no _) O.out (by omega) 1 (by omega)) (v' := .int .i64 111) (R' := fun w' => Below w.heap.size w w') (by rw [e.2.2.2.2]) (fun _ h => h.bel)).mono ?_; rintro e w2 ⟨rfl, hb⟩; clear O H; have H := Mem.start w2))
      go_ret
      exact ⟨by simp, hb⟩
end
end Go.Proofs.Ytoajgaljccaccaa.Ce
end
