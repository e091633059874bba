/-
  Contracts of hash.Mix, hash.Scale, and of the document's Turn, Mix, End, Scale. Conditions: the numbers fit their kinds.
-/
import Derived.Test.YtaalnkcfoioeeaaHashA
import Derived.Deep.DeepCutAuto
namespace Go.Proofs.Ytaalnkcfoioeeaa
set_option linter.unusedSimpArgs false
set_option linter.unusedVariables false
open Go.RowKit

/-- two results -/
theorem results_two {fn : Func} {p q : Tmp} (h : fn.results = #[.tmp p, .tmp q]) (tmps : Array Value) (P : Program) (w : World) : (results fn tmps).run P w = .ok (.tuple #[tmps.getD p undef, tmps.getD q undef]) w := by
  simp [results, h, go_sem]
theorem turn_r (x : BitVec 32) (n : Int) (hn : -9223372036854775808 ≤ n ∧ n ≤ 9223372036854775807) (w : World) : Calls Try.prog 17 #[.int .u32 (u x), .int .i64 n] w fun e w' => e = .returned (.int .u32 (u (turnB x n))) ∧ Below w.heap.size w w' := by
  rcases tmod_parts n with ⟨k, h1, h2, h3⟩ | ⟨k, h0, h1, h2, h3⟩
  · have t1 : decide ((k : Int) < 0) = false := decide_eq_false (by omega)
    have hv := turnB_left x h3
    by_cases hk : k = 0
    · subst hk
      have hz := turnB_zero x h3
      clear h3 hv
      go_enter Try.func17, Try.ntmps17
      go_wp2
      go_ret
      exact ⟨by rw [hz]; rfl, Below.refl _ _⟩
    · have t2 : ((k : Int) == 0) = false := by simpa using hk
      have t3 : (32 : Int) - k = ((32 - k : Nat) : Int) := by omega
      clear h3
      go_enter Try.func17, Try.ntmps17
      go_wp2
      go_ret
      refine ⟨?_, Below.refl _ _⟩
      rw [← hv, ← u_or, ← u_shl', ← u_shr]
      rfl
  · have t1 : decide (-(k : Int) < 0) = true := decide_eq_true (by omega)
    have t2 : -(k : Int) + 32 = ((32 - k : Nat) : Int) := by omega
    have hv := turnB_left x h3
    obtain ⟨j, hj⟩ : ∃ j, 32 - k = j := ⟨_, rfl⟩
    rw [hj] at t2 hv
    have hj' : 1 ≤ j ∧ j ≤ 31 := by omega
    have t3 : ((j : Int) == 0) = false := by
      have : j ≠ 0 := by omega
      simpa using this
    have t4 : (32 : Int) - j = ((32 - j : Nat) : Int) := by omega
    clear h3 hj
    go_enter Try.func17, Try.ntmps17
    go_wp2
    go_ret
    refine ⟨?_, Below.refl _ _⟩
    rw [← hv, ← u_or, ← u_shl', ← u_shr]
    rfl
theorem mix_p (h k : BitVec 32) (w : World) : Calls Try.prog 12 #[.int .u32 (u h), .int .u32 (u k)] w fun e w' => e = .returned (.int .u32 (u (mixB h k))) ∧ Below w.heap.size w w' := by
  have H := Mem.start w
  go_enter Try.func12, Try.ntmps12
  go_upto_region 2 with (go_at_call 16; (try simp only [um1, um2, um4, um5, u_xor]); refine (turn_p _ 15 (by omega) _).mono ?_; rintro e w2 ⟨rfl, hb⟩; have H2 := H.call hb; clear H hb; have H := H2; clear H2)
  go_wp2_with (go_at_call 16; (try simp only [um1, um2, um4, um5, u_xor]); refine (turn_p _ 13 (by omega) _).mono ?_; rintro e w2 ⟨rfl, hb⟩; have H2 := H.call hb; clear H hb; have H := H2; clear H2)
  simp only [um1, um2, um4, um5, u_xor]
  go_ret
  exact ⟨rfl, H.below⟩
theorem mix_r (h k : BitVec 32) (w : World) : Calls Try.prog 13 #[.int .u32 (u h), .int .u32 (u k)] w fun e w' => e = .returned (.int .u32 (u (mixB h k))) ∧ Below w.heap.size w w' := by
  have H := Mem.start w
  go_enter Try.func13, Try.ntmps13
  go_upto_region 5 with (go_at_call 17; (try simp only [um1, um2, um4, um5, u_xor]); refine (turn_r _ 15 (by omega) _).mono ?_; rintro e w2 ⟨rfl, hb⟩; have H2 := H.call hb; clear H hb; have H := H2; clear H2)
  go_wp2_with (go_at_call 17; (try simp only [um1, um2, um4, um5, u_xor]); refine (turn_r _ 13 (by omega) _).mono ?_; rintro e w2 ⟨rfl, hb⟩; have H2 := H.call hb; clear H hb; have H := H2; clear H2)
  simp only [um1, um2, um4, um5, u_xor]
  go_ret
  exact ⟨rfl, H.below⟩
theorem end_r (h n : BitVec 32) (w : World) : Calls Try.prog 15 #[.int .u32 (u h), .int .u32 (u n)] w fun e w' => e = .returned (.int .u32 (u (endB h n))) ∧ Below w.heap.size w w' := by
  go_enter Try.func15, Try.ntmps15
  go_wp2
  simp only [ue1, ue2, u_fold16, u_fold13, u_xor]
  go_ret
  exact ⟨rfl, Below.refl _ _⟩
theorem scale_p (a n : Int) (ha : 0 ≤ a ∧ a ≤ 4294967295) (h : 1 ≤ n ∧ n ≤ 65536) (w : World) : Calls Try.prog 22 #[.int .u32 a, .int .i64 n] w fun e w' => e = .returned (.tuple #[.int .i64 (scl a n), .int .i64 0]) ∧ w = w' := by
  obtain ⟨q, hq⟩ : ∃ q, a * n = q := ⟨_, rfl⟩
  have hb := scl_bd ha h
  rw [hq] at hb
  have hv : scl a n = q / 4294967296 := by unfold scl; rw [hq]
  have hq2 : 0 ≤ q ∧ q ≤ 281474976645120 := by omega
  have t1 : decide (n < 1) = false := decide_eq_false (by omega)
  have t2 : decide (65536 < n) = false := decide_eq_false (by omega)
  rw [hv]
  clear hv hb
  go_enter Try.func22, Try.ntmps22
  go_wp2
  refine bodyPost_ret (results_two rfl _ _ _) rfl ?_
  exact ⟨rfl, rfl⟩
theorem scale_p_no (a n : Int) (h : n < 1 ∨ 65536 < n) (w : World) : Calls Try.prog 22 #[.int .u32 a, .int .i64 n] w fun e w' => e = .returned (.tuple #[.int .i64 0, .int .i64 2]) ∧ w = w' := by
  by_cases h1 : n < 1
  · have t1 : decide (n < 1) = true := decide_eq_true h1
    go_enter Try.func22, Try.ntmps22
    go_wp2
    refine bodyPost_ret (results_two rfl _ _ _) rfl ?_
    exact ⟨rfl, rfl⟩
  · have t1 : decide (n < 1) = false := decide_eq_false h1
    have t2 : decide (65536 < n) = true := decide_eq_true (by omega)
    go_enter Try.func22, Try.ntmps22
    go_wp2
    refine bodyPost_ret (results_two rfl _ _ _) rfl ?_
    exact ⟨rfl, rfl⟩
theorem scale_r (a n : Int) (ha : 0 ≤ a ∧ a ≤ 4294967295) (h : 1 ≤ n ∧ n ≤ 65536) (w : World) : Calls Try.prog 23 #[.int .u32 a, .int .i64 n] w fun e w' => e = .returned (.tuple #[.int .i64 (scl a n), .int .i64 0]) ∧ w = w' := by
  obtain ⟨q, hq⟩ : ∃ q, a * n = q := ⟨_, rfl⟩
  have hb := scl_bd ha h
  rw [hq] at hb
  have hv : scl a n = q / 4294967296 := by unfold scl; rw [hq]
  have hq2 : 0 ≤ q ∧ q ≤ 281474976645120 := by omega
  have t1 : decide (n < 1) = false := decide_eq_false (by omega)
  have t2 : decide (65536 < n) = false := decide_eq_false (by omega)
  rw [hv]
  clear hv hb
  go_enter Try.func23, Try.ntmps23
  go_wp2
  refine bodyPost_ret (results_two rfl _ _ _) rfl ?_
  exact ⟨rfl, rfl⟩
theorem scale_r_no (a n : Int) (h : n < 1 ∨ 65536 < n) (w : World) : Calls Try.prog 23 #[.int .u32 a, .int .i64 n] w fun e w' => e = .returned (.tuple #[.int .i64 0, .int .i64 2]) ∧ w = w' := by
  by_cases h1 : n < 1
  · have t1 : decide (n < 1) = true := decide_eq_true h1
    go_enter Try.func23, Try.ntmps23
    go_wp2
    refine bodyPost_ret (results_two rfl _ _ _) rfl ?_
    exact ⟨rfl, rfl⟩
  · have t1 : decide (n < 1) = false := decide_eq_false h1
    have t2 : decide (65536 < n) = true := decide_eq_true (by omega)
    go_enter Try.func23, Try.ntmps23
    go_wp2
    refine bodyPost_ret (results_two rfl _ _ _) rfl ?_
    exact ⟨rfl, rfl⟩
end Go.Proofs.Ytaalnkcfoioeeaa
