/-
  Contracts of hash.Turn, its methods, hash.Mix, hash.Scale, and of the document's Turn, Mix, End, Scale. Conditions: the numbers fit their kinds.
-/
import Derived.Test.YtaalnkcfoioeeaaHashM
import Derived.Test.YtaalnkcfoioeeaaMemP
import Derived.BigQuiet
import Derived.WalkKit
import Derived.ProofKit
namespace Go.Proofs.Ytaalnkcfoioeeaa
set_option linter.unusedSimpArgs false
set_option linter.unusedVariables false
open Go.RowKit

theorem below_draws (w : World) (n : Nat) : Below w.heap.size w (w.drewN n) := ⟨rfl, rfl, rfl, Nat.le_refl _, fun _ _ => rfl⟩
theorem left_p (x : BitVec 32) (k : Nat) (hk : k ≤ 31) (w : World) : Calls Try.prog 25 #[.int .u32 (u x), .int .i64 k] w fun e w' => e = .returned (.int .u32 (u (x <<< k ||| x >>> (32 - k)))) ∧ Below w.heap.size w w' := by
  have e1 : IntKind.i64.wrap (32 - (k : Int)) = ((32 - k : Nat) : Int) := by rw [IntKind.wrap_i64]; omega
  go_enter Try.func25, Try.ntmps25
  go_wp2
  go_quiet (fail)
  go_wp2
  go_ret
  refine ⟨?_, below_draws w _⟩
  rw [u_shl', u_shr, u_or]
  rfl
theorem right_p (x : BitVec 32) (k : Nat) (hk : k ≤ 31) (w : World) : Calls Try.prog 26 #[.int .u32 (u x), .int .i64 k] w fun e w' => e = .returned (.int .u32 (u (x >>> k ||| x <<< (32 - k)))) ∧ Below w.heap.size w w' := by
  have e1 : IntKind.i64.wrap (32 - (k : Int)) = ((32 - k : Nat) : Int) := by rw [IntKind.wrap_i64]; omega
  go_enter Try.func26, Try.ntmps26
  go_wp2
  go_quiet (fail)
  go_wp2
  go_ret
  refine ⟨?_, below_draws w _⟩
  rw [u_shl', u_shr, u_or]
  rfl
theorem tmod_yes {n : Int} (h : 0 ≤ n) : ∃ k : Nat, k ≤ 31 ∧ n.tmod 32 = k ∧ n % 32 = k := ⟨(n % 32).toNat, by omega, by rw [Int.tmod_eq_emod_of_nonneg h]; omega, by omega⟩
theorem tmod_no {n : Int} (h : n < 0) (h' : n % 32 ≠ 0) : ∃ k : Nat, 1 ≤ k ∧ k ≤ 31 ∧ n.tmod 32 = -(k : Int) ∧ n % 32 = ((32 - k : Nat) : Int) := by
  refine ⟨(32 - n % 32).toNat, by omega, by omega, ?_, by omega⟩
  have : n.tmod 32 = -((-n).tmod 32) := by rw [Int.neg_tmod, Int.neg_neg]
  rw [this, Int.tmod_eq_emod_of_nonneg (by omega)]
  omega
theorem tmod_even {n : Int} (h' : n % 32 = 0) : n.tmod 32 = 0 := by
  rcases Int.lt_or_le n 0 with h | h
  · have : n.tmod 32 = -((-n).tmod 32) := by rw [Int.neg_tmod, Int.neg_neg]
    rw [this, Int.tmod_eq_emod_of_nonneg (by omega)]
    omega
  · rw [Int.tmod_eq_emod_of_nonneg h]
    omega
/-- the remainder, one way or the other -/
theorem tmod_parts (n : Int) : (∃ k : Nat, k ≤ 31 ∧ n.tmod 32 = k ∧ n % 32 = k) ∨ (∃ k : Nat, 1 ≤ k ∧ k ≤ 31 ∧ n.tmod 32 = -(k : Int) ∧ n % 32 = ((32 - k : Nat) : Int)) := by
  by_cases h : n % 32 = 0
  · exact .inl ⟨0, by omega, tmod_even h, h⟩
  · rcases Int.lt_or_le n 0 with h1 | h1
    · exact .inr (tmod_no h1 h)
    · exact .inl (tmod_yes h1)
theorem turn_p (x : BitVec 32) (n : Int) (hn : -9223372036854775808 ≤ n ∧ n ≤ 9223372036854775807) (w : World) : Calls Try.prog 16 #[.int .u32 (u x), .int .i64 n] w fun e w' => e = .returned (.int .u32 (u (turnB x n))) ∧ Below w.heap.size w w' := by
  rcases tmod_parts n with ⟨k, h1, h2, h3⟩ | ⟨k, h0, h1, h2, h3⟩
  · have t1 : decide ((k : Int) < 0) = false := decide_eq_false (by omega)
    have hv := turnB_left x h3
    clear h3
    go_enter Try.func16, Try.ntmps16
    go_wp2_with (go_at_call 25; refine (left_p x k h1 _).mono ?_; rintro e w2 ⟨rfl, hb⟩)
    go_ret
    exact ⟨by rw [← hv]; rfl, hb⟩
  · have t1 : decide (-(k : Int) < 0) = true := decide_eq_true (by omega)
    have t2 : -(-(k : Int)) = k := by omega
    have hv := turnB_right x h1 h3
    clear h3
    go_enter Try.func16, Try.ntmps16
    go_wp2_with (go_at_call 26; refine (right_p x k h1 _).mono ?_; rintro e w2 ⟨rfl, hb⟩)
    go_ret
    exact ⟨by rw [← hv]; rfl, hb⟩
end Go.Proofs.Ytaalnkcfoioeeaa
