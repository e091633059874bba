/-
  Numbers of 32 bits: turning, mixing, ending, and that each is one to one; scaling. Conditions: those that each theorem names. Contracts of hash.Turn, its methods, hash.Mix, hash.Scale, and of the document's Turn, Mix, End, Scale. Conditions: the numbers fit their kinds. Contracts of hash.Mix, hash.Scale, and of the document's Turn, Mix, End, Scale. Conditions: the numbers fit their kinds.
-/
import Derived.Test.YtaoaapbbadipfaaRows
import Derived.Laws.BitsAllLaws
import Derived.Test.YtaoaapbbadipfaaMGa
import Derived.BigQuiet
import Derived.WalkKit
import Derived.ProofKit
import Derived.Deep.DeepCutAuto
/- Numbers of 32 bits: turning, mixing, ending, and that each is one to one; scaling. Conditions: those that each theorem names. -/
section
namespace Go.Proofs.Ytaoaapbbadipfaa.Hs
set_option linter.unusedSimpArgs false
set_option linter.unusedVariables false
set_option maxRecDepth 100000
open Go

/-- a number of 32 bits, as the model's -/
def u (x : BitVec 32) : Int := (x.toNat : Int)
theorem u_bd (x : BitVec 32) : 0 ≤ u x ∧ u x ≤ 4294967295 := by
  unfold u
  have := x.isLt
  omega
theorem u_inj {x y : BitVec 32} : u x = u y ↔ x = y := by
  unfold u
  rw [Int.ofNat_inj, BitVec.toNat_inj]
theorem u_of {a : Int} (h : 0 ≤ a ∧ a ≤ 4294967295) : ∃ x, a = u x := by
  refine ⟨BitVec.ofNat 32 a.toNat, ?_⟩
  unfold u
  rw [BitVec.toNat_ofNat]
  omega
theorem u_xor (x y : BitVec 32) : bits .xor .u32 (u x) (u y) = u (x ^^^ y) := by
  unfold u
  rw [u32_xor_nat _ _ x.isLt y.isLt, BitVec.toNat_xor]
theorem u_or (x y : BitVec 32) : bits .or .u32 (u x) (u y) = u (x ||| y) := by
  unfold u
  rw [u32_or_nat _ _ x.isLt y.isLt, BitVec.toNat_or]
theorem u_lit (c : Nat) (h : c < 4294967296) : u (BitVec.ofNat 32 c) = (c : Int) := by
  unfold u
  rw [BitVec.toNat_ofNat]
  omega
theorem u_wrapN (n : Nat) : IntKind.u32.wrap (n : Int) = u (BitVec.ofNat 32 n) := by
  unfold u
  rw [IntKind.wrap_u32', BitVec.toNat_ofNat]
  omega
theorem u_mul (x y : BitVec 32) : IntKind.u32.wrap (u x * u y) = u (x * y) := by
  unfold u
  rw [← Int.natCast_mul, IntKind.wrap_u32', BitVec.toNat_mul]
  omega
theorem u_add (x y : BitVec 32) : IntKind.u32.wrap (u x + u y) = u (x + y) := by
  unfold u
  rw [← Int.natCast_add, IntKind.wrap_u32', BitVec.toNat_add]
  omega
theorem u_shr (x : BitVec 32) (k : Nat) : u x / 2 ^ k = u (x >>> k) := by
  unfold u
  rw [BitVec.toNat_ushiftRight, Nat.shiftRight_eq_div_pow]
  simp
theorem u_shl (x : BitVec 32) (k : Nat) : IntKind.u32.wrap (u x * 2 ^ k) = u (x <<< k) := by
  unfold u
  rw [BitVec.toNat_shiftLeft, Nat.shiftLeft_eq, IntKind.wrap_u32']
  simp

theorem u_mulc (x : BitVec 32) (c : Nat) : u x * (c : Int) % 4294967296 = u (x * BitVec.ofNat 32 c) := by
  unfold u
  rw [← Int.natCast_mul, BitVec.toNat_mul, BitVec.toNat_ofNat, show (2 : Nat) ^ 32 = 4294967296 from rfl, Nat.mul_mod_mod]
  omega
theorem u_addc (x : BitVec 32) (c : Nat) : (u x + (c : Int)) % 4294967296 = u (x + BitVec.ofNat 32 c) := by
  unfold u
  rw [← Int.natCast_add, BitVec.toNat_add, BitVec.toNat_ofNat]
  omega
theorem u_shl' (x : BitVec 32) (k : Nat) : u x * 2 ^ k % 4294967296 = u (x <<< k) := by rw [← u_shl, IntKind.wrap_u32']
/-- turned left, by however many -/
def turnB (x : BitVec 32) (n : Int) : BitVec 32 := x <<< (n % 32).toNat ||| x >>> (32 - (n % 32).toNat)
theorem turnB_left (x : BitVec 32) {n : Int} {k : Nat} (h : n % 32 = k) : x <<< k ||| x >>> (32 - k) = turnB x n := by
  unfold turnB
  rw [h, Int.toNat_natCast]
theorem turnB_right (x : BitVec 32) {n : Int} {k : Nat} (hk : k ≤ 31) (h : n % 32 = ((32 - k : Nat) : Int)) : x >>> k ||| x <<< (32 - k) = turnB x n := by
  unfold turnB
  rw [h, Int.toNat_natCast, BitVec.or_comm, show 32 - (32 - k) = k by omega]
theorem turnB_get (x : BitVec 32) (n : Int) (i : Nat) (hi : i < 32) : (turnB x n).getLsbD i = x.getLsbD (((i : Int) - n) % 32).toNat := by
  unfold turnB
  rw [BitVec.getLsbD_or, BitVec.getLsbD_shiftLeft, BitVec.getLsbD_ushiftRight]
  by_cases h : i < (n % 32).toNat
  · have e : 32 - (n % 32).toNat + i = (((i : Int) - n) % 32).toNat := by omega
    simp [hi, h, e]
  · have e : i - (n % 32).toNat = (((i : Int) - n) % 32).toNat := by omega
    have f : x.getLsbD (32 - (n % 32).toNat + i) = false := BitVec.getLsbD_of_ge _ _ (by omega)
    simp [hi, h, e, f]
theorem turnB_turnB (x : BitVec 32) (a b : Int) : turnB (turnB x a) b = turnB x (a + b) := by
  apply BitVec.eq_of_getLsbD_eq
  intro i hi
  rw [turnB_get _ _ _ hi, turnB_get _ _ _ hi, turnB_get _ _ _ (by omega)]
  congr 1
  omega
theorem turnB_zero (x : BitVec 32) {n : Int} (h : n % 32 = 0) : turnB x n = x := by
  apply BitVec.eq_of_getLsbD_eq
  intro i hi
  rw [turnB_get _ _ _ hi]
  congr 1
  omega
theorem turnB_inj {x y : BitVec 32} (n : Int) (h : turnB x n = turnB y n) : x = y := by
  have e := congrArg (turnB · (-n)) h
  simp only [turnB_turnB] at e
  rwa [turnB_zero _ (by omega), turnB_zero _ (by omega)] at e
/-- h mixed with k -/
def mixB (h k : BitVec 32) : BitVec 32 := turnB (h ^^^ turnB (k * 3432918353#32) 15 * 461845907#32) 13 * 5#32 + 3864292196#32
/-- h ended with n, in its steps -/
def endB0 (h n : BitVec 32) : BitVec 32 := h ^^^ n
def foldB (s : Nat) (h : BitVec 32) : BitVec 32 := h ^^^ h >>> s
def endB (h n : BitVec 32) : BitVec 32 := foldB 16 (foldB 13 (foldB 16 (h ^^^ n) * 2246822507#32) * 3266489909#32)
theorem mul_inj {x y c : BitVec 32} (ci : BitVec 32) (hc : c * ci = 1#32) (h : x * c = y * c) : x = y := by
  have e := congrArg (· * ci) h
  simp only [BitVec.mul_assoc, hc, BitVec.mul_one] at e
  exact e
theorem add_inj {x y c : BitVec 32} (h : x + c = y + c) : x = y := by
  have e := congrArg (· - c) h
  simpa using e
theorem xor_inj {x y c : BitVec 32} (h : x ^^^ c = y ^^^ c) : x = y := by
  have e := congrArg (· ^^^ c) h
  simpa [BitVec.xor_assoc] using e
theorem xor_inj' {x y c : BitVec 32} (h : c ^^^ x = c ^^^ y) : x = y := by
  rw [BitVec.xor_comm c, BitVec.xor_comm c] at h
  exact xor_inj h
theorem fold_inj {x y : BitVec 32} (s : Nat) (h1 : 11 ≤ s) (h : foldB s x = foldB s y) : x = y := by
  have back : ∀ z : BitVec 32, foldB s z ^^^ foldB s z >>> s ^^^ foldB s z >>> (s + s) = z := fun z => by
    apply BitVec.eq_of_getLsbD_eq
    intro i hi
    unfold foldB
    simp only [BitVec.getLsbD_xor, BitVec.getLsbD_ushiftRight]
    have e1 : s + s + i = s + (s + i) := by omega
    have e2 : z.getLsbD (s + (s + (s + i))) = false := BitVec.getLsbD_of_ge _ _ (by omega)
    rw [e1, e2]
    cases z.getLsbD i <;> cases z.getLsbD (s + i) <;> cases z.getLsbD (s + (s + i)) <;> rfl
  rw [← back x, ← back y, h]
theorem mixB_left (a b k : BitVec 32) : mixB a k = mixB b k ↔ a = b := by
  refine ⟨fun h => ?_, fun h => by rw [h]⟩
  exact xor_inj (turnB_inj 13 (mul_inj 3435973837#32 (by decide) (add_inj h)))
theorem mixB_right (a b k : BitVec 32) : mixB k a = mixB k b ↔ a = b := by
  refine ⟨fun h => ?_, fun h => by rw [h]⟩
  have e := xor_inj' (turnB_inj 13 (mul_inj 3435973837#32 (by decide) (add_inj h)))
  exact mul_inj 3739302833#32 (by decide) (turnB_inj 15 (mul_inj 1458385051#32 (by decide) e))
theorem endB_left (a b k : BitVec 32) : endB a k = endB b k ↔ a = b := by
  refine ⟨fun h => ?_, fun h => by rw [h]⟩
  exact xor_inj (fold_inj 16 (by omega) (mul_inj 2781581891#32 (by decide) (fold_inj 13 (by omega) (mul_inj 2127672349#32 (by decide) (fold_inj 16 (by omega) h)))))
theorem u_fold16 (a : BitVec 32) : bits .xor .u32 (u a) (u a / (65536 : Int)) = u (foldB 16 a) := by
  have e : u a / (65536 : Int) = u (a >>> 16) := by rw [← u_shr]; rfl
  rw [e]
  exact u_xor _ _
theorem u_fold13 (a : BitVec 32) : bits .xor .u32 (u a) (u a / (8192 : Int)) = u (foldB 13 a) := by
  have e : u a / (8192 : Int) = u (a >>> 13) := by rw [← u_shr]; rfl
  rw [e]
  exact u_xor _ _
theorem um1 (x : BitVec 32) : u x * 3432918353 % 4294967296 = u (x * 3432918353#32) := u_mulc x 3432918353
theorem um2 (x : BitVec 32) : u x * 461845907 % 4294967296 = u (x * 461845907#32) := u_mulc x 461845907
theorem um4 (x : BitVec 32) : u x * 5 % 4294967296 = u (x * 5#32) := u_mulc x 5
theorem um5 (x : BitVec 32) : (u x + 3864292196) % 4294967296 = u (x + 3864292196#32) := u_addc x 3864292196
theorem ue1 (x : BitVec 32) : u x * 2246822507 % 4294967296 = u (x * 2246822507#32) := u_mulc x 2246822507
theorem ue2 (x : BitVec 32) : u x * 3266489909 % 4294967296 = u (x * 3266489909#32) := u_mulc x 3266489909
/-- all words mixed in -/
def mixAll (s : BitVec 32) (f : Nat → BitVec 32) (n : Nat) : BitVec 32 := (List.range n).foldl (fun h k => mixB h (f k)) s
theorem mixAll_zero (s : BitVec 32) (f : Nat → BitVec 32) : mixAll s f 0 = s := rfl
theorem mixAll_succ (s : BitVec 32) (f : Nat → BitVec 32) (n : Nat) : mixAll s f (n + 1) = mixB (mixAll s f n) (f n) := by
  unfold mixAll
  rw [List.range_succ, List.foldl_append]
  rfl
/-- the number of words -/
def wordsB (s : BitVec 32) (f : Nat → BitVec 32) (n : Nat) : BitVec 32 := endB (mixAll s f n) (BitVec.ofNat 32 (4 * n))
/-- a number, scaled -/
def scl (a n : Int) : Int := a * n / 4294967296
theorem scl_bd {a n : Int} (ha : 0 ≤ a ∧ a ≤ 4294967295) (hn : 1 ≤ n ∧ n ≤ 65536) : 0 ≤ a * n ∧ a * n ≤ 4294967295 * n := ⟨Int.mul_nonneg ha.1 (by omega), Int.mul_le_mul_of_nonneg_right ha.2 (by omega)⟩
theorem scl_in {a n : Int} (ha : 0 ≤ a ∧ a ≤ 4294967295) (hn : 1 ≤ n ∧ n ≤ 65536) : 0 ≤ scl a n ∧ scl a n < n := by
  have := scl_bd ha hn
  unfold scl
  omega
theorem scl_max {n : Int} (hn : 1 ≤ n ∧ n ≤ 65536) : scl 4294967295 n = n - 1 := by
  unfold scl
  omega
theorem scl_zero (n : Int) : scl 0 n = 0 := by simp [scl]
theorem scl_rises {a b n : Int} (h : a ≤ b) (hn : 1 ≤ n) : scl a n ≤ scl b n := by
  have := Int.mul_le_mul_of_nonneg_right h (show 0 ≤ n by omega)
  unfold scl
  omega
end Go.Proofs.Ytaoaapbbadipfaa.Hs
end
/- Contracts of hash.Turn, its methods, hash.Mix, hash.Scale, and of the document's Turn, Mix, End, Scale. Conditions: the numbers fit their kinds. -/
section
namespace Go.Proofs.Ytaoaapbbadipfaa.Hs
set_option linter.unusedSimpArgs false
set_option linter.unusedVariables false
set_option maxRecDepth 100000
open Go.RowKit

theorem below_draws (w : World) (n : Nat) : Below w.heap.size w (w.drewN n) := ⟨rfl, rfl, rfl, Nat.le_refl _, fun _ _ => rfl⟩
theorem left_p (x : BitVec 32) (k : Nat) (hk : k ≤ 31) (w : World) : Calls Try.prog 77 #[.int .u32 (u x), .int .i64 k] w fun e w' => e = .returned (.int .u32 (u (x <<< k ||| x >>> (32 - k)))) ∧ Below w.heap.size w w' := by
  have e1 : IntKind.i64.wrap (32 - (k : Int)) = ((32 - k : Nat) : Int) := by rw [IntKind.wrap_i64]; omega
  go_enter Try.func77, Try.ntmps77
  go_wp2
  go_quiet (fail)
  go_wp2
  go_ret
  refine ⟨?_, below_draws w _⟩
  rw [u_shl', u_shr, u_or]
  rfl
theorem right_p (x : BitVec 32) (k : Nat) (hk : k ≤ 31) (w : World) : Calls Try.prog 78 #[.int .u32 (u x), .int .i64 k] w fun e w' => e = .returned (.int .u32 (u (x >>> k ||| x <<< (32 - k)))) ∧ Below w.heap.size w w' := by
  have e1 : IntKind.i64.wrap (32 - (k : Int)) = ((32 - k : Nat) : Int) := by rw [IntKind.wrap_i64]; omega
  go_enter Try.func78, Try.ntmps78
  go_wp2
  go_quiet (fail)
  go_wp2
  go_ret
  refine ⟨?_, below_draws w _⟩
  rw [u_shl', u_shr, u_or]
  rfl
theorem tmod_yes {n : Int} (h : 0 ≤ n) : ∃ k : Nat, k ≤ 31 ∧ n.tmod 32 = k ∧ n % 32 = k := ⟨(n % 32).toNat, by omega, by rw [Int.tmod_eq_emod_of_nonneg h]; omega, by omega⟩
theorem tmod_no {n : Int} (h : n < 0) (h' : n % 32 ≠ 0) : ∃ k : Nat, 1 ≤ k ∧ k ≤ 31 ∧ n.tmod 32 = -(k : Int) ∧ n % 32 = ((32 - k : Nat) : Int) := by
  refine ⟨(32 - n % 32).toNat, by omega, by omega, ?_, by omega⟩
  have : n.tmod 32 = -((-n).tmod 32) := by rw [Int.neg_tmod, Int.neg_neg]
  rw [this, Int.tmod_eq_emod_of_nonneg (by omega)]
  omega
theorem tmod_even {n : Int} (h' : n % 32 = 0) : n.tmod 32 = 0 := by
  rcases Int.lt_or_le n 0 with h | h
  · have : n.tmod 32 = -((-n).tmod 32) := by rw [Int.neg_tmod, Int.neg_neg]
    rw [this, Int.tmod_eq_emod_of_nonneg (by omega)]
    omega
  · rw [Int.tmod_eq_emod_of_nonneg h]
    omega
/-- the remainder, one way or the other -/
theorem tmod_parts (n : Int) : (∃ k : Nat, k ≤ 31 ∧ n.tmod 32 = k ∧ n % 32 = k) ∨ (∃ k : Nat, 1 ≤ k ∧ k ≤ 31 ∧ n.tmod 32 = -(k : Int) ∧ n % 32 = ((32 - k : Nat) : Int)) := by
  by_cases h : n % 32 = 0
  · exact .inl ⟨0, by omega, tmod_even h, h⟩
  · rcases Int.lt_or_le n 0 with h1 | h1
    · exact .inr (tmod_no h1 h)
    · exact .inl (tmod_yes h1)
theorem turn_p (x : BitVec 32) (n : Int) (hn : -9223372036854775808 ≤ n ∧ n ≤ 9223372036854775807) (w : World) : Calls Try.prog 72 #[.int .u32 (u x), .int .i64 n] w fun e w' => e = .returned (.int .u32 (u (turnB x n))) ∧ Below w.heap.size w w' := by
  rcases tmod_parts n with ⟨k, h1, h2, h3⟩ | ⟨k, h0, h1, h2, h3⟩
  · have t1 : decide ((k : Int) < 0) = false := decide_eq_false (by omega)
    have hv := turnB_left x h3
    clear h3
    go_enter Try.func72, Try.ntmps72
    go_wp2_with (go_at_call 77; refine (left_p x k h1 _).mono ?_; rintro e w2 ⟨rfl, hb⟩)
    go_ret
    exact ⟨by rw [← hv]; rfl, hb⟩
  · have t1 : decide (-(k : Int) < 0) = true := decide_eq_true (by omega)
    have t2 : -(-(k : Int)) = k := by omega
    have hv := turnB_right x h1 h3
    clear h3
    go_enter Try.func72, Try.ntmps72
    go_wp2_with (go_at_call 78; refine (right_p x k h1 _).mono ?_; rintro e w2 ⟨rfl, hb⟩)
    go_ret
    exact ⟨by rw [← hv]; rfl, hb⟩
end Go.Proofs.Ytaoaapbbadipfaa.Hs
end
/- Contracts of hash.Mix, hash.Scale, and of the document's Turn, Mix, End, Scale. Conditions: the numbers fit their kinds. -/
section
namespace Go.Proofs.Ytaoaapbbadipfaa.Hs
set_option linter.unusedSimpArgs false
set_option linter.unusedVariables false
set_option maxRecDepth 100000
open Go.RowKit

/-- two results -/
theorem results_two {fn : Func} {p q : Tmp} (h : fn.results = #[.tmp p, .tmp q]) (tmps : Array Value) (P : Program) (w : World) : (results fn tmps).run P w = .ok (.tuple #[tmps.getD p undef, tmps.getD q undef]) w := by
  simp [results, h, go_sem]
theorem turn_r (x : BitVec 32) (n : Int) (hn : -9223372036854775808 ≤ n ∧ n ≤ 9223372036854775807) (w : World) : Calls Try.prog 70 #[.int .u32 (u x), .int .i64 n] w fun e w' => e = .returned (.int .u32 (u (turnB x n))) ∧ Below w.heap.size w w' := by
  rcases tmod_parts n with ⟨k, h1, h2, h3⟩ | ⟨k, h0, h1, h2, h3⟩
  · have t1 : decide ((k : Int) < 0) = false := decide_eq_false (by omega)
    have hv := turnB_left x h3
    by_cases hk : k = 0
    · subst hk
      have hz := turnB_zero x h3
      clear h3 hv
      go_enter Try.func70, Try.ntmps70
      go_wp2
      go_ret
      exact ⟨by rw [hz]; rfl, Below.refl _ _⟩
    · have t2 : ((k : Int) == 0) = false := by simpa using hk
      have t3 : (32 : Int) - k = ((32 - k : Nat) : Int) := by omega
      clear h3
      go_enter Try.func70, Try.ntmps70
      go_wp2
      go_ret
      refine ⟨?_, Below.refl _ _⟩
      rw [← hv, ← u_or, ← u_shl', ← u_shr]
      rfl
  · have t1 : decide (-(k : Int) < 0) = true := decide_eq_true (by omega)
    have t2 : -(k : Int) + 32 = ((32 - k : Nat) : Int) := by omega
    have hv := turnB_left x h3
    obtain ⟨j, hj⟩ : ∃ j, 32 - k = j := ⟨_, rfl⟩
    rw [hj] at t2 hv
    have hj' : 1 ≤ j ∧ j ≤ 31 := by omega
    have t3 : ((j : Int) == 0) = false := by
      have : j ≠ 0 := by omega
      simpa using this
    have t4 : (32 : Int) - j = ((32 - j : Nat) : Int) := by omega
    clear h3 hj
    go_enter Try.func70, Try.ntmps70
    go_wp2
    go_ret
    refine ⟨?_, Below.refl _ _⟩
    rw [← hv, ← u_or, ← u_shl', ← u_shr]
    rfl
theorem mix_p (h k : BitVec 32) (w : World) : Calls Try.prog 63 #[.int .u32 (u h), .int .u32 (u k)] w fun e w' => e = .returned (.int .u32 (u (mixB h k))) ∧ Below w.heap.size w w' := by
  have H := Mem.start w
  go_enter Try.func63, Try.ntmps63
  go_upto_region 2 with (go_at_call 72; (try simp only [um1, um2, um4, um5, u_xor]); refine (turn_p _ 15 (by omega) _).mono ?_; rintro e w2 ⟨rfl, hb⟩; have H2 := H.call hb; clear H hb; have H := H2; clear H2)
  go_wp2_with (go_at_call 72; (try simp only [um1, um2, um4, um5, u_xor]); refine (turn_p _ 13 (by omega) _).mono ?_; rintro e w2 ⟨rfl, hb⟩; have H2 := H.call hb; clear H hb; have H := H2; clear H2)
  simp only [um1, um2, um4, um5, u_xor]
  go_ret
  exact ⟨rfl, H.below⟩
theorem mix_r (h k : BitVec 32) (w : World) : Calls Try.prog 60 #[.int .u32 (u h), .int .u32 (u k)] w fun e w' => e = .returned (.int .u32 (u (mixB h k))) ∧ Below w.heap.size w w' := by
  have H := Mem.start w
  go_enter Try.func60, Try.ntmps60
  go_upto_region 5 with (go_at_call 70; (try simp only [um1, um2, um4, um5, u_xor]); refine (turn_r _ 15 (by omega) _).mono ?_; rintro e w2 ⟨rfl, hb⟩; have H2 := H.call hb; clear H hb; have H := H2; clear H2)
  go_wp2_with (go_at_call 70; (try simp only [um1, um2, um4, um5, u_xor]); refine (turn_r _ 13 (by omega) _).mono ?_; rintro e w2 ⟨rfl, hb⟩; have H2 := H.call hb; clear H hb; have H := H2; clear H2)
  simp only [um1, um2, um4, um5, u_xor]
  go_ret
  exact ⟨rfl, H.below⟩
theorem end_r (h n : BitVec 32) (w : World) : Calls Try.prog 61 #[.int .u32 (u h), .int .u32 (u n)] w fun e w' => e = .returned (.int .u32 (u (endB h n))) ∧ Below w.heap.size w w' := by
  go_enter Try.func61, Try.ntmps61
  go_wp2
  simp only [ue1, ue2, u_fold16, u_fold13, u_xor]
  go_ret
  exact ⟨rfl, Below.refl _ _⟩
theorem scale_p (a n : Int) (ha : 0 ≤ a ∧ a ≤ 4294967295) (h : 1 ≤ n ∧ n ≤ 65536) (w : World) : Calls Try.prog 53 #[.int .u32 a, .int .i64 n] w fun e w' => e = .returned (.tuple #[.int .i64 (scl a n), .int .i64 0]) ∧ w = w' := by
  obtain ⟨q, hq⟩ : ∃ q, a * n = q := ⟨_, rfl⟩
  have hb := scl_bd ha h
  rw [hq] at hb
  have hv : scl a n = q / 4294967296 := by unfold scl; rw [hq]
  have hq2 : 0 ≤ q ∧ q ≤ 281474976645120 := by omega
  have t1 : decide (n < 1) = false := decide_eq_false (by omega)
  have t2 : decide (65536 < n) = false := decide_eq_false (by omega)
  rw [hv]
  clear hv hb
  go_enter Try.func53, Try.ntmps53
  go_wp2
  refine bodyPost_ret (results_two rfl _ _ _) rfl ?_
  exact ⟨rfl, rfl⟩
theorem scale_p_no (a n : Int) (h : n < 1 ∨ 65536 < n) (w : World) : Calls Try.prog 53 #[.int .u32 a, .int .i64 n] w fun e w' => e = .returned (.tuple #[.int .i64 0, .int .i64 2]) ∧ w = w' := by
  by_cases h1 : n < 1
  · have t1 : decide (n < 1) = true := decide_eq_true h1
    go_enter Try.func53, Try.ntmps53
    go_wp2
    refine bodyPost_ret (results_two rfl _ _ _) rfl ?_
    exact ⟨rfl, rfl⟩
  · have t1 : decide (n < 1) = false := decide_eq_false h1
    have t2 : decide (65536 < n) = true := decide_eq_true (by omega)
    go_enter Try.func53, Try.ntmps53
    go_wp2
    refine bodyPost_ret (results_two rfl _ _ _) rfl ?_
    exact ⟨rfl, rfl⟩
theorem scale_r (a n : Int) (ha : 0 ≤ a ∧ a ≤ 4294967295) (h : 1 ≤ n ∧ n ≤ 65536) (w : World) : Calls Try.prog 49 #[.int .u32 a, .int .i64 n] w fun e w' => e = .returned (.tuple #[.int .i64 (scl a n), .int .i64 0]) ∧ w = w' := by
  obtain ⟨q, hq⟩ : ∃ q, a * n = q := ⟨_, rfl⟩
  have hb := scl_bd ha h
  rw [hq] at hb
  have hv : scl a n = q / 4294967296 := by unfold scl; rw [hq]
  have hq2 : 0 ≤ q ∧ q ≤ 281474976645120 := by omega
  have t1 : decide (n < 1) = false := decide_eq_false (by omega)
  have t2 : decide (65536 < n) = false := decide_eq_false (by omega)
  rw [hv]
  clear hv hb
  go_enter Try.func49, Try.ntmps49
  go_wp2
  refine bodyPost_ret (results_two rfl _ _ _) rfl ?_
  exact ⟨rfl, rfl⟩
theorem scale_r_no (a n : Int) (h : n < 1 ∨ 65536 < n) (w : World) : Calls Try.prog 49 #[.int .u32 a, .int .i64 n] w fun e w' => e = .returned (.tuple #[.int .i64 0, .int .i64 2]) ∧ w = w' := by
  by_cases h1 : n < 1
  · have t1 : decide (n < 1) = true := decide_eq_true h1
    go_enter Try.func49, Try.ntmps49
    go_wp2
    refine bodyPost_ret (results_two rfl _ _ _) rfl ?_
    exact ⟨rfl, rfl⟩
  · have t1 : decide (n < 1) = false := decide_eq_false h1
    have t2 : decide (65536 < n) = true := decide_eq_true (by omega)
    go_enter Try.func49, Try.ntmps49
    go_wp2
    refine bodyPost_ret (results_two rfl _ _ _) rfl ?_
    exact ⟨rfl, rfl⟩
end Go.Proofs.Ytaoaapbbadipfaa.Hs
end
