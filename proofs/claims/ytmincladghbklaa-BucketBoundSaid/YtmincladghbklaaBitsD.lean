/-
  Div64 by a thousand millions. Conditions: those that each theorem names.
-/
import Derived.Test.YtmincladghbklaaBits
import Derived.Handy
namespace Go.Proofs.Ytmincladghbklaa
set_option linter.unusedSimpArgs false
set_option linter.unusedVariables false
open Go.RowKit Go.Lib

theorem or34n (h b : Nat) (hb : b < 17179869184) : h * 17179869184 ||| b = h * 17179869184 + b := by
  have h34 : (2 : Nat) ^ 34 = 17179869184 := by decide
  have := Nat.two_pow_add_eq_or_of_lt (i := 34) (b := b) (by rw [h34]; exact hb) h
  rw [h34, Nat.mul_comm] at this
  exact this.symm
theorem or34 (h l : Nat) (hh : h < 1000000000) (hl : l < 18446744073709551616) : bits .or .u64 ((h : Int) * 17179869184) ((l : Int) / 1073741824) = (h : Int) * 17179869184 + (l : Int) / 1073741824 := by
  have k := bits_or_u64_nat (h * 17179869184) (l / 1073741824) (by omega) (by omega)
  rw [or34n h (l / 1073741824) (by omega), Int.natCast_add, Int.natCast_mul, Int.natCast_ediv] at k
  exact k
set_option maxRecDepth 100000 in
set_option maxHeartbeats 2000000 in
theorem div64_0 (l : Int) (hl : 0 ≤ l ∧ l ≤ 18446744073709551615) (w : World) : Calls Try.prog 35 #[.int .u64 0, .int .u64 l, .int .u64 1000000000] w fun e w' =>
    e = .returned (.tuple #[.int .u64 (l / 1000000000), .int .u64 (l % 1000000000)]) ∧ Below w.heap.size w w' := by
  go_enter Try.func35, Try.ntmps35
  go_wp2
  go_quiet (fail)
  go_wp2
  go_ret2
  have t1 : l.tdiv 1000000000 = l / 1000000000 := Int.tdiv_eq_ediv_of_nonneg hl.1
  have t2 : l.tmod 1000000000 = l % 1000000000 := Int.tmod_eq_emod_of_nonneg hl.1
  have t3 : IntKind.u64.wrap (l.tdiv 1000000000) = l / 1000000000 := by rw [t1, IntKind.wrap_u64]; omega
  refine ⟨?_, ⟨rfl, rfl, rfl, Nat.le_refl _, fun _ _ => rfl⟩⟩
  show Ending.returned (.tuple #[.int .u64 (IntKind.u64.wrap (l.tdiv 1000000000)), .int .u64 (l.tmod 1000000000)]) = _
  rw [t3, t2]
set_option maxRecDepth 100000 in
set_option maxHeartbeats 2000000 in
theorem div64_1 (h l : Int) (hh : 0 < h ∧ h < 1000000000) (hl : 0 ≤ l ∧ l ≤ 18446744073709551615) (w : World) : Calls Try.prog 35 #[.int .u64 h, .int .u64 l, .int .u64 1000000000] w fun e w' =>
    e = .returned (.tuple #[.int .u64 ((h * 18446744073709551616 + l) / 1000000000), .int .u64 ((h * 18446744073709551616 + l) % 1000000000)]) ∧ Below w.heap.size w w' := by
  have e0 : bits .and .u64 17179869184000000000 4294967295 = 0 := by kernel_rfl
  have e1 : bits .or .u64 (h * 17179869184) (l / 1073741824) = h * 17179869184 + l / 1073741824 := by
    obtain ⟨h, rfl⟩ := Int.eq_ofNat_of_zero_le (show 0 ≤ h by omega)
    obtain ⟨l, rfl⟩ := Int.eq_ofNat_of_zero_le (show 0 ≤ l by omega)
    exact or34 h l (by omega) (by omega)
  have e3 : IntKind.u64.wrap (l * 17179869184) / 4294967296 = (l % 1073741824) * 4 := by rw [IntKind.wrap_u64]; omega
  have e2 : bits .and .u64 (IntKind.u64.wrap (l * 17179869184)) 4294967295 = 0 := by
    have hw : IntKind.u64.wrap (l * 17179869184) = (l % 1073741824) * 17179869184 := by rw [IntKind.wrap_u64]; omega
    rw [hw]
    obtain ⟨v, hv⟩ := Int.eq_ofNat_of_zero_le (show 0 ≤ l % 1073741824 * 17179869184 by omega)
    rw [hv, Mul64.maskN v (by omega)]
    omega
  obtain ⟨U, hU⟩ : ∃ U, h * 17179869184 + l / 1073741824 = U := ⟨_, rfl⟩
  obtain ⟨V, hV⟩ : ∃ V, (l % 1073741824) * 4 = V := ⟨_, rfl⟩
  obtain ⟨q1, hq1⟩ : ∃ q, U / 4000000000 = q := ⟨_, rfl⟩
  obtain ⟨r1, hr1⟩ : ∃ r, U % 4000000000 = r := ⟨_, rfl⟩
  have b1 : 0 ≤ q1 ∧ q1 < 4294967296 ∧ 0 ≤ r1 ∧ r1 < 4000000000 ∧ 0 ≤ V ∧ V < 4294967296 := by omega
  have s1 : U - q1 * 4000000000 = r1 := by omega
  obtain ⟨W, hW⟩ : ∃ W, r1 * 4294967296 + V = W := ⟨_, rfl⟩
  obtain ⟨q0, hq0⟩ : ∃ q, W / 4000000000 = q := ⟨_, rfl⟩
  obtain ⟨r0, hr0⟩ : ∃ r, W % 4000000000 = r := ⟨_, rfl⟩
  have b2 : 0 ≤ q0 ∧ q0 < 4294967296 ∧ 0 ≤ r0 ∧ r0 < 4000000000 ∧ 0 ≤ W ∧ W < 18446744073709551616 := by omega
  have s2 : W - q0 * 4000000000 = r0 := by omega
  have eq : (h * 18446744073709551616 + l) / 1000000000 = q1 * 4294967296 + q0 := by omega
  have er : (h * 18446744073709551616 + l) % 1000000000 = r0 / 4 := by omega
  rw [eq, er]
  have HE := Lib.hid (And.intro e0 (And.intro e1 (And.intro e2 (And.intro e3 (And.intro hU (And.intro hV (And.intro hq1 (And.intro s1 (And.intro hW (And.intro hq0 s2))))))))))
  have HU : 0 ≤ U ∧ U < 18446744073709551616 := by omega
  clear e0 e1 e2 e3 hU hV hq1 hr1 hW hq0 hr0 eq er s1 s2
  go_enter Try.func35, Try.ntmps35
  go_upto_region 15 with (go_at_call 38; refine (lz_w _).mono ?_; rintro e w' ⟨rfl, rfl⟩)
  obtain ⟨e0, e1, e2, e3, hU, hV, hq1, s1, hW, hq0, s2⟩ := HE.out
  simp only [e0, e1, e2, e3, hU, hV]
  clear e0 e1 e2 e3 hU hV
  go_upto_region 16 with (fail)
  simp only [hq1]
  clear hq1
  go_upto_region 17 with (fail)
  go_rounds 1
  have w1 : IntKind.u64.wrap (IntKind.u64.wrap (IntKind.u64.wrap (U * 4294967296) + V) - IntKind.u64.wrap (q1 * 17179869184000000000)) = W := by
    simp only [IntKind.wrap_u64]
    omega
  have w2 : IntKind.u64.wrap (W.tdiv 4000000000) = q0 := by
    rw [Int.tdiv_eq_ediv_of_nonneg b2.2.2.2.2.1, hq0, IntKind.wrap_u64]
    omega
  have w3 : IntKind.u64.wrap (W - IntKind.u64.wrap (q0 * 4000000000)) = r0 := by
    simp only [IntKind.wrap_u64]
    omega
  simp only [w1, w2, w3]
  clear w1 w2 w3 s1 hW hq0
  go_rounds 1
  have w4 : IntKind.u64.wrap (IntKind.u64.wrap (IntKind.u64.wrap (W * 4294967296)) - IntKind.u64.wrap (q0 * 17179869184000000000)) / 17179869184 = r0 / 4 := by
    simp only [IntKind.wrap_u64]
    omega
  simp only [w4]
  go_ret2
  exact ⟨rfl, Below.refl _ _⟩
theorem div64 (h l : Int) (hh : 0 ≤ h ∧ h < 1000000000) (hl : 0 ≤ l ∧ l ≤ 18446744073709551615) (w : World) : Calls Try.prog 35 #[.int .u64 h, .int .u64 l, .int .u64 1000000000] w fun e w' =>
    e = .returned (.tuple #[.int .u64 ((h * 18446744073709551616 + l) / 1000000000), .int .u64 ((h * 18446744073709551616 + l) % 1000000000)]) ∧ Below w.heap.size w w' := by
  by_cases h0 : h = 0
  · subst h0
    rw [Int.zero_mul, Int.zero_add]
    exact div64_0 l hl w
  · exact div64_1 h l (by omega) hl w
end Go.Proofs.Ytmincladghbklaa
