/-
  Contracts of bucket's small functions: rising, bounded, allows, multiplying, divided. Conditions: those that each theorem names.
-/
import Derived.Laws.StructEq
import Derived.Test.YtmincladghbklaaBucketC
import Derived.Deep.DeepCutAuto
import Derived.Lib.Hide
import Derived.Deep.QuietTactic
import Derived.BigQuiet
import Derived.Deep.RegionWith
import Derived.Test.YtmincladghbklaaBase
namespace Go.Proofs.Ytmincladghbklaa
set_option linter.unusedSimpArgs false
set_option linter.unusedVariables false
open Go.ChangeShapes Go.WideShapes Go.ChangeAt Go.RowKit Go.Lib

theorem or32n (h b : Nat) (hb : b < 4294967296) : h * 4294967296 ||| b = h * 4294967296 + b := by
  have h32 : (2 : Nat) ^ 32 = 4294967296 := by decide
  have := Nat.two_pow_add_eq_or_of_lt (i := 32) (b := b) (by rw [h32]; exact hb) h
  rw [h32, Nat.mul_comm] at this
  exact this.symm
theorem or32 (h l : Int) (hh : 0 ≤ h ∧ h ≤ 4294967295) (hl : 0 ≤ l ∧ l ≤ 4294967295) : bits .or .u64 (h * 4294967296) l = h * 4294967296 + l := by
  obtain ⟨h, rfl⟩ := Int.eq_ofNat_of_zero_le (show 0 ≤ h by omega)
  obtain ⟨l, rfl⟩ := Int.eq_ofNat_of_zero_le (show 0 ≤ l by omega)
  have k := bits_or_u64_nat (h * 4294967296) l (by omega) (by omega)
  rw [or32n h l (by omega), Int.natCast_add, Int.natCast_mul] at k
  exact k
theorem mask32 (a : Int) (h : 0 ≤ a ∧ a ≤ 18446744073709551615) : bits .and .u64 a 4294967295 = a % 4294967296 := by
  obtain ⟨a, rfl⟩ := Int.eq_ofNat_of_zero_le (show 0 ≤ a by omega)
  rw [Mul64.maskN a (by omega)]
  omega
theorem tup2 {x y a b : Int} (h1 : x = a) (h2 : y = b) : Ending.returned (.tuple #[.int .u64 x, .int .u64 y]) = .returned (.tuple #[.int .u64 a, .int .u64 b]) := by rw [h1, h2]
set_option maxHeartbeats 1000000 in
theorem rising2w (v : Bool) (b : Nat) (x0 x1 : Int) (hv : decide (x0 ≤ x1) = v) (w : World) (h0 : w.cell? ⟨b, 0, none⟩ = some (.int .u64 x0)) (h1 : w.cell? ⟨b, 1, none⟩ = some (.int .u64 x1)) : Calls Try.prog 23 #[.slice (some ⟨b, 0, none⟩) 2 2] w fun e w' => e = .returned (.bool v) ∧ Below w.heap.size w w' := by
  subst hv
  go_enter Try.func23, Try.ntmps23
  go_wp2
  refine wp_loop_rounds 3 ?_
  repeat any_goals (rw [rounds_succ]; go_wp2; try go_quiet (fail); go_wp2)
  all_goals go_ret
  all_goals refine ⟨congrArg (fun b => Ending.returned (.bool b)) ?_, by first | exact below_drewN (Below.refl _ _) _ | exact below_drewN (below_drewN (Below.refl _ _) _) _ | exact below_drewN (below_drewN (below_drewN (Below.refl _ _) _) _) _⟩
  all_goals first | (exact (decide_eq_true (by omega)).symm) | (exact (decide_eq_false (by omega)).symm)
set_option maxHeartbeats 1000000 in
theorem rising3w (v : Bool) (b : Nat) (x0 x1 x2 : Int) (hv : decide (x0 ≤ x1 ∧ x1 ≤ x2) = v) (w : World) (h0 : w.cell? ⟨b, 0, none⟩ = some (.int .u64 x0)) (h1 : w.cell? ⟨b, 1, none⟩ = some (.int .u64 x1)) (h2 : w.cell? ⟨b, 2, none⟩ = some (.int .u64 x2)) : Calls Try.prog 23 #[.slice (some ⟨b, 0, none⟩) 3 3] w fun e w' => e = .returned (.bool v) ∧ Below w.heap.size w w' := by
  subst hv
  go_enter Try.func23, Try.ntmps23
  go_wp2
  refine wp_loop_rounds 4 ?_
  repeat any_goals (rw [rounds_succ]; go_wp2; try go_quiet (fail); go_wp2)
  all_goals go_ret
  all_goals refine ⟨congrArg (fun b => Ending.returned (.bool b)) ?_, by first | exact below_drewN (Below.refl _ _) _ | exact below_drewN (below_drewN (Below.refl _ _) _) _ | exact below_drewN (below_drewN (below_drewN (Below.refl _ _) _) _) _⟩
  all_goals first | (exact (decide_eq_true (by omega)).symm) | (exact (decide_eq_false (by omega)).symm)
set_option maxHeartbeats 1000000 in
theorem rising3i (v : Bool) (b : Nat) (x0 x1 x2 : Int) (hv : decide (x0 ≤ x1 ∧ x1 ≤ x2) = v) (w : World) (h0 : w.cell? ⟨b, 0, none⟩ = some (.int .i64 x0)) (h1 : w.cell? ⟨b, 1, none⟩ = some (.int .i64 x1)) (h2 : w.cell? ⟨b, 2, none⟩ = some (.int .i64 x2)) : Calls Try.prog 24 #[.slice (some ⟨b, 0, none⟩) 3 3] w fun e w' => e = .returned (.bool v) ∧ Below w.heap.size w w' := by
  subst hv
  go_enter Try.func24, Try.ntmps24
  go_wp2
  refine wp_loop_rounds 4 ?_
  repeat any_goals (rw [rounds_succ]; go_wp2; try go_quiet (fail); go_wp2)
  all_goals go_ret
  all_goals refine ⟨congrArg (fun b => Ending.returned (.bool b)) ?_, by first | exact below_drewN (Below.refl _ _) _ | exact below_drewN (below_drewN (Below.refl _ _) _) _ | exact below_drewN (below_drewN (below_drewN (Below.refl _ _) _) _) _⟩
  all_goals first | (exact (decide_eq_true (by omega)).symm) | (exact (decide_eq_false (by omega)).symm)
/-- two structs held against each other, a whole number first -/
theorem eqF_int {P : Program} {d : Nat} {xs ys : Array Value} {f : Field} {fs : List Field} {k k' : IntKind} {a b : Int} {r : Bool} {w : World} (hn : (f.name == "_") = false) (hu : P.underlying f.type = some (.int k'))
    (hx : (part f.type xs f.offset).run P w = .ok (.int k a) w) (hy : (part f.type ys f.offset).run P w = .ok (.int k b) w) (hr : (Op.eqFields (d + 1) xs ys fs).run P w = .ok r w) : (Op.eqFields (d + 1) xs ys (f :: fs)).run P w = .ok ((a == b) && r) w := by
  have hn' : f.name ≠ "_" := by simpa using hn
  simp only [Op.eqFields, ne_eq, hn', not_false_eq_true, if_true, Sem.run_bind, hx, hy, Result.andThen_ok, run_equalIn_int w d f.type k k' a b hu]
  cases h : (a == b)
  · simp
  · simp [hr]
def bkEq (b c : BK) : Bool := (b.rate == c.rate) && ((b.burst == c.burst) && ((b.level == c.level) && ((b.rem == c.rem) && ((b.at_ == c.at_) && true))))
set_option maxHeartbeats 4000000 in
theorem bk_eq (b c : BK) (w : World) : (Op.equalIn 10000 24 (bk b) (bk c)).run Try.prog w = .ok (bkEq b c) w := by
  rw [run_equalIn_struct w 9999 24 _ _ (by kernel_rfl) (by kernel_rfl)]
  have u64 := Try.underlying22
  have i64 := Try.underlying2
  unfold Program.fieldsOf
  rw [Try.underlying24]
  dsimp only
  unfold bkEq
  refine eqF_int (d := 9998) (k := .u64) (by decide) u64 (by simp [go_sem]) (by simp [go_sem]) ?_
  refine eqF_int (d := 9998) (k := .i64) (by decide) i64 (by simp [go_sem]) (by simp [go_sem]) ?_
  refine eqF_int (d := 9998) (k := .i64) (by decide) i64 (by simp [go_sem]) (by simp [go_sem]) ?_
  refine eqF_int (d := 9998) (k := .u64) (by decide) u64 (by simp [go_sem]) (by simp [go_sem]) ?_
  refine eqF_int (d := 9998) (k := .u64) (by decide) u64 (by simp [go_sem]) (by simp [go_sem]) ?_
  rfl
set_option maxRecDepth 4000 in
set_option maxHeartbeats 4000000 in
theorem bounded_p (b : BK) (w : World) : Calls Try.prog 25 #[bk b] w fun e w' => e = .returned (bk { b with level := min (max b.level (-1073741824)) b.burst }) ∧ Below w.heap.size w w' := by
  have H := Mem.start w
  go_enter Try.func25, Try.ntmps25
  go_wp2_with (first
    | go_skip
    | ((with_reducible show wpList _ _ _ (⟨_, .store _ _ _, _, _, _, _⟩ :: _) _ _); refine mem_storef (i := 0) H (by first | exact wanted_none rfl | exact wanted_some rfl rfl rfl rfl) (by exact rfl) (by exact rfl) (by exact rfl) (by exact rfl) (by first | exact infoW64 | exact infoI64) (by exact rfl) (by exact rfl) ?_; intro w2 H2; clear H; have H := H2; clear H2; simp only [List.cons_append, List.nil_append, List.set_cons_zero, List.set_cons_succ, List.setIfInBounds_toArray] at H)
    | ((with_reducible show wpList _ _ _ _ _ (World.alloc _ (.cells _ _))); refine mem_new H ?_; intro w2 H2; clear H; have H := H2; clear H2; simp only [List.cons_append, List.nil_append, List.set_cons_zero, List.set_cons_succ, List.setIfInBounds_toArray] at H)
    | ((with_reducible show wpList _ _ _ (⟨_, .load 24 _, _, _, _, _⟩ :: _) _ _); refine mem_load (i := 0) H (by first | exact wanted_none rfl | exact wanted_some rfl rfl rfl rfl) (by exact rfl) (by exact rfl) (by exact rfl) Try.underlying24 rfl (by exact bkInfo) ?_)
    | ((with_reducible show wpList _ _ _ (⟨_, .load 24 _, _, _, _, _⟩ :: _) _ _); refine mem_load (i := 1) H (by first | exact wanted_none rfl | exact wanted_some rfl rfl rfl rfl) (by exact rfl) (by exact rfl) (by exact rfl) Try.underlying24 rfl (by exact bkInfo) ?_)
    | ((with_reducible show wpList _ _ _ (⟨_, .load _ _, _, _, _, _⟩ :: _) _ _); refine mem_loadf (i := 0) H (by first | exact wanted_none rfl | exact wanted_some rfl rfl rfl rfl) (by exact rfl) (by exact rfl) (by exact rfl) (by first | exact Try.underlying22 | exact Try.underlying2) rfl (by exact rfl) ?_)
    | ((with_reducible show wpList _ _ _ (⟨_, .load _ _, _, _, _, _⟩ :: _) _ _); refine mem_loadf (i := 1) H (by first | exact wanted_none rfl | exact wanted_some rfl rfl rfl rfl) (by exact rfl) (by exact rfl) (by exact rfl) (by first | exact Try.underlying22 | exact Try.underlying2) rfl (by exact rfl) ?_)
    | ((with_reducible show wpList _ _ _ (⟨_, .store 24 _ _, _, _, _, _⟩ :: _) _ _); refine mem_store (i := 0) H (by first | exact wanted_none rfl | exact wanted_some rfl rfl rfl rfl) (by exact rfl) (by exact rfl) (by exact rfl) (by exact rfl) (by exact bkInfo) (by exact rfl) (by exact rfl) ?_; intro w2 H2; clear H; have H := H2; clear H2; simp only [List.cons_append, List.nil_append, List.set_cons_zero, List.set_cons_succ, List.setIfInBounds_toArray] at H)
    | ((with_reducible show wpList _ _ _ (⟨_, .store 24 _ _, _, _, _, _⟩ :: _) _ _); refine mem_store (i := 1) H (by first | exact wanted_none rfl | exact wanted_some rfl rfl rfl rfl) (by exact rfl) (by exact rfl) (by exact rfl) (by exact rfl) (by exact bkInfo) (by exact rfl) (by exact rfl) ?_; intro w2 H2; clear H; have H := H2; clear H2; simp only [List.cons_append, List.nil_append, List.set_cons_zero, List.set_cons_succ, List.setIfInBounds_toArray] at H))
  all_goals
    refine ret_held (H.at 1 rfl) (by exact rfl) (by exact rfl) Try.underlying24 rfl bkInfo ⟨?_, H.below⟩
    have e1 : (if b.burst < if b.level < -1073741824 then -1073741824 else b.level then b.burst else if b.level < -1073741824 then -1073741824 else b.level) = min (max b.level (-1073741824)) b.burst := by omega
    rw [e1]
/-- does a bucket allow a packet? -/
def allowsB (b : BK) : Bool := decide (b.rate = 0) || decide (0 < b.level)
set_option maxRecDepth 4000 in
set_option maxHeartbeats 4000000 in
theorem allows_p (b : BK) (w : World) : Calls Try.prog 28 #[bk b] w fun e w' => e = .returned (.bool (allowsB b)) ∧ Below w.heap.size w w' := by
  have H := Mem.start w
  by_cases hz : b.rate = 0
  · have z1 : (b.rate == 0) = true := by simpa using hz
    have e1 : allowsB b = true := by simp [allowsB, hz]
    rw [e1]
    clear hz e1
    go_enter Try.func28, Try.ntmps28
    go_wp2_with (first
      | go_skip
      | ((with_reducible show wpList _ _ _ _ _ (World.alloc _ (.cells _ _))); refine mem_new H ?_; intro w2 H2; clear H; have H := H2; clear H2; simp only [List.cons_append, List.nil_append, List.set_cons_zero, List.set_cons_succ, List.setIfInBounds_toArray] at H)
      | ((with_reducible show wpList _ _ _ (⟨_, .load _ _, _, _, _, _⟩ :: _) _ _); refine mem_loadf (i := 0) H (by first | exact wanted_none rfl | exact wanted_some rfl rfl rfl rfl) (by exact rfl) (by exact rfl) (by exact rfl) (by first | exact Try.underlying22 | exact Try.underlying2) rfl (by exact rfl) ?_))
    go_ret
    exact ⟨rfl, H.below⟩
  · have z1 : (b.rate == 0) = false := by simpa using hz
    have e1 : allowsB b = decide (0 < b.level) := by simp [allowsB, hz]
    rw [e1]
    clear hz e1
    go_enter Try.func28, Try.ntmps28
    go_wp2_with (first
      | go_skip
      | ((with_reducible show wpList _ _ _ _ _ (World.alloc _ (.cells _ _))); refine mem_new H ?_; intro w2 H2; clear H; have H := H2; clear H2; simp only [List.cons_append, List.nil_append, List.set_cons_zero, List.set_cons_succ, List.setIfInBounds_toArray] at H)
      | ((with_reducible show wpList _ _ _ (⟨_, .load _ _, _, _, _, _⟩ :: _) _ _); refine mem_loadf (i := 0) H (by first | exact wanted_none rfl | exact wanted_some rfl rfl rfl rfl) (by exact rfl) (by exact rfl) (by exact rfl) (by first | exact Try.underlying22 | exact Try.underlying2) rfl (by exact rfl) ?_))
    go_ret
    exact ⟨rfl, H.below⟩
set_option maxRecDepth 4000 in
set_option maxHeartbeats 4000000 in
theorem divided_p (h l : Int) (hh : 0 ≤ h ∧ h ≤ 18446744073709551615) (hl : 0 ≤ l ∧ l ≤ 18446744073709551615) (w : World) : Calls Try.prog 32 #[.int .u64 h, .int .u64 l] w fun e w' => e = .returned (.tuple #[.int .u64 ((h % 1000000000 * 18446744073709551616 + l) / 1000000000), .int .u64 ((h % 1000000000 * 18446744073709551616 + l) % 1000000000)]) ∧ w = w' := by
  go_enter Try.func32, Try.ntmps32
  go_wp2
  go_ret2
  have m1 := mask32 l hl
  have o1 := or32 (h % 1000000000) (l / 4294967296) (by omega) (by omega)
  obtain ⟨A, hA⟩ : ∃ x, h % 1000000000 * 4294967296 + l / 4294967296 = x := ⟨_, rfl⟩
  have a1 : A.tdiv 1000000000 = A / 1000000000 := Int.tdiv_eq_ediv_of_nonneg (by omega)
  have a2 : A.tmod 1000000000 = A % 1000000000 := Int.tmod_eq_emod_of_nonneg (by omega)
  have a3 : IntKind.u64.wrap (A % 1000000000 * 4294967296) = A % 1000000000 * 4294967296 := by rw [IntKind.wrap_u64]; omega
  have o2 := or32 (A % 1000000000) (l % 4294967296) (by omega) (by omega)
  obtain ⟨B, hB⟩ : ∃ x, A % 1000000000 * 4294967296 + l % 4294967296 = x := ⟨_, rfl⟩
  have b1 : B.tdiv 1000000000 = B / 1000000000 := Int.tdiv_eq_ediv_of_nonneg (by omega)
  have b2 : B.tmod 1000000000 = B % 1000000000 := Int.tmod_eq_emod_of_nonneg (by omega)
  have b3 : IntKind.u64.wrap (B / 1000000000) = B / 1000000000 := by rw [IntKind.wrap_u64]; omega
  have a4 : IntKind.u64.wrap (IntKind.u64.wrap (A / 1000000000) * 4294967296) = A / 1000000000 * 4294967296 := by simp only [IntKind.wrap_u64]; omega
  have o3 := or32 (A / 1000000000) (B / 1000000000) (by omega) (by omega)
  refine ⟨tup2 ?_ ?_, rfl⟩
  · simp only [m1, o1, hA, a1, a2, a3, o2, hB, b1, b3, a4, o3]
    omega
  · simp only [m1, o1, hA, a2, a3, o2, hB, b2]
    omega
set_option maxRecDepth 4000 in
set_option maxHeartbeats 4000000 in
theorem multiplying_p (f p : Int) (w : World) : Calls Try.prog 30 #[.int .u64 f, .int .u64 p] w fun e w' => e = .returned (.func (.func 37) #[] #[.pointer (some ⟨w.heap.size, 0, none⟩), .pointer (some ⟨w.heap.size + 1, 0, none⟩)]) ∧ w' = (w.alloc (.cells #[.int .u64 f] 22)).alloc (.cells #[.int .u64 p] 22) := by
  go_enter Try.func30, Try.ntmps30
  go_wp2
  go_ret
  exact ⟨by simp, rfl⟩
set_option maxRecDepth 4000 in
set_option maxHeartbeats 4000000 in
theorem multiplying1_p (f p n : Int) (hf : 0 ≤ f ∧ f ≤ 18446744073709551615) (hp : 0 ≤ p ∧ p ≤ 999999999) (hn : 0 ≤ n ∧ n ≤ 18446744073709551615) (bf bp : Nat) (w : World) (gf : Held w bf 22 #[.int .u64 f]) (gp : Held w bp 22 #[.int .u64 p]) : Calls Try.prog 37 #[.int .u64 n, .pointer (some ⟨bf, 0, none⟩), .pointer (some ⟨bp, 0, none⟩)] w fun e w' => e = .returned (.tuple #[.int .u64 ((f * n + p) / 18446744073709551616), .int .u64 ((f * n + p) % 18446744073709551616)]) ∧ w = w' := by
  go_enter Try.func37, Try.ntmps37
  go_wp2_with (first
    | go_skip
    | ((with_reducible show wpList _ _ _ (⟨_, .load _ _, _, _, _, _⟩ :: _) _ _); refine load_fld gf (by first | exact wanted_none rfl | exact wanted_some rfl rfl rfl rfl) (by exact rfl) (by exact rfl) (by first | exact Try.underlying22 | exact Try.underlying2) rfl (by exact rfl) ?_)
    | ((with_reducible show wpList _ _ _ (⟨_, .load _ _, _, _, _, _⟩ :: _) _ _); refine load_fld gp (by first | exact wanted_none rfl | exact wanted_some rfl rfl rfl rfl) (by exact rfl) (by exact rfl) (by first | exact Try.underlying22 | exact Try.underlying2) rfl (by exact rfl) ?_))
  go_ret2
  have mf := mask32 f hf
  have mn := mask32 n hn
  obtain ⟨fl, hfl⟩ : ∃ x, f % 4294967296 = x := ⟨_, rfl⟩
  obtain ⟨fh, hfh⟩ : ∃ x, f / 4294967296 = x := ⟨_, rfl⟩
  obtain ⟨nl, hnl⟩ : ∃ x, n % 4294967296 = x := ⟨_, rfl⟩
  obtain ⟨nh, hnh⟩ : ∃ x, n / 4294967296 = x := ⟨_, rfl⟩
  rw [hfl] at mf
  rw [hnl] at mn
  have efn : f * n = fh * nh * 18446744073709551616 + (fh * nl + fl * nh) * 4294967296 + fl * nl := by
    have ef : f = fh * 4294967296 + fl := by omega
    have en : n = nh * 4294967296 + nl := by omega
    rw [ef, en]
    simp only [Int.add_mul, Int.mul_add]
    have e1 : fh * 4294967296 * (nh * 4294967296) = fh * nh * 18446744073709551616 := by
      rw [Int.mul_assoc, Int.mul_left_comm 4294967296, ← Int.mul_assoc]
      rfl
    have e2 : fh * 4294967296 * nl = fh * nl * 4294967296 := by rw [Int.mul_assoc, Int.mul_comm 4294967296, ← Int.mul_assoc]
    have e3 : fl * (nh * 4294967296) = fl * nh * 4294967296 := by rw [← Int.mul_assoc]
    omega
  have bd : ∀ x y : Int, 0 ≤ x ∧ x ≤ 4294967295 → 0 ≤ y ∧ y ≤ 4294967295 → 0 ≤ x * y ∧ x * y ≤ 18446744065119617025 := fun x y hx hy => ⟨Int.mul_nonneg hx.1 hy.1, Int.mul_le_mul hx.2 hy.2 hy.1 (by omega)⟩
  have b1 := bd fh nh (by omega) (by omega)
  have b2 := bd fh nl (by omega) (by omega)
  have b3 := bd fl nh (by omega) (by omega)
  have b4 := bd fl nl (by omega) (by omega)
  obtain ⟨P1, h1⟩ : ∃ x, fh * nh = x := ⟨_, rfl⟩
  obtain ⟨P2, h2⟩ : ∃ x, fh * nl = x := ⟨_, rfl⟩
  obtain ⟨P3, h3⟩ : ∃ x, fl * nh = x := ⟨_, rfl⟩
  obtain ⟨P4, h4⟩ : ∃ x, fl * nl = x := ⟨_, rfl⟩
  rw [h1] at b1
  rw [h2] at b2
  rw [h3] at b3
  rw [h4] at b4
  rw [h1, h2, h3, h4] at efn
  have w1 : ∀ x : Int, 0 ≤ x ∧ x ≤ 18446744073709551615 → IntKind.u64.wrap x = x := fun x h => by rw [IntKind.wrap_u64]; omega
  have w4 := w1 P4 (by omega)
  have w4p := w1 (P4 + p) (by omega)
  have w2 := w1 P2 (by omega)
  have w3 := w1 P3 (by omega)
  have wp1 := w1 P1 (by omega)
  obtain ⟨RR, hR⟩ : ∃ x, P4 + p = x := ⟨_, rfl⟩
  rw [hR] at w4p
  have wC := w1 (P2 + RR / 4294967296) (by omega)
  obtain ⟨C, hC⟩ : ∃ x, P2 + RR / 4294967296 = x := ⟨_, rfl⟩
  rw [hC] at wC
  have mC := mask32 C (by omega)
  have mR := mask32 RR (by omega)
  have wO := w1 (P3 + C % 4294967296) (by omega)
  obtain ⟨O, hO⟩ : ∃ x, P3 + C % 4294967296 = x := ⟨_, rfl⟩
  rw [hO] at wO
  have wO2 : IntKind.u64.wrap (O * 4294967296) = O % 4294967296 * 4294967296 := by rw [IntKind.wrap_u64]; omega
  have o1 := or32 (O % 4294967296) (RR % 4294967296) (by omega) (by omega)
  have wx := w1 (P1 + C / 4294967296) (by omega)
  have wy := w1 (P1 + C / 4294967296 + O / 4294967296) (by omega)
  refine ⟨tup2 ?_ ?_, rfl⟩
  · simp only [hfh, hnh, mf, mn, h1, h2, h3, h4, w4, hR, w4p, w2, hC, wC, mC, w3, hO, wO, wp1, wx, wy]
    omega
  · simp only [hfh, hnh, mf, mn, h1, h2, h3, h4, w4, hR, w4p, w2, hC, wC, mC, w3, hO, wO, mR, wO2, o1]
    omega
end Go.Proofs.Ytmincladghbklaa
