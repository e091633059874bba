/-
  The document's Right, New and gain of layer 5. Conditions: those that each theorem names.
-/
import Derived.Test.YtmincladghbklaaRows
import Derived.Test.YtmincladghbklaaBucketM
import Derived.Test.YtmincladghbklaaBitsD
import Derived.Test.YtmincladghbklaaMemP
import Derived.Test.YtmincladghbklaaStruct
import Derived.WalkKit
import Derived.ProofKit
import Derived.OpenShut
import Derived.Handy
namespace Go.Proofs.Ytmincladghbklaa
set_option linter.unusedSimpArgs false
set_option linter.unusedVariables false
open Go.ChangeShapes Go.WideShapes Go.ChangeAt Go.RowKit

/-- a bucket, as a value -/
abbrev bk (b : BK) : Value := .agg #[.int .u64 b.rate, .int .i64 b.burst, .int .i64 b.level, .int .u64 b.rem, .int .u64 b.at_]
theorem bkInfo : (Try.prog.info? 24).map (·.size) = some 5 := by kernel_rfl
theorem infoW64 : (Try.prog.info? 22).map (·.size) = some 1 := by kernel_rfl
theorem infoI64 : (Try.prog.info? 2).map (·.size) = some 1 := by kernel_rfl
/-- a struct is returned out of its box, and two things beside it -/
theorem ret_held3 {P : Program} {fn : Func} {p u v : Tmp} {ty : TypeId} {tmps : Array Value} {Q : Ending → World → Prop} {w : World} {b : Nat} {t : TypeId} {cs : Array Value} {d : TypeDesc} (g : Held w b t cs) (h : fn.results = #[.cell p ty, .tmp u, .tmp v]) (hp : tmps.getD p undef = .pointer (some ⟨b, 0, none⟩)) (hu : P.underlying ty = some d) (hd : (match d with | .struct _ | .array _ _ => true | _ => false) = true) (hi : (P.info? ty).map (·.size) = some cs.size)
    (hq : Q (.returned (.tuple #[.agg cs, tmps.getD u undef, tmps.getD v undef])) w) : bodyPost P fn Q .ret { tmps := tmps, defers := [] } w :=
  bodyPost_ret (v := .tuple #[.agg cs, tmps.getD u undef, tmps.getD v undef]) (by
    have e : (results fn tmps).run P w = ((asAddr (tmps.getD p undef)).run P w).andThen fun a w₁ => ((loadVar ty a).run P w₁).andThen fun x w₂ => .ok (.tuple #[x, tmps.getD u undef, tmps.getD v undef]) w₂ := by
      simp only [results, h]
      simp [Sem.run_bind, Result.andThen]
    rw [e, hp]
    simp [asAddr, run_loadVar_row w b t ty cs (0, 0) d g hu hd hi]) rfl hq
set_option maxRecDepth 4000 in
set_option maxHeartbeats 4000000 in
theorem right_r (b : BK) (w : World) : Calls Try.prog 14 #[bk b] w fun e w' => e = .returned (.bool b.right) ∧ Below w.heap.size w w' := by
  have hE : b.right = (decide (b.rate ≤ 1099511627776) && decide (1 ≤ b.burst) && decide (b.burst ≤ 1073741824) && decide (b.level ≤ b.burst) && decide (-1073741824 ≤ b.level) && decide (b.rem < 1000000000) && decide (b.at_ ≤ 9223372036854775807)) := by
    unfold BK.right
    have e : (b.rem ≤ 999999999) = (b.rem < 1000000000) := by rw [eq_iff_iff]; omega
    simp only [e]
  rw [hE]
  clear hE
  have H := Mem.start w
  obtain ⟨v0, h0⟩ : ∃ v, decide (b.rate ≤ 1099511627776) = v := ⟨_, rfl⟩
  obtain ⟨v1, h1⟩ : ∃ v, decide (1 ≤ b.burst) = v := ⟨_, rfl⟩
  obtain ⟨v2, h2⟩ : ∃ v, decide (b.burst ≤ 1073741824) = v := ⟨_, rfl⟩
  obtain ⟨v3, h3⟩ : ∃ v, decide (b.level ≤ b.burst) = v := ⟨_, rfl⟩
  obtain ⟨v4, h4⟩ : ∃ v, decide (-1073741824 ≤ b.level) = v := ⟨_, rfl⟩
  obtain ⟨v5, h5⟩ : ∃ v, decide (b.rem < 1000000000) = v := ⟨_, rfl⟩
  obtain ⟨v6, h6⟩ : ∃ v, decide (b.at_ ≤ 9223372036854775807) = v := ⟨_, rfl⟩
  rw [h0, h1, h2, h3, h4, h5, h6]
  go_enter Try.func14, Try.ntmps14
  cases v0
  case false =>
    go_wp2_with (first
      | go_skip
      | go_skip
      | ((with_reducible show wpList _ _ _ _ _ (World.alloc _ (.cells _ _))); refine mem_new H ?_; intro w2 H2; clear H; have H := H2; clear H2; simp only [List.cons_append, List.nil_append, List.set_cons_zero, List.set_cons_succ, List.setIfInBounds_toArray] at H)
      | ((with_reducible show wpList _ _ _ (⟨_, .load _ _, _, _, _, _⟩ :: _) _ _); refine mem_loadf (i := 0) H (by first | exact wanted_none rfl | exact wanted_some rfl rfl rfl rfl) (by exact rfl) (by exact rfl) (by exact rfl) (by first | exact Try.underlying22 | exact Try.underlying2) rfl (by exact rfl) ?_))
    go_ret
    exact ⟨rfl, H.below⟩
  cases v1
  case false =>
    go_wp2_with (first
      | go_skip
      | go_skip
      | ((with_reducible show wpList _ _ _ _ _ (World.alloc _ (.cells _ _))); refine mem_new H ?_; intro w2 H2; clear H; have H := H2; clear H2; simp only [List.cons_append, List.nil_append, List.set_cons_zero, List.set_cons_succ, List.setIfInBounds_toArray] at H)
      | ((with_reducible show wpList _ _ _ (⟨_, .load _ _, _, _, _, _⟩ :: _) _ _); refine mem_loadf (i := 0) H (by first | exact wanted_none rfl | exact wanted_some rfl rfl rfl rfl) (by exact rfl) (by exact rfl) (by exact rfl) (by first | exact Try.underlying22 | exact Try.underlying2) rfl (by exact rfl) ?_))
    go_ret
    exact ⟨rfl, H.below⟩
  cases v2
  case false =>
    go_wp2_with (first
      | go_skip
      | go_skip
      | ((with_reducible show wpList _ _ _ _ _ (World.alloc _ (.cells _ _))); refine mem_new H ?_; intro w2 H2; clear H; have H := H2; clear H2; simp only [List.cons_append, List.nil_append, List.set_cons_zero, List.set_cons_succ, List.setIfInBounds_toArray] at H)
      | ((with_reducible show wpList _ _ _ (⟨_, .load _ _, _, _, _, _⟩ :: _) _ _); refine mem_loadf (i := 0) H (by first | exact wanted_none rfl | exact wanted_some rfl rfl rfl rfl) (by exact rfl) (by exact rfl) (by exact rfl) (by first | exact Try.underlying22 | exact Try.underlying2) rfl (by exact rfl) ?_))
    go_ret
    exact ⟨rfl, H.below⟩
  cases v3
  case false =>
    go_wp2_with (first
      | go_skip
      | go_skip
      | ((with_reducible show wpList _ _ _ _ _ (World.alloc _ (.cells _ _))); refine mem_new H ?_; intro w2 H2; clear H; have H := H2; clear H2; simp only [List.cons_append, List.nil_append, List.set_cons_zero, List.set_cons_succ, List.setIfInBounds_toArray] at H)
      | ((with_reducible show wpList _ _ _ (⟨_, .load _ _, _, _, _, _⟩ :: _) _ _); refine mem_loadf (i := 0) H (by first | exact wanted_none rfl | exact wanted_some rfl rfl rfl rfl) (by exact rfl) (by exact rfl) (by exact rfl) (by first | exact Try.underlying22 | exact Try.underlying2) rfl (by exact rfl) ?_))
    go_ret
    exact ⟨rfl, H.below⟩
  cases v4
  case false =>
    go_wp2_with (first
      | go_skip
      | go_skip
      | ((with_reducible show wpList _ _ _ _ _ (World.alloc _ (.cells _ _))); refine mem_new H ?_; intro w2 H2; clear H; have H := H2; clear H2; simp only [List.cons_append, List.nil_append, List.set_cons_zero, List.set_cons_succ, List.setIfInBounds_toArray] at H)
      | ((with_reducible show wpList _ _ _ (⟨_, .load _ _, _, _, _, _⟩ :: _) _ _); refine mem_loadf (i := 0) H (by first | exact wanted_none rfl | exact wanted_some rfl rfl rfl rfl) (by exact rfl) (by exact rfl) (by exact rfl) (by first | exact Try.underlying22 | exact Try.underlying2) rfl (by exact rfl) ?_))
    go_ret
    exact ⟨rfl, H.below⟩
  cases v5
  case false =>
    go_wp2_with (first
      | go_skip
      | go_skip
      | ((with_reducible show wpList _ _ _ _ _ (World.alloc _ (.cells _ _))); refine mem_new H ?_; intro w2 H2; clear H; have H := H2; clear H2; simp only [List.cons_append, List.nil_append, List.set_cons_zero, List.set_cons_succ, List.setIfInBounds_toArray] at H)
      | ((with_reducible show wpList _ _ _ (⟨_, .load _ _, _, _, _, _⟩ :: _) _ _); refine mem_loadf (i := 0) H (by first | exact wanted_none rfl | exact wanted_some rfl rfl rfl rfl) (by exact rfl) (by exact rfl) (by exact rfl) (by first | exact Try.underlying22 | exact Try.underlying2) rfl (by exact rfl) ?_))
    go_ret
    exact ⟨rfl, H.below⟩
  cases v6
  all_goals
    go_wp2_with (first
      | go_skip
      | go_skip
      | ((with_reducible show wpList _ _ _ _ _ (World.alloc _ (.cells _ _))); refine mem_new H ?_; intro w2 H2; clear H; have H := H2; clear H2; simp only [List.cons_append, List.nil_append, List.set_cons_zero, List.set_cons_succ, List.setIfInBounds_toArray] at H)
      | ((with_reducible show wpList _ _ _ (⟨_, .load _ _, _, _, _, _⟩ :: _) _ _); refine mem_loadf (i := 0) H (by first | exact wanted_none rfl | exact wanted_some rfl rfl rfl rfl) (by exact rfl) (by exact rfl) (by exact rfl) (by first | exact Try.underlying22 | exact Try.underlying2) rfl (by exact rfl) ?_))
    go_ret
    exact ⟨rfl, H.below⟩
/-- a new bucket, and the code -/
def newV (rate burst now : Int) : BK := bif (BK.new rate burst now).right then BK.new rate burst now else BK.none_
def newE (rate burst now : Int) : Int := bif (BK.new rate burst now).right then 0 else 2
set_option maxRecDepth 4000 in
set_option maxHeartbeats 4000000 in
theorem new_r (rate burst now : Int) (w : World) : Calls Try.prog 12 #[.int .u64 rate, .int .i64 burst, .int .u64 now] w fun e w' => e = .returned (.tuple #[bk (newV rate burst now), .int .i64 (newE rate burst now)]) ∧ Below w.heap.size w w' := by
  have hR := fun w => right_r (BK.new rate burst now) w
  rcases hr : (BK.new rate burst now).right
  all_goals
    rw [hr] at hR
    have H := Mem.start w
    go_enter Try.func12, Try.ntmps12
    go_wp2_with (first
      | go_skip
      | ((with_reducible show wpList _ _ _ _ _ (World.alloc _ (.cells _ _))); refine mem_new H ?_; intro w2 H2; clear H; have H := H2; clear H2; simp only [List.cons_append, List.nil_append, List.set_cons_zero, List.set_cons_succ, List.setIfInBounds_toArray] at H)
      | ((with_reducible show wpList _ _ _ (⟨_, .load 24 _, _, _, _, _⟩ :: _) _ _); refine mem_load (i := 0) H (by first | exact wanted_none rfl | exact wanted_some rfl rfl rfl rfl) (by exact rfl) (by exact rfl) (by exact rfl) Try.underlying24 rfl (by exact bkInfo) ?_)
      | ((with_reducible show wpList _ _ _ (⟨_, .load 24 _, _, _, _, _⟩ :: _) _ _); refine mem_load (i := 1) H (by first | exact wanted_none rfl | exact wanted_some rfl rfl rfl rfl) (by exact rfl) (by exact rfl) (by exact rfl) Try.underlying24 rfl (by exact bkInfo) ?_)
      | ((with_reducible show wpList _ _ _ (⟨_, .load _ _, _, _, _, _⟩ :: _) _ _); refine mem_loadf (i := 0) H (by first | exact wanted_none rfl | exact wanted_some rfl rfl rfl rfl) (by exact rfl) (by exact rfl) (by exact rfl) (by first | exact Try.underlying22 | exact Try.underlying2) rfl (by exact rfl) ?_)
      | ((with_reducible show wpList _ _ _ (⟨_, .load _ _, _, _, _, _⟩ :: _) _ _); refine mem_loadf (i := 1) H (by first | exact wanted_none rfl | exact wanted_some rfl rfl rfl rfl) (by exact rfl) (by exact rfl) (by exact rfl) (by first | exact Try.underlying22 | exact Try.underlying2) rfl (by exact rfl) ?_)
      | ((with_reducible show wpList _ _ _ (⟨_, .store 24 _ _, _, _, _, _⟩ :: _) _ _); refine mem_store (i := 0) H (by first | exact wanted_none rfl | exact wanted_some rfl rfl rfl rfl) (by exact rfl) (by exact rfl) (by exact rfl) (by exact rfl) (by exact bkInfo) (by exact rfl) (by exact rfl) ?_; intro w2 H2; clear H; have H := H2; clear H2; simp only [List.cons_append, List.nil_append, List.set_cons_zero, List.set_cons_succ, List.setIfInBounds_toArray] at H)
      | ((with_reducible show wpList _ _ _ (⟨_, .store 24 _ _, _, _, _, _⟩ :: _) _ _); refine mem_store (i := 1) H (by first | exact wanted_none rfl | exact wanted_some rfl rfl rfl rfl) (by exact rfl) (by exact rfl) (by exact rfl) (by exact rfl) (by exact bkInfo) (by exact rfl) (by exact rfl) ?_; intro w2 H2; clear H; have H := H2; clear H2; simp only [List.cons_append, List.nil_append, List.set_cons_zero, List.set_cons_succ, List.setIfInBounds_toArray] at H)
      | (go_at_call 14; refine (hR _).mono ?_; rintro e w2 ⟨rfl, hb⟩; have H2 := H.call hb; clear H hb; have H := H2; clear H2))
    refine ret_held2 (H.at 0 rfl) (by exact rfl) (by exact rfl) Try.underlying24 rfl bkInfo ⟨?_, H.below⟩
    simp only [newV, newE, hr, cond_true, cond_false]
    rfl
/-- what a rate gives in some time: the bytes, and what is left of one -/
def gainQ (g : Int) : Int := if 1000000000 ≤ g / 18446744073709551616 then 4611686018427387904 else min (g / 1000000000) 4611686018427387904
def gainR (g : Int) : Int := if 1000000000 ≤ g / 18446744073709551616 then 0 else g % 1000000000
set_option maxRecDepth 4000 in
set_option maxHeartbeats 4000000 in
theorem gain_r (rate ns rem : Int) (h0 : 0 ≤ rate ∧ rate ≤ 1099511627776) (h1 : 0 ≤ ns ∧ ns ≤ 9223372036854775807) (h2 : 0 ≤ rem ∧ rem ≤ 999999999) (w : World) : Calls Try.prog 27 #[.int .u64 rate, .int .u64 ns, .int .u64 rem] w fun e w' => e = .returned (.tuple #[.int .u64 (gainQ (rate * ns + rem)), .int .u64 (gainR (rate * ns + rem))]) ∧ Below w.heap.size w w' := by
  have hp0 : 0 ≤ rate * ns := Int.mul_nonneg h0.1 h1.1
  have hp1 : rate * ns ≤ 1099511627776 * 9223372036854775807 := Int.mul_le_mul h0.2 h1.2 h1.1 (by omega)
  have hM := fun w => mul64 rate ns (by omega) (by omega) w
  obtain ⟨p, hp⟩ : ∃ p, rate * ns = p := ⟨_, rfl⟩
  rw [hp] at hM hp0 hp1 ⊢
  clear hp
  have hA := fun w => add64 (p % 18446744073709551616) rem (by omega) (by omega) w
  obtain ⟨hi, hhi⟩ : ∃ x, (p + rem) / 18446744073709551616 = x := ⟨_, rfl⟩
  obtain ⟨lo, hlo⟩ : ∃ x, (p + rem) % 18446744073709551616 = x := ⟨_, rfl⟩
  have a1 : (p % 18446744073709551616 + rem) % 18446744073709551616 = lo := by omega
  have a2 : p / 18446744073709551616 + (p % 18446744073709551616 + rem) / 18446744073709551616 = hi := by omega
  have b1 : 0 ≤ hi ∧ hi ≤ 549755813888 := by omega
  have b2 : 0 ≤ lo ∧ lo ≤ 18446744073709551615 := by omega
  have H := Mem.start w
  rw [a1] at hA
  by_cases hc : 1000000000 ≤ hi
  · have q : gainQ (p + rem) = 4611686018427387904 ∧ gainR (p + rem) = 0 := by unfold gainQ gainR; rw [hhi, if_pos hc, if_pos hc]; exact ⟨rfl, rfl⟩
    rw [q.1, q.2]
    clear q
    have c1 : decide (1000000000 ≤ hi) = true := decide_eq_true hc
    go_enter Try.func27, Try.ntmps27
    go_wp2_with (first
      | go_skip
      | (go_at_call 33; refine (hM _).mono ?_; rintro e w' ⟨rfl, rfl⟩)
      | (simp only [hA]))
    go_ret2
    exact ⟨rfl, H.below⟩
  · have eg : p + rem = hi * 18446744073709551616 + lo := by omega
    have hD := fun w => div64 hi lo (by omega) b2 w
    rw [← eg] at hD
    have q : gainQ (p + rem) = min ((p + rem) / 1000000000) 4611686018427387904 ∧ gainR (p + rem) = (p + rem) % 1000000000 := by unfold gainQ gainR; rw [hhi, if_neg hc, if_neg hc]; exact ⟨rfl, rfl⟩
    rw [q.1, q.2]
    clear q
    have c1 : decide (1000000000 ≤ hi) = false := decide_eq_false hc
    obtain ⟨Q, hQ⟩ : ∃ x, (p + rem) / 1000000000 = x := ⟨_, rfl⟩
    obtain ⟨R, hR⟩ : ∃ x, (p + rem) % 1000000000 = x := ⟨_, rfl⟩
    rw [hQ, hR] at hD ⊢
    clear hQ hR eg hhi hlo
    go_enter Try.func27, Try.ntmps27
    go_wp2_with (first
      | go_skip
      | (go_at_call 33; refine (hM _).mono ?_; rintro e w' ⟨rfl, rfl⟩)
      | (simp only [hA])
      | (go_at_call 35; refine (hD _).mono ?_; rintro e w2 ⟨rfl, hb⟩; have H2 := H.call hb; clear H hb; have H := H2; clear H2))
    all_goals
      go_ret2
      refine ⟨?_, H.below⟩
      first
        | (rw [show min Q 4611686018427387904 = 4611686018427387904 by omega]; rfl)
        | (rw [show min Q 4611686018427387904 = Q by omega]; rfl)
end Go.Proofs.Ytmincladghbklaa
