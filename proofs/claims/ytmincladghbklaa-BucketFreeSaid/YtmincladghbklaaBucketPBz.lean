/-
  The contracts of bucket.Right and bucket.New. Conditions: those that each theorem names.
-/
import Derived.Test.YtmincladghbklaaBucketPB2
import Derived.Test.YtmincladghbklaaBucketPB3
import Derived.Test.YtmincladghbklaaBucketPB4
namespace Go.Proofs.Ytmincladghbklaa
set_option linter.unusedSimpArgs false
set_option linter.unusedVariables false
open Go.ChangeShapes Go.WideShapes Go.ChangeAt Go.RowKit

theorem right_p (b : BK) (w : World) : Calls Try.prog 13 #[bk b] w fun e w' => e = .returned (.bool b.right) ∧ Below w.heap.size w w' := by
  have hE : b.right = (decide (b.rate ≤ 1099511627776) && decide ((1 : Int) ≤ b.burst ∧ b.burst ≤ 1073741824) && bkEq { b with level := min (max b.level (-1073741824)) b.burst } b && decide (b.rem ≤ 999999999) && decide (b.at_ ≤ 9223372036854775807)) := by
    rw [Bool.eq_iff_iff]
    simp only [BK.right, bkEq, Bool.and_eq_true, decide_eq_true_eq, beq_iff_eq]
    constructor
    · rintro ⟨⟨⟨⟨⟨⟨h0, h1⟩, h2⟩, h3⟩, h4⟩, h5⟩, h6⟩
      exact ⟨⟨⟨⟨h0, h1, h2⟩, trivial, trivial, by omega, trivial, trivial, trivial⟩, h5⟩, h6⟩
    · rintro ⟨⟨⟨⟨h0, h1, h2⟩, -, -, h3, -⟩, h5⟩, h6⟩
      exact ⟨⟨⟨⟨⟨⟨h0, h1⟩, h2⟩, by omega⟩, by omega⟩, h5⟩, h6⟩
  rw [hE]
  clear hE
  cases E0 : decide (b.rate ≤ 1099511627776)
  · exact right_p0 b E0 w
  cases E1 : decide ((1 : Int) ≤ b.burst ∧ b.burst ≤ 1073741824)
  · exact right_p1 b E0 E1 w
  cases E2 : bkEq { b with level := min (max b.level (-1073741824)) b.burst } b
  · exact right_p2 b E0 E1 E2 w
  cases E3 : decide (b.rem ≤ 999999999)
  · exact right_p3 b E0 E1 E2 E3 w
  exact right_p4 b _ E0 E1 E2 E3 rfl w
set_option maxRecDepth 4000 in
set_option maxHeartbeats 4000000 in
theorem new_p (rate burst now : Int) (w : World) : Calls Try.prog 11 #[.int .u64 rate, .int .i64 burst, .int .u64 now] w fun e w' => e = .returned (.tuple #[bk (newV rate burst now), .int .i64 (newE rate burst now)]) ∧ Below w.heap.size w w' := by
  have hR := fun w => right_p (BK.new rate burst now) w
  rcases hr : (BK.new rate burst now).right
  all_goals
    rw [hr] at hR
    have H := Mem.start w
    go_enter Try.func11, Try.ntmps11
    go_wp2_with (first
      | go_skip
      | ((with_reducible show wpList _ _ _ _ _ (World.alloc _ (.cells _ _))); refine mem_new H ?_; intro w2 H2; clear H; have H := H2; clear H2; simp only [List.cons_append, List.nil_append, List.set_cons_zero, List.set_cons_succ, List.setIfInBounds_toArray] at H)
      | ((with_reducible show wpList _ _ _ (⟨_, .load 24 _, _, _, _, _⟩ :: _) _ _); refine mem_load (i := 0) H (by first | exact wanted_none rfl | exact wanted_some rfl rfl rfl rfl) (by exact rfl) (by exact rfl) (by exact rfl) Try.underlying24 rfl (by exact bkInfo) ?_)
      | ((with_reducible show wpList _ _ _ (⟨_, .load 24 _, _, _, _, _⟩ :: _) _ _); refine mem_load (i := 1) H (by first | exact wanted_none rfl | exact wanted_some rfl rfl rfl rfl) (by exact rfl) (by exact rfl) (by exact rfl) Try.underlying24 rfl (by exact bkInfo) ?_)
      | ((with_reducible show wpList _ _ _ (⟨_, .load _ _, _, _, _, _⟩ :: _) _ _); refine mem_loadf (i := 0) H (by first | exact wanted_none rfl | exact wanted_some rfl rfl rfl rfl) (by exact rfl) (by exact rfl) (by exact rfl) (by first | exact Try.underlying22 | exact Try.underlying2) rfl (by exact rfl) ?_)
      | ((with_reducible show wpList _ _ _ (⟨_, .load _ _, _, _, _, _⟩ :: _) _ _); refine mem_loadf (i := 1) H (by first | exact wanted_none rfl | exact wanted_some rfl rfl rfl rfl) (by exact rfl) (by exact rfl) (by exact rfl) (by first | exact Try.underlying22 | exact Try.underlying2) rfl (by exact rfl) ?_)
      | ((with_reducible show wpList _ _ _ (⟨_, .store 24 _ _, _, _, _, _⟩ :: _) _ _); refine mem_store (i := 0) H (by first | exact wanted_none rfl | exact wanted_some rfl rfl rfl rfl) (by exact rfl) (by exact rfl) (by exact rfl) (by exact rfl) (by exact bkInfo) (by exact rfl) (by exact rfl) ?_; intro w2 H2; clear H; have H := H2; clear H2; simp only [List.cons_append, List.nil_append, List.set_cons_zero, List.set_cons_succ, List.setIfInBounds_toArray] at H)
      | ((with_reducible show wpList _ _ _ (⟨_, .store 24 _ _, _, _, _, _⟩ :: _) _ _); refine mem_store (i := 1) H (by first | exact wanted_none rfl | exact wanted_some rfl rfl rfl rfl) (by exact rfl) (by exact rfl) (by exact rfl) (by exact rfl) (by exact bkInfo) (by exact rfl) (by exact rfl) ?_; intro w2 H2; clear H; have H := H2; clear H2; simp only [List.cons_append, List.nil_append, List.set_cons_zero, List.set_cons_succ, List.setIfInBounds_toArray] at H)
      | (go_at_call 13; refine (hR _).mono ?_; rintro e w2 ⟨rfl, hb⟩; have H2 := H.call hb; clear H hb; have H := H2; clear H2))
    refine ret_held2 (H.at 0 rfl) (by exact rfl) (by exact rfl) Try.underlying24 rfl bkInfo ⟨?_, H.below⟩
    simp only [newV, newE, hr, cond_true, cond_false]
    rfl
end Go.Proofs.Ytmincladghbklaa
