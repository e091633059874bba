/-
  Contracts of bucket.Take, bucket.Next and bucket.SetRate. Conditions: the numbers fit their kinds.
-/
import Derived.Test.YtmincladghbklaaBucketPE
namespace Go.Proofs.Ytmincladghbklaa
set_option linter.unusedSimpArgs false
set_option linter.unusedVariables false
open Go.ChangeShapes Go.WideShapes Go.ChangeAt Go.RowKit

set_option maxRecDepth 4000 in
set_option maxHeartbeats 4000000 in
theorem take_p0 (b : BK) (n : Int) (hr : b.right = false) (w : World) : Calls Try.prog 17 #[bk b, .int .i64 n] w fun e w' => e = .returned (.tuple #[bk BK.none_, .bool false, .int .i64 2]) ∧ Below w.heap.size w w' := by
  have hR := fun w => right_p b w
  rw [hr] at hR
  clear hr
  have H := Mem.start w
  go_enter Try.func17, Try.ntmps17
  go_wp2_with (first
    | go_skip
    | ((with_reducible show wpList _ _ _ _ _ (World.alloc _ (.cells _ _))); refine mem_new H ?_; intro w2 H2; clear H; have H := H2; clear H2; simp only [List.cons_append, List.nil_append, List.set_cons_zero, List.set_cons_succ, List.setIfInBounds_toArray] at H)
    | ((with_reducible show wpList _ _ _ (⟨_, .load 24 _, _, _, _, _⟩ :: _) _ _); refine mem_load (i := 0) H (by first | exact wanted_none rfl | exact wanted_some rfl rfl rfl rfl) (by exact rfl) (by exact rfl) (by exact rfl) Try.underlying24 rfl (by exact bkInfo) ?_)
    | ((with_reducible show wpList _ _ _ (⟨_, .load _ _, _, _, _, _⟩ :: _) _ _); refine mem_loadf (i := 0) H (by first | exact wanted_none rfl | exact wanted_some rfl rfl rfl rfl) (by exact rfl) (by exact rfl) (by exact rfl) (by first | exact Try.underlying22 | exact Try.underlying2) rfl (by exact rfl) ?_)
    | ((with_reducible show wpList _ _ _ (⟨_, .store 24 _ _, _, _, _, _⟩ :: _) _ _); refine mem_store (i := 1) H (by first | exact wanted_none rfl | exact wanted_some rfl rfl rfl rfl) (by exact rfl) (by exact rfl) (by exact rfl) (by exact rfl) (by exact bkInfo) (by exact rfl) (by exact rfl) ?_; intro w2 H2; clear H; have H := H2; clear H2; simp only [List.cons_append, List.nil_append, List.set_cons_zero, List.set_cons_succ, List.setIfInBounds_toArray] at H)
    | (go_at_call 13; refine (hR _).mono ?_; rintro e w2 ⟨rfl, hb⟩; have H2 := H.call hb; clear H hb; have H := H2; clear H2))
  refine ret_held3 (H.at 1 rfl) (by exact rfl) (by exact rfl) Try.underlying24 rfl bkInfo ⟨?_, H.below⟩
  rfl
set_option maxRecDepth 4000 in
set_option maxHeartbeats 4000000 in
theorem take_p1 (b : BK) (n : Int) (hr : b.right = true) (E : decide (1 ≤ n ∧ n ≤ 65535) = false) (w : World) : Calls Try.prog 17 #[bk b, .int .i64 n] w fun e w' => e = .returned (.tuple #[bk BK.none_, .bool false, .int .i64 2]) ∧ Below w.heap.size w w' := by
  have hR := fun w => right_p b w
  rw [hr] at hR
  clear hr
  have H := Mem.start w
  go_enter Try.func17, Try.ntmps17
  go_wp2_with (first
    | go_skip
    | ((with_reducible show wpList _ _ _ _ _ (World.alloc _ (.cells _ _))); refine mem_new H ?_; intro w2 H2; clear H; have H := H2; clear H2; simp only [List.cons_append, List.nil_append, List.set_cons_zero, List.set_cons_succ, List.setIfInBounds_toArray] at H)
    | ((with_reducible show wpList _ _ _ (⟨_, .load 24 _, _, _, _, _⟩ :: _) _ _); refine mem_load (i := 0) H (by first | exact wanted_none rfl | exact wanted_some rfl rfl rfl rfl) (by exact rfl) (by exact rfl) (by exact rfl) Try.underlying24 rfl (by exact bkInfo) ?_)
    | ((with_reducible show wpList _ _ _ (⟨_, .load _ _, _, _, _, _⟩ :: _) _ _); refine mem_loadf (i := 0) H (by first | exact wanted_none rfl | exact wanted_some rfl rfl rfl rfl) (by exact rfl) (by exact rfl) (by exact rfl) (by first | exact Try.underlying22 | exact Try.underlying2) rfl (by exact rfl) ?_)
    | ((with_reducible show wpList _ _ _ (⟨_, .store 24 _ _, _, _, _, _⟩ :: _) _ _); refine mem_store (i := 1) H (by first | exact wanted_none rfl | exact wanted_some rfl rfl rfl rfl) (by exact rfl) (by exact rfl) (by exact rfl) (by exact rfl) (by exact bkInfo) (by exact rfl) (by exact rfl) ?_; intro w2 H2; clear H; have H := H2; clear H2; simp only [List.cons_append, List.nil_append, List.set_cons_zero, List.set_cons_succ, List.setIfInBounds_toArray] at H)
    | (go_at_call 13; refine (hR _).mono ?_; rintro e w2 ⟨rfl, hb⟩; have H2 := H.call hb; clear H hb; have H := H2; clear H2)
    | (go_at_call 24; refine (rising3i false _ 1 n 65535 E _ ((H.at 2 rfl).cell 0) ((H.at 2 rfl).cell 1) ((H.at 2 rfl).cell 2)).mono ?_; rintro e w2 ⟨rfl, hb⟩; have H2 := H.call hb; clear H hb; have H := H2; clear H2))
  refine ret_held3 (H.at 1 rfl) (by exact rfl) (by exact rfl) Try.underlying24 rfl bkInfo ⟨?_, H.below⟩
  rfl
set_option maxRecDepth 4000 in
set_option maxHeartbeats 4000000 in
theorem take_p2 (b : BK) (n : Int) (hr : b.right = true) (E : decide (1 ≤ n ∧ n ≤ 65535) = true) (ha : allowsB b = false) (w : World) : Calls Try.prog 17 #[bk b, .int .i64 n] w fun e w' => e = .returned (.tuple #[bk b, .bool false, .int .i64 0]) ∧ Below w.heap.size w w' := by
  have hR := fun w => right_p b w
  rw [hr] at hR
  clear hr
  have hA := fun w => allows_p b w
  rw [ha] at hA
  clear ha
  have H := Mem.start w
  go_enter Try.func17, Try.ntmps17
  go_wp2_with (first
    | go_skip
    | ((with_reducible show wpList _ _ _ _ _ (World.alloc _ (.cells _ _))); refine mem_new H ?_; intro w2 H2; clear H; have H := H2; clear H2; simp only [List.cons_append, List.nil_append, List.set_cons_zero, List.set_cons_succ, List.setIfInBounds_toArray] at H)
    | ((with_reducible show wpList _ _ _ (⟨_, .load 24 _, _, _, _, _⟩ :: _) _ _); refine mem_load (i := 0) H (by first | exact wanted_none rfl | exact wanted_some rfl rfl rfl rfl) (by exact rfl) (by exact rfl) (by exact rfl) Try.underlying24 rfl (by exact bkInfo) ?_)
    | ((with_reducible show wpList _ _ _ (⟨_, .load _ _, _, _, _, _⟩ :: _) _ _); refine mem_loadf (i := 0) H (by first | exact wanted_none rfl | exact wanted_some rfl rfl rfl rfl) (by exact rfl) (by exact rfl) (by exact rfl) (by first | exact Try.underlying22 | exact Try.underlying2) rfl (by exact rfl) ?_)
    | ((with_reducible show wpList _ _ _ (⟨_, .store 24 _ _, _, _, _, _⟩ :: _) _ _); refine mem_store (i := 1) H (by first | exact wanted_none rfl | exact wanted_some rfl rfl rfl rfl) (by exact rfl) (by exact rfl) (by exact rfl) (by exact rfl) (by exact bkInfo) (by exact rfl) (by exact rfl) ?_; intro w2 H2; clear H; have H := H2; clear H2; simp only [List.cons_append, List.nil_append, List.set_cons_zero, List.set_cons_succ, List.setIfInBounds_toArray] at H)
    | (go_at_call 13; refine (hR _).mono ?_; rintro e w2 ⟨rfl, hb⟩; have H2 := H.call hb; clear H hb; have H := H2; clear H2)
    | (go_at_call 24; refine (rising3i true _ 1 n 65535 E _ ((H.at 2 rfl).cell 0) ((H.at 2 rfl).cell 1) ((H.at 2 rfl).cell 2)).mono ?_; rintro e w2 ⟨rfl, hb⟩; have H2 := H.call hb; clear H hb; have H := H2; clear H2)
    | (go_at_call 28; refine (hA _).mono ?_; rintro e w2 ⟨rfl, hb⟩; have H2 := H.call hb; clear H hb; have H := H2; clear H2))
  refine ret_held3 (H.at 1 rfl) (by exact rfl) (by exact rfl) Try.underlying24 rfl bkInfo ⟨?_, H.below⟩
  rfl
set_option maxRecDepth 4000 in
set_option maxHeartbeats 4000000 in
theorem take_p3 (b : BK) (n : Int) (hr : b.right = true) (E : decide (1 ≤ n ∧ n ≤ 65535) = true) (ha : allowsB b = true) (hz : b.rate = 0) (w : World) : Calls Try.prog 17 #[bk b, .int .i64 n] w fun e w' => e = .returned (.tuple #[bk b, .bool true, .int .i64 0]) ∧ Below w.heap.size w w' := by
  have hR := fun w => right_p b w
  rw [hr] at hR
  clear hr
  have z1 : decide (0 < b.rate) = false := decide_eq_false (by omega)
  clear hz
  have hA := fun w => allows_p b w
  rw [ha] at hA
  clear ha
  have H := Mem.start w
  go_enter Try.func17, Try.ntmps17
  go_wp2_with (first
    | go_skip
    | ((with_reducible show wpList _ _ _ _ _ (World.alloc _ (.cells _ _))); refine mem_new H ?_; intro w2 H2; clear H; have H := H2; clear H2; simp only [List.cons_append, List.nil_append, List.set_cons_zero, List.set_cons_succ, List.setIfInBounds_toArray] at H)
    | ((with_reducible show wpList _ _ _ (⟨_, .load 24 _, _, _, _, _⟩ :: _) _ _); refine mem_load (i := 0) H (by first | exact wanted_none rfl | exact wanted_some rfl rfl rfl rfl) (by exact rfl) (by exact rfl) (by exact rfl) Try.underlying24 rfl (by exact bkInfo) ?_)
    | ((with_reducible show wpList _ _ _ (⟨_, .load _ _, _, _, _, _⟩ :: _) _ _); refine mem_loadf (i := 0) H (by first | exact wanted_none rfl | exact wanted_some rfl rfl rfl rfl) (by exact rfl) (by exact rfl) (by exact rfl) (by first | exact Try.underlying22 | exact Try.underlying2) rfl (by exact rfl) ?_)
    | ((with_reducible show wpList _ _ _ (⟨_, .store 24 _ _, _, _, _, _⟩ :: _) _ _); refine mem_store (i := 1) H (by first | exact wanted_none rfl | exact wanted_some rfl rfl rfl rfl) (by exact rfl) (by exact rfl) (by exact rfl) (by exact rfl) (by exact bkInfo) (by exact rfl) (by exact rfl) ?_; intro w2 H2; clear H; have H := H2; clear H2; simp only [List.cons_append, List.nil_append, List.set_cons_zero, List.set_cons_succ, List.setIfInBounds_toArray] at H)
    | (go_at_call 13; refine (hR _).mono ?_; rintro e w2 ⟨rfl, hb⟩; have H2 := H.call hb; clear H hb; have H := H2; clear H2)
    | (go_at_call 24; refine (rising3i true _ 1 n 65535 E _ ((H.at 2 rfl).cell 0) ((H.at 2 rfl).cell 1) ((H.at 2 rfl).cell 2)).mono ?_; rintro e w2 ⟨rfl, hb⟩; have H2 := H.call hb; clear H hb; have H := H2; clear H2)
    | (go_at_call 28; refine (hA _).mono ?_; rintro e w2 ⟨rfl, hb⟩; have H2 := H.call hb; clear H hb; have H := H2; clear H2))
  refine ret_held3 (H.at 1 rfl) (by exact rfl) (by exact rfl) Try.underlying24 rfl bkInfo ⟨?_, H.below⟩
  rfl
set_option maxRecDepth 4000 in
set_option maxHeartbeats 4000000 in
theorem take_p4 (b : BK) (n : Int) (hr : b.right = true) (E : decide (1 ≤ n ∧ n ≤ 65535) = true) (ha : allowsB b = true) (hz : 0 < b.rate) (hl : -1073741824 ≤ b.level ∧ b.level ≤ 1073741824) (w : World) : Calls Try.prog 17 #[bk b, .int .i64 n] w fun e w' => e = .returned (.tuple #[bk (b.taken n), .bool true, .int .i64 0]) ∧ Below w.heap.size w w' := by
  have hR := fun w => right_p b w
  rw [hr] at hR
  clear hr
  have z1 : decide (0 < b.rate) = true := decide_eq_true hz
  have hn : 1 ≤ n ∧ n ≤ 65535 := of_decide_eq_true E
  clear hz
  have hA := fun w => allows_p b w
  rw [ha] at hA
  clear ha
  have H := Mem.start w
  go_enter Try.func17, Try.ntmps17
  go_wp2_with (first
    | go_skip
    | ((with_reducible show wpList _ _ _ (⟨_, .store _ _ _, _, _, _, _⟩ :: _) _ _); refine mem_storef (i := 0) H (by first | exact wanted_none rfl | exact wanted_some rfl rfl rfl rfl) (by exact rfl) (by exact rfl) (by exact rfl) (by exact rfl) (by first | exact infoW64 | exact infoI64) (by exact rfl) (by exact rfl) ?_; intro w2 H2; clear H; have H := H2; clear H2; simp only [List.cons_append, List.nil_append, List.set_cons_zero, List.set_cons_succ, List.setIfInBounds_toArray] at H)
    | ((with_reducible show wpList _ _ _ _ _ (World.alloc _ (.cells _ _))); refine mem_new H ?_; intro w2 H2; clear H; have H := H2; clear H2; simp only [List.cons_append, List.nil_append, List.set_cons_zero, List.set_cons_succ, List.setIfInBounds_toArray] at H)
    | ((with_reducible show wpList _ _ _ (⟨_, .load 24 _, _, _, _, _⟩ :: _) _ _); refine mem_load (i := 0) H (by first | exact wanted_none rfl | exact wanted_some rfl rfl rfl rfl) (by exact rfl) (by exact rfl) (by exact rfl) Try.underlying24 rfl (by exact bkInfo) ?_)
    | ((with_reducible show wpList _ _ _ (⟨_, .load _ _, _, _, _, _⟩ :: _) _ _); refine mem_loadf (i := 0) H (by first | exact wanted_none rfl | exact wanted_some rfl rfl rfl rfl) (by exact rfl) (by exact rfl) (by exact rfl) (by first | exact Try.underlying22 | exact Try.underlying2) rfl (by exact rfl) ?_)
    | ((with_reducible show wpList _ _ _ (⟨_, .store 24 _ _, _, _, _, _⟩ :: _) _ _); refine mem_store (i := 1) H (by first | exact wanted_none rfl | exact wanted_some rfl rfl rfl rfl) (by exact rfl) (by exact rfl) (by exact rfl) (by exact rfl) (by exact bkInfo) (by exact rfl) (by exact rfl) ?_; intro w2 H2; clear H; have H := H2; clear H2; simp only [List.cons_append, List.nil_append, List.set_cons_zero, List.set_cons_succ, List.setIfInBounds_toArray] at H)
    | (go_at_call 13; refine (hR _).mono ?_; rintro e w2 ⟨rfl, hb⟩; have H2 := H.call hb; clear H hb; have H := H2; clear H2)
    | (go_at_call 24; refine (rising3i true _ 1 n 65535 E _ ((H.at 2 rfl).cell 0) ((H.at 2 rfl).cell 1) ((H.at 2 rfl).cell 2)).mono ?_; rintro e w2 ⟨rfl, hb⟩; have H2 := H.call hb; clear H hb; have H := H2; clear H2)
    | (go_at_call 28; refine (hA _).mono ?_; rintro e w2 ⟨rfl, hb⟩; have H2 := H.call hb; clear H hb; have H := H2; clear H2))
  refine ret_held3 (H.at 1 rfl) (by exact rfl) (by exact rfl) Try.underlying24 rfl bkInfo ⟨?_, H.below⟩
  rfl
theorem take_p (b : BK) (n : Int) (hf : b.Fits) (w : World) : Calls Try.prog 17 #[bk b, .int .i64 n] w fun e w' => e = .returned (.tuple #[bk (takeV b n), .bool (takeK b n), .int .i64 (takeE b n)]) ∧ Below w.heap.size w w' := by
  rcases hr : b.right
  · have hB : takeB b n = false := by simp [takeB, hr]
    simp only [takeV, takeK, takeE, hB, cond_false, Bool.false_and]
    exact take_p0 b n hr w
  rcases E : decide (1 ≤ n ∧ n ≤ 65535)
  · have hB : takeB b n = false := by
      have := of_decide_eq_false E
      simp [takeB, hr]
      omega
    simp only [takeV, takeK, takeE, hB, cond_false, Bool.false_and]
    exact take_p1 b n hr E w
  have hB : takeB b n = true := by
    have := of_decide_eq_true E
    simp [takeB, hr]
    omega
  have hk := BK.ok_of_right hf hr
  have h1 := hk.level
  have h2 := hk.burst
  have h3 := hk.rate
  rcases ha : allowsB b
  · have ha2 := ha
    simp only [allowsB, Bool.or_eq_false_iff, decide_eq_false_iff_not] at ha2
    have d1 : decide (b.rate = 0) = false := decide_eq_false ha2.1
    have d2 : decide (b.level ≤ 0) = true := decide_eq_true (by omega)
    have d3 : decide (0 < b.level) = false := decide_eq_false ha2.2
    simp only [takeV, takeK, takeE, hB, d1, d2, d3, Bool.false_or, cond_true, Bool.true_and]
    exact take_p2 b n hr E ha w
  by_cases hz : b.rate = 0
  · simp only [takeV, takeK, takeE, hB, hz, decide_true, Bool.true_or, cond_true, Bool.true_and]
    exact take_p3 b n hr E ha hz w
  have ha2 := ha
  simp only [allowsB, Bool.or_eq_true, decide_eq_true_eq] at ha2
  have d1 : decide (b.rate = 0) = false := decide_eq_false hz
  have d2 : decide (b.level ≤ 0) = false := decide_eq_false (by omega)
  have d3 : decide (0 < b.level) = true := decide_eq_true (by omega)
  simp only [takeV, takeK, takeE, hB, d1, d2, d3, Bool.false_or, cond_true, cond_false, Bool.true_and]
  exact take_p4 b n hr E ha (by omega) (by omega) w
set_option maxRecDepth 4000 in
set_option maxHeartbeats 4000000 in
theorem next_p0 (b : BK) (hr : b.right = false) (w : World) : Calls Try.prog 19 #[bk b] w fun e w' => e = .returned (.tuple #[.int .u64 0, .int .i64 2]) ∧ Below w.heap.size w w' := by
  have hR := fun w => right_p b w
  rw [hr] at hR
  clear hr
  have H := Mem.start w
  go_enter Try.func19, Try.ntmps19
  go_wp2_with (first
    | go_skip
    | ((with_reducible show wpList _ _ _ _ _ (World.alloc _ (.cells _ _))); refine mem_new H ?_; intro w2 H2; clear H; have H := H2; clear H2; simp only [List.cons_append, List.nil_append, List.set_cons_zero, List.set_cons_succ, List.setIfInBounds_toArray] at H)
    | ((with_reducible show wpList _ _ _ (⟨_, .load 24 _, _, _, _, _⟩ :: _) _ _); refine mem_load (i := 0) H (by first | exact wanted_none rfl | exact wanted_some rfl rfl rfl rfl) (by exact rfl) (by exact rfl) (by exact rfl) Try.underlying24 rfl (by exact bkInfo) ?_)
    | ((with_reducible show wpList _ _ _ (⟨_, .load _ _, _, _, _, _⟩ :: _) _ _); refine mem_loadf (i := 0) H (by first | exact wanted_none rfl | exact wanted_some rfl rfl rfl rfl) (by exact rfl) (by exact rfl) (by exact rfl) (by first | exact Try.underlying22 | exact Try.underlying2) rfl (by exact rfl) ?_)
    | (go_at_call 13; refine (hR _).mono ?_; rintro e w2 ⟨rfl, hb⟩; have H2 := H.call hb; clear H hb; have H := H2; clear H2))
  go_ret2
  exact ⟨rfl, H.below⟩
set_option maxRecDepth 4000 in
set_option maxHeartbeats 4000000 in
theorem next_p1 (b : BK) (hr : b.right = true) (ha : allowsB b = true) (w : World) : Calls Try.prog 19 #[bk b] w fun e w' => e = .returned (.tuple #[.int .u64 b.at_, .int .i64 0]) ∧ Below w.heap.size w w' := by
  have hR := fun w => right_p b w
  rw [hr] at hR
  clear hr
  have hA := fun w => allows_p b w
  rw [ha] at hA
  clear ha
  have H := Mem.start w
  go_enter Try.func19, Try.ntmps19
  go_wp2_with (first
    | go_skip
    | ((with_reducible show wpList _ _ _ _ _ (World.alloc _ (.cells _ _))); refine mem_new H ?_; intro w2 H2; clear H; have H := H2; clear H2; simp only [List.cons_append, List.nil_append, List.set_cons_zero, List.set_cons_succ, List.setIfInBounds_toArray] at H)
    | ((with_reducible show wpList _ _ _ (⟨_, .load 24 _, _, _, _, _⟩ :: _) _ _); refine mem_load (i := 0) H (by first | exact wanted_none rfl | exact wanted_some rfl rfl rfl rfl) (by exact rfl) (by exact rfl) (by exact rfl) Try.underlying24 rfl (by exact bkInfo) ?_)
    | ((with_reducible show wpList _ _ _ (⟨_, .load _ _, _, _, _, _⟩ :: _) _ _); refine mem_loadf (i := 0) H (by first | exact wanted_none rfl | exact wanted_some rfl rfl rfl rfl) (by exact rfl) (by exact rfl) (by exact rfl) (by first | exact Try.underlying22 | exact Try.underlying2) rfl (by exact rfl) ?_)
    | (go_at_call 13; refine (hR _).mono ?_; rintro e w2 ⟨rfl, hb⟩; have H2 := H.call hb; clear H hb; have H := H2; clear H2)
    | (go_at_call 28; refine (hA _).mono ?_; rintro e w2 ⟨rfl, hb⟩; have H2 := H.call hb; clear H hb; have H := H2; clear H2))
  go_ret2
  exact ⟨rfl, H.below⟩
set_option maxRecDepth 4000 in
set_option maxHeartbeats 4000000 in
theorem next_p2 (b : BK) (hk : b.Ok) (hr : b.right = true) (ha : allowsB b = false) (hz : b.rate ≠ 0) (hl : b.level ≤ 0) (w : World) : Calls Try.prog 19 #[bk b] w fun e w' => e = .returned (.tuple #[.int .u64 b.next, .int .i64 0]) ∧ Below w.heap.size w w' := by
  have hR := fun w => right_p b w
  rw [hr] at hR
  clear hr
  have hA := fun w => allows_p b w
  rw [ha] at hA
  clear ha
  have hO := fun w => opening_p b hk hz hl w
  have H := Mem.start w
  go_enter Try.func19, Try.ntmps19
  go_wp2_with (first
    | go_skip
    | ((with_reducible show wpList _ _ _ _ _ (World.alloc _ (.cells _ _))); refine mem_new H ?_; intro w2 H2; clear H; have H := H2; clear H2; simp only [List.cons_append, List.nil_append, List.set_cons_zero, List.set_cons_succ, List.setIfInBounds_toArray] at H)
    | ((with_reducible show wpList _ _ _ (⟨_, .load 24 _, _, _, _, _⟩ :: _) _ _); refine mem_load (i := 0) H (by first | exact wanted_none rfl | exact wanted_some rfl rfl rfl rfl) (by exact rfl) (by exact rfl) (by exact rfl) Try.underlying24 rfl (by exact bkInfo) ?_)
    | ((with_reducible show wpList _ _ _ (⟨_, .load _ _, _, _, _, _⟩ :: _) _ _); refine mem_loadf (i := 0) H (by first | exact wanted_none rfl | exact wanted_some rfl rfl rfl rfl) (by exact rfl) (by exact rfl) (by exact rfl) (by first | exact Try.underlying22 | exact Try.underlying2) rfl (by exact rfl) ?_)
    | (go_at_call 13; refine (hR _).mono ?_; rintro e w2 ⟨rfl, hb⟩; have H2 := H.call hb; clear H hb; have H := H2; clear H2)
    | (go_at_call 28; refine (hA _).mono ?_; rintro e w2 ⟨rfl, hb⟩; have H2 := H.call hb; clear H hb; have H := H2; clear H2)
    | (go_at_call 29; refine (hO _).mono ?_; rintro e w2 ⟨rfl, hb⟩; have H2 := H.call hb; clear H hb; have H := H2; clear H2))
  go_ret2
  exact ⟨rfl, H.below⟩
theorem next_p (b : BK) (hf : b.Fits) (w : World) : Calls Try.prog 19 #[bk b] w fun e w' => e = .returned (.tuple #[.int .u64 (nextV b), .int .i64 (nextE b)]) ∧ Below w.heap.size w w' := by
  rcases hr : b.right
  · simp only [nextV, nextE, hr, cond_false]
    exact next_p0 b hr w
  simp only [nextV, nextE, hr, cond_true]
  rcases ha : allowsB b
  · have ha2 := ha
    simp only [allowsB, Bool.or_eq_false_iff, decide_eq_false_iff_not] at ha2
    exact next_p2 b (BK.ok_of_right hf hr) hr ha ha2.1 (by omega) w
  have e : b.next = b.at_ := by
    unfold BK.next
    rw [show (decide (b.rate = 0) || decide (0 < b.level)) = true from ha]
    rfl
  rw [e]
  exact next_p1 b hr ha w
set_option maxRecDepth 4000 in
set_option maxHeartbeats 4000000 in
theorem rate_p0 (b f : BK) (rate burst now c : Int) (hc : (c == 0) = false) (hF : ∀ w, Calls Try.prog 15 #[bk b, .int .u64 now] w fun e w' => e = .returned (.tuple #[bk f, .int .i64 c]) ∧ Below w.heap.size w w') (w : World) : Calls Try.prog 21 #[bk b, .int .u64 rate, .int .i64 burst, .int .u64 now] w fun e w' => e = .returned (.tuple #[bk BK.none_, .int .i64 c]) ∧ Below w.heap.size w w' := by
  have H := Mem.start w
  go_enter Try.func21, Try.ntmps21
  go_wp2_with (first
    | go_skip
    | ((with_reducible show wpList _ _ _ _ _ (World.alloc _ (.cells _ _))); refine mem_new H ?_; intro w2 H2; clear H; have H := H2; clear H2; simp only [List.cons_append, List.nil_append, List.set_cons_zero, List.set_cons_succ, List.setIfInBounds_toArray] at H)
    | ((with_reducible show wpList _ _ _ (⟨_, .load 24 _, _, _, _, _⟩ :: _) _ _); refine mem_load (i := 0) H (by first | exact wanted_none rfl | exact wanted_some rfl rfl rfl rfl) (by exact rfl) (by exact rfl) (by exact rfl) Try.underlying24 rfl (by exact bkInfo) ?_)
    | ((with_reducible show wpList _ _ _ (⟨_, .store 24 _ _, _, _, _, _⟩ :: _) _ _); refine mem_store (i := 1) H (by first | exact wanted_none rfl | exact wanted_some rfl rfl rfl rfl) (by exact rfl) (by exact rfl) (by exact rfl) (by exact rfl) (by exact bkInfo) (by exact rfl) (by exact rfl) ?_; intro w2 H2; clear H; have H := H2; clear H2; simp only [List.cons_append, List.nil_append, List.set_cons_zero, List.set_cons_succ, List.setIfInBounds_toArray] at H)
    | ((with_reducible show wpList _ _ _ (⟨_, .store 24 _ _, _, _, _, _⟩ :: _) _ _); refine mem_store (i := 2) H (by first | exact wanted_none rfl | exact wanted_some rfl rfl rfl rfl) (by exact rfl) (by exact rfl) (by exact rfl) (by exact rfl) (by exact bkInfo) (by exact rfl) (by exact rfl) ?_; intro w2 H2; clear H; have H := H2; clear H2; simp only [List.cons_append, List.nil_append, List.set_cons_zero, List.set_cons_succ, List.setIfInBounds_toArray] at H)
    | (go_at_call 15; refine (hF _).mono ?_; rintro e w2 ⟨rfl, hb⟩; have H2 := H.call hb; clear H hb; have H := H2; clear H2))
  refine ret_held2 (H.at 1 rfl) (by exact rfl) (by exact rfl) Try.underlying24 rfl bkInfo ⟨?_, H.below⟩
  rfl
set_option maxRecDepth 4000 in
set_option maxHeartbeats 4000000 in
theorem rate_p1 (b f g : BK) (rate burst now : Int) (hF : ∀ w, Calls Try.prog 15 #[bk b, .int .u64 now] w fun e w' => e = .returned (.tuple #[bk f, .int .i64 0]) ∧ Below w.heap.size w w') (hN : ∀ w, Calls Try.prog 11 #[.int .u64 rate, .int .i64 burst, .int .u64 now] w fun e w' => e = .returned (.tuple #[bk g, .int .i64 2]) ∧ Below w.heap.size w w') (w : World) : Calls Try.prog 21 #[bk b, .int .u64 rate, .int .i64 burst, .int .u64 now] w fun e w' => e = .returned (.tuple #[bk BK.none_, .int .i64 2]) ∧ Below w.heap.size w w' := by
  have H := Mem.start w
  go_enter Try.func21, Try.ntmps21
  go_wp2_with (first
    | go_skip
    | ((with_reducible show wpList _ _ _ _ _ (World.alloc _ (.cells _ _))); refine mem_new H ?_; intro w2 H2; clear H; have H := H2; clear H2; simp only [List.cons_append, List.nil_append, List.set_cons_zero, List.set_cons_succ, List.setIfInBounds_toArray] at H)
    | ((with_reducible show wpList _ _ _ (⟨_, .load 24 _, _, _, _, _⟩ :: _) _ _); refine mem_load (i := 0) H (by first | exact wanted_none rfl | exact wanted_some rfl rfl rfl rfl) (by exact rfl) (by exact rfl) (by exact rfl) Try.underlying24 rfl (by exact bkInfo) ?_)
    | ((with_reducible show wpList _ _ _ (⟨_, .load 24 _, _, _, _, _⟩ :: _) _ _); refine mem_load (i := 3) H (by first | exact wanted_none rfl | exact wanted_some rfl rfl rfl rfl) (by exact rfl) (by exact rfl) (by exact rfl) Try.underlying24 rfl (by exact bkInfo) ?_)
    | ((with_reducible show wpList _ _ _ (⟨_, .load _ _, _, _, _, _⟩ :: _) _ _); refine mem_loadf (i := 2) H (by first | exact wanted_none rfl | exact wanted_some rfl rfl rfl rfl) (by exact rfl) (by exact rfl) (by exact rfl) (by first | exact Try.underlying22 | exact Try.underlying2) rfl (by exact rfl) ?_)
    | ((with_reducible show wpList _ _ _ (⟨_, .store 24 _ _, _, _, _, _⟩ :: _) _ _); refine mem_store (i := 1) H (by first | exact wanted_none rfl | exact wanted_some rfl rfl rfl rfl) (by exact rfl) (by exact rfl) (by exact rfl) (by exact rfl) (by exact bkInfo) (by exact rfl) (by exact rfl) ?_; intro w2 H2; clear H; have H := H2; clear H2; simp only [List.cons_append, List.nil_append, List.set_cons_zero, List.set_cons_succ, List.setIfInBounds_toArray] at H)
    | ((with_reducible show wpList _ _ _ (⟨_, .store 24 _ _, _, _, _, _⟩ :: _) _ _); refine mem_store (i := 2) H (by first | exact wanted_none rfl | exact wanted_some rfl rfl rfl rfl) (by exact rfl) (by exact rfl) (by exact rfl) (by exact rfl) (by exact bkInfo) (by exact rfl) (by exact rfl) ?_; intro w2 H2; clear H; have H := H2; clear H2; simp only [List.cons_append, List.nil_append, List.set_cons_zero, List.set_cons_succ, List.setIfInBounds_toArray] at H)
    | ((with_reducible show wpList _ _ _ (⟨_, .store 24 _ _, _, _, _, _⟩ :: _) _ _); refine mem_store (i := 3) H (by first | exact wanted_none rfl | exact wanted_some rfl rfl rfl rfl) (by exact rfl) (by exact rfl) (by exact rfl) (by exact rfl) (by exact bkInfo) (by exact rfl) (by exact rfl) ?_; intro w2 H2; clear H; have H := H2; clear H2; simp only [List.cons_append, List.nil_append, List.set_cons_zero, List.set_cons_succ, List.setIfInBounds_toArray] at H)
    | (go_at_call 15; refine (hF _).mono ?_; rintro e w2 ⟨rfl, hb⟩; have H2 := H.call hb; clear H hb; have H := H2; clear H2)
    | (go_at_call 11; refine (hN _).mono ?_; rintro e w2 ⟨rfl, hb⟩; have H2 := H.call hb; clear H hb; have H := H2; clear H2))
  refine ret_held2 (H.at 1 rfl) (by exact rfl) (by exact rfl) Try.underlying24 rfl bkInfo ⟨?_, H.below⟩
  rfl
set_option maxRecDepth 4000 in
set_option maxHeartbeats 4000000 in
theorem rate_p2 (b f g : BK) (rate burst now : Int) (hF : ∀ w, Calls Try.prog 15 #[bk b, .int .u64 now] w fun e w' => e = .returned (.tuple #[bk f, .int .i64 0]) ∧ Below w.heap.size w w') (hN : ∀ w, Calls Try.prog 11 #[.int .u64 rate, .int .i64 burst, .int .u64 now] w fun e w' => e = .returned (.tuple #[bk g, .int .i64 0]) ∧ Below w.heap.size w w') (w : World) : Calls Try.prog 21 #[bk b, .int .u64 rate, .int .i64 burst, .int .u64 now] w fun e w' => e = .returned (.tuple #[bk { g with level := min (max f.level (-1073741824)) g.burst }, .int .i64 0]) ∧ Below w.heap.size w w' := by
  have H := Mem.start w
  go_enter Try.func21, Try.ntmps21
  go_wp2_with (first
    | go_skip
    | ((with_reducible show wpList _ _ _ (⟨_, .store _ _ _, _, _, _, _⟩ :: _) _ _); refine mem_storef (i := 3) H (by first | exact wanted_none rfl | exact wanted_some rfl rfl rfl rfl) (by exact rfl) (by exact rfl) (by exact rfl) (by exact rfl) (by first | exact infoW64 | exact infoI64) (by exact rfl) (by exact rfl) ?_; intro w2 H2; clear H; have H := H2; clear H2; simp only [List.cons_append, List.nil_append, List.set_cons_zero, List.set_cons_succ, List.setIfInBounds_toArray] at H)
    | ((with_reducible show wpList _ _ _ _ _ (World.alloc _ (.cells _ _))); refine mem_new H ?_; intro w2 H2; clear H; have H := H2; clear H2; simp only [List.cons_append, List.nil_append, List.set_cons_zero, List.set_cons_succ, List.setIfInBounds_toArray] at H)
    | ((with_reducible show wpList _ _ _ (⟨_, .load 24 _, _, _, _, _⟩ :: _) _ _); refine mem_load (i := 0) H (by first | exact wanted_none rfl | exact wanted_some rfl rfl rfl rfl) (by exact rfl) (by exact rfl) (by exact rfl) Try.underlying24 rfl (by exact bkInfo) ?_)
    | ((with_reducible show wpList _ _ _ (⟨_, .load 24 _, _, _, _, _⟩ :: _) _ _); refine mem_load (i := 3) H (by first | exact wanted_none rfl | exact wanted_some rfl rfl rfl rfl) (by exact rfl) (by exact rfl) (by exact rfl) Try.underlying24 rfl (by exact bkInfo) ?_)
    | ((with_reducible show wpList _ _ _ (⟨_, .load _ _, _, _, _, _⟩ :: _) _ _); refine mem_loadf (i := 2) H (by first | exact wanted_none rfl | exact wanted_some rfl rfl rfl rfl) (by exact rfl) (by exact rfl) (by exact rfl) (by first | exact Try.underlying22 | exact Try.underlying2) rfl (by exact rfl) ?_)
    | ((with_reducible show wpList _ _ _ (⟨_, .store 24 _ _, _, _, _, _⟩ :: _) _ _); refine mem_store (i := 1) H (by first | exact wanted_none rfl | exact wanted_some rfl rfl rfl rfl) (by exact rfl) (by exact rfl) (by exact rfl) (by exact rfl) (by exact bkInfo) (by exact rfl) (by exact rfl) ?_; intro w2 H2; clear H; have H := H2; clear H2; simp only [List.cons_append, List.nil_append, List.set_cons_zero, List.set_cons_succ, List.setIfInBounds_toArray] at H)
    | ((with_reducible show wpList _ _ _ (⟨_, .store 24 _ _, _, _, _, _⟩ :: _) _ _); refine mem_store (i := 2) H (by first | exact wanted_none rfl | exact wanted_some rfl rfl rfl rfl) (by exact rfl) (by exact rfl) (by exact rfl) (by exact rfl) (by exact bkInfo) (by exact rfl) (by exact rfl) ?_; intro w2 H2; clear H; have H := H2; clear H2; simp only [List.cons_append, List.nil_append, List.set_cons_zero, List.set_cons_succ, List.setIfInBounds_toArray] at H)
    | ((with_reducible show wpList _ _ _ (⟨_, .store 24 _ _, _, _, _, _⟩ :: _) _ _); refine mem_store (i := 3) H (by first | exact wanted_none rfl | exact wanted_some rfl rfl rfl rfl) (by exact rfl) (by exact rfl) (by exact rfl) (by exact rfl) (by exact bkInfo) (by exact rfl) (by exact rfl) ?_; intro w2 H2; clear H; have H := H2; clear H2; simp only [List.cons_append, List.nil_append, List.set_cons_zero, List.set_cons_succ, List.setIfInBounds_toArray] at H)
    | (go_at_call 15; refine (hF _).mono ?_; rintro e w2 ⟨rfl, hb⟩; have H2 := H.call hb; clear H hb; have H := H2; clear H2)
    | (go_at_call 11; refine (hN _).mono ?_; rintro e w2 ⟨rfl, hb⟩; have H2 := H.call hb; clear H hb; have H := H2; clear H2)
    | (go_at_call 25; refine (bounded_p { g with level := f.level } _).mono ?_; rintro e w2 ⟨rfl, hb⟩; have H2 := H.call hb; clear H hb; have H := H2; clear H2))
  refine ret_held2 (H.at 1 rfl) (by exact rfl) (by exact rfl) Try.underlying24 rfl bkInfo ⟨?_, H.below⟩
  rfl
theorem rate_p (b : BK) (rate burst now : Int) (hf : b.Fits) (hn : 0 ≤ now ∧ now ≤ 18446744073709551615) (w : World) : Calls Try.prog 21 #[bk b, .int .u64 rate, .int .i64 burst, .int .u64 now] w fun e w' => e = .returned (.tuple #[bk (rateV b rate burst now), .int .i64 (rateE b rate burst now)]) ∧ Below w.heap.size w w' := by
  have hF := fun w => fill_p b now hf hn w
  rcases hB : b.right && timeB b now
  · simp only [rateV, rateE, hB, Bool.false_and, cond_false]
    refine rate_p0 b (fillV b now) rate burst now (fillE b now) ?_ hF w
    rcases hr : b.right
    · simp [fillE, hr]
    · rw [hr, Bool.true_and] at hB
      simp [fillE, hr, hB]
  · have e1 : fillE b now = 0 := by
      rw [Bool.and_eq_true] at hB
      simp [fillE, hB.1, hB.2]
    have e2 : fillV b now = b.fill now := by simp only [fillV, hB, cond_true]
    rw [e1, e2] at hF
    have hN := fun w => new_p rate burst now w
    rcases hr : (BK.new rate burst now).right
    · simp only [rateV, rateE, hB, hr, Bool.and_false, cond_false, cond_true]
      simp only [newE, hr, cond_false] at hN
      exact rate_p1 b _ _ rate burst now hF hN w
    · simp only [rateV, rateE, hB, hr, Bool.and_true, cond_true]
      simp only [newE, newV, hr, cond_true] at hN
      have h := rate_p2 b _ _ rate burst now hF hN w
      rw [Bool.and_eq_true] at hB
      have ht := hB.2
      simp only [timeB, Bool.and_eq_true, decide_eq_true_eq] at ht
      have hk := (BK.fill_ok (BK.ok_of_right hf hB.1) ht.1 ht.2).level
      have e3 : ({ BK.new rate burst now with level := min (max (b.fill now).level (-1073741824)) (BK.new rate burst now).burst } : BK) = b.setRate rate burst now := by
        have e4 : min (max (b.fill now).level (-1073741824)) (BK.new rate burst now).burst = min (b.fill now).level burst := by
          show min (max (b.fill now).level (-1073741824)) burst = _
          omega
        rw [e4]
        simp only [BK.setRate, BK.new, BK.fill_at]
      rw [e3] at h
      exact h
end Go.Proofs.Ytmincladghbklaa
