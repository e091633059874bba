/-
  BucketParts and BucketFree, walked over the contracts of the program's functions. Conditions: the numbers fit their kinds.
-/
import Derived.Test.YtmincladghbklaaBucketD
namespace Go.Proofs.Ytmincladghbklaa
set_option linter.unusedSimpArgs false
set_option linter.unusedVariables false
open Go.ChangeShapes Go.WideShapes Go.ChangeAt Go.RowKit

theorem fits_none : BK.Fits BK.none_ := by constructor <;> decide
theorem fillE_0 {b : BK} {now : Int} (h : fillE b now = 0) : b.right = true ∧ timeB b now = true := by
  rcases h1 : b.right
  · simp [fillE, h1] at h
  · rcases h2 : timeB b now
    · simp [fillE, h1, h2] at h
    · exact ⟨rfl, rfl⟩
theorem fillE_1 {b : BK} {now : Int} (h1 : b.right = true) (h2 : timeB b now = true) : fillE b now = 0 ∧ fillV b now = b.fill now := by simp [fillE, fillV, h1, h2]
theorem time_iff (b : BK) (now : Int) : timeB b now = true ↔ b.at_ ≤ now ∧ now ≤ 9223372036854775807 := by simp [timeB]
theorem fillV_fits {b : BK} (hf : b.Fits) (now : Int) : (fillV b now).Fits := by
  rcases hB : b.right && timeB b now
  · simp only [fillV, hB, cond_false]
    exact fits_none
  · simp only [fillV, hB, cond_true]
    rw [Bool.and_eq_true, time_iff] at hB
    exact BK.fits_of_ok (BK.fill_ok (BK.ok_of_right hf hB.1) hB.2.1 hB.2.2)
theorem parts_ok {b : BK} (hf : b.Fits) {now then_ : Int} (h1 : fillE b now = 0) (h2 : fillE (fillV b now) then_ = 0) : fillE b then_ = 0 ∧ fillV (fillV b now) then_ = fillV b then_ ∧ (fillV b then_).right = true := by
  obtain ⟨r1, t1⟩ := fillE_0 h1
  obtain ⟨-, e1⟩ := fillE_1 r1 t1
  rw [e1] at h2 ⊢
  obtain ⟨r2, t2⟩ := fillE_0 h2
  obtain ⟨-, e2⟩ := fillE_1 r2 t2
  rw [e2]
  rw [time_iff] at t1 t2
  rw [BK.fill_at] at t2
  have hk := BK.ok_of_right hf r1
  have t3 : timeB b then_ = true := (time_iff _ _).2 ⟨by omega, t2.2⟩
  obtain ⟨e3, e4⟩ := fillE_1 r1 t3
  rw [e4]
  exact ⟨e3, BK.fill_fill hk t1.1 t2.1, BK.right_of_ok (BK.fill_ok hk (by omega) t2.2)⟩
set_option maxRecDepth 4000 in
set_option maxHeartbeats 4000000 in
theorem parts_w0 (b x y z : BK) (now then_ c f g : Int) (he : (c == 0) = false) (he2 : (c != 0) = true) (h0 : ∀ w, Calls Try.prog 15 #[bk b, .int .u64 now] w fun e w' => e = .returned (.tuple #[bk x, .int .i64 c]) ∧ Below w.heap.size w w') (h1 : ∀ w, Calls Try.prog 15 #[bk x, .int .u64 then_] w fun e w' => e = .returned (.tuple #[bk y, .int .i64 f]) ∧ Below w.heap.size w w') (h2 : ∀ w, Calls Try.prog 15 #[bk b, .int .u64 then_] w fun e w' => e = .returned (.tuple #[bk z, .int .i64 g]) ∧ Below w.heap.size w w') (w : World) : Calls Try.prog 7 #[bk b, .int .u64 now, .int .u64 then_] w fun e w' => e = .returned (.bool true) ∧ Below w.heap.size w w' := by
  have H := Mem.start w
  go_enter Try.func7, Try.ntmps7
  go_upto_region 3 with (first
    | ((with_reducible show wpList _ _ _ _ _ (World.alloc _ (.cells _ _))); refine mem_new H ?_; intro w2 H2; clear H; have H := H2; clear H2; simp only [List.cons_append, List.nil_append, List.set_cons_zero, List.set_cons_succ, List.setIfInBounds_toArray] at H)
    | ((with_reducible show wpList _ _ _ (⟨_, .load 24 _, _, _, _, _⟩ :: _) _ _); refine mem_load (i := 0) H (by first | exact wanted_none rfl | exact wanted_some rfl rfl rfl rfl) (by exact rfl) (by exact rfl) (by exact rfl) Try.underlying24 rfl (by exact bkInfo) ?_)
    | ((with_reducible show wpList _ _ _ (⟨_, .load 24 _, _, _, _, _⟩ :: _) _ _); refine mem_load (i := 1) H (by first | exact wanted_none rfl | exact wanted_some rfl rfl rfl rfl) (by exact rfl) (by exact rfl) (by exact rfl) Try.underlying24 rfl (by exact bkInfo) ?_)
    | ((with_reducible show wpList _ _ _ (⟨_, .load _ _, _, _, _, _⟩ :: _) _ _); refine mem_loadf (i := 0) H (by first | exact wanted_none rfl | exact wanted_some rfl rfl rfl rfl) (by exact rfl) (by exact rfl) (by exact rfl) (by first | exact Try.underlying22 | exact Try.underlying2) rfl (by exact rfl) ?_)
    | ((with_reducible show wpList _ _ _ (⟨_, .load _ _, _, _, _, _⟩ :: _) _ _); refine mem_loadf (i := 1) H (by first | exact wanted_none rfl | exact wanted_some rfl rfl rfl rfl) (by exact rfl) (by exact rfl) (by exact rfl) (by first | exact Try.underlying22 | exact Try.underlying2) rfl (by exact rfl) ?_)
    | ((with_reducible show wpList _ _ _ (⟨_, .store 24 _ _, _, _, _, _⟩ :: _) _ _); refine mem_store (i := 0) H (by first | exact wanted_none rfl | exact wanted_some rfl rfl rfl rfl) (by exact rfl) (by exact rfl) (by exact rfl) (by exact rfl) (by exact bkInfo) (by exact rfl) (by exact rfl) ?_; intro w2 H2; clear H; have H := H2; clear H2; simp only [List.cons_append, List.nil_append, List.set_cons_zero, List.set_cons_succ, List.setIfInBounds_toArray] at H)
    | ((with_reducible show wpList _ _ _ (⟨_, .store 24 _ _, _, _, _, _⟩ :: _) _ _); refine mem_store (i := 1) H (by first | exact wanted_none rfl | exact wanted_some rfl rfl rfl rfl) (by exact rfl) (by exact rfl) (by exact rfl) (by exact rfl) (by exact bkInfo) (by exact rfl) (by exact rfl) ?_; intro w2 H2; clear H; have H := H2; clear H2; simp only [List.cons_append, List.nil_append, List.set_cons_zero, List.set_cons_succ, List.setIfInBounds_toArray] at H)
    | (go_at_call 10; refine (shown_p _).mono ?_; rintro e w2 ⟨rfl, hb⟩; have H2 := H.call hb; clear H hb; have H := H2; clear H2)
    | (go_at_call 15; refine (h0 _).mono ?_; rintro e w2 ⟨rfl, hb⟩; have H2 := H.call hb; clear H hb; have H := H2; clear H2))
  go_upto_region 4 with (first
    | ((with_reducible show wpList _ _ _ _ _ (World.alloc _ (.cells _ _))); refine mem_new H ?_; intro w2 H2; clear H; have H := H2; clear H2; simp only [List.cons_append, List.nil_append, List.set_cons_zero, List.set_cons_succ, List.setIfInBounds_toArray] at H)
    | ((with_reducible show wpList _ _ _ (⟨_, .load 24 _, _, _, _, _⟩ :: _) _ _); refine mem_load (i := 0) H (by first | exact wanted_none rfl | exact wanted_some rfl rfl rfl rfl) (by exact rfl) (by exact rfl) (by exact rfl) Try.underlying24 rfl (by exact bkInfo) ?_)
    | ((with_reducible show wpList _ _ _ (⟨_, .load 24 _, _, _, _, _⟩ :: _) _ _); refine mem_load (i := 1) H (by first | exact wanted_none rfl | exact wanted_some rfl rfl rfl rfl) (by exact rfl) (by exact rfl) (by exact rfl) Try.underlying24 rfl (by exact bkInfo) ?_)
    | ((with_reducible show wpList _ _ _ (⟨_, .load 24 _, _, _, _, _⟩ :: _) _ _); refine mem_load (i := 2) H (by first | exact wanted_none rfl | exact wanted_some rfl rfl rfl rfl) (by exact rfl) (by exact rfl) (by exact rfl) Try.underlying24 rfl (by exact bkInfo) ?_)
    | ((with_reducible show wpList _ _ _ (⟨_, .load _ _, _, _, _, _⟩ :: _) _ _); refine mem_loadf (i := 0) H (by first | exact wanted_none rfl | exact wanted_some rfl rfl rfl rfl) (by exact rfl) (by exact rfl) (by exact rfl) (by first | exact Try.underlying22 | exact Try.underlying2) rfl (by exact rfl) ?_)
    | ((with_reducible show wpList _ _ _ (⟨_, .load _ _, _, _, _, _⟩ :: _) _ _); refine mem_loadf (i := 1) H (by first | exact wanted_none rfl | exact wanted_some rfl rfl rfl rfl) (by exact rfl) (by exact rfl) (by exact rfl) (by first | exact Try.underlying22 | exact Try.underlying2) rfl (by exact rfl) ?_)
    | ((with_reducible show wpList _ _ _ (⟨_, .load _ _, _, _, _, _⟩ :: _) _ _); refine mem_loadf (i := 2) H (by first | exact wanted_none rfl | exact wanted_some rfl rfl rfl rfl) (by exact rfl) (by exact rfl) (by exact rfl) (by first | exact Try.underlying22 | exact Try.underlying2) rfl (by exact rfl) ?_)
    | ((with_reducible show wpList _ _ _ (⟨_, .store 24 _ _, _, _, _, _⟩ :: _) _ _); refine mem_store (i := 0) H (by first | exact wanted_none rfl | exact wanted_some rfl rfl rfl rfl) (by exact rfl) (by exact rfl) (by exact rfl) (by exact rfl) (by exact bkInfo) (by exact rfl) (by exact rfl) ?_; intro w2 H2; clear H; have H := H2; clear H2; simp only [List.cons_append, List.nil_append, List.set_cons_zero, List.set_cons_succ, List.setIfInBounds_toArray] at H)
    | ((with_reducible show wpList _ _ _ (⟨_, .store 24 _ _, _, _, _, _⟩ :: _) _ _); refine mem_store (i := 1) H (by first | exact wanted_none rfl | exact wanted_some rfl rfl rfl rfl) (by exact rfl) (by exact rfl) (by exact rfl) (by exact rfl) (by exact bkInfo) (by exact rfl) (by exact rfl) ?_; intro w2 H2; clear H; have H := H2; clear H2; simp only [List.cons_append, List.nil_append, List.set_cons_zero, List.set_cons_succ, List.setIfInBounds_toArray] at H)
    | ((with_reducible show wpList _ _ _ (⟨_, .store 24 _ _, _, _, _, _⟩ :: _) _ _); refine mem_store (i := 2) H (by first | exact wanted_none rfl | exact wanted_some rfl rfl rfl rfl) (by exact rfl) (by exact rfl) (by exact rfl) (by exact rfl) (by exact bkInfo) (by exact rfl) (by exact rfl) ?_; intro w2 H2; clear H; have H := H2; clear H2; simp only [List.cons_append, List.nil_append, List.set_cons_zero, List.set_cons_succ, List.setIfInBounds_toArray] at H)
    | (go_at_call 15; refine (h1 _).mono ?_; rintro e w2 ⟨rfl, hb⟩; have H2 := H.call hb; clear H hb; have H := H2; clear H2))
  go_upto_region 5 with (first
    | ((with_reducible show wpList _ _ _ _ _ (World.alloc _ (.cells _ _))); refine mem_new H ?_; intro w2 H2; clear H; have H := H2; clear H2; simp only [List.cons_append, List.nil_append, List.set_cons_zero, List.set_cons_succ, List.setIfInBounds_toArray] at H)
    | ((with_reducible show wpList _ _ _ (⟨_, .load 24 _, _, _, _, _⟩ :: _) _ _); refine mem_load (i := 0) H (by first | exact wanted_none rfl | exact wanted_some rfl rfl rfl rfl) (by exact rfl) (by exact rfl) (by exact rfl) Try.underlying24 rfl (by exact bkInfo) ?_)
    | ((with_reducible show wpList _ _ _ (⟨_, .load 24 _, _, _, _, _⟩ :: _) _ _); refine mem_load (i := 1) H (by first | exact wanted_none rfl | exact wanted_some rfl rfl rfl rfl) (by exact rfl) (by exact rfl) (by exact rfl) Try.underlying24 rfl (by exact bkInfo) ?_)
    | ((with_reducible show wpList _ _ _ (⟨_, .load 24 _, _, _, _, _⟩ :: _) _ _); refine mem_load (i := 2) H (by first | exact wanted_none rfl | exact wanted_some rfl rfl rfl rfl) (by exact rfl) (by exact rfl) (by exact rfl) Try.underlying24 rfl (by exact bkInfo) ?_)
    | ((with_reducible show wpList _ _ _ (⟨_, .load 24 _, _, _, _, _⟩ :: _) _ _); refine mem_load (i := 3) H (by first | exact wanted_none rfl | exact wanted_some rfl rfl rfl rfl) (by exact rfl) (by exact rfl) (by exact rfl) Try.underlying24 rfl (by exact bkInfo) ?_)
    | ((with_reducible show wpList _ _ _ (⟨_, .load _ _, _, _, _, _⟩ :: _) _ _); refine mem_loadf (i := 0) H (by first | exact wanted_none rfl | exact wanted_some rfl rfl rfl rfl) (by exact rfl) (by exact rfl) (by exact rfl) (by first | exact Try.underlying22 | exact Try.underlying2) rfl (by exact rfl) ?_)
    | ((with_reducible show wpList _ _ _ (⟨_, .load _ _, _, _, _, _⟩ :: _) _ _); refine mem_loadf (i := 1) H (by first | exact wanted_none rfl | exact wanted_some rfl rfl rfl rfl) (by exact rfl) (by exact rfl) (by exact rfl) (by first | exact Try.underlying22 | exact Try.underlying2) rfl (by exact rfl) ?_)
    | ((with_reducible show wpList _ _ _ (⟨_, .load _ _, _, _, _, _⟩ :: _) _ _); refine mem_loadf (i := 2) H (by first | exact wanted_none rfl | exact wanted_some rfl rfl rfl rfl) (by exact rfl) (by exact rfl) (by exact rfl) (by first | exact Try.underlying22 | exact Try.underlying2) rfl (by exact rfl) ?_)
    | ((with_reducible show wpList _ _ _ (⟨_, .load _ _, _, _, _, _⟩ :: _) _ _); refine mem_loadf (i := 3) H (by first | exact wanted_none rfl | exact wanted_some rfl rfl rfl rfl) (by exact rfl) (by exact rfl) (by exact rfl) (by first | exact Try.underlying22 | exact Try.underlying2) rfl (by exact rfl) ?_)
    | ((with_reducible show wpList _ _ _ (⟨_, .store 24 _ _, _, _, _, _⟩ :: _) _ _); refine mem_store (i := 0) H (by first | exact wanted_none rfl | exact wanted_some rfl rfl rfl rfl) (by exact rfl) (by exact rfl) (by exact rfl) (by exact rfl) (by exact bkInfo) (by exact rfl) (by exact rfl) ?_; intro w2 H2; clear H; have H := H2; clear H2; simp only [List.cons_append, List.nil_append, List.set_cons_zero, List.set_cons_succ, List.setIfInBounds_toArray] at H)
    | ((with_reducible show wpList _ _ _ (⟨_, .store 24 _ _, _, _, _, _⟩ :: _) _ _); refine mem_store (i := 1) H (by first | exact wanted_none rfl | exact wanted_some rfl rfl rfl rfl) (by exact rfl) (by exact rfl) (by exact rfl) (by exact rfl) (by exact bkInfo) (by exact rfl) (by exact rfl) ?_; intro w2 H2; clear H; have H := H2; clear H2; simp only [List.cons_append, List.nil_append, List.set_cons_zero, List.set_cons_succ, List.setIfInBounds_toArray] at H)
    | ((with_reducible show wpList _ _ _ (⟨_, .store 24 _ _, _, _, _, _⟩ :: _) _ _); refine mem_store (i := 2) H (by first | exact wanted_none rfl | exact wanted_some rfl rfl rfl rfl) (by exact rfl) (by exact rfl) (by exact rfl) (by exact rfl) (by exact bkInfo) (by exact rfl) (by exact rfl) ?_; intro w2 H2; clear H; have H := H2; clear H2; simp only [List.cons_append, List.nil_append, List.set_cons_zero, List.set_cons_succ, List.setIfInBounds_toArray] at H)
    | ((with_reducible show wpList _ _ _ (⟨_, .store 24 _ _, _, _, _, _⟩ :: _) _ _); refine mem_store (i := 3) H (by first | exact wanted_none rfl | exact wanted_some rfl rfl rfl rfl) (by exact rfl) (by exact rfl) (by exact rfl) (by exact rfl) (by exact bkInfo) (by exact rfl) (by exact rfl) ?_; intro w2 H2; clear H; have H := H2; clear H2; simp only [List.cons_append, List.nil_append, List.set_cons_zero, List.set_cons_succ, List.setIfInBounds_toArray] at H)
    | (go_at_call 15; refine (h2 _).mono ?_; rintro e w2 ⟨rfl, hb⟩; have H2 := H.call hb; clear H hb; have H := H2; clear H2))
  clear h0 h1 h2
  go_wp2_with (first
    | go_skip
    | ((with_reducible show wpList _ _ _ _ _ (World.alloc _ (.cells _ _))); refine mem_new H ?_; intro w2 H2; clear H; have H := H2; clear H2; simp only [List.cons_append, List.nil_append, List.set_cons_zero, List.set_cons_succ, List.setIfInBounds_toArray] at H)
    | ((with_reducible show wpList _ _ _ (⟨_, .load 24 _, _, _, _, _⟩ :: _) _ _); refine mem_load (i := 0) H (by first | exact wanted_none rfl | exact wanted_some rfl rfl rfl rfl) (by exact rfl) (by exact rfl) (by exact rfl) Try.underlying24 rfl (by exact bkInfo) ?_)
    | ((with_reducible show wpList _ _ _ (⟨_, .load 24 _, _, _, _, _⟩ :: _) _ _); refine mem_load (i := 1) H (by first | exact wanted_none rfl | exact wanted_some rfl rfl rfl rfl) (by exact rfl) (by exact rfl) (by exact rfl) Try.underlying24 rfl (by exact bkInfo) ?_)
    | ((with_reducible show wpList _ _ _ (⟨_, .load 24 _, _, _, _, _⟩ :: _) _ _); refine mem_load (i := 2) H (by first | exact wanted_none rfl | exact wanted_some rfl rfl rfl rfl) (by exact rfl) (by exact rfl) (by exact rfl) Try.underlying24 rfl (by exact bkInfo) ?_)
    | ((with_reducible show wpList _ _ _ (⟨_, .load 24 _, _, _, _, _⟩ :: _) _ _); refine mem_load (i := 3) H (by first | exact wanted_none rfl | exact wanted_some rfl rfl rfl rfl) (by exact rfl) (by exact rfl) (by exact rfl) Try.underlying24 rfl (by exact bkInfo) ?_)
    | ((with_reducible show wpList _ _ _ (⟨_, .load _ _, _, _, _, _⟩ :: _) _ _); refine mem_loadf (i := 0) H (by first | exact wanted_none rfl | exact wanted_some rfl rfl rfl rfl) (by exact rfl) (by exact rfl) (by exact rfl) (by first | exact Try.underlying22 | exact Try.underlying2) rfl (by exact rfl) ?_)
    | ((with_reducible show wpList _ _ _ (⟨_, .load _ _, _, _, _, _⟩ :: _) _ _); refine mem_loadf (i := 1) H (by first | exact wanted_none rfl | exact wanted_some rfl rfl rfl rfl) (by exact rfl) (by exact rfl) (by exact rfl) (by first | exact Try.underlying22 | exact Try.underlying2) rfl (by exact rfl) ?_)
    | ((with_reducible show wpList _ _ _ (⟨_, .load _ _, _, _, _, _⟩ :: _) _ _); refine mem_loadf (i := 2) H (by first | exact wanted_none rfl | exact wanted_some rfl rfl rfl rfl) (by exact rfl) (by exact rfl) (by exact rfl) (by first | exact Try.underlying22 | exact Try.underlying2) rfl (by exact rfl) ?_)
    | ((with_reducible show wpList _ _ _ (⟨_, .load _ _, _, _, _, _⟩ :: _) _ _); refine mem_loadf (i := 3) H (by first | exact wanted_none rfl | exact wanted_some rfl rfl rfl rfl) (by exact rfl) (by exact rfl) (by exact rfl) (by first | exact Try.underlying22 | exact Try.underlying2) rfl (by exact rfl) ?_)
    | ((with_reducible show wpList _ _ _ (⟨_, .store 24 _ _, _, _, _, _⟩ :: _) _ _); refine mem_store (i := 0) H (by first | exact wanted_none rfl | exact wanted_some rfl rfl rfl rfl) (by exact rfl) (by exact rfl) (by exact rfl) (by exact rfl) (by exact bkInfo) (by exact rfl) (by exact rfl) ?_; intro w2 H2; clear H; have H := H2; clear H2; simp only [List.cons_append, List.nil_append, List.set_cons_zero, List.set_cons_succ, List.setIfInBounds_toArray] at H)
    | ((with_reducible show wpList _ _ _ (⟨_, .store 24 _ _, _, _, _, _⟩ :: _) _ _); refine mem_store (i := 1) H (by first | exact wanted_none rfl | exact wanted_some rfl rfl rfl rfl) (by exact rfl) (by exact rfl) (by exact rfl) (by exact rfl) (by exact bkInfo) (by exact rfl) (by exact rfl) ?_; intro w2 H2; clear H; have H := H2; clear H2; simp only [List.cons_append, List.nil_append, List.set_cons_zero, List.set_cons_succ, List.setIfInBounds_toArray] at H)
    | ((with_reducible show wpList _ _ _ (⟨_, .store 24 _ _, _, _, _, _⟩ :: _) _ _); refine mem_store (i := 2) H (by first | exact wanted_none rfl | exact wanted_some rfl rfl rfl rfl) (by exact rfl) (by exact rfl) (by exact rfl) (by exact rfl) (by exact bkInfo) (by exact rfl) (by exact rfl) ?_; intro w2 H2; clear H; have H := H2; clear H2; simp only [List.cons_append, List.nil_append, List.set_cons_zero, List.set_cons_succ, List.setIfInBounds_toArray] at H)
    | ((with_reducible show wpList _ _ _ (⟨_, .store 24 _ _, _, _, _, _⟩ :: _) _ _); refine mem_store (i := 3) H (by first | exact wanted_none rfl | exact wanted_some rfl rfl rfl rfl) (by exact rfl) (by exact rfl) (by exact rfl) (by exact rfl) (by exact bkInfo) (by exact rfl) (by exact rfl) ?_; intro w2 H2; clear H; have H := H2; clear H2; simp only [List.cons_append, List.nil_append, List.set_cons_zero, List.set_cons_succ, List.setIfInBounds_toArray] at H))
  go_ret
  exact ⟨rfl, H.below⟩
set_option maxRecDepth 4000 in
set_option maxHeartbeats 4000000 in
theorem parts_w1 (b x y z : BK) (now then_ f g : Int) (he : (f == 0) = false) (he2 : (f != 0) = true) (h0 : ∀ w, Calls Try.prog 15 #[bk b, .int .u64 now] w fun e w' => e = .returned (.tuple #[bk x, .int .i64 0]) ∧ Below w.heap.size w w') (h1 : ∀ w, Calls Try.prog 15 #[bk x, .int .u64 then_] w fun e w' => e = .returned (.tuple #[bk y, .int .i64 f]) ∧ Below w.heap.size w w') (h2 : ∀ w, Calls Try.prog 15 #[bk b, .int .u64 then_] w fun e w' => e = .returned (.tuple #[bk z, .int .i64 g]) ∧ Below w.heap.size w w') (w : World) : Calls Try.prog 7 #[bk b, .int .u64 now, .int .u64 then_] w fun e w' => e = .returned (.bool true) ∧ Below w.heap.size w w' := by
  have H := Mem.start w
  go_enter Try.func7, Try.ntmps7
  go_upto_region 3 with (first
    | ((with_reducible show wpList _ _ _ _ _ (World.alloc _ (.cells _ _))); refine mem_new H ?_; intro w2 H2; clear H; have H := H2; clear H2; simp only [List.cons_append, List.nil_append, List.set_cons_zero, List.set_cons_succ, List.setIfInBounds_toArray] at H)
    | ((with_reducible show wpList _ _ _ (⟨_, .load 24 _, _, _, _, _⟩ :: _) _ _); refine mem_load (i := 0) H (by first | exact wanted_none rfl | exact wanted_some rfl rfl rfl rfl) (by exact rfl) (by exact rfl) (by exact rfl) Try.underlying24 rfl (by exact bkInfo) ?_)
    | ((with_reducible show wpList _ _ _ (⟨_, .load 24 _, _, _, _, _⟩ :: _) _ _); refine mem_load (i := 1) H (by first | exact wanted_none rfl | exact wanted_some rfl rfl rfl rfl) (by exact rfl) (by exact rfl) (by exact rfl) Try.underlying24 rfl (by exact bkInfo) ?_)
    | ((with_reducible show wpList _ _ _ (⟨_, .load _ _, _, _, _, _⟩ :: _) _ _); refine mem_loadf (i := 0) H (by first | exact wanted_none rfl | exact wanted_some rfl rfl rfl rfl) (by exact rfl) (by exact rfl) (by exact rfl) (by first | exact Try.underlying22 | exact Try.underlying2) rfl (by exact rfl) ?_)
    | ((with_reducible show wpList _ _ _ (⟨_, .load _ _, _, _, _, _⟩ :: _) _ _); refine mem_loadf (i := 1) H (by first | exact wanted_none rfl | exact wanted_some rfl rfl rfl rfl) (by exact rfl) (by exact rfl) (by exact rfl) (by first | exact Try.underlying22 | exact Try.underlying2) rfl (by exact rfl) ?_)
    | ((with_reducible show wpList _ _ _ (⟨_, .store 24 _ _, _, _, _, _⟩ :: _) _ _); refine mem_store (i := 0) H (by first | exact wanted_none rfl | exact wanted_some rfl rfl rfl rfl) (by exact rfl) (by exact rfl) (by exact rfl) (by exact rfl) (by exact bkInfo) (by exact rfl) (by exact rfl) ?_; intro w2 H2; clear H; have H := H2; clear H2; simp only [List.cons_append, List.nil_append, List.set_cons_zero, List.set_cons_succ, List.setIfInBounds_toArray] at H)
    | ((with_reducible show wpList _ _ _ (⟨_, .store 24 _ _, _, _, _, _⟩ :: _) _ _); refine mem_store (i := 1) H (by first | exact wanted_none rfl | exact wanted_some rfl rfl rfl rfl) (by exact rfl) (by exact rfl) (by exact rfl) (by exact rfl) (by exact bkInfo) (by exact rfl) (by exact rfl) ?_; intro w2 H2; clear H; have H := H2; clear H2; simp only [List.cons_append, List.nil_append, List.set_cons_zero, List.set_cons_succ, List.setIfInBounds_toArray] at H)
    | (go_at_call 10; refine (shown_p _).mono ?_; rintro e w2 ⟨rfl, hb⟩; have H2 := H.call hb; clear H hb; have H := H2; clear H2)
    | (go_at_call 15; refine (h0 _).mono ?_; rintro e w2 ⟨rfl, hb⟩; have H2 := H.call hb; clear H hb; have H := H2; clear H2))
  go_upto_region 4 with (first
    | ((with_reducible show wpList _ _ _ _ _ (World.alloc _ (.cells _ _))); refine mem_new H ?_; intro w2 H2; clear H; have H := H2; clear H2; simp only [List.cons_append, List.nil_append, List.set_cons_zero, List.set_cons_succ, List.setIfInBounds_toArray] at H)
    | ((with_reducible show wpList _ _ _ (⟨_, .load 24 _, _, _, _, _⟩ :: _) _ _); refine mem_load (i := 0) H (by first | exact wanted_none rfl | exact wanted_some rfl rfl rfl rfl) (by exact rfl) (by exact rfl) (by exact rfl) Try.underlying24 rfl (by exact bkInfo) ?_)
    | ((with_reducible show wpList _ _ _ (⟨_, .load 24 _, _, _, _, _⟩ :: _) _ _); refine mem_load (i := 1) H (by first | exact wanted_none rfl | exact wanted_some rfl rfl rfl rfl) (by exact rfl) (by exact rfl) (by exact rfl) Try.underlying24 rfl (by exact bkInfo) ?_)
    | ((with_reducible show wpList _ _ _ (⟨_, .load 24 _, _, _, _, _⟩ :: _) _ _); refine mem_load (i := 2) H (by first | exact wanted_none rfl | exact wanted_some rfl rfl rfl rfl) (by exact rfl) (by exact rfl) (by exact rfl) Try.underlying24 rfl (by exact bkInfo) ?_)
    | ((with_reducible show wpList _ _ _ (⟨_, .load _ _, _, _, _, _⟩ :: _) _ _); refine mem_loadf (i := 0) H (by first | exact wanted_none rfl | exact wanted_some rfl rfl rfl rfl) (by exact rfl) (by exact rfl) (by exact rfl) (by first | exact Try.underlying22 | exact Try.underlying2) rfl (by exact rfl) ?_)
    | ((with_reducible show wpList _ _ _ (⟨_, .load _ _, _, _, _, _⟩ :: _) _ _); refine mem_loadf (i := 1) H (by first | exact wanted_none rfl | exact wanted_some rfl rfl rfl rfl) (by exact rfl) (by exact rfl) (by exact rfl) (by first | exact Try.underlying22 | exact Try.underlying2) rfl (by exact rfl) ?_)
    | ((with_reducible show wpList _ _ _ (⟨_, .load _ _, _, _, _, _⟩ :: _) _ _); refine mem_loadf (i := 2) H (by first | exact wanted_none rfl | exact wanted_some rfl rfl rfl rfl) (by exact rfl) (by exact rfl) (by exact rfl) (by first | exact Try.underlying22 | exact Try.underlying2) rfl (by exact rfl) ?_)
    | ((with_reducible show wpList _ _ _ (⟨_, .store 24 _ _, _, _, _, _⟩ :: _) _ _); refine mem_store (i := 0) H (by first | exact wanted_none rfl | exact wanted_some rfl rfl rfl rfl) (by exact rfl) (by exact rfl) (by exact rfl) (by exact rfl) (by exact bkInfo) (by exact rfl) (by exact rfl) ?_; intro w2 H2; clear H; have H := H2; clear H2; simp only [List.cons_append, List.nil_append, List.set_cons_zero, List.set_cons_succ, List.setIfInBounds_toArray] at H)
    | ((with_reducible show wpList _ _ _ (⟨_, .store 24 _ _, _, _, _, _⟩ :: _) _ _); refine mem_store (i := 1) H (by first | exact wanted_none rfl | exact wanted_some rfl rfl rfl rfl) (by exact rfl) (by exact rfl) (by exact rfl) (by exact rfl) (by exact bkInfo) (by exact rfl) (by exact rfl) ?_; intro w2 H2; clear H; have H := H2; clear H2; simp only [List.cons_append, List.nil_append, List.set_cons_zero, List.set_cons_succ, List.setIfInBounds_toArray] at H)
    | ((with_reducible show wpList _ _ _ (⟨_, .store 24 _ _, _, _, _, _⟩ :: _) _ _); refine mem_store (i := 2) H (by first | exact wanted_none rfl | exact wanted_some rfl rfl rfl rfl) (by exact rfl) (by exact rfl) (by exact rfl) (by exact rfl) (by exact bkInfo) (by exact rfl) (by exact rfl) ?_; intro w2 H2; clear H; have H := H2; clear H2; simp only [List.cons_append, List.nil_append, List.set_cons_zero, List.set_cons_succ, List.setIfInBounds_toArray] at H)
    | (go_at_call 15; refine (h1 _).mono ?_; rintro e w2 ⟨rfl, hb⟩; have H2 := H.call hb; clear H hb; have H := H2; clear H2))
  go_upto_region 5 with (first
    | ((with_reducible show wpList _ _ _ _ _ (World.alloc _ (.cells _ _))); refine mem_new H ?_; intro w2 H2; clear H; have H := H2; clear H2; simp only [List.cons_append, List.nil_append, List.set_cons_zero, List.set_cons_succ, List.setIfInBounds_toArray] at H)
    | ((with_reducible show wpList _ _ _ (⟨_, .load 24 _, _, _, _, _⟩ :: _) _ _); refine mem_load (i := 0) H (by first | exact wanted_none rfl | exact wanted_some rfl rfl rfl rfl) (by exact rfl) (by exact rfl) (by exact rfl) Try.underlying24 rfl (by exact bkInfo) ?_)
    | ((with_reducible show wpList _ _ _ (⟨_, .load 24 _, _, _, _, _⟩ :: _) _ _); refine mem_load (i := 1) H (by first | exact wanted_none rfl | exact wanted_some rfl rfl rfl rfl) (by exact rfl) (by exact rfl) (by exact rfl) Try.underlying24 rfl (by exact bkInfo) ?_)
    | ((with_reducible show wpList _ _ _ (⟨_, .load 24 _, _, _, _, _⟩ :: _) _ _); refine mem_load (i := 2) H (by first | exact wanted_none rfl | exact wanted_some rfl rfl rfl rfl) (by exact rfl) (by exact rfl) (by exact rfl) Try.underlying24 rfl (by exact bkInfo) ?_)
    | ((with_reducible show wpList _ _ _ (⟨_, .load 24 _, _, _, _, _⟩ :: _) _ _); refine mem_load (i := 3) H (by first | exact wanted_none rfl | exact wanted_some rfl rfl rfl rfl) (by exact rfl) (by exact rfl) (by exact rfl) Try.underlying24 rfl (by exact bkInfo) ?_)
    | ((with_reducible show wpList _ _ _ (⟨_, .load _ _, _, _, _, _⟩ :: _) _ _); refine mem_loadf (i := 0) H (by first | exact wanted_none rfl | exact wanted_some rfl rfl rfl rfl) (by exact rfl) (by exact rfl) (by exact rfl) (by first | exact Try.underlying22 | exact Try.underlying2) rfl (by exact rfl) ?_)
    | ((with_reducible show wpList _ _ _ (⟨_, .load _ _, _, _, _, _⟩ :: _) _ _); refine mem_loadf (i := 1) H (by first | exact wanted_none rfl | exact wanted_some rfl rfl rfl rfl) (by exact rfl) (by exact rfl) (by exact rfl) (by first | exact Try.underlying22 | exact Try.underlying2) rfl (by exact rfl) ?_)
    | ((with_reducible show wpList _ _ _ (⟨_, .load _ _, _, _, _, _⟩ :: _) _ _); refine mem_loadf (i := 2) H (by first | exact wanted_none rfl | exact wanted_some rfl rfl rfl rfl) (by exact rfl) (by exact rfl) (by exact rfl) (by first | exact Try.underlying22 | exact Try.underlying2) rfl (by exact rfl) ?_)
    | ((with_reducible show wpList _ _ _ (⟨_, .load _ _, _, _, _, _⟩ :: _) _ _); refine mem_loadf (i := 3) H (by first | exact wanted_none rfl | exact wanted_some rfl rfl rfl rfl) (by exact rfl) (by exact rfl) (by exact rfl) (by first | exact Try.underlying22 | exact Try.underlying2) rfl (by exact rfl) ?_)
    | ((with_reducible show wpList _ _ _ (⟨_, .store 24 _ _, _, _, _, _⟩ :: _) _ _); refine mem_store (i := 0) H (by first | exact wanted_none rfl | exact wanted_some rfl rfl rfl rfl) (by exact rfl) (by exact rfl) (by exact rfl) (by exact rfl) (by exact bkInfo) (by exact rfl) (by exact rfl) ?_; intro w2 H2; clear H; have H := H2; clear H2; simp only [List.cons_append, List.nil_append, List.set_cons_zero, List.set_cons_succ, List.setIfInBounds_toArray] at H)
    | ((with_reducible show wpList _ _ _ (⟨_, .store 24 _ _, _, _, _, _⟩ :: _) _ _); refine mem_store (i := 1) H (by first | exact wanted_none rfl | exact wanted_some rfl rfl rfl rfl) (by exact rfl) (by exact rfl) (by exact rfl) (by exact rfl) (by exact bkInfo) (by exact rfl) (by exact rfl) ?_; intro w2 H2; clear H; have H := H2; clear H2; simp only [List.cons_append, List.nil_append, List.set_cons_zero, List.set_cons_succ, List.setIfInBounds_toArray] at H)
    | ((with_reducible show wpList _ _ _ (⟨_, .store 24 _ _, _, _, _, _⟩ :: _) _ _); refine mem_store (i := 2) H (by first | exact wanted_none rfl | exact wanted_some rfl rfl rfl rfl) (by exact rfl) (by exact rfl) (by exact rfl) (by exact rfl) (by exact bkInfo) (by exact rfl) (by exact rfl) ?_; intro w2 H2; clear H; have H := H2; clear H2; simp only [List.cons_append, List.nil_append, List.set_cons_zero, List.set_cons_succ, List.setIfInBounds_toArray] at H)
    | ((with_reducible show wpList _ _ _ (⟨_, .store 24 _ _, _, _, _, _⟩ :: _) _ _); refine mem_store (i := 3) H (by first | exact wanted_none rfl | exact wanted_some rfl rfl rfl rfl) (by exact rfl) (by exact rfl) (by exact rfl) (by exact rfl) (by exact bkInfo) (by exact rfl) (by exact rfl) ?_; intro w2 H2; clear H; have H := H2; clear H2; simp only [List.cons_append, List.nil_append, List.set_cons_zero, List.set_cons_succ, List.setIfInBounds_toArray] at H)
    | (go_at_call 15; refine (h2 _).mono ?_; rintro e w2 ⟨rfl, hb⟩; have H2 := H.call hb; clear H hb; have H := H2; clear H2))
  clear h0 h1 h2
  go_wp2_with (first
    | go_skip
    | ((with_reducible show wpList _ _ _ _ _ (World.alloc _ (.cells _ _))); refine mem_new H ?_; intro w2 H2; clear H; have H := H2; clear H2; simp only [List.cons_append, List.nil_append, List.set_cons_zero, List.set_cons_succ, List.setIfInBounds_toArray] at H)
    | ((with_reducible show wpList _ _ _ (⟨_, .load 24 _, _, _, _, _⟩ :: _) _ _); refine mem_load (i := 0) H (by first | exact wanted_none rfl | exact wanted_some rfl rfl rfl rfl) (by exact rfl) (by exact rfl) (by exact rfl) Try.underlying24 rfl (by exact bkInfo) ?_)
    | ((with_reducible show wpList _ _ _ (⟨_, .load 24 _, _, _, _, _⟩ :: _) _ _); refine mem_load (i := 1) H (by first | exact wanted_none rfl | exact wanted_some rfl rfl rfl rfl) (by exact rfl) (by exact rfl) (by exact rfl) Try.underlying24 rfl (by exact bkInfo) ?_)
    | ((with_reducible show wpList _ _ _ (⟨_, .load 24 _, _, _, _, _⟩ :: _) _ _); refine mem_load (i := 2) H (by first | exact wanted_none rfl | exact wanted_some rfl rfl rfl rfl) (by exact rfl) (by exact rfl) (by exact rfl) Try.underlying24 rfl (by exact bkInfo) ?_)
    | ((with_reducible show wpList _ _ _ (⟨_, .load 24 _, _, _, _, _⟩ :: _) _ _); refine mem_load (i := 3) H (by first | exact wanted_none rfl | exact wanted_some rfl rfl rfl rfl) (by exact rfl) (by exact rfl) (by exact rfl) Try.underlying24 rfl (by exact bkInfo) ?_)
    | ((with_reducible show wpList _ _ _ (⟨_, .load _ _, _, _, _, _⟩ :: _) _ _); refine mem_loadf (i := 0) H (by first | exact wanted_none rfl | exact wanted_some rfl rfl rfl rfl) (by exact rfl) (by exact rfl) (by exact rfl) (by first | exact Try.underlying22 | exact Try.underlying2) rfl (by exact rfl) ?_)
    | ((with_reducible show wpList _ _ _ (⟨_, .load _ _, _, _, _, _⟩ :: _) _ _); refine mem_loadf (i := 1) H (by first | exact wanted_none rfl | exact wanted_some rfl rfl rfl rfl) (by exact rfl) (by exact rfl) (by exact rfl) (by first | exact Try.underlying22 | exact Try.underlying2) rfl (by exact rfl) ?_)
    | ((with_reducible show wpList _ _ _ (⟨_, .load _ _, _, _, _, _⟩ :: _) _ _); refine mem_loadf (i := 2) H (by first | exact wanted_none rfl | exact wanted_some rfl rfl rfl rfl) (by exact rfl) (by exact rfl) (by exact rfl) (by first | exact Try.underlying22 | exact Try.underlying2) rfl (by exact rfl) ?_)
    | ((with_reducible show wpList _ _ _ (⟨_, .load _ _, _, _, _, _⟩ :: _) _ _); refine mem_loadf (i := 3) H (by first | exact wanted_none rfl | exact wanted_some rfl rfl rfl rfl) (by exact rfl) (by exact rfl) (by exact rfl) (by first | exact Try.underlying22 | exact Try.underlying2) rfl (by exact rfl) ?_)
    | ((with_reducible show wpList _ _ _ (⟨_, .store 24 _ _, _, _, _, _⟩ :: _) _ _); refine mem_store (i := 0) H (by first | exact wanted_none rfl | exact wanted_some rfl rfl rfl rfl) (by exact rfl) (by exact rfl) (by exact rfl) (by exact rfl) (by exact bkInfo) (by exact rfl) (by exact rfl) ?_; intro w2 H2; clear H; have H := H2; clear H2; simp only [List.cons_append, List.nil_append, List.set_cons_zero, List.set_cons_succ, List.setIfInBounds_toArray] at H)
    | ((with_reducible show wpList _ _ _ (⟨_, .store 24 _ _, _, _, _, _⟩ :: _) _ _); refine mem_store (i := 1) H (by first | exact wanted_none rfl | exact wanted_some rfl rfl rfl rfl) (by exact rfl) (by exact rfl) (by exact rfl) (by exact rfl) (by exact bkInfo) (by exact rfl) (by exact rfl) ?_; intro w2 H2; clear H; have H := H2; clear H2; simp only [List.cons_append, List.nil_append, List.set_cons_zero, List.set_cons_succ, List.setIfInBounds_toArray] at H)
    | ((with_reducible show wpList _ _ _ (⟨_, .store 24 _ _, _, _, _, _⟩ :: _) _ _); refine mem_store (i := 2) H (by first | exact wanted_none rfl | exact wanted_some rfl rfl rfl rfl) (by exact rfl) (by exact rfl) (by exact rfl) (by exact rfl) (by exact bkInfo) (by exact rfl) (by exact rfl) ?_; intro w2 H2; clear H; have H := H2; clear H2; simp only [List.cons_append, List.nil_append, List.set_cons_zero, List.set_cons_succ, List.setIfInBounds_toArray] at H)
    | ((with_reducible show wpList _ _ _ (⟨_, .store 24 _ _, _, _, _, _⟩ :: _) _ _); refine mem_store (i := 3) H (by first | exact wanted_none rfl | exact wanted_some rfl rfl rfl rfl) (by exact rfl) (by exact rfl) (by exact rfl) (by exact rfl) (by exact bkInfo) (by exact rfl) (by exact rfl) ?_; intro w2 H2; clear H; have H := H2; clear H2; simp only [List.cons_append, List.nil_append, List.set_cons_zero, List.set_cons_succ, List.setIfInBounds_toArray] at H))
  go_ret
  exact ⟨rfl, H.below⟩
set_option maxRecDepth 4000 in
set_option maxHeartbeats 4000000 in
theorem parts_w2 (b x y : BK) (now then_ : Int) (h0 : ∀ w, Calls Try.prog 15 #[bk b, .int .u64 now] w fun e w' => e = .returned (.tuple #[bk x, .int .i64 0]) ∧ Below w.heap.size w w') (h1 : ∀ w, Calls Try.prog 15 #[bk x, .int .u64 then_] w fun e w' => e = .returned (.tuple #[bk y, .int .i64 0]) ∧ Below w.heap.size w w') (h2 : ∀ w, Calls Try.prog 15 #[bk b, .int .u64 then_] w fun e w' => e = .returned (.tuple #[bk y, .int .i64 0]) ∧ Below w.heap.size w w') (hR : ∀ w, Calls Try.prog 13 #[bk y] w fun e w' => e = .returned (.bool true) ∧ Below w.heap.size w w') (hE : ∀ w, (Op.equalIn 10000 24 (bk y) (bk y)).run Try.prog w = .ok true w) (w : World) : Calls Try.prog 7 #[bk b, .int .u64 now, .int .u64 then_] w fun e w' => e = .returned (.bool true) ∧ Below w.heap.size w w' := by
  have H := Mem.start w
  go_enter Try.func7, Try.ntmps7
  go_upto_region 3 with (first
    | ((with_reducible show wpList _ _ _ _ _ (World.alloc _ (.cells _ _))); refine mem_new H ?_; intro w2 H2; clear H; have H := H2; clear H2; simp only [List.cons_append, List.nil_append, List.set_cons_zero, List.set_cons_succ, List.setIfInBounds_toArray] at H)
    | ((with_reducible show wpList _ _ _ (⟨_, .load 24 _, _, _, _, _⟩ :: _) _ _); refine mem_load (i := 0) H (by first | exact wanted_none rfl | exact wanted_some rfl rfl rfl rfl) (by exact rfl) (by exact rfl) (by exact rfl) Try.underlying24 rfl (by exact bkInfo) ?_)
    | ((with_reducible show wpList _ _ _ (⟨_, .load 24 _, _, _, _, _⟩ :: _) _ _); refine mem_load (i := 1) H (by first | exact wanted_none rfl | exact wanted_some rfl rfl rfl rfl) (by exact rfl) (by exact rfl) (by exact rfl) Try.underlying24 rfl (by exact bkInfo) ?_)
    | ((with_reducible show wpList _ _ _ (⟨_, .load _ _, _, _, _, _⟩ :: _) _ _); refine mem_loadf (i := 0) H (by first | exact wanted_none rfl | exact wanted_some rfl rfl rfl rfl) (by exact rfl) (by exact rfl) (by exact rfl) (by first | exact Try.underlying22 | exact Try.underlying2) rfl (by exact rfl) ?_)
    | ((with_reducible show wpList _ _ _ (⟨_, .load _ _, _, _, _, _⟩ :: _) _ _); refine mem_loadf (i := 1) H (by first | exact wanted_none rfl | exact wanted_some rfl rfl rfl rfl) (by exact rfl) (by exact rfl) (by exact rfl) (by first | exact Try.underlying22 | exact Try.underlying2) rfl (by exact rfl) ?_)
    | ((with_reducible show wpList _ _ _ (⟨_, .store 24 _ _, _, _, _, _⟩ :: _) _ _); refine mem_store (i := 0) H (by first | exact wanted_none rfl | exact wanted_some rfl rfl rfl rfl) (by exact rfl) (by exact rfl) (by exact rfl) (by exact rfl) (by exact bkInfo) (by exact rfl) (by exact rfl) ?_; intro w2 H2; clear H; have H := H2; clear H2; simp only [List.cons_append, List.nil_append, List.set_cons_zero, List.set_cons_succ, List.setIfInBounds_toArray] at H)
    | ((with_reducible show wpList _ _ _ (⟨_, .store 24 _ _, _, _, _, _⟩ :: _) _ _); refine mem_store (i := 1) H (by first | exact wanted_none rfl | exact wanted_some rfl rfl rfl rfl) (by exact rfl) (by exact rfl) (by exact rfl) (by exact rfl) (by exact bkInfo) (by exact rfl) (by exact rfl) ?_; intro w2 H2; clear H; have H := H2; clear H2; simp only [List.cons_append, List.nil_append, List.set_cons_zero, List.set_cons_succ, List.setIfInBounds_toArray] at H)
    | (go_at_call 10; refine (shown_p _).mono ?_; rintro e w2 ⟨rfl, hb⟩; have H2 := H.call hb; clear H hb; have H := H2; clear H2)
    | (go_at_call 15; refine (h0 _).mono ?_; rintro e w2 ⟨rfl, hb⟩; have H2 := H.call hb; clear H hb; have H := H2; clear H2))
  go_upto_region 4 with (first
    | ((with_reducible show wpList _ _ _ _ _ (World.alloc _ (.cells _ _))); refine mem_new H ?_; intro w2 H2; clear H; have H := H2; clear H2; simp only [List.cons_append, List.nil_append, List.set_cons_zero, List.set_cons_succ, List.setIfInBounds_toArray] at H)
    | ((with_reducible show wpList _ _ _ (⟨_, .load 24 _, _, _, _, _⟩ :: _) _ _); refine mem_load (i := 0) H (by first | exact wanted_none rfl | exact wanted_some rfl rfl rfl rfl) (by exact rfl) (by exact rfl) (by exact rfl) Try.underlying24 rfl (by exact bkInfo) ?_)
    | ((with_reducible show wpList _ _ _ (⟨_, .load 24 _, _, _, _, _⟩ :: _) _ _); refine mem_load (i := 1) H (by first | exact wanted_none rfl | exact wanted_some rfl rfl rfl rfl) (by exact rfl) (by exact rfl) (by exact rfl) Try.underlying24 rfl (by exact bkInfo) ?_)
    | ((with_reducible show wpList _ _ _ (⟨_, .load 24 _, _, _, _, _⟩ :: _) _ _); refine mem_load (i := 2) H (by first | exact wanted_none rfl | exact wanted_some rfl rfl rfl rfl) (by exact rfl) (by exact rfl) (by exact rfl) Try.underlying24 rfl (by exact bkInfo) ?_)
    | ((with_reducible show wpList _ _ _ (⟨_, .load _ _, _, _, _, _⟩ :: _) _ _); refine mem_loadf (i := 0) H (by first | exact wanted_none rfl | exact wanted_some rfl rfl rfl rfl) (by exact rfl) (by exact rfl) (by exact rfl) (by first | exact Try.underlying22 | exact Try.underlying2) rfl (by exact rfl) ?_)
    | ((with_reducible show wpList _ _ _ (⟨_, .load _ _, _, _, _, _⟩ :: _) _ _); refine mem_loadf (i := 1) H (by first | exact wanted_none rfl | exact wanted_some rfl rfl rfl rfl) (by exact rfl) (by exact rfl) (by exact rfl) (by first | exact Try.underlying22 | exact Try.underlying2) rfl (by exact rfl) ?_)
    | ((with_reducible show wpList _ _ _ (⟨_, .load _ _, _, _, _, _⟩ :: _) _ _); refine mem_loadf (i := 2) H (by first | exact wanted_none rfl | exact wanted_some rfl rfl rfl rfl) (by exact rfl) (by exact rfl) (by exact rfl) (by first | exact Try.underlying22 | exact Try.underlying2) rfl (by exact rfl) ?_)
    | ((with_reducible show wpList _ _ _ (⟨_, .store 24 _ _, _, _, _, _⟩ :: _) _ _); refine mem_store (i := 0) H (by first | exact wanted_none rfl | exact wanted_some rfl rfl rfl rfl) (by exact rfl) (by exact rfl) (by exact rfl) (by exact rfl) (by exact bkInfo) (by exact rfl) (by exact rfl) ?_; intro w2 H2; clear H; have H := H2; clear H2; simp only [List.cons_append, List.nil_append, List.set_cons_zero, List.set_cons_succ, List.setIfInBounds_toArray] at H)
    | ((with_reducible show wpList _ _ _ (⟨_, .store 24 _ _, _, _, _, _⟩ :: _) _ _); refine mem_store (i := 1) H (by first | exact wanted_none rfl | exact wanted_some rfl rfl rfl rfl) (by exact rfl) (by exact rfl) (by exact rfl) (by exact rfl) (by exact bkInfo) (by exact rfl) (by exact rfl) ?_; intro w2 H2; clear H; have H := H2; clear H2; simp only [List.cons_append, List.nil_append, List.set_cons_zero, List.set_cons_succ, List.setIfInBounds_toArray] at H)
    | ((with_reducible show wpList _ _ _ (⟨_, .store 24 _ _, _, _, _, _⟩ :: _) _ _); refine mem_store (i := 2) H (by first | exact wanted_none rfl | exact wanted_some rfl rfl rfl rfl) (by exact rfl) (by exact rfl) (by exact rfl) (by exact rfl) (by exact bkInfo) (by exact rfl) (by exact rfl) ?_; intro w2 H2; clear H; have H := H2; clear H2; simp only [List.cons_append, List.nil_append, List.set_cons_zero, List.set_cons_succ, List.setIfInBounds_toArray] at H)
    | (go_at_call 15; refine (h1 _).mono ?_; rintro e w2 ⟨rfl, hb⟩; have H2 := H.call hb; clear H hb; have H := H2; clear H2))
  go_upto_region 5 with (first
    | ((with_reducible show wpList _ _ _ _ _ (World.alloc _ (.cells _ _))); refine mem_new H ?_; intro w2 H2; clear H; have H := H2; clear H2; simp only [List.cons_append, List.nil_append, List.set_cons_zero, List.set_cons_succ, List.setIfInBounds_toArray] at H)
    | ((with_reducible show wpList _ _ _ (⟨_, .load 24 _, _, _, _, _⟩ :: _) _ _); refine mem_load (i := 0) H (by first | exact wanted_none rfl | exact wanted_some rfl rfl rfl rfl) (by exact rfl) (by exact rfl) (by exact rfl) Try.underlying24 rfl (by exact bkInfo) ?_)
    | ((with_reducible show wpList _ _ _ (⟨_, .load 24 _, _, _, _, _⟩ :: _) _ _); refine mem_load (i := 1) H (by first | exact wanted_none rfl | exact wanted_some rfl rfl rfl rfl) (by exact rfl) (by exact rfl) (by exact rfl) Try.underlying24 rfl (by exact bkInfo) ?_)
    | ((with_reducible show wpList _ _ _ (⟨_, .load 24 _, _, _, _, _⟩ :: _) _ _); refine mem_load (i := 2) H (by first | exact wanted_none rfl | exact wanted_some rfl rfl rfl rfl) (by exact rfl) (by exact rfl) (by exact rfl) Try.underlying24 rfl (by exact bkInfo) ?_)
    | ((with_reducible show wpList _ _ _ (⟨_, .load 24 _, _, _, _, _⟩ :: _) _ _); refine mem_load (i := 3) H (by first | exact wanted_none rfl | exact wanted_some rfl rfl rfl rfl) (by exact rfl) (by exact rfl) (by exact rfl) Try.underlying24 rfl (by exact bkInfo) ?_)
    | ((with_reducible show wpList _ _ _ (⟨_, .load _ _, _, _, _, _⟩ :: _) _ _); refine mem_loadf (i := 0) H (by first | exact wanted_none rfl | exact wanted_some rfl rfl rfl rfl) (by exact rfl) (by exact rfl) (by exact rfl) (by first | exact Try.underlying22 | exact Try.underlying2) rfl (by exact rfl) ?_)
    | ((with_reducible show wpList _ _ _ (⟨_, .load _ _, _, _, _, _⟩ :: _) _ _); refine mem_loadf (i := 1) H (by first | exact wanted_none rfl | exact wanted_some rfl rfl rfl rfl) (by exact rfl) (by exact rfl) (by exact rfl) (by first | exact Try.underlying22 | exact Try.underlying2) rfl (by exact rfl) ?_)
    | ((with_reducible show wpList _ _ _ (⟨_, .load _ _, _, _, _, _⟩ :: _) _ _); refine mem_loadf (i := 2) H (by first | exact wanted_none rfl | exact wanted_some rfl rfl rfl rfl) (by exact rfl) (by exact rfl) (by exact rfl) (by first | exact Try.underlying22 | exact Try.underlying2) rfl (by exact rfl) ?_)
    | ((with_reducible show wpList _ _ _ (⟨_, .load _ _, _, _, _, _⟩ :: _) _ _); refine mem_loadf (i := 3) H (by first | exact wanted_none rfl | exact wanted_some rfl rfl rfl rfl) (by exact rfl) (by exact rfl) (by exact rfl) (by first | exact Try.underlying22 | exact Try.underlying2) rfl (by exact rfl) ?_)
    | ((with_reducible show wpList _ _ _ (⟨_, .store 24 _ _, _, _, _, _⟩ :: _) _ _); refine mem_store (i := 0) H (by first | exact wanted_none rfl | exact wanted_some rfl rfl rfl rfl) (by exact rfl) (by exact rfl) (by exact rfl) (by exact rfl) (by exact bkInfo) (by exact rfl) (by exact rfl) ?_; intro w2 H2; clear H; have H := H2; clear H2; simp only [List.cons_append, List.nil_append, List.set_cons_zero, List.set_cons_succ, List.setIfInBounds_toArray] at H)
    | ((with_reducible show wpList _ _ _ (⟨_, .store 24 _ _, _, _, _, _⟩ :: _) _ _); refine mem_store (i := 1) H (by first | exact wanted_none rfl | exact wanted_some rfl rfl rfl rfl) (by exact rfl) (by exact rfl) (by exact rfl) (by exact rfl) (by exact bkInfo) (by exact rfl) (by exact rfl) ?_; intro w2 H2; clear H; have H := H2; clear H2; simp only [List.cons_append, List.nil_append, List.set_cons_zero, List.set_cons_succ, List.setIfInBounds_toArray] at H)
    | ((with_reducible show wpList _ _ _ (⟨_, .store 24 _ _, _, _, _, _⟩ :: _) _ _); refine mem_store (i := 2) H (by first | exact wanted_none rfl | exact wanted_some rfl rfl rfl rfl) (by exact rfl) (by exact rfl) (by exact rfl) (by exact rfl) (by exact bkInfo) (by exact rfl) (by exact rfl) ?_; intro w2 H2; clear H; have H := H2; clear H2; simp only [List.cons_append, List.nil_append, List.set_cons_zero, List.set_cons_succ, List.setIfInBounds_toArray] at H)
    | ((with_reducible show wpList _ _ _ (⟨_, .store 24 _ _, _, _, _, _⟩ :: _) _ _); refine mem_store (i := 3) H (by first | exact wanted_none rfl | exact wanted_some rfl rfl rfl rfl) (by exact rfl) (by exact rfl) (by exact rfl) (by exact rfl) (by exact bkInfo) (by exact rfl) (by exact rfl) ?_; intro w2 H2; clear H; have H := H2; clear H2; simp only [List.cons_append, List.nil_append, List.set_cons_zero, List.set_cons_succ, List.setIfInBounds_toArray] at H)
    | (go_at_call 15; refine (h2 _).mono ?_; rintro e w2 ⟨rfl, hb⟩; have H2 := H.call hb; clear H hb; have H := H2; clear H2))
  clear h0 h1 h2
  go_wp2_with (first
    | go_skip
    | ((with_reducible show wpList _ _ _ _ _ (World.alloc _ (.cells _ _))); refine mem_new H ?_; intro w2 H2; clear H; have H := H2; clear H2; simp only [List.cons_append, List.nil_append, List.set_cons_zero, List.set_cons_succ, List.setIfInBounds_toArray] at H)
    | ((with_reducible show wpList _ _ _ (⟨_, .load 24 _, _, _, _, _⟩ :: _) _ _); refine mem_load (i := 0) H (by first | exact wanted_none rfl | exact wanted_some rfl rfl rfl rfl) (by exact rfl) (by exact rfl) (by exact rfl) Try.underlying24 rfl (by exact bkInfo) ?_)
    | ((with_reducible show wpList _ _ _ (⟨_, .load 24 _, _, _, _, _⟩ :: _) _ _); refine mem_load (i := 1) H (by first | exact wanted_none rfl | exact wanted_some rfl rfl rfl rfl) (by exact rfl) (by exact rfl) (by exact rfl) Try.underlying24 rfl (by exact bkInfo) ?_)
    | ((with_reducible show wpList _ _ _ (⟨_, .load 24 _, _, _, _, _⟩ :: _) _ _); refine mem_load (i := 2) H (by first | exact wanted_none rfl | exact wanted_some rfl rfl rfl rfl) (by exact rfl) (by exact rfl) (by exact rfl) Try.underlying24 rfl (by exact bkInfo) ?_)
    | ((with_reducible show wpList _ _ _ (⟨_, .load 24 _, _, _, _, _⟩ :: _) _ _); refine mem_load (i := 3) H (by first | exact wanted_none rfl | exact wanted_some rfl rfl rfl rfl) (by exact rfl) (by exact rfl) (by exact rfl) Try.underlying24 rfl (by exact bkInfo) ?_)
    | ((with_reducible show wpList _ _ _ (⟨_, .load _ _, _, _, _, _⟩ :: _) _ _); refine mem_loadf (i := 0) H (by first | exact wanted_none rfl | exact wanted_some rfl rfl rfl rfl) (by exact rfl) (by exact rfl) (by exact rfl) (by first | exact Try.underlying22 | exact Try.underlying2) rfl (by exact rfl) ?_)
    | ((with_reducible show wpList _ _ _ (⟨_, .load _ _, _, _, _, _⟩ :: _) _ _); refine mem_loadf (i := 1) H (by first | exact wanted_none rfl | exact wanted_some rfl rfl rfl rfl) (by exact rfl) (by exact rfl) (by exact rfl) (by first | exact Try.underlying22 | exact Try.underlying2) rfl (by exact rfl) ?_)
    | ((with_reducible show wpList _ _ _ (⟨_, .load _ _, _, _, _, _⟩ :: _) _ _); refine mem_loadf (i := 2) H (by first | exact wanted_none rfl | exact wanted_some rfl rfl rfl rfl) (by exact rfl) (by exact rfl) (by exact rfl) (by first | exact Try.underlying22 | exact Try.underlying2) rfl (by exact rfl) ?_)
    | ((with_reducible show wpList _ _ _ (⟨_, .load _ _, _, _, _, _⟩ :: _) _ _); refine mem_loadf (i := 3) H (by first | exact wanted_none rfl | exact wanted_some rfl rfl rfl rfl) (by exact rfl) (by exact rfl) (by exact rfl) (by first | exact Try.underlying22 | exact Try.underlying2) rfl (by exact rfl) ?_)
    | ((with_reducible show wpList _ _ _ (⟨_, .store 24 _ _, _, _, _, _⟩ :: _) _ _); refine mem_store (i := 0) H (by first | exact wanted_none rfl | exact wanted_some rfl rfl rfl rfl) (by exact rfl) (by exact rfl) (by exact rfl) (by exact rfl) (by exact bkInfo) (by exact rfl) (by exact rfl) ?_; intro w2 H2; clear H; have H := H2; clear H2; simp only [List.cons_append, List.nil_append, List.set_cons_zero, List.set_cons_succ, List.setIfInBounds_toArray] at H)
    | ((with_reducible show wpList _ _ _ (⟨_, .store 24 _ _, _, _, _, _⟩ :: _) _ _); refine mem_store (i := 1) H (by first | exact wanted_none rfl | exact wanted_some rfl rfl rfl rfl) (by exact rfl) (by exact rfl) (by exact rfl) (by exact rfl) (by exact bkInfo) (by exact rfl) (by exact rfl) ?_; intro w2 H2; clear H; have H := H2; clear H2; simp only [List.cons_append, List.nil_append, List.set_cons_zero, List.set_cons_succ, List.setIfInBounds_toArray] at H)
    | ((with_reducible show wpList _ _ _ (⟨_, .store 24 _ _, _, _, _, _⟩ :: _) _ _); refine mem_store (i := 2) H (by first | exact wanted_none rfl | exact wanted_some rfl rfl rfl rfl) (by exact rfl) (by exact rfl) (by exact rfl) (by exact rfl) (by exact bkInfo) (by exact rfl) (by exact rfl) ?_; intro w2 H2; clear H; have H := H2; clear H2; simp only [List.cons_append, List.nil_append, List.set_cons_zero, List.set_cons_succ, List.setIfInBounds_toArray] at H)
    | ((with_reducible show wpList _ _ _ (⟨_, .store 24 _ _, _, _, _, _⟩ :: _) _ _); refine mem_store (i := 3) H (by first | exact wanted_none rfl | exact wanted_some rfl rfl rfl rfl) (by exact rfl) (by exact rfl) (by exact rfl) (by exact rfl) (by exact bkInfo) (by exact rfl) (by exact rfl) ?_; intro w2 H2; clear H; have H := H2; clear H2; simp only [List.cons_append, List.nil_append, List.set_cons_zero, List.set_cons_succ, List.setIfInBounds_toArray] at H)
    | (go_at_call 13; refine (hR _).mono ?_; rintro e w2 ⟨rfl, hb⟩; have H2 := H.call hb; clear H hb; have H := H2; clear H2))
  go_ret
  exact ⟨rfl, H.below⟩
theorem parts_w (b : BK) (now then_ : Int) (hf : b.Fits) (hn : 0 ≤ now ∧ now ≤ 18446744073709551615) (ht : 0 ≤ then_ ∧ then_ ≤ 18446744073709551615) (w : World) : Calls Try.prog 7 #[bk b, .int .u64 now, .int .u64 then_] w fun e w' => e = .returned (.bool true) ∧ Below w.heap.size w w' := by
  have h0 := fun w => fill_p b now hf hn w
  have h1 := fun w => fill_p (fillV b now) then_ (fillV_fits hf now) ht w
  have h2 := fun w => fill_p b then_ hf ht w
  by_cases he : fillE b now = 0
  · by_cases he2 : fillE (fillV b now) then_ = 0
    · obtain ⟨a1, a2, a3⟩ := parts_ok hf he he2
      rw [he] at h0
      rw [he2, a2] at h1
      rw [a1] at h2
      have hR := fun w => right_p (fillV b then_) w
      rw [a3] at hR
      exact parts_w2 b _ _ now then_ h0 h1 h2 hR (fun w => bk_self _ w) w
    · rw [he] at h0
      exact parts_w1 b _ _ _ now then_ _ _ (by simpa using he2) (by simpa using he2) h0 h1 h2 w
  · exact parts_w0 b _ _ _ now then_ _ _ _ (by simpa using he) (by simpa using he) h0 h1 h2 w
set_option maxRecDepth 4000 in
set_option maxHeartbeats 4000000 in
theorem free_w0 (b : BK) (n : Int) (hT : ∀ w, Calls Try.prog 17 #[bk b, .int .i64 n] w fun e w' => e = .returned (.tuple #[.agg #[.int .u64 0, .int .i64 0, .int .i64 0, .int .u64 0, .int .u64 0], .bool false, .int .i64 2]) ∧ Below w.heap.size w w') (hR : ∀ w, Calls Try.prog 13 #[bk b] w fun e w' => e = .returned (.bool false) ∧ Below w.heap.size w w') (w : World) : Calls Try.prog 9 #[bk b, .int .i64 n] w fun e w' => e = .returned (.bool true) ∧ Below w.heap.size w w' := by
  have hE : ∀ w, (Op.equalIn 10000 24 (.agg #[.int .u64 0, .int .i64 0, .int .i64 0, .int .u64 0, .int .u64 0]) (.agg #[.int .u64 0, .int .i64 0, .int .i64 0, .int .u64 0, .int .u64 0])).run Try.prog w = .ok true w := fun w => bk_self ⟨0, 0, 0, 0, 0⟩ w
  have H := Mem.start w
  go_enter Try.func9, Try.ntmps9
  go_wp2_with (first
    | go_skip
    | ((with_reducible show wpList _ _ _ _ _ (World.alloc _ (.cells _ _))); refine mem_new H ?_; intro w2 H2; clear H; have H := H2; clear H2; simp only [List.cons_append, List.nil_append, List.set_cons_zero, List.set_cons_succ, List.setIfInBounds_toArray] at H)
    | ((with_reducible show wpList _ _ _ (⟨_, .load 24 _, _, _, _, _⟩ :: _) _ _); refine mem_load (i := 0) H (by first | exact wanted_none rfl | exact wanted_some rfl rfl rfl rfl) (by exact rfl) (by exact rfl) (by exact rfl) Try.underlying24 rfl (by exact bkInfo) ?_)
    | ((with_reducible show wpList _ _ _ (⟨_, .load 24 _, _, _, _, _⟩ :: _) _ _); refine mem_load (i := 1) H (by first | exact wanted_none rfl | exact wanted_some rfl rfl rfl rfl) (by exact rfl) (by exact rfl) (by exact rfl) Try.underlying24 rfl (by exact bkInfo) ?_)
    | ((with_reducible show wpList _ _ _ (⟨_, .load _ _, _, _, _, _⟩ :: _) _ _); refine mem_loadf (i := 0) H (by first | exact wanted_none rfl | exact wanted_some rfl rfl rfl rfl) (by exact rfl) (by exact rfl) (by exact rfl) (by first | exact Try.underlying22 | exact Try.underlying2) rfl (by exact rfl) ?_)
    | ((with_reducible show wpList _ _ _ (⟨_, .load _ _, _, _, _, _⟩ :: _) _ _); refine mem_loadf (i := 1) H (by first | exact wanted_none rfl | exact wanted_some rfl rfl rfl rfl) (by exact rfl) (by exact rfl) (by exact rfl) (by first | exact Try.underlying22 | exact Try.underlying2) rfl (by exact rfl) ?_)
    | ((with_reducible show wpList _ _ _ (⟨_, .store 24 _ _, _, _, _, _⟩ :: _) _ _); refine mem_store (i := 0) H (by first | exact wanted_none rfl | exact wanted_some rfl rfl rfl rfl) (by exact rfl) (by exact rfl) (by exact rfl) (by exact rfl) (by exact bkInfo) (by exact rfl) (by exact rfl) ?_; intro w2 H2; clear H; have H := H2; clear H2; simp only [List.cons_append, List.nil_append, List.set_cons_zero, List.set_cons_succ, List.setIfInBounds_toArray] at H)
    | ((with_reducible show wpList _ _ _ (⟨_, .store 24 _ _, _, _, _, _⟩ :: _) _ _); refine mem_store (i := 1) H (by first | exact wanted_none rfl | exact wanted_some rfl rfl rfl rfl) (by exact rfl) (by exact rfl) (by exact rfl) (by exact rfl) (by exact bkInfo) (by exact rfl) (by exact rfl) ?_; intro w2 H2; clear H; have H := H2; clear H2; simp only [List.cons_append, List.nil_append, List.set_cons_zero, List.set_cons_succ, List.setIfInBounds_toArray] at H)
    | (go_at_call 10; refine (shown_p _).mono ?_; rintro e w2 ⟨rfl, hb⟩; have H2 := H.call hb; clear H hb; have H := H2; clear H2)
    | (go_at_call 17; refine (hT _).mono ?_; rintro e w2 ⟨rfl, hb⟩; have H2 := H.call hb; clear H hb; have H := H2; clear H2)
    | (go_at_call 13; refine (hR _).mono ?_; rintro e w2 ⟨rfl, hb⟩; have H2 := H.call hb; clear H hb; have H := H2; clear H2))
  go_ret
  exact ⟨rfl, H.below⟩
set_option maxRecDepth 4000 in
set_option maxHeartbeats 4000000 in
theorem free_w1 (b : BK) (n : Int) (h1 : n < 1) (hT : ∀ w, Calls Try.prog 17 #[bk b, .int .i64 n] w fun e w' => e = .returned (.tuple #[.agg #[.int .u64 0, .int .i64 0, .int .i64 0, .int .u64 0, .int .u64 0], .bool false, .int .i64 2]) ∧ Below w.heap.size w w') (hR : ∀ w, Calls Try.prog 13 #[bk b] w fun e w' => e = .returned (.bool true) ∧ Below w.heap.size w w') (w : World) : Calls Try.prog 9 #[bk b, .int .i64 n] w fun e w' => e = .returned (.bool true) ∧ Below w.heap.size w w' := by
  have hE : ∀ w, (Op.equalIn 10000 24 (.agg #[.int .u64 0, .int .i64 0, .int .i64 0, .int .u64 0, .int .u64 0]) (.agg #[.int .u64 0, .int .i64 0, .int .i64 0, .int .u64 0, .int .u64 0])).run Try.prog w = .ok true w := fun w => bk_self ⟨0, 0, 0, 0, 0⟩ w
  have H := Mem.start w
  have e1 : decide (n < 1) = true := decide_eq_true h1
  go_enter Try.func9, Try.ntmps9
  go_wp2_with (first
    | go_skip
    | ((with_reducible show wpList _ _ _ _ _ (World.alloc _ (.cells _ _))); refine mem_new H ?_; intro w2 H2; clear H; have H := H2; clear H2; simp only [List.cons_append, List.nil_append, List.set_cons_zero, List.set_cons_succ, List.setIfInBounds_toArray] at H)
    | ((with_reducible show wpList _ _ _ (⟨_, .load 24 _, _, _, _, _⟩ :: _) _ _); refine mem_load (i := 0) H (by first | exact wanted_none rfl | exact wanted_some rfl rfl rfl rfl) (by exact rfl) (by exact rfl) (by exact rfl) Try.underlying24 rfl (by exact bkInfo) ?_)
    | ((with_reducible show wpList _ _ _ (⟨_, .load 24 _, _, _, _, _⟩ :: _) _ _); refine mem_load (i := 1) H (by first | exact wanted_none rfl | exact wanted_some rfl rfl rfl rfl) (by exact rfl) (by exact rfl) (by exact rfl) Try.underlying24 rfl (by exact bkInfo) ?_)
    | ((with_reducible show wpList _ _ _ (⟨_, .load _ _, _, _, _, _⟩ :: _) _ _); refine mem_loadf (i := 0) H (by first | exact wanted_none rfl | exact wanted_some rfl rfl rfl rfl) (by exact rfl) (by exact rfl) (by exact rfl) (by first | exact Try.underlying22 | exact Try.underlying2) rfl (by exact rfl) ?_)
    | ((with_reducible show wpList _ _ _ (⟨_, .load _ _, _, _, _, _⟩ :: _) _ _); refine mem_loadf (i := 1) H (by first | exact wanted_none rfl | exact wanted_some rfl rfl rfl rfl) (by exact rfl) (by exact rfl) (by exact rfl) (by first | exact Try.underlying22 | exact Try.underlying2) rfl (by exact rfl) ?_)
    | ((with_reducible show wpList _ _ _ (⟨_, .store 24 _ _, _, _, _, _⟩ :: _) _ _); refine mem_store (i := 0) H (by first | exact wanted_none rfl | exact wanted_some rfl rfl rfl rfl) (by exact rfl) (by exact rfl) (by exact rfl) (by exact rfl) (by exact bkInfo) (by exact rfl) (by exact rfl) ?_; intro w2 H2; clear H; have H := H2; clear H2; simp only [List.cons_append, List.nil_append, List.set_cons_zero, List.set_cons_succ, List.setIfInBounds_toArray] at H)
    | ((with_reducible show wpList _ _ _ (⟨_, .store 24 _ _, _, _, _, _⟩ :: _) _ _); refine mem_store (i := 1) H (by first | exact wanted_none rfl | exact wanted_some rfl rfl rfl rfl) (by exact rfl) (by exact rfl) (by exact rfl) (by exact rfl) (by exact bkInfo) (by exact rfl) (by exact rfl) ?_; intro w2 H2; clear H; have H := H2; clear H2; simp only [List.cons_append, List.nil_append, List.set_cons_zero, List.set_cons_succ, List.setIfInBounds_toArray] at H)
    | (go_at_call 10; refine (shown_p _).mono ?_; rintro e w2 ⟨rfl, hb⟩; have H2 := H.call hb; clear H hb; have H := H2; clear H2)
    | (go_at_call 17; refine (hT _).mono ?_; rintro e w2 ⟨rfl, hb⟩; have H2 := H.call hb; clear H hb; have H := H2; clear H2)
    | (go_at_call 13; refine (hR _).mono ?_; rintro e w2 ⟨rfl, hb⟩; have H2 := H.call hb; clear H hb; have H := H2; clear H2))
  go_ret
  exact ⟨rfl, H.below⟩
set_option maxRecDepth 4000 in
set_option maxHeartbeats 4000000 in
theorem free_w2 (b : BK) (n : Int) (h1 : 65535 < n) (hT : ∀ w, Calls Try.prog 17 #[bk b, .int .i64 n] w fun e w' => e = .returned (.tuple #[.agg #[.int .u64 0, .int .i64 0, .int .i64 0, .int .u64 0, .int .u64 0], .bool false, .int .i64 2]) ∧ Below w.heap.size w w') (hR : ∀ w, Calls Try.prog 13 #[bk b] w fun e w' => e = .returned (.bool true) ∧ Below w.heap.size w w') (w : World) : Calls Try.prog 9 #[bk b, .int .i64 n] w fun e w' => e = .returned (.bool true) ∧ Below w.heap.size w w' := by
  have hE : ∀ w, (Op.equalIn 10000 24 (.agg #[.int .u64 0, .int .i64 0, .int .i64 0, .int .u64 0, .int .u64 0]) (.agg #[.int .u64 0, .int .i64 0, .int .i64 0, .int .u64 0, .int .u64 0])).run Try.prog w = .ok true w := fun w => bk_self ⟨0, 0, 0, 0, 0⟩ w
  have H := Mem.start w
  have e1 : decide (n < 1) = false := decide_eq_false (by omega)
  have e2 : decide (65535 < n) = true := decide_eq_true h1
  go_enter Try.func9, Try.ntmps9
  go_wp2_with (first
    | go_skip
    | ((with_reducible show wpList _ _ _ _ _ (World.alloc _ (.cells _ _))); refine mem_new H ?_; intro w2 H2; clear H; have H := H2; clear H2; simp only [List.cons_append, List.nil_append, List.set_cons_zero, List.set_cons_succ, List.setIfInBounds_toArray] at H)
    | ((with_reducible show wpList _ _ _ (⟨_, .load 24 _, _, _, _, _⟩ :: _) _ _); refine mem_load (i := 0) H (by first | exact wanted_none rfl | exact wanted_some rfl rfl rfl rfl) (by exact rfl) (by exact rfl) (by exact rfl) Try.underlying24 rfl (by exact bkInfo) ?_)
    | ((with_reducible show wpList _ _ _ (⟨_, .load 24 _, _, _, _, _⟩ :: _) _ _); refine mem_load (i := 1) H (by first | exact wanted_none rfl | exact wanted_some rfl rfl rfl rfl) (by exact rfl) (by exact rfl) (by exact rfl) Try.underlying24 rfl (by exact bkInfo) ?_)
    | ((with_reducible show wpList _ _ _ (⟨_, .load _ _, _, _, _, _⟩ :: _) _ _); refine mem_loadf (i := 0) H (by first | exact wanted_none rfl | exact wanted_some rfl rfl rfl rfl) (by exact rfl) (by exact rfl) (by exact rfl) (by first | exact Try.underlying22 | exact Try.underlying2) rfl (by exact rfl) ?_)
    | ((with_reducible show wpList _ _ _ (⟨_, .load _ _, _, _, _, _⟩ :: _) _ _); refine mem_loadf (i := 1) H (by first | exact wanted_none rfl | exact wanted_some rfl rfl rfl rfl) (by exact rfl) (by exact rfl) (by exact rfl) (by first | exact Try.underlying22 | exact Try.underlying2) rfl (by exact rfl) ?_)
    | ((with_reducible show wpList _ _ _ (⟨_, .store 24 _ _, _, _, _, _⟩ :: _) _ _); refine mem_store (i := 0) H (by first | exact wanted_none rfl | exact wanted_some rfl rfl rfl rfl) (by exact rfl) (by exact rfl) (by exact rfl) (by exact rfl) (by exact bkInfo) (by exact rfl) (by exact rfl) ?_; intro w2 H2; clear H; have H := H2; clear H2; simp only [List.cons_append, List.nil_append, List.set_cons_zero, List.set_cons_succ, List.setIfInBounds_toArray] at H)
    | ((with_reducible show wpList _ _ _ (⟨_, .store 24 _ _, _, _, _, _⟩ :: _) _ _); refine mem_store (i := 1) H (by first | exact wanted_none rfl | exact wanted_some rfl rfl rfl rfl) (by exact rfl) (by exact rfl) (by exact rfl) (by exact rfl) (by exact bkInfo) (by exact rfl) (by exact rfl) ?_; intro w2 H2; clear H; have H := H2; clear H2; simp only [List.cons_append, List.nil_append, List.set_cons_zero, List.set_cons_succ, List.setIfInBounds_toArray] at H)
    | (go_at_call 10; refine (shown_p _).mono ?_; rintro e w2 ⟨rfl, hb⟩; have H2 := H.call hb; clear H hb; have H := H2; clear H2)
    | (go_at_call 17; refine (hT _).mono ?_; rintro e w2 ⟨rfl, hb⟩; have H2 := H.call hb; clear H hb; have H := H2; clear H2)
    | (go_at_call 13; refine (hR _).mono ?_; rintro e w2 ⟨rfl, hb⟩; have H2 := H.call hb; clear H hb; have H := H2; clear H2))
  go_ret
  exact ⟨rfl, H.below⟩
set_option maxRecDepth 4000 in
set_option maxHeartbeats 4000000 in
theorem free_w3 (b : BK) (n : Int) (hz : (b.rate == 0) = true) (hT : ∀ w, Calls Try.prog 17 #[bk b, .int .i64 n] w fun e w' => e = .returned (.tuple #[bk b, .bool true, .int .i64 0]) ∧ Below w.heap.size w w') (w : World) : Calls Try.prog 9 #[bk b, .int .i64 n] w fun e w' => e = .returned (.bool true) ∧ Below w.heap.size w w' := by
  have hE := fun w => bk_self b w
  have H := Mem.start w
  go_enter Try.func9, Try.ntmps9
  go_wp2_with (first
    | go_skip
    | ((with_reducible show wpList _ _ _ _ _ (World.alloc _ (.cells _ _))); refine mem_new H ?_; intro w2 H2; clear H; have H := H2; clear H2; simp only [List.cons_append, List.nil_append, List.set_cons_zero, List.set_cons_succ, List.setIfInBounds_toArray] at H)
    | ((with_reducible show wpList _ _ _ (⟨_, .load 24 _, _, _, _, _⟩ :: _) _ _); refine mem_load (i := 0) H (by first | exact wanted_none rfl | exact wanted_some rfl rfl rfl rfl) (by exact rfl) (by exact rfl) (by exact rfl) Try.underlying24 rfl (by exact bkInfo) ?_)
    | ((with_reducible show wpList _ _ _ (⟨_, .load 24 _, _, _, _, _⟩ :: _) _ _); refine mem_load (i := 1) H (by first | exact wanted_none rfl | exact wanted_some rfl rfl rfl rfl) (by exact rfl) (by exact rfl) (by exact rfl) Try.underlying24 rfl (by exact bkInfo) ?_)
    | ((with_reducible show wpList _ _ _ (⟨_, .load _ _, _, _, _, _⟩ :: _) _ _); refine mem_loadf (i := 0) H (by first | exact wanted_none rfl | exact wanted_some rfl rfl rfl rfl) (by exact rfl) (by exact rfl) (by exact rfl) (by first | exact Try.underlying22 | exact Try.underlying2) rfl (by exact rfl) ?_)
    | ((with_reducible show wpList _ _ _ (⟨_, .load _ _, _, _, _, _⟩ :: _) _ _); refine mem_loadf (i := 1) H (by first | exact wanted_none rfl | exact wanted_some rfl rfl rfl rfl) (by exact rfl) (by exact rfl) (by exact rfl) (by first | exact Try.underlying22 | exact Try.underlying2) rfl (by exact rfl) ?_)
    | ((with_reducible show wpList _ _ _ (⟨_, .store 24 _ _, _, _, _, _⟩ :: _) _ _); refine mem_store (i := 0) H (by first | exact wanted_none rfl | exact wanted_some rfl rfl rfl rfl) (by exact rfl) (by exact rfl) (by exact rfl) (by exact rfl) (by exact bkInfo) (by exact rfl) (by exact rfl) ?_; intro w2 H2; clear H; have H := H2; clear H2; simp only [List.cons_append, List.nil_append, List.set_cons_zero, List.set_cons_succ, List.setIfInBounds_toArray] at H)
    | ((with_reducible show wpList _ _ _ (⟨_, .store 24 _ _, _, _, _, _⟩ :: _) _ _); refine mem_store (i := 1) H (by first | exact wanted_none rfl | exact wanted_some rfl rfl rfl rfl) (by exact rfl) (by exact rfl) (by exact rfl) (by exact rfl) (by exact bkInfo) (by exact rfl) (by exact rfl) ?_; intro w2 H2; clear H; have H := H2; clear H2; simp only [List.cons_append, List.nil_append, List.set_cons_zero, List.set_cons_succ, List.setIfInBounds_toArray] at H)
    | (go_at_call 10; refine (shown_p _).mono ?_; rintro e w2 ⟨rfl, hb⟩; have H2 := H.call hb; clear H hb; have H := H2; clear H2)
    | (go_at_call 17; refine (hT _).mono ?_; rintro e w2 ⟨rfl, hb⟩; have H2 := H.call hb; clear H hb; have H := H2; clear H2))
  go_ret
  exact ⟨rfl, H.below⟩
set_option maxRecDepth 4000 in
set_option maxHeartbeats 4000000 in
theorem free_w4 (b : BK) (n : Int) (hz : (b.rate == 0) = false) (hl : decide (b.level ≤ 0) = true) (hT : ∀ w, Calls Try.prog 17 #[bk b, .int .i64 n] w fun e w' => e = .returned (.tuple #[bk b, .bool false, .int .i64 0]) ∧ Below w.heap.size w w') (w : World) : Calls Try.prog 9 #[bk b, .int .i64 n] w fun e w' => e = .returned (.bool true) ∧ Below w.heap.size w w' := by
  have hE := fun w => bk_self b w
  have H := Mem.start w
  go_enter Try.func9, Try.ntmps9
  go_wp2_with (first
    | go_skip
    | ((with_reducible show wpList _ _ _ _ _ (World.alloc _ (.cells _ _))); refine mem_new H ?_; intro w2 H2; clear H; have H := H2; clear H2; simp only [List.cons_append, List.nil_append, List.set_cons_zero, List.set_cons_succ, List.setIfInBounds_toArray] at H)
    | ((with_reducible show wpList _ _ _ (⟨_, .load 24 _, _, _, _, _⟩ :: _) _ _); refine mem_load (i := 0) H (by first | exact wanted_none rfl | exact wanted_some rfl rfl rfl rfl) (by exact rfl) (by exact rfl) (by exact rfl) Try.underlying24 rfl (by exact bkInfo) ?_)
    | ((with_reducible show wpList _ _ _ (⟨_, .load 24 _, _, _, _, _⟩ :: _) _ _); refine mem_load (i := 1) H (by first | exact wanted_none rfl | exact wanted_some rfl rfl rfl rfl) (by exact rfl) (by exact rfl) (by exact rfl) Try.underlying24 rfl (by exact bkInfo) ?_)
    | ((with_reducible show wpList _ _ _ (⟨_, .load _ _, _, _, _, _⟩ :: _) _ _); refine mem_loadf (i := 0) H (by first | exact wanted_none rfl | exact wanted_some rfl rfl rfl rfl) (by exact rfl) (by exact rfl) (by exact rfl) (by first | exact Try.underlying22 | exact Try.underlying2) rfl (by exact rfl) ?_)
    | ((with_reducible show wpList _ _ _ (⟨_, .load _ _, _, _, _, _⟩ :: _) _ _); refine mem_loadf (i := 1) H (by first | exact wanted_none rfl | exact wanted_some rfl rfl rfl rfl) (by exact rfl) (by exact rfl) (by exact rfl) (by first | exact Try.underlying22 | exact Try.underlying2) rfl (by exact rfl) ?_)
    | ((with_reducible show wpList _ _ _ (⟨_, .store 24 _ _, _, _, _, _⟩ :: _) _ _); refine mem_store (i := 0) H (by first | exact wanted_none rfl | exact wanted_some rfl rfl rfl rfl) (by exact rfl) (by exact rfl) (by exact rfl) (by exact rfl) (by exact bkInfo) (by exact rfl) (by exact rfl) ?_; intro w2 H2; clear H; have H := H2; clear H2; simp only [List.cons_append, List.nil_append, List.set_cons_zero, List.set_cons_succ, List.setIfInBounds_toArray] at H)
    | ((with_reducible show wpList _ _ _ (⟨_, .store 24 _ _, _, _, _, _⟩ :: _) _ _); refine mem_store (i := 1) H (by first | exact wanted_none rfl | exact wanted_some rfl rfl rfl rfl) (by exact rfl) (by exact rfl) (by exact rfl) (by exact rfl) (by exact bkInfo) (by exact rfl) (by exact rfl) ?_; intro w2 H2; clear H; have H := H2; clear H2; simp only [List.cons_append, List.nil_append, List.set_cons_zero, List.set_cons_succ, List.setIfInBounds_toArray] at H)
    | (go_at_call 10; refine (shown_p _).mono ?_; rintro e w2 ⟨rfl, hb⟩; have H2 := H.call hb; clear H hb; have H := H2; clear H2)
    | (go_at_call 17; refine (hT _).mono ?_; rintro e w2 ⟨rfl, hb⟩; have H2 := H.call hb; clear H hb; have H := H2; clear H2))
  go_ret
  exact ⟨rfl, H.below⟩
set_option maxRecDepth 4000 in
set_option maxHeartbeats 4000000 in
theorem free_w5 (b c : BK) (n : Int) (hz : (b.rate == 0) = false) (hl : decide (b.level ≤ 0) = false) (hb : -1073741824 ≤ b.level ∧ b.level ≤ 1073741824) (hn : 1 ≤ n ∧ n ≤ 65535) (hq : (c.level == b.level - n) = true) (hT : ∀ w, Calls Try.prog 17 #[bk b, .int .i64 n] w fun e w' => e = .returned (.tuple #[bk c, .bool true, .int .i64 0]) ∧ Below w.heap.size w w') (hR : ∀ w, Calls Try.prog 13 #[bk c] w fun e w' => e = .returned (.bool true) ∧ Below w.heap.size w w') (w : World) : Calls Try.prog 9 #[bk b, .int .i64 n] w fun e w' => e = .returned (.bool true) ∧ Below w.heap.size w w' := by
  have H := Mem.start w
  go_enter Try.func9, Try.ntmps9
  go_wp2_with (first
    | go_skip
    | ((with_reducible show wpList _ _ _ _ _ (World.alloc _ (.cells _ _))); refine mem_new H ?_; intro w2 H2; clear H; have H := H2; clear H2; simp only [List.cons_append, List.nil_append, List.set_cons_zero, List.set_cons_succ, List.setIfInBounds_toArray] at H)
    | ((with_reducible show wpList _ _ _ (⟨_, .load 24 _, _, _, _, _⟩ :: _) _ _); refine mem_load (i := 0) H (by first | exact wanted_none rfl | exact wanted_some rfl rfl rfl rfl) (by exact rfl) (by exact rfl) (by exact rfl) Try.underlying24 rfl (by exact bkInfo) ?_)
    | ((with_reducible show wpList _ _ _ (⟨_, .load 24 _, _, _, _, _⟩ :: _) _ _); refine mem_load (i := 1) H (by first | exact wanted_none rfl | exact wanted_some rfl rfl rfl rfl) (by exact rfl) (by exact rfl) (by exact rfl) Try.underlying24 rfl (by exact bkInfo) ?_)
    | ((with_reducible show wpList _ _ _ (⟨_, .load _ _, _, _, _, _⟩ :: _) _ _); refine mem_loadf (i := 0) H (by first | exact wanted_none rfl | exact wanted_some rfl rfl rfl rfl) (by exact rfl) (by exact rfl) (by exact rfl) (by first | exact Try.underlying22 | exact Try.underlying2) rfl (by exact rfl) ?_)
    | ((with_reducible show wpList _ _ _ (⟨_, .load _ _, _, _, _, _⟩ :: _) _ _); refine mem_loadf (i := 1) H (by first | exact wanted_none rfl | exact wanted_some rfl rfl rfl rfl) (by exact rfl) (by exact rfl) (by exact rfl) (by first | exact Try.underlying22 | exact Try.underlying2) rfl (by exact rfl) ?_)
    | ((with_reducible show wpList _ _ _ (⟨_, .store 24 _ _, _, _, _, _⟩ :: _) _ _); refine mem_store (i := 0) H (by first | exact wanted_none rfl | exact wanted_some rfl rfl rfl rfl) (by exact rfl) (by exact rfl) (by exact rfl) (by exact rfl) (by exact bkInfo) (by exact rfl) (by exact rfl) ?_; intro w2 H2; clear H; have H := H2; clear H2; simp only [List.cons_append, List.nil_append, List.set_cons_zero, List.set_cons_succ, List.setIfInBounds_toArray] at H)
    | ((with_reducible show wpList _ _ _ (⟨_, .store 24 _ _, _, _, _, _⟩ :: _) _ _); refine mem_store (i := 1) H (by first | exact wanted_none rfl | exact wanted_some rfl rfl rfl rfl) (by exact rfl) (by exact rfl) (by exact rfl) (by exact rfl) (by exact bkInfo) (by exact rfl) (by exact rfl) ?_; intro w2 H2; clear H; have H := H2; clear H2; simp only [List.cons_append, List.nil_append, List.set_cons_zero, List.set_cons_succ, List.setIfInBounds_toArray] at H)
    | (go_at_call 10; refine (shown_p _).mono ?_; rintro e w2 ⟨rfl, hb⟩; have H2 := H.call hb; clear H hb; have H := H2; clear H2)
    | (go_at_call 17; refine (hT _).mono ?_; rintro e w2 ⟨rfl, hb⟩; have H2 := H.call hb; clear H hb; have H := H2; clear H2)
    | (go_at_call 13; refine (hR _).mono ?_; rintro e w2 ⟨rfl, hb⟩; have H2 := H.call hb; clear H hb; have H := H2; clear H2))
  go_ret
  exact ⟨rfl, H.below⟩
theorem free_w (b : BK) (n : Int) (hf : b.Fits) (w : World) : Calls Try.prog 9 #[bk b, .int .i64 n] w fun e w' => e = .returned (.bool true) ∧ Below w.heap.size w w' := by
  have hT := fun w => take_p b n hf w
  have hR := fun w => right_p b w
  have none_out : takeB b n = false → (∀ w, Calls Try.prog 17 #[bk b, .int .i64 n] w fun e w' => e = .returned (.tuple #[.agg #[.int .u64 0, .int .i64 0, .int .i64 0, .int .u64 0, .int .u64 0], .bool false, .int .i64 2]) ∧ Below w.heap.size w w') := fun hB => by
    simp only [takeV, takeK, takeE, hB, cond_false, Bool.false_and] at hT
    exact hT
  rcases hr : b.right
  · rw [hr] at hR
    exact free_w0 b n (none_out (by simp [takeB, hr])) hR w
  · rw [hr] at hR
    by_cases h1 : n < 1
    · exact free_w1 b n h1 (none_out (by simp [takeB, hr]; omega)) hR w
    · by_cases h2 : 65535 < n
      · exact free_w2 b n h2 (none_out (by simp [takeB, hr]; omega)) hR w
      · have hB : takeB b n = true := by simp [takeB, hr]; omega
        have hk := BK.ok_of_right hf hr
        have hlv := hk.level
        have hbu := hk.burst
        by_cases hz : b.rate = 0
        · simp only [takeV, takeK, takeE, hB, hz, decide_true, Bool.true_or, cond_true, Bool.true_and] at hT
          exact free_w3 b n (by simpa using hz) hT w
        · have d1 : decide (b.rate = 0) = false := decide_eq_false hz
          by_cases hl : b.level ≤ 0
          · have d2 : decide (b.level ≤ 0) = true := decide_eq_true hl
            have d3 : decide (0 < b.level) = false := decide_eq_false (by omega)
            simp only [takeV, takeK, takeE, hB, d1, d2, d3, Bool.false_or, cond_true, Bool.true_and] at hT
            exact free_w4 b n (by simpa using hz) d2 hT w
          · have d2 : decide (b.level ≤ 0) = false := decide_eq_false hl
            have d3 : decide (0 < b.level) = true := decide_eq_true (by omega)
            simp only [takeV, takeK, takeE, hB, d1, d2, d3, Bool.false_or, cond_true, cond_false, Bool.true_and] at hT
            have hR2 := fun w => right_p (b.taken n) w
            rw [BK.right_of_ok (BK.taken_ok hk (by omega) (by omega))] at hR2
            exact free_w5 b (b.taken n) n (by simpa using hz) d2 (by omega) (by omega) (by simp [BK.taken]) hT hR2 w
end Go.Proofs.Ytmincladghbklaa
