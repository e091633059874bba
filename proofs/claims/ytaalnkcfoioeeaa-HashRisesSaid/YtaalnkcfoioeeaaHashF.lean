/-
  The laws' own shown, and HashSteps, HashScales, HashApart, HashRises, HashTurns, walked over the contracts of the program's functions. Conditions: the numbers fit their kinds.
-/
import Derived.Test.YtaalnkcfoioeeaaHashE
namespace Go.Proofs.Ytaalnkcfoioeeaa
set_option linter.unusedSimpArgs false
set_option linter.unusedVariables false
open Go.ChangeShapes Go.WideShapes Go.ChangeAt Go.RowKit

def noW : Nat → BitVec 32 := fun _ => 0#32
theorem words_0 (w : World) : Calls Try.prog 18 #[.int .u32 0, .slice none 0 0] w fun e w' => e = .returned (.int .u32 0) ∧ Below w.heap.size w w' := by
  have h := words_p 0#32 none 0 0 (Nat.le_refl _) (by omega) noW w (WordsAt.none _ _ _ _)
  rwa [show u (wordsB 0#32 noW 0) = 0 by rfl, show u 0#32 = 0 by rfl] at h
theorem words_1 (w : World) : Calls Try.prog 18 #[.int .u32 1, .slice none 0 0] w fun e w' => e = .returned (.int .u32 1364076727) ∧ Below w.heap.size w w' := by
  have h := words_p 1#32 none 0 0 (Nat.le_refl _) (by omega) noW w (WordsAt.none _ _ _ _)
  rwa [show u (wordsB 1#32 noW 0) = 1364076727 by rfl, show u 1#32 = 1 by rfl] at h
theorem turn_1 (w : World) : Calls Try.prog 16 #[.int .u32 2147483648, .int .i64 1] w fun e w' => e = .returned (.int .u32 1) ∧ Below w.heap.size w w' := by
  have h := turn_p 2147483648#32 1 (by omega) w
  rwa [show u (turnB 2147483648#32 1) = 1 by rfl, show u 2147483648#32 = 2147483648 by rfl] at h
theorem scale_1 (w : World) : Calls Try.prog 22 #[.int .u32 2147483648, .int .i64 3] w fun e w' => e = .returned (.tuple #[.int .i64 1, .int .i64 0]) ∧ w = w' := by
  have h := scale_p 2147483648 3 (by omega) (by omega) w
  rwa [show scl 2147483648 3 = 1 by rfl] at h
set_option maxRecDepth 100000 in
set_option maxHeartbeats 1000000 in
theorem shown_p (w : World) : Calls Try.prog 11 #[] w fun e w' => e = .returned (.bool true) ∧ Below w.heap.size w w' := by
  have H := Mem.start w
  go_enter Try.func11, Try.ntmps11
  go_upto_region 2 with (first
    | (go_at_call 22; refine (scale_1 _).mono ?_; rintro e w2 ⟨rfl, rfl⟩))
  go_upto_region 3 with (first
    | (go_at_call 22; refine (scale_p_no 1 0 (by omega) _).mono ?_; rintro e w2 ⟨rfl, rfl⟩))
  go_wp2_with (first
    | go_skip
    | (go_at_call 18; with_reducible refine (words_0 _).mono ?_; rintro e w2 ⟨rfl, hb⟩; have H2 := H.call hb; clear H hb; have H := H2; clear H2)
    | (go_at_call 18; with_reducible refine (words_1 _).mono ?_; rintro e w2 ⟨rfl, hb⟩; have H2 := H.call hb; clear H hb; have H := H2; clear H2)
    | (go_at_call 16; with_reducible refine (turn_1 _).mono ?_; rintro e w2 ⟨rfl, hb⟩; have H2 := H.call hb; clear H hb; have H := H2; clear H2))
  go_ret
  exact ⟨by simp, H.below⟩
set_option maxRecDepth 100000 in
set_option maxHeartbeats 1000000 in
theorem steps_w (a b n : Int) (ha : 0 ≤ a ∧ a ≤ 4294967295) (hb : 0 ≤ b ∧ b ≤ 4294967295) (hn : -9223372036854775808 ≤ n ∧ n ≤ 9223372036854775807) (w : World) : Calls Try.prog 3 #[.int .u32 a, .int .u32 b, .int .i64 n] w fun e w' => e = .returned (.bool true) ∧ Below w.heap.size w w' := by
  obtain ⟨x, rfl⟩ := u_of ha
  obtain ⟨y, rfl⟩ := u_of hb
  clear ha hb
  have H := Mem.start w
  go_enter Try.func3, Try.ntmps3
  go_wp2_with (first
    | go_skip
    | (go_at_call 11; with_reducible refine (shown_p _).mono ?_; rintro e w2 ⟨rfl, hb⟩; have H2 := H.call hb; clear H hb; have H := H2; clear H2)
    | (go_at_call 12; with_reducible refine (mix_p x y _).mono ?_; rintro e w2 ⟨rfl, hb⟩; have H2 := H.call hb; clear H hb; have H := H2; clear H2)
    | (go_at_call 13; with_reducible refine (mix_r x y _).mono ?_; rintro e w2 ⟨rfl, hb⟩; have H2 := H.call hb; clear H hb; have H := H2; clear H2)
    | (go_at_call 14; with_reducible refine (end_p x y _).mono ?_; rintro e w2 ⟨rfl, hb⟩; have H2 := H.call hb; clear H hb; have H := H2; clear H2)
    | (go_at_call 15; with_reducible refine (end_r x y _).mono ?_; rintro e w2 ⟨rfl, hb⟩; have H2 := H.call hb; clear H hb; have H := H2; clear H2)
    | (go_at_call 16; with_reducible refine (turn_p x n hn _).mono ?_; rintro e w2 ⟨rfl, hb⟩; have H2 := H.call hb; clear H hb; have H := H2; clear H2)
    | (go_at_call 17; with_reducible refine (turn_r x n hn _).mono ?_; rintro e w2 ⟨rfl, hb⟩; have H2 := H.call hb; clear H hb; have H := H2; clear H2))
  go_ret
  exact ⟨by simp, H.below⟩
set_option maxRecDepth 100000 in
set_option maxHeartbeats 1000000 in
theorem scales_y (a n : Int) (ha : 0 ≤ a ∧ a ≤ 4294967295) (h : 1 ≤ n ∧ n ≤ 65536) (w : World) : Calls Try.prog 6 #[.int .u32 a, .int .i64 n] w fun e w' => e = .returned (.bool true) ∧ Below w.heap.size w w' := by
  have H := Mem.start w
  go_enter Try.func6, Try.ntmps6
  go_wp2_with (first
    | go_skip
    | (go_at_call 11; with_reducible refine (shown_p _).mono ?_; rintro e w2 ⟨rfl, hb⟩; have H2 := H.call hb; clear H hb; have H := H2; clear H2)
    | (go_at_call 22; with_reducible refine (scale_p a n ha h _).mono ?_; rintro e w2 ⟨rfl, rfl⟩)
    | (go_at_call 23; with_reducible refine (scale_r a n ha h _).mono ?_; rintro e w2 ⟨rfl, rfl⟩))
  go_ret
  exact ⟨by simp, H.below⟩
set_option maxRecDepth 100000 in
set_option maxHeartbeats 1000000 in
theorem scales_n (a n : Int) (ha : 0 ≤ a ∧ a ≤ 4294967295) (h : n < 1 ∨ 65536 < n) (w : World) : Calls Try.prog 6 #[.int .u32 a, .int .i64 n] w fun e w' => e = .returned (.bool true) ∧ Below w.heap.size w w' := by
  have H := Mem.start w
  go_enter Try.func6, Try.ntmps6
  go_wp2_with (first
    | go_skip
    | (go_at_call 11; with_reducible refine (shown_p _).mono ?_; rintro e w2 ⟨rfl, hb⟩; have H2 := H.call hb; clear H hb; have H := H2; clear H2)
    | (go_at_call 22; with_reducible refine (scale_p_no a n h _).mono ?_; rintro e w2 ⟨rfl, rfl⟩)
    | (go_at_call 23; with_reducible refine (scale_r_no a n h _).mono ?_; rintro e w2 ⟨rfl, rfl⟩))
  go_ret
  exact ⟨by simp, H.below⟩
theorem scales_w (a n : Int) (ha : 0 ≤ a ∧ a ≤ 4294967295) (w : World) : Calls Try.prog 6 #[.int .u32 a, .int .i64 n] w fun e w' => e = .returned (.bool true) ∧ Below w.heap.size w w' := by
  by_cases h : 1 ≤ n ∧ n ≤ 65536
  · exact scales_y a n ha h w
  · exact scales_n a n ha (by omega) w
set_option maxRecDepth 100000 in
set_option maxHeartbeats 1000000 in
theorem apart_y (x k : BitVec 32) (w : World) : Calls Try.prog 7 #[.int .u32 (u x), .int .u32 (u x), .int .u32 (u k)] w fun e w' => e = .returned (.bool true) ∧ Below w.heap.size w w' := by
  have H := Mem.start w
  go_enter Try.func7, Try.ntmps7
  go_wp2_with (first
    | go_skip
    | (go_at_call 11; with_reducible refine (shown_p _).mono ?_; rintro e w2 ⟨rfl, hb⟩; have H2 := H.call hb; clear H hb; have H := H2; clear H2)
    | (go_at_call 12; with_reducible refine (mix_p x k _).mono ?_; rintro e w2 ⟨rfl, hb⟩; have H2 := H.call hb; clear H hb; have H := H2; clear H2)
    | (go_at_call 12; with_reducible refine (mix_p k x _).mono ?_; rintro e w2 ⟨rfl, hb⟩; have H2 := H.call hb; clear H hb; have H := H2; clear H2)
    | (go_at_call 14; with_reducible refine (end_p x k _).mono ?_; rintro e w2 ⟨rfl, hb⟩; have H2 := H.call hb; clear H hb; have H := H2; clear H2))
  go_ret
  exact ⟨by simp, H.below⟩
theorem beq_no {x y : BitVec 32} (h : x ≠ y) : (u x == u y) = false := by
  rw [beq_eq_false_iff_ne]
  exact fun e => h (u_inj.1 e)
set_option maxRecDepth 100000 in
set_option maxHeartbeats 1000000 in
theorem apart_n (x y k : BitVec 32) (hxy : x ≠ y) (w : World) : Calls Try.prog 7 #[.int .u32 (u x), .int .u32 (u y), .int .u32 (u k)] w fun e w' => e = .returned (.bool true) ∧ Below w.heap.size w w' := by
  have e0 := beq_no hxy
  have e1 := beq_no (fun e => hxy ((mixB_left x y k).1 e))
  have e2 := beq_no (fun e => hxy ((mixB_right x y k).1 e))
  have e3 := beq_no (fun e => hxy ((endB_left x y k).1 e))
  clear hxy
  have H := Mem.start w
  go_enter Try.func7, Try.ntmps7
  go_wp2_with (first
    | go_skip
    | (go_at_call 11; with_reducible refine (shown_p _).mono ?_; rintro e w2 ⟨rfl, hb⟩; have H2 := H.call hb; clear H hb; have H := H2; clear H2)
    | (go_at_call 12; with_reducible refine (mix_p x k _).mono ?_; rintro e w2 ⟨rfl, hb⟩; have H2 := H.call hb; clear H hb; have H := H2; clear H2)
    | (go_at_call 12; with_reducible refine (mix_p y k _).mono ?_; rintro e w2 ⟨rfl, hb⟩; have H2 := H.call hb; clear H hb; have H := H2; clear H2)
    | (go_at_call 12; with_reducible refine (mix_p k x _).mono ?_; rintro e w2 ⟨rfl, hb⟩; have H2 := H.call hb; clear H hb; have H := H2; clear H2)
    | (go_at_call 12; with_reducible refine (mix_p k y _).mono ?_; rintro e w2 ⟨rfl, hb⟩; have H2 := H.call hb; clear H hb; have H := H2; clear H2)
    | (go_at_call 14; with_reducible refine (end_p x k _).mono ?_; rintro e w2 ⟨rfl, hb⟩; have H2 := H.call hb; clear H hb; have H := H2; clear H2)
    | (go_at_call 14; with_reducible refine (end_p y k _).mono ?_; rintro e w2 ⟨rfl, hb⟩; have H2 := H.call hb; clear H hb; have H := H2; clear H2))
  go_ret
  exact ⟨by simp, H.below⟩
theorem apart_w (a b k : Int) (ha : 0 ≤ a ∧ a ≤ 4294967295) (hb : 0 ≤ b ∧ b ≤ 4294967295) (hk : 0 ≤ k ∧ k ≤ 4294967295) (w : World) : Calls Try.prog 7 #[.int .u32 a, .int .u32 b, .int .u32 k] w fun e w' => e = .returned (.bool true) ∧ Below w.heap.size w w' := by
  obtain ⟨x, rfl⟩ := u_of ha
  obtain ⟨y, rfl⟩ := u_of hb
  obtain ⟨z, rfl⟩ := u_of hk
  by_cases h : x = y
  · subst h
    exact apart_y x z w
  · exact apart_n x y z h w
set_option maxRecDepth 100000 in
set_option maxHeartbeats 1000000 in
theorem rises_n (a b n : Int) (h : n < 1 ∨ 65536 < n) (w : World) : Calls Try.prog 8 #[.int .u32 a, .int .u32 b, .int .i64 n] w fun e w' => e = .returned (.bool true) ∧ Below w.heap.size w w' := by
  have H := Mem.start w
  rcases h with h1 | h1
  · have t1 : decide (n < 1) = true := decide_eq_true h1
    go_enter Try.func8, Try.ntmps8
    go_wp2_with (first
    | go_skip
    | (go_at_call 11; with_reducible refine (shown_p _).mono ?_; rintro e w2 ⟨rfl, hb⟩; have H2 := H.call hb; clear H hb; have H := H2; clear H2)
    | (go_at_call 22; with_reducible refine (scale_p_no a n (.inl h1) _).mono ?_; rintro e w2 ⟨rfl, rfl⟩)
    | (go_at_call 22; with_reducible refine (scale_p_no b n (.inl h1) _).mono ?_; rintro e w2 ⟨rfl, rfl⟩))
    go_ret
    exact ⟨by simp, H.below⟩
  · have t1 : decide (n < 1) = false := decide_eq_false (by omega)
    have t2 : decide (65536 < n) = true := decide_eq_true h1
    go_enter Try.func8, Try.ntmps8
    go_wp2_with (first
    | go_skip
    | (go_at_call 11; with_reducible refine (shown_p _).mono ?_; rintro e w2 ⟨rfl, hb⟩; have H2 := H.call hb; clear H hb; have H := H2; clear H2)
    | (go_at_call 22; with_reducible refine (scale_p_no a n (.inr h1) _).mono ?_; rintro e w2 ⟨rfl, rfl⟩)
    | (go_at_call 22; with_reducible refine (scale_p_no b n (.inr h1) _).mono ?_; rintro e w2 ⟨rfl, rfl⟩))
    go_ret
    exact ⟨by simp, H.below⟩
set_option maxRecDepth 100000 in
set_option maxHeartbeats 1000000 in
theorem rises_y (a b n : Int) (ha : 0 ≤ a ∧ a ≤ 4294967295) (hb : 0 ≤ b ∧ b ≤ 4294967295) (h : 1 ≤ n ∧ n ≤ 65536) (w : World) : Calls Try.prog 8 #[.int .u32 a, .int .u32 b, .int .i64 n] w fun e w' => e = .returned (.bool true) ∧ Below w.heap.size w w' := by
  have t1 : decide (n < 1) = false := decide_eq_false (by omega)
  have t2 : decide (65536 < n) = false := decide_eq_false (by omega)
  have sa := fun w => scale_p a n ha h w
  have sb := fun w => scale_p b n hb h w
  have sm := fun w => scale_p 4294967295 n (by omega) h w
  have s0 := fun w => scale_p 0 n (by omega) h w
  rw [scl_max h] at sm
  rw [scl_zero] at s0
  have ia := scl_in ha h
  have ib := scl_in hb h
  have hr : a ≤ b → scl a n ≤ scl b n := fun e => scl_rises e h.1
  obtain ⟨x, hx⟩ : ∃ x, scl a n = x := ⟨_, rfl⟩
  obtain ⟨y, hy⟩ : ∃ y, scl b n = y := ⟨_, rfl⟩
  rw [hx] at sa ia hr
  rw [hy] at sb ib hr
  clear hx hy
  have t3 : decide (0 ≤ x) = true := decide_eq_true ia.1
  have t4 : decide (x < n) = true := decide_eq_true ia.2
  have H := Mem.start w
  by_cases hab : b < a
  · have t5 : decide (b < a) = true := decide_eq_true hab
    clear hr
    go_enter Try.func8, Try.ntmps8
    go_wp2_with (first
    | go_skip
    | (go_at_call 11; with_reducible refine (shown_p _).mono ?_; rintro e w2 ⟨rfl, hb⟩; have H2 := H.call hb; clear H hb; have H := H2; clear H2)
    | (go_at_call 22; with_reducible refine (sa _).mono ?_; rintro e w2 ⟨rfl, rfl⟩)
    | (go_at_call 22; with_reducible refine (sb _).mono ?_; rintro e w2 ⟨rfl, rfl⟩)
    | (go_at_call 22; with_reducible refine (sm _).mono ?_; rintro e w2 ⟨rfl, rfl⟩)
    | (go_at_call 22; with_reducible refine (s0 _).mono ?_; rintro e w2 ⟨rfl, rfl⟩))
    go_ret
    exact ⟨by simp, H.below⟩
  · have t5 : decide (b < a) = false := decide_eq_false hab
    have t6 : decide (x ≤ y) = true := decide_eq_true (hr (by omega))
    clear hr
    go_enter Try.func8, Try.ntmps8
    go_wp2_with (first
    | go_skip
    | (go_at_call 11; with_reducible refine (shown_p _).mono ?_; rintro e w2 ⟨rfl, hb⟩; have H2 := H.call hb; clear H hb; have H := H2; clear H2)
    | (go_at_call 22; with_reducible refine (sa _).mono ?_; rintro e w2 ⟨rfl, rfl⟩)
    | (go_at_call 22; with_reducible refine (sb _).mono ?_; rintro e w2 ⟨rfl, rfl⟩)
    | (go_at_call 22; with_reducible refine (sm _).mono ?_; rintro e w2 ⟨rfl, rfl⟩)
    | (go_at_call 22; with_reducible refine (s0 _).mono ?_; rintro e w2 ⟨rfl, rfl⟩))
    go_ret
    exact ⟨by simp, H.below⟩
theorem rises_w (a b n : Int) (ha : 0 ≤ a ∧ a ≤ 4294967295) (hb : 0 ≤ b ∧ b ≤ 4294967295) (w : World) : Calls Try.prog 8 #[.int .u32 a, .int .u32 b, .int .i64 n] w fun e w' => e = .returned (.bool true) ∧ Below w.heap.size w w' := by
  by_cases h : 1 ≤ n ∧ n ≤ 65536
  · exact rises_y a b n ha hb h w
  · exact rises_n a b n (by omega) w
end Go.Proofs.Ytaalnkcfoioeeaa
