/-
  The laws WrapFars, WrapMoves, WrapOrders, WrapSlots and WrapRooms, walked: each call returns true and leaves all that was there as it was. Conditions: each argument fits its kind.
-/
import Derived.Test.YtihplelglpgdnaaWrapA
namespace Go.Proofs.Ytihplelglpgdnaa
open Go.ChangeShapes Go.WideShapes Go.ChangeAt Go.RowKit

theorem bd_u32 {n : Int} (h : (Lit.int .u32 n).wf = true) : 0 ≤ n ∧ n ≤ 4294967295 := by
  simpa [Lit.wf, IntKind.min, IntKind.max, IntKind.signed, IntKind.bits] using h
theorem bd_i64 {n : Int} (h : (Lit.int .i64 n).wf = true) : -9223372036854775808 ≤ n ∧ n ≤ 9223372036854775807 := by
  simpa [Lit.wf, IntKind.min, IntKind.max, IntKind.signed, IntKind.bits] using h

theorem fars_w (a b : Int) (w : World) : Calls Try.prog 3 #[.int .u32 a, .int .u32 b] w fun e w' => e = .returned (.bool true) ∧ Below w.heap.size w w' := by
  go_enter Try.func3, Try.ntmps3
  go_wp2_with (first
    | (go_at_call 10; refine (shown_p _).mono ?_; rintro e w1 ⟨rfl, hb1⟩)
    | (go_at_call 11; refine (far_p _ _ _).mono ?_; rintro e w' ⟨rfl, rfl⟩)
    | (go_at_call 12; refine (far_r _ _ _).mono ?_; rintro e w' ⟨rfl, rfl⟩)
    | (go_at_call 13; refine (ahead_p _ _ _).mono ?_; rintro e w' ⟨rfl, rfl⟩)
    | (go_at_call 14; refine (ahead_r _ _ _).mono ?_; rintro e w' ⟨rfl, rfl⟩)
    | (go_at_call 15; refine (over_p _ _ _).mono ?_; rintro e w' ⟨rfl, rfl⟩)
    | (go_at_call 16; refine (over_r _ _ _).mono ?_; rintro e w' ⟨rfl, rfl⟩))
  go_ret
  exact ⟨rfl, hb1⟩

theorem far_add (a b n : Int) : far ((a + n) % 4294967296) ((b + n) % 4294967296) = far a b := by
  unfold far; simp only [IntKind.wrap_u32]; omega
theorem far_to (a n : Int) (h0 : 0 ≤ n) (h1 : n ≤ 4294967295) : far a ((a + n) % 4294967296) = n := by
  unfold far; simp only [IntKind.wrap_u32]; omega
theorem ahead_add (a b n : Int) : aheadB ((a + n) % 4294967296) ((b + n) % 4294967296) = aheadB a b := by unfold aheadB; rw [far_add]
theorem over_add (a b n : Int) : over ((a + n) % 4294967296) ((b + n) % 4294967296) = over a b := by unfold over; rw [far_add, ahead_add]
theorem roomN_add (a b n s : Int) : roomN ((a + n) % 4294967296) ((b + n) % 4294967296) s = roomN a b s := by unfold roomN; rw [far_add]
theorem roomE_add (a b n s : Int) : roomE ((a + n) % 4294967296) ((b + n) % 4294967296) s = roomE a b s := by unfold roomE; rw [far_add]

set_option maxHeartbeats 2000000 in
theorem moves_w (a b n s : Int) (h0 : 0 ≤ n) (h1 : n ≤ 4294967295) (w : World) : Calls Try.prog 6 #[.int .u32 a, .int .u32 b, .int .u32 n, .int .i64 s] w fun e w' => e = .returned (.bool true) ∧ Below w.heap.size w w' := by
  have e1 := far_add a b n
  have e2 := ahead_add a b n
  have e3 := over_add a b n
  have e4 := roomN_add a b n s
  have e5 := roomE_add a b n s
  have e6 := far_to a n h0 h1
  go_enter Try.func6, Try.ntmps6
  go_wp2_with (first
    | (go_at_call 10; refine (shown_p _).mono ?_; rintro e w1 ⟨rfl, hb1⟩)
    | (go_at_call 19; refine (room_p _ _ _ _).mono ?_; rintro e w2 ⟨rfl, hb2⟩; replace hb1 := hb1.trans (hb2.mono hb1.size); clear hb2)
    | (go_at_call 11; refine (far_p _ _ _).mono ?_; rintro e w' ⟨rfl, rfl⟩)
    | (go_at_call 13; refine (ahead_p _ _ _).mono ?_; rintro e w' ⟨rfl, rfl⟩)
    | (go_at_call 15; refine (over_p _ _ _).mono ?_; rintro e w' ⟨rfl, rfl⟩))
  go_ret
  exact ⟨rfl, hb1⟩

theorem orders_w (a b : Int) (ha : 0 ≤ a ∧ a ≤ 4294967295) (hb : 0 ≤ b ∧ b ≤ 4294967295) (w : World) : Calls Try.prog 8 #[.int .u32 a, .int .u32 b] w fun e w' => e = .returned (.bool true) ∧ Below w.heap.size w w' := by
  have hfar : ∀ x y : Int, far x y = (y - x) % 4294967296 := fun x y => by unfold far; rw [IntKind.wrap_u32]
  by_cases hf : far a b = 2147483648
  · have h1 : aheadB a b = false := by unfold aheadB; rw [hf]; decide
    have h2 : aheadB b a = false := by
      have : far b a = 2147483648 := by rw [hfar] at *; omega
      unfold aheadB; rw [this]; decide
    clear hfar
    go_enter Try.func8, Try.ntmps8
    go_wp2_with (first
      | (go_at_call 10; refine (shown_p _).mono ?_; rintro e w1 ⟨rfl, hb1⟩)
      | (go_at_call 11; refine (far_p _ _ _).mono ?_; rintro e w' ⟨rfl, rfl⟩)
      | (go_at_call 13; refine (ahead_p _ _ _).mono ?_; rintro e w' ⟨rfl, rfl⟩))
    go_ret
    exact ⟨rfl, hb1⟩
  · have hf' : (far a b == 2147483648) = false := by simpa using hf
    by_cases hab : a = b
    · subst hab
      have h0 : far a a = 0 := by rw [hfar]; omega
      have h1 : aheadB a a = false := by unfold aheadB; rw [h0]; decide
      have h2 : over a a = 0 := by unfold over; rw [h1]; rfl
      clear hfar hf' hf
      go_enter Try.func8, Try.ntmps8
      go_wp2_with (first
        | (go_at_call 10; refine (shown_p _).mono ?_; rintro e w1 ⟨rfl, hb1⟩)
        | (go_at_call 11; refine (far_p _ _ _).mono ?_; rintro e w' ⟨rfl, rfl⟩)
        | (go_at_call 15; refine (over_p _ _ _).mono ?_; rintro e w' ⟨rfl, rfl⟩)
        | (go_at_call 13; refine (ahead_p _ _ _).mono ?_; rintro e w' ⟨rfl, rfl⟩))
      go_ret
      exact ⟨rfl, hb1⟩
    · have e1 : (a == b) = false := by simpa using hab
      have e2 : (a != b) = true := by simpa using hab
      have hx := hfar a b
      have hy := hfar b a
      rcases hA : aheadB a b
      · have hB : aheadB b a = true := by
          unfold aheadB at *; simp at *; omega
        have h2 : over b a = 0 := by unfold over; rw [hA]; rfl
        have h3 : (over a b == 0) = false := by
          unfold over; rw [hB]; unfold aheadB at hB; simp at *; omega
        clear hfar hf hx hy hab
        go_enter Try.func8, Try.ntmps8
        go_wp2_with (first
          | (go_at_call 10; refine (shown_p _).mono ?_; rintro e w1 ⟨rfl, hb1⟩)
          | (go_at_call 11; refine (far_p _ _ _).mono ?_; rintro e w' ⟨rfl, rfl⟩)
          | (go_at_call 15; refine (over_p _ _ _).mono ?_; rintro e w' ⟨rfl, rfl⟩)
          | (go_at_call 13; refine (ahead_p _ _ _).mono ?_; rintro e w' ⟨rfl, rfl⟩))
        go_ret
        exact ⟨rfl, hb1⟩
      · have hB : aheadB b a = false := by
          unfold aheadB at *; simp at *; omega
        have h2 : over a b = 0 := by unfold over; rw [hB]; rfl
        clear hfar hf hx hy hab
        go_enter Try.func8, Try.ntmps8
        go_wp2_with (first
          | (go_at_call 10; refine (shown_p _).mono ?_; rintro e w1 ⟨rfl, hb1⟩)
          | (go_at_call 11; refine (far_p _ _ _).mono ?_; rintro e w' ⟨rfl, rfl⟩)
          | (go_at_call 15; refine (over_p _ _ _).mono ?_; rintro e w' ⟨rfl, rfl⟩)
          | (go_at_call 13; refine (ahead_p _ _ _).mono ?_; rintro e w' ⟨rfl, rfl⟩))
        go_ret
        exact ⟨rfl, hb1⟩

theorem slots_w (a b s : Int) (h0 : 0 ≤ a) (h1 : a ≤ 4294967295) (w : World) : Calls Try.prog 4 #[.int .u32 a, .int .u32 b, .int .i64 s] w fun e w' => e = .returned (.bool true) ∧ Below w.heap.size w w' := by
  go_enter Try.func4, Try.ntmps4
  go_wp2_with (first
    | (go_at_call 10; refine (shown_p _).mono ?_; rintro e w1 ⟨rfl, hb1⟩)
    | (go_at_call 17; refine (slot_p _ _ _ h0 h1).mono ?_; rintro e w2 ⟨rfl, hb2⟩)
    | (go_at_call 18; refine (slot_r _ _ _ h0 h1).mono ?_; rintro e w' ⟨rfl, rfl⟩)
    | (go_at_call 19; refine (room_p _ _ _ _).mono ?_; rintro e w3 ⟨rfl, hb3⟩)
    | (go_at_call 20; refine (room_r _ _ _ _).mono ?_; rintro e w' ⟨rfl, rfl⟩)
    | (go_at_call 21; refine (size_p _ _).mono ?_; rintro e w4 ⟨rfl, hb4⟩)
    | (go_at_call 22; refine (size_r _ _).mono ?_; rintro e w' ⟨rfl, rfl⟩))
  go_ret
  exact ⟨rfl, hb1.trans ((hb2.trans ((hb3.trans (hb4.mono hb3.size)).mono hb2.size)).mono hb1.size)⟩

theorem rooms_w (a n s : Int) (w : World) : Calls Try.prog 9 #[.int .u32 a, .int .i64 n, .int .i64 s] w fun e w' => e = .returned (.bool true) ∧ Below w.heap.size w w' := by
  by_cases hn0 : n < 0
  · go_enter Try.func9, Try.ntmps9
    go_wp2_with (go_at_call 10; refine (shown_p _).mono ?_; rintro e w1 ⟨rfl, hb1⟩)
    go_ret
    exact ⟨rfl, hb1⟩
  · have hn0' : 0 ≤ n := by omega
    by_cases hn1 : 5000 < n
    · go_enter Try.func9, Try.ntmps9
      go_wp2_with (go_at_call 10; refine (shown_p _).mono ?_; rintro e w1 ⟨rfl, hb1⟩)
      go_ret
      exact ⟨rfl, hb1⟩
    · have hn1' : n ≤ 5000 := by omega
      have e6 := far_to a n hn0' (by omega)
      rcases hs : isSizeB s
      · go_enter Try.func9, Try.ntmps9
        go_wp2_with (first
          | (go_at_call 10; refine (shown_p _).mono ?_; rintro e w1 ⟨rfl, hb1⟩)
          | (go_at_call 21; refine (size_p _ _).mono ?_; rintro e w4 ⟨rfl, hb4⟩))
        go_ret
        exact ⟨rfl, hb1.trans (hb4.mono hb1.size)⟩
      · obtain ⟨hd1, hd2⟩ := isSize_bd hs
        by_cases hns : n ≤ s
        · have r1 : roomN ((a + n) % 4294967296) a s = s - n := by unfold roomN; rw [hs, e6]; simp [hns]
          have r2 : roomE ((a + n) % 4294967296) a s = 0 := by unfold roomE; rw [hs, e6]; simp [hns]
          clear e6
          go_enter Try.func9, Try.ntmps9
          go_wp2_with (first
            | (go_at_call 10; refine (shown_p _).mono ?_; rintro e w1 ⟨rfl, hb1⟩)
            | (go_at_call 21; refine (size_p _ _).mono ?_; rintro e w4 ⟨rfl, hb4⟩)
            | (go_at_call 19; refine (room_p _ _ _ _).mono ?_; rintro e w3 ⟨rfl, hb3⟩))
          go_ret
          exact ⟨rfl, hb1.trans ((hb4.trans (hb3.mono hb4.size)).mono hb1.size)⟩
        · have r1 : roomN ((a + n) % 4294967296) a s = 0 := by unfold roomN; rw [hs, e6]; simp [hns]
          have r2 : roomE ((a + n) % 4294967296) a s = 10 := by unfold roomE; rw [hs, e6]; simp [hns]
          clear e6
          go_enter Try.func9, Try.ntmps9
          go_wp2_with (first
            | (go_at_call 10; refine (shown_p _).mono ?_; rintro e w1 ⟨rfl, hb1⟩)
            | (go_at_call 21; refine (size_p _ _).mono ?_; rintro e w4 ⟨rfl, hb4⟩)
            | (go_at_call 19; refine (room_p _ _ _ _).mono ?_; rintro e w3 ⟨rfl, hb3⟩))
          go_ret
          exact ⟨rfl, hb1.trans ((hb4.trans (hb3.mono hb4.size)).mono hb1.size)⟩
end Go.Proofs.Ytihplelglpgdnaa
