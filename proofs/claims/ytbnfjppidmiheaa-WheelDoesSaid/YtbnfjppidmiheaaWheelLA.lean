/-
  The laws' own shown, and WheelNone, walked over the contracts of the program's functions. Conditions: the numbers fit their kinds.
-/
import Derived.Test.YtbnfjppidmiheaaWheelX
import Derived.Test.YtbnfjppidmiheaaWheelY
namespace Go.Proofs.Ytbnfjppidmiheaa
set_option linter.unusedSimpArgs false
set_option linter.unusedVariables false
open Go.ChangeShapes Go.WideShapes Go.ChangeAt Go.RowKit Go.Maps

theorem sh1 : WS.set ⟨[], 0⟩ 5 7 = ⟨[(5, 7)], 0⟩ ∧ WS.setE ⟨[], 0⟩ 5 7 = 0 := by constructor <;> rfl
theorem sh2 : WS.set ⟨[(5, 7)], 0⟩ 3 9 = ⟨[(3, 9), (5, 7)], 0⟩ ∧ WS.setE ⟨[(5, 7)], 0⟩ 3 9 = 0 := by constructor <;> rfl
theorem sh3 : WS.set ⟨[(3, 9), (5, 7)], 0⟩ 5 2 = ⟨[(3, 9), (5, 2), (5, 7)], 0⟩ ∧ WS.setE ⟨[(3, 9), (5, 7)], 0⟩ 5 2 = 0 := by constructor <;> rfl
theorem sh4 : WS.turn ⟨[(3, 9), (5, 2), (5, 7)], 0⟩ 5 = ⟨[], 5⟩ ∧ WS.turned ⟨[(3, 9), (5, 2), (5, 7)], 0⟩ 5 = [(3, 9), (5, 2), (5, 7)] ∧ WS.turnE ⟨[(3, 9), (5, 2), (5, 7)], 0⟩ 5 = 0 := by refine ⟨?_, ?_, ?_⟩ <;> rfl
theorem ok0 : WS.Ok ⟨[], 0⟩ := WS.ok_new (by omega)
theorem ok1 : WS.Ok ⟨[(5, 7)], 0⟩ := by rw [← sh1.1]; exact WS.set_ok ok0 (by omega)
theorem ok2 : WS.Ok ⟨[(3, 9), (5, 7)], 0⟩ := by rw [← sh2.1]; exact WS.set_ok ok1 (by omega)
theorem ok3 : WS.Ok ⟨[(3, 9), (5, 2), (5, 7)], 0⟩ := by rw [← sh3.1]; exact WS.set_ok ok2 (by omega)
theorem wf_key {k : Int} (h : -9223372036854775808 ≤ k ∧ k ≤ 9223372036854775807) : (kl k).wf = true := WalkArith.wf_i64 h
theorem pm_old {w : World} {p m : Nat} (hp : w.heap.size ≤ p) (hm : w.heap.size ≤ m) : ∀ i, PM p m i → w.heap.size ≤ i := fun i e => by rcases e with rfl | rfl <;> assumption
theorem set_1 (W : World) (p m : Nat) (h : WhP W p m ⟨[], 0⟩) : Calls Try.prog 12 #[.pointer (some ⟨p, 0, none⟩), .int .u64 5, .int .i64 7] W fun e w' => e = .returned (.int .i64 0) ∧ WhP w' p m ⟨[(5, 7)], 0⟩ ∧ Foot (PM p m) W w' := by
  have := set_p W p m _ h ok0 5 7 (by omega) (wf_key (by omega))
  rwa [sh1.1, sh1.2] at this
theorem set_2 (W : World) (p m : Nat) (h : WhP W p m ⟨[(5, 7)], 0⟩) : Calls Try.prog 12 #[.pointer (some ⟨p, 0, none⟩), .int .u64 3, .int .i64 9] W fun e w' => e = .returned (.int .i64 0) ∧ WhP w' p m ⟨[(3, 9), (5, 7)], 0⟩ ∧ Foot (PM p m) W w' := by
  have := set_p W p m _ h ok1 3 9 (by omega) (wf_key (by omega))
  rwa [sh2.1, sh2.2] at this
theorem set_3 (W : World) (p m : Nat) (h : WhP W p m ⟨[(3, 9), (5, 7)], 0⟩) : Calls Try.prog 12 #[.pointer (some ⟨p, 0, none⟩), .int .u64 5, .int .i64 2] W fun e w' => e = .returned (.int .i64 0) ∧ WhP w' p m ⟨[(3, 9), (5, 2), (5, 7)], 0⟩ ∧ Foot (PM p m) W w' := by
  have := set_p W p m _ h ok2 5 2 (by omega) (wf_key (by omega))
  rwa [sh3.1, sh3.2] at this
theorem turn_1 (W : World) (p m : Nat) (h : WhP W p m ⟨[(3, 9), (5, 2), (5, 7)], 0⟩) : Calls Try.prog 16 #[.pointer (some ⟨p, 0, none⟩), .int .u64 5] W fun e w' => ∃ v, e = .returned (.tuple #[v, .int .i64 0]) ∧ w'.ownsRow W.heap.size 41 2 v 3 (tmCs [(3, 9), (5, 2), (5, 7)]) ∧ WhP w' p m ⟨[], 5⟩ ∧ Foot (PM p m) W w' := by
  have := turn_p W p m _ h ok3 5 (by omega)
  rwa [sh4.1, sh4.2.1, sh4.2.2] at this
/-- timers laid out by hand -/
theorem SlT.new (w : World) (l : List Tm) (hl : l.length ≤ 1000) : SlT (w.alloc (.cells (tmCs l).toArray 41)) (w.heap.size + 1) (.slice (some ⟨w.heap.size, 0, none⟩) l.length l.length) l := by
  refine ⟨_, w.heap.size, 0, l.length, rfl, Nat.le_refl _, by simp [maxLen]; omega, .inr ⟨rfl, by omega⟩, ⟨fun k t hk => ?_⟩⟩
  obtain ⟨k1, k2⟩ := tmCs_get hk
  have h := Held.new w 41 (tmCs l).toArray
  have c1 := h.cell (k * 2)
  have c2 := h.cell (k * 2 + 1)
  rw [Nat.zero_add]
  simp only [List.getElem?_toArray] at c1 c2
  exact ⟨c1.trans k1, c2.trans k2⟩
set_option maxRecDepth 100000 in
set_option maxHeartbeats 1000000 in
theorem shown_p (w : World) : Calls Try.prog 10 #[] w fun e w' => e = .returned (.bool true) ∧ Below w.heap.size w w' := by
  go_enter Try.func10, Try.ntmps10
  go_upto_region 2 with (go_at_call 11; refine (new_p 0 _).mono ?_; rintro e w1 ⟨p, m, rfl, hp, hm, hW, hB⟩)
  go_upto_region 3 with (go_at_call 12; refine (set_1 _ p m hW).mono ?_; rintro e w2 ⟨rfl, hW2, hF⟩; have hB2 := Foot.after hB hF (pm_old hp hm); clear hB hF hW; have hB := hB2; have hW := hW2; clear hB2 hW2)
  go_upto_region 4 with (go_at_call 12; refine (set_2 _ p m hW).mono ?_; rintro e w3 ⟨rfl, hW2, hF⟩; have hB2 := Foot.after hB hF (pm_old hp hm); clear hB hF hW; have hB := hB2; have hW := hW2; clear hB2 hW2)
  go_upto_region 5 with (go_at_call 12; refine (set_3 _ p m hW).mono ?_; rintro e w4 ⟨rfl, hW2, hF⟩; have hB2 := Foot.after hB hF (pm_old hp hm); clear hB hF hW; have hB := hB2; have hW := hW2; clear hB2 hW2)
  go_upto_region 6 with (go_at_call 16; refine (turn_1 _ p m hW).mono ?_; rintro e w5 ⟨v, rfl, hR, hW2, hF⟩; have hB2 := Foot.after hB hF (pm_old hp hm); clear hB hF hW; have hB := hB2; have hW := hW2; clear hB2 hW2; obtain ⟨a0, c0, rfl⟩ := ownsRow_len hR)
  have hS1 := SlT.of_row (l := [(3, 9), (5, 2), (5, 7)]) hR
  have hS2 := SlT.new w5 [(3, 9), (5, 2), (5, 7)] (by simp)
  go_wp2_with (first
    | (go_at_call 18; refine (same_r _ w5.heap.size (w5.heap.size + 1) _ _ [(3, 9), (5, 2), (5, 7)] [(3, 9), (5, 2), (5, 7)] (hS1.below ((Below.refl _ _).alloc (Nat.le_refl _) _) (Nat.le_refl _)) hS2 (by simp) (by simp)).mono ?_; rintro e w6 ⟨rfl, hB6⟩; have hW6 : WhP w6 p m ⟨[], 5⟩ := (hW.call ((Below.refl _ _).alloc (Nat.le_refl _) _)).call hB6; have hB7 : Below w.heap.size w w6 := (hB.alloc hB.size _).trans (hB6.mono (by have := hB.size; simp; omega)))
    | (go_at_call 20; refine (now_p _ p m _ hW6).mono ?_; rintro e w7 ⟨rfl, rfl⟩))
  go_ret
  exact ⟨by simp, hB7⟩
set_option maxRecDepth 100000 in
set_option maxHeartbeats 1000000 in
theorem none_w (at_ key : Int) (w : World) : Calls Try.prog 4 #[.int .u64 at_, .int .i64 key] w fun e w' => e = .returned (.bool true) ∧ Below w.heap.size w w' := by
  have H := Mem.start w
  have hEq := fun w => tm_eq (0, 0) (0, 0) w
  rw [decide_eq_true rfl] at hEq
  go_enter Try.func4, Try.ntmps4
  go_wp2_with (first
    | go_skip
    | ((with_reducible show wpList _ _ _ _ _ (World.alloc _ (.cells _ _))); refine mem_new H ?_; intro w2 H2; clear H; have H := H2; clear H2; simp only [List.cons_append, List.nil_append, List.set_cons_zero, List.set_cons_succ, List.setIfInBounds_toArray] at H)
    | ((with_reducible show wpList _ _ _ (⟨_, .load 41 _, _, _, _, _⟩ :: _) _ _); refine mem_load (i := 0) H (by first | exact wanted_none rfl | exact wanted_some rfl rfl rfl rfl) (by exact rfl) (by exact rfl) (by exact rfl) Try.underlying41 rfl (by exact tmInfo) ?_)
    | ((with_reducible show wpList _ _ _ (⟨_, .store 41 _ _, _, _, _, _⟩ :: _) _ _); refine mem_store (i := 0) H (by first | exact wanted_none rfl | exact wanted_some rfl rfl rfl rfl) (by exact rfl) (by exact rfl) (by exact rfl) (by exact rfl) (by exact tmInfo) (by exact rfl) (by exact rfl) ?_; intro w2 H2; clear H; have H := H2; clear H2; simp only [List.cons_append, List.nil_append, List.set_cons_zero, List.set_cons_succ, List.setIfInBounds_toArray] at H)
    | (go_at_call 10; refine (shown_p _).mono ?_; rintro e w2 ⟨rfl, hb⟩; have H2 := H.call hb; clear H hb; have H := H2; clear H2)
    | (go_at_call 16; refine (turn_nil _ _).mono ?_; rintro e w2 ⟨rfl, hb⟩; have H2 := H.call hb; clear H hb; have H := H2; clear H2)
    | (go_at_call 19; refine (next_nil _).mono ?_; rintro e w2 ⟨rfl, hb⟩; have H2 := H.call hb; clear H hb; have H := H2; clear H2)
    | (go_at_call 12; refine (set_nil _ _ _).mono ?_; rintro e w2 ⟨rfl, rfl⟩)
    | (go_at_call 14; refine (cancel_nil _ _).mono ?_; rintro e w2 ⟨rfl, rfl⟩)
    | (go_at_call 20; refine (now_nil _).mono ?_; rintro e w2 ⟨rfl, rfl⟩)
    | (go_at_call 21; refine (all_nil _).mono ?_; rintro e w2 ⟨rfl, hb⟩; have H2 := H.call hb; clear H hb; have H := H2; clear H2))
  go_ret
  exact ⟨rfl, H.below⟩
end Go.Proofs.Ytbnfjppidmiheaa
