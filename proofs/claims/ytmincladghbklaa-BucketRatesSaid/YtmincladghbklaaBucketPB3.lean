/-
  bucket.Right where the remainder is out of bounds. Conditions: those that each theorem names.
-/
import Derived.Test.YtmincladghbklaaBucketPB
namespace Go.Proofs.Ytmincladghbklaa
set_option linter.unusedSimpArgs false
set_option linter.unusedVariables false
open Go.ChangeShapes Go.WideShapes Go.ChangeAt Go.RowKit

set_option maxRecDepth 4000 in
set_option maxHeartbeats 4000000 in
theorem right_p3 (b : BK) (E0 : decide (b.rate ≤ 1099511627776) = true) (E1 : decide ((1 : Int) ≤ b.burst ∧ b.burst ≤ 1073741824) = true) (E2 : bkEq { b with level := min (max b.level (-1073741824)) b.burst } b = true) (E3 : decide (b.rem ≤ 999999999) = false) (w : World) : Calls Try.prog 13 #[bk b] w fun e w' => e = .returned (.bool false) ∧ Below w.heap.size w w' := by
  have hE : ∀ w : World, (Op.equalIn 10000 24 (bk { b with level := min (max b.level (-1073741824)) b.burst }) (bk b)).run Try.prog w = .ok true w := fun w => by rw [← E2]; exact bk_eq _ _ w
  clear E2
  have H := Mem.start w
  go_enter Try.func13, Try.ntmps13
  go_upto_region 1 with (fail)
  have H2 := H.alloc 24 (bkc b)
  clear H
  have H := H2
  clear H2
  simp only [List.nil_append] at H
  generalize w.alloc (.cells (bkc b) 24) = w1 at H ⊢
  obtain ⟨c0, c1, c2, c3, c4⟩ := Held.bk (H.at 0 rfl)
  first
    | (go_region_with (first
      | (go_at_call 23; with_reducible refine Calls.mono (rising2w true _ b.rate 1099511627776 E0 _ ?_ ?_) ?_; (next => (simp [go_sem]; done)); (next => (simp [go_sem]; done)); rintro e w2 ⟨rfl, hb⟩; have H2 : Mem w w2 [(w.heap.size, 24, bkc b)] := Mem.call (by first | exact H | exact H.skip _ | exact (H.skip _).drew | exact H.drew) hb; clear hb; clear H c0 c1 c2 c3 c4; have H := H2; clear H2; obtain ⟨c0, c1, c2, c3, c4⟩ := Held.bk (H.at 0 rfl))
      | (go_at_call 24; with_reducible refine Calls.mono (rising3i true _ 1 b.burst 1073741824 E1 _ ?_ ?_ ?_) ?_; (next => (simp [go_sem]; done)); (next => (simp [go_sem]; done)); (next => (simp [go_sem]; done)); rintro e w2 ⟨rfl, hb⟩; have H2 : Mem w w2 [(w.heap.size, 24, bkc b)] := Mem.call (by first | exact H | exact H.skip _ | exact (H.skip _).drew | exact H.drew) hb; clear hb; clear H c0 c1 c2 c3 c4; have H := H2; clear H2; obtain ⟨c0, c1, c2, c3, c4⟩ := Held.bk (H.at 0 rfl))
      | (go_at_call 25; with_reducible refine Calls.mono (bounded_p b _) ?_; rintro e w2 ⟨rfl, hb⟩; have H2 : Mem w w2 [(w.heap.size, 24, bkc b)] := Mem.call (by first | exact H | exact H.skip _ | exact (H.skip _).drew | exact H.drew) hb; clear hb; clear H c0 c1 c2 c3 c4; have H := H2; clear H2; obtain ⟨c0, c1, c2, c3, c4⟩ := Held.bk (H.at 0 rfl))
      | (go_at_call 23; with_reducible refine Calls.mono (rising2w false _ b.rem 999999999 E3 _ ?_ ?_) ?_; (next => (simp [go_sem]; done)); (next => (simp [go_sem]; done)); rintro e w2 ⟨rfl, hb⟩; have H2 : Mem w w2 [(w.heap.size, 24, bkc b)] := Mem.call (by first | exact H | exact H.skip _ | exact (H.skip _).drew | exact H.drew) hb; clear hb; clear H c0 c1 c2 c3 c4; have H := H2; clear H2; obtain ⟨c0, c1, c2, c3, c4⟩ := Held.bk (H.at 0 rfl))))
    | fail
  all_goals go_wp2
  all_goals go_ret
  all_goals exact ⟨rfl, H.below⟩
end Go.Proofs.Ytmincladghbklaa
