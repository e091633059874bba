/-
  Contracts of bucket.Right and bucket.New. Conditions: none.
-/
import Derived.Test.YtmincladghbklaaBucketPA
namespace Go.Proofs.Ytmincladghbklaa
set_option linter.unusedSimpArgs false
set_option linter.unusedVariables false
open Go.ChangeShapes Go.WideShapes Go.ChangeAt Go.RowKit

/-- a bucket's cells -/
abbrev bkc (b : BK) : Array Value := #[.int .u64 b.rate, .int .i64 b.burst, .int .i64 b.level, .int .u64 b.rem, .int .u64 b.at_]
theorem Held.bk {W : World} {p : Nat} {b : BK} (h : Held W p 24 (bkc b)) :
    W.cell? ⟨p, 0, none⟩ = some (.int .u64 b.rate) ∧ W.cell? ⟨p, 1, none⟩ = some (.int .i64 b.burst) ∧ W.cell? ⟨p, 2, none⟩ = some (.int .i64 b.level) ∧ W.cell? ⟨p, 3, none⟩ = some (.int .u64 b.rem) ∧ W.cell? ⟨p, 4, none⟩ = some (.int .u64 b.at_) :=
  ⟨h.cell 0, h.cell 1, h.cell 2, h.cell 3, h.cell 4⟩
set_option maxRecDepth 4000 in
set_option maxHeartbeats 4000000 in
theorem right_p0 (b : BK) (E0 : decide (b.rate ≤ 1099511627776) = false) (w : World) : Calls Try.prog 13 #[bk b] w fun e w' => e = .returned (.bool false) ∧ Below w.heap.size w w' := by
  have H := Mem.start w
  go_enter Try.func13, Try.ntmps13
  go_upto_region 1 with (fail)
  have H2 := H.alloc 24 (bkc b)
  clear H
  have H := H2
  clear H2
  simp only [List.nil_append] at H
  generalize w.alloc (.cells (bkc b) 24) = w1 at H ⊢
  obtain ⟨c0, c1, c2, c3, c4⟩ := Held.bk (H.at 0 rfl)
  first
    | (go_region_with (first
      | (go_at_call 23; with_reducible refine Calls.mono (rising2w false _ b.rate 1099511627776 E0 _ ?_ ?_) ?_; (next => (simp [go_sem]; done)); (next => (simp [go_sem]; done)); rintro e w2 ⟨rfl, hb⟩; have H2 : Mem w w2 [(w.heap.size, 24, bkc b)] := Mem.call (by first | exact H | exact H.skip _ | exact (H.skip _).drew | exact H.drew) hb; clear hb; clear H c0 c1 c2 c3 c4; have H := H2; clear H2; obtain ⟨c0, c1, c2, c3, c4⟩ := Held.bk (H.at 0 rfl))))
    | fail
  all_goals go_wp2
  all_goals go_ret
  all_goals exact ⟨rfl, H.below⟩
set_option maxRecDepth 4000 in
set_option maxHeartbeats 4000000 in
theorem right_p1 (b : BK) (E0 : decide (b.rate ≤ 1099511627776) = true) (E1 : decide ((1 : Int) ≤ b.burst ∧ b.burst ≤ 1073741824) = false) (w : World) : Calls Try.prog 13 #[bk b] w fun e w' => e = .returned (.bool false) ∧ Below w.heap.size w w' := by
  have H := Mem.start w
  go_enter Try.func13, Try.ntmps13
  go_upto_region 1 with (fail)
  have H2 := H.alloc 24 (bkc b)
  clear H
  have H := H2
  clear H2
  simp only [List.nil_append] at H
  generalize w.alloc (.cells (bkc b) 24) = w1 at H ⊢
  obtain ⟨c0, c1, c2, c3, c4⟩ := Held.bk (H.at 0 rfl)
  first
    | (go_region_with (first
      | (go_at_call 23; with_reducible refine Calls.mono (rising2w true _ b.rate 1099511627776 E0 _ ?_ ?_) ?_; (next => (simp [go_sem]; done)); (next => (simp [go_sem]; done)); rintro e w2 ⟨rfl, hb⟩; have H2 : Mem w w2 [(w.heap.size, 24, bkc b)] := Mem.call (by first | exact H | exact H.skip _ | exact (H.skip _).drew | exact H.drew) hb; clear hb; clear H c0 c1 c2 c3 c4; have H := H2; clear H2; obtain ⟨c0, c1, c2, c3, c4⟩ := Held.bk (H.at 0 rfl))
      | (go_at_call 24; with_reducible refine Calls.mono (rising3i false _ 1 b.burst 1073741824 E1 _ ?_ ?_ ?_) ?_; (next => (simp [go_sem]; done)); (next => (simp [go_sem]; done)); (next => (simp [go_sem]; done)); rintro e w2 ⟨rfl, hb⟩; have H2 : Mem w w2 [(w.heap.size, 24, bkc b)] := Mem.call (by first | exact H | exact H.skip _ | exact (H.skip _).drew | exact H.drew) hb; clear hb; clear H c0 c1 c2 c3 c4; have H := H2; clear H2; obtain ⟨c0, c1, c2, c3, c4⟩ := Held.bk (H.at 0 rfl))))
    | fail
  all_goals go_wp2
  all_goals go_ret
  all_goals exact ⟨rfl, H.below⟩
end Go.Proofs.Ytmincladghbklaa
