/-
  Contracts of dql.Queue and dql.Reset, and of the document's Reset. Conditions: the numbers fit their kinds.
-/
import Derived.Test.YtfgaeaebchgcdaaDqlF
namespace Go.Proofs.Ytfgaeaebchgcdaa
set_option linter.unusedSimpArgs false
set_option linter.unusedVariables false
open Go.ChangeShapes Go.WideShapes Go.ChangeAt Go.RowKit

theorem right_v (v : Bool) (q adj last lim comp pov plast pq slack start hold mn mx : Int) (hv : DQ.rightB ⟨q, adj, last, lim, comp, pov, plast, pq, slack, start, hold, mn, mx⟩ = v) (w : World) : Calls Try.prog 14 #[dqv q adj last lim comp pov plast pq slack start hold mn mx] w fun e w' => e = .returned (.bool v) ∧ Below w.heap.size w w' := by
  subst hv
  exact right_pv _ _ _ _ _ _ _ _ _ _ _ _ _ w
theorem rightr_v (v : Bool) (q adj last lim comp pov plast pq slack start hold mn mx : Int) (hv : DQ.rightB ⟨q, adj, last, lim, comp, pov, plast, pq, slack, start, hold, mn, mx⟩ = v) (w : World) : Calls Try.prog 16 #[dqv q adj last lim comp pov plast pq slack start hold mn mx] w fun e w' => e = .returned (.bool v) ∧ Below w.heap.size w w' := by
  subst hv
  exact right4_r ⟨q, adj, last, lim, comp, pov, plast, pq, slack, start, hold, mn, mx⟩ w
set_option maxHeartbeats 1000000 in
theorem queue_p0 (q adj last lim comp pov plast pq slack start hold mn mx n : Int) (h0 : 0 ≤ n) (h1 : n ≤ 4294967295) (hr : DQ.rightB ⟨q, adj, last, lim, comp, pov, plast, pq, slack, start, hold, mn, mx⟩ = false) (w : World) : Calls Try.prog 20 #[dqv q adj last lim comp pov plast pq slack start hold mn mx, .int .u32 n] w fun e w' => e = .returned (.tuple #[dqv 0 0 0 0 0 0 0 0 0 0 0 0 0, .int .i64 2]) ∧ Below w.heap.size w w' := by
  have hF := DQ.fr_bd comp q
  go_enter Try.func20, Try.ntmps20
  go_upto_region 1 with (fail)
  obtain ⟨g, r, B⟩ := two_boxes w 26 26 (dqc q adj last lim comp pov plast pq slack start hold mn mx) (dqc 0 0 0 0 0 0 0 0 0 0 0 0 0)
  generalize (w.alloc (.cells (dqc q adj last lim comp pov plast pq slack start hold mn mx) 26)).alloc (.cells (dqc 0 0 0 0 0 0 0 0 0 0 0 0 0) 26) = w1 at g r B ⊢
  go_wp2_with (first
    | go_skip
    | ((with_reducible show wpList _ _ _ (⟨_, .load 26 _, _, _, _, _⟩ :: _) _ _); refine load_held g (by first | exact wanted_none rfl | exact wanted_some rfl rfl rfl rfl) (by exact rfl) (by exact rfl) Try.underlying26 rfl dqlInfo ?_)
    | ((with_reducible show wpList _ _ _ (⟨_, .load _ _, _, _, _, _⟩ :: _) _ _); refine load_fld g (by first | exact wanted_none rfl | exact wanted_some rfl rfl rfl rfl) (by exact rfl) (by exact rfl) (by first | exact Try.underlying22 | exact Try.underlying23) rfl (by exact rfl) ?_)
    | ((with_reducible show wpList _ _ _ (⟨_, .store 26 _ _, _, _, _, _⟩ :: _) _ _); refine store_held r (by first | exact wanted_none rfl | exact wanted_some rfl rfl rfl rfl) (by exact rfl) (by exact rfl) (by exact rfl) (by exact dqlInfo) (by exact rfl) (by exact rfl) ?_; intro w2 r2 F2; have g2 := g.foot F2 (by omega); have B2 := below_foot B F2 (by omega) (Nat.le_refl _); clear F2; clear r g B; have r := r2; have g := g2; have B := B2; clear r2 g2 B2)
    | ((with_reducible show wpList _ _ _ (⟨_, .store _ _ _, _, _, _, _⟩ :: _) _ _); refine store_fld g (by first | exact wanted_none rfl | exact wanted_some rfl rfl rfl rfl) (by exact rfl) (by exact rfl) (by exact rfl) (by first | exact infoU32 | exact infoU64) (by exact rfl) (by exact rfl) ?_; intro w2 g2 F2; simp only [List.setIfInBounds_toArray, List.set_cons_succ, List.set_cons_zero] at g2; have r2 := r.foot F2 (by omega); have B2 := below_foot B F2 (by omega) (Nat.le_refl _); clear F2; clear g r B; have g := g2; have r := r2; have B := B2; clear g2 r2 B2)
    | (go_at_call 14; refine (right_v false _ _ _ _ _ _ _ _ _ _ _ _ _ hr _).mono ?_; rintro e w2 ⟨rfl, hb⟩; have g2 := g.below hb g.lt; have r2 := r.below hb r.lt; have B2 := B.trans (hb.mono B.size); clear hb; clear g r B; have g := g2; have r := r2; have B := B2; clear g2 r2 B2))
  refine ret_held2 r (by exact rfl) (by exact rfl) Try.underlying26 rfl dqlInfo ⟨?_, B⟩
  rfl
set_option maxHeartbeats 1000000 in
theorem queue_p1 (q adj last lim comp pov plast pq slack start hold mn mx n : Int) (h0 : 0 ≤ n) (h1 : n ≤ 4294967295) (hr : DQ.rightB ⟨q, adj, last, lim, comp, pov, plast, pq, slack, start, hold, mn, mx⟩ = true) (E3 : decide ((1 : Int) ≤ n ∧ n ≤ 65535) = false) (w : World) : Calls Try.prog 20 #[dqv q adj last lim comp pov plast pq slack start hold mn mx, .int .u32 n] w fun e w' => e = .returned (.tuple #[dqv 0 0 0 0 0 0 0 0 0 0 0 0 0, .int .i64 40]) ∧ Below w.heap.size w w' := by
  have hF := DQ.fr_bd comp q
  go_enter Try.func20, Try.ntmps20
  go_upto_region 1 with (fail)
  obtain ⟨g, r, B⟩ := two_boxes w 26 26 (dqc q adj last lim comp pov plast pq slack start hold mn mx) (dqc 0 0 0 0 0 0 0 0 0 0 0 0 0)
  generalize (w.alloc (.cells (dqc q adj last lim comp pov plast pq slack start hold mn mx) 26)).alloc (.cells (dqc 0 0 0 0 0 0 0 0 0 0 0 0 0) 26) = w1 at g r B ⊢
  go_wp2_with (first
    | go_skip
    | ((with_reducible show wpList _ _ _ (⟨_, .load 26 _, _, _, _, _⟩ :: _) _ _); refine load_held g (by first | exact wanted_none rfl | exact wanted_some rfl rfl rfl rfl) (by exact rfl) (by exact rfl) Try.underlying26 rfl dqlInfo ?_)
    | ((with_reducible show wpList _ _ _ (⟨_, .load _ _, _, _, _, _⟩ :: _) _ _); refine load_fld g (by first | exact wanted_none rfl | exact wanted_some rfl rfl rfl rfl) (by exact rfl) (by exact rfl) (by first | exact Try.underlying22 | exact Try.underlying23) rfl (by exact rfl) ?_)
    | ((with_reducible show wpList _ _ _ (⟨_, .store 26 _ _, _, _, _, _⟩ :: _) _ _); refine store_held r (by first | exact wanted_none rfl | exact wanted_some rfl rfl rfl rfl) (by exact rfl) (by exact rfl) (by exact rfl) (by exact dqlInfo) (by exact rfl) (by exact rfl) ?_; intro w2 r2 F2; have g2 := g.foot F2 (by omega); have B2 := below_foot B F2 (by omega) (Nat.le_refl _); clear F2; clear r g B; have r := r2; have g := g2; have B := B2; clear r2 g2 B2)
    | ((with_reducible show wpList _ _ _ (⟨_, .store _ _ _, _, _, _, _⟩ :: _) _ _); refine store_fld g (by first | exact wanted_none rfl | exact wanted_some rfl rfl rfl rfl) (by exact rfl) (by exact rfl) (by exact rfl) (by first | exact infoU32 | exact infoU64) (by exact rfl) (by exact rfl) ?_; intro w2 g2 F2; simp only [List.setIfInBounds_toArray, List.set_cons_succ, List.set_cons_zero] at g2; have r2 := r.foot F2 (by omega); have B2 := below_foot B F2 (by omega) (Nat.le_refl _); clear F2; clear g r B; have g := g2; have r := r2; have B := B2; clear g2 r2 B2)
    | (go_at_call 14; refine (right_v true _ _ _ _ _ _ _ _ _ _ _ _ _ hr _).mono ?_; rintro e w2 ⟨rfl, hb⟩; have g2 := g.below hb g.lt; have r2 := r.below hb r.lt; have B2 := B.trans (hb.mono B.size); clear hb; clear g r B; have g := g2; have r := r2; have B := B2; clear g2 r2 B2)
    | (go_at_call 26; refine (rising3 false _ _ _ _ E3 _ (by simp [go_sem]) (by simp [go_sem]) (by simp [go_sem])).mono ?_; rintro e w2 ⟨rfl, hb⟩; have g2 := (g.alloc _).below hb (by have := g.lt; simp; omega); have r2 := (r.alloc _).below hb (by have := r.lt; simp; omega); have B2 := (B.alloc B.size _).trans (hb.mono (by have := B.size; simp; omega)); clear hb; clear g r B; have g := g2; have r := r2; have B := B2; clear g2 r2 B2))
  refine ret_held2 r (by exact rfl) (by exact rfl) Try.underlying26 rfl dqlInfo ⟨?_, B⟩
  rfl
set_option maxHeartbeats 1000000 in
theorem queue_p2 (q adj last lim comp pov plast pq slack start hold mn mx n : Int) (h0 : 0 ≤ n) (h1 : n ≤ 4294967295) (hr : DQ.rightB ⟨q, adj, last, lim, comp, pov, plast, pq, slack, start, hold, mn, mx⟩ = true) (E3 : decide ((1 : Int) ≤ n ∧ n ≤ 65535) = true) (E2 : decide (DQ.fr comp q + n ≤ 2147483647) = false) (w : World) : Calls Try.prog 20 #[dqv q adj last lim comp pov plast pq slack start hold mn mx, .int .u32 n] w fun e w' => e = .returned (.tuple #[dqv 0 0 0 0 0 0 0 0 0 0 0 0 0, .int .i64 40]) ∧ Below w.heap.size w w' := by
  have hF := DQ.fr_bd comp q
  go_enter Try.func20, Try.ntmps20
  go_upto_region 1 with (fail)
  obtain ⟨g, r, B⟩ := two_boxes w 26 26 (dqc q adj last lim comp pov plast pq slack start hold mn mx) (dqc 0 0 0 0 0 0 0 0 0 0 0 0 0)
  generalize (w.alloc (.cells (dqc q adj last lim comp pov plast pq slack start hold mn mx) 26)).alloc (.cells (dqc 0 0 0 0 0 0 0 0 0 0 0 0 0) 26) = w1 at g r B ⊢
  go_wp2_with (first
    | go_skip
    | ((with_reducible show wpList _ _ _ (⟨_, .load 26 _, _, _, _, _⟩ :: _) _ _); refine load_held g (by first | exact wanted_none rfl | exact wanted_some rfl rfl rfl rfl) (by exact rfl) (by exact rfl) Try.underlying26 rfl dqlInfo ?_)
    | ((with_reducible show wpList _ _ _ (⟨_, .load _ _, _, _, _, _⟩ :: _) _ _); refine load_fld g (by first | exact wanted_none rfl | exact wanted_some rfl rfl rfl rfl) (by exact rfl) (by exact rfl) (by first | exact Try.underlying22 | exact Try.underlying23) rfl (by exact rfl) ?_)
    | ((with_reducible show wpList _ _ _ (⟨_, .store 26 _ _, _, _, _, _⟩ :: _) _ _); refine store_held r (by first | exact wanted_none rfl | exact wanted_some rfl rfl rfl rfl) (by exact rfl) (by exact rfl) (by exact rfl) (by exact dqlInfo) (by exact rfl) (by exact rfl) ?_; intro w2 r2 F2; have g2 := g.foot F2 (by omega); have B2 := below_foot B F2 (by omega) (Nat.le_refl _); clear F2; clear r g B; have r := r2; have g := g2; have B := B2; clear r2 g2 B2)
    | ((with_reducible show wpList _ _ _ (⟨_, .store _ _ _, _, _, _, _⟩ :: _) _ _); refine store_fld g (by first | exact wanted_none rfl | exact wanted_some rfl rfl rfl rfl) (by exact rfl) (by exact rfl) (by exact rfl) (by first | exact infoU32 | exact infoU64) (by exact rfl) (by exact rfl) ?_; intro w2 g2 F2; simp only [List.setIfInBounds_toArray, List.set_cons_succ, List.set_cons_zero] at g2; have r2 := r.foot F2 (by omega); have B2 := below_foot B F2 (by omega) (Nat.le_refl _); clear F2; clear g r B; have g := g2; have r := r2; have B := B2; clear g2 r2 B2)
    | (go_at_call 14; refine (right_v true _ _ _ _ _ _ _ _ _ _ _ _ _ hr _).mono ?_; rintro e w2 ⟨rfl, hb⟩; have g2 := g.below hb g.lt; have r2 := r.below hb r.lt; have B2 := B.trans (hb.mono B.size); clear hb; clear g r B; have g := g2; have r := r2; have B := B2; clear g2 r2 B2)
    | (go_at_call 26; refine (rising3 true _ _ _ _ E3 _ (by simp [go_sem]) (by simp [go_sem]) (by simp [go_sem])).mono ?_; rintro e w2 ⟨rfl, hb⟩; have g2 := (g.alloc _).below hb (by have := g.lt; simp; omega); have r2 := (r.alloc _).below hb (by have := r.lt; simp; omega); have B2 := (B.alloc B.size _).trans (hb.mono (by have := B.size; simp; omega)); clear hb; clear g r B; have g := g2; have r := r2; have B := B2; clear g2 r2 B2)
    | (go_at_call 30; refine (rising2w false _ _ _ E2 _ (by simp [go_sem]) (by simp [go_sem])).mono ?_; rintro e w2 ⟨rfl, hb⟩; have g2 := (g.alloc _).below hb (by have := g.lt; simp; omega); have r2 := (r.alloc _).below hb (by have := r.lt; simp; omega); have B2 := (B.alloc B.size _).trans (hb.mono (by have := B.size; simp; omega)); clear hb; clear g r B; have g := g2; have r := r2; have B := B2; clear g2 r2 B2)
    | (go_at_call 18; refine (flight_pv _ _ _ _ _ _ _ _ _ _ _ _ _ _).mono ?_; rintro e w2 ⟨rfl, hb⟩; have g2 := g.below hb g.lt; have r2 := r.below hb r.lt; have B2 := B.trans (hb.mono B.size); clear hb; clear g r B; have g := g2; have r := r2; have B := B2; clear g2 r2 B2))
  refine ret_held2 r (by exact rfl) (by exact rfl) Try.underlying26 rfl dqlInfo ⟨?_, B⟩
  rfl
set_option maxHeartbeats 1000000 in
theorem queue_p3 (q adj last lim comp pov plast pq slack start hold mn mx n : Int) (h0 : 0 ≤ n) (h1 : n ≤ 4294967295) (hr : DQ.rightB ⟨q, adj, last, lim, comp, pov, plast, pq, slack, start, hold, mn, mx⟩ = true) (E3 : decide ((1 : Int) ≤ n ∧ n ≤ 65535) = true) (E2 : decide (DQ.fr comp q + n ≤ 2147483647) = true) (w : World) : Calls Try.prog 20 #[dqv q adj last lim comp pov plast pq slack start hold mn mx, .int .u32 n] w fun e w' => e = .returned (.tuple #[dqv ((q + n) % 4294967296) adj n lim comp pov plast pq slack start hold mn mx, .int .i64 0]) ∧ Below w.heap.size w w' := by
  have hF := DQ.fr_bd comp q
  go_enter Try.func20, Try.ntmps20
  go_upto_region 1 with (fail)
  obtain ⟨g, r, B⟩ := two_boxes w 26 26 (dqc q adj last lim comp pov plast pq slack start hold mn mx) (dqc 0 0 0 0 0 0 0 0 0 0 0 0 0)
  generalize (w.alloc (.cells (dqc q adj last lim comp pov plast pq slack start hold mn mx) 26)).alloc (.cells (dqc 0 0 0 0 0 0 0 0 0 0 0 0 0) 26) = w1 at g r B ⊢
  go_wp2_with (first
    | go_skip
    | ((with_reducible show wpList _ _ _ (⟨_, .load 26 _, _, _, _, _⟩ :: _) _ _); refine load_held g (by first | exact wanted_none rfl | exact wanted_some rfl rfl rfl rfl) (by exact rfl) (by exact rfl) Try.underlying26 rfl dqlInfo ?_)
    | ((with_reducible show wpList _ _ _ (⟨_, .load _ _, _, _, _, _⟩ :: _) _ _); refine load_fld g (by first | exact wanted_none rfl | exact wanted_some rfl rfl rfl rfl) (by exact rfl) (by exact rfl) (by first | exact Try.underlying22 | exact Try.underlying23) rfl (by exact rfl) ?_)
    | ((with_reducible show wpList _ _ _ (⟨_, .store 26 _ _, _, _, _, _⟩ :: _) _ _); refine store_held r (by first | exact wanted_none rfl | exact wanted_some rfl rfl rfl rfl) (by exact rfl) (by exact rfl) (by exact rfl) (by exact dqlInfo) (by exact rfl) (by exact rfl) ?_; intro w2 r2 F2; have g2 := g.foot F2 (by omega); have B2 := below_foot B F2 (by omega) (Nat.le_refl _); clear F2; clear r g B; have r := r2; have g := g2; have B := B2; clear r2 g2 B2)
    | ((with_reducible show wpList _ _ _ (⟨_, .store _ _ _, _, _, _, _⟩ :: _) _ _); refine store_fld g (by first | exact wanted_none rfl | exact wanted_some rfl rfl rfl rfl) (by exact rfl) (by exact rfl) (by exact rfl) (by first | exact infoU32 | exact infoU64) (by exact rfl) (by exact rfl) ?_; intro w2 g2 F2; simp only [List.setIfInBounds_toArray, List.set_cons_succ, List.set_cons_zero] at g2; have r2 := r.foot F2 (by omega); have B2 := below_foot B F2 (by omega) (Nat.le_refl _); clear F2; clear g r B; have g := g2; have r := r2; have B := B2; clear g2 r2 B2)
    | (go_at_call 14; refine (right_v true _ _ _ _ _ _ _ _ _ _ _ _ _ hr _).mono ?_; rintro e w2 ⟨rfl, hb⟩; have g2 := g.below hb g.lt; have r2 := r.below hb r.lt; have B2 := B.trans (hb.mono B.size); clear hb; clear g r B; have g := g2; have r := r2; have B := B2; clear g2 r2 B2)
    | (go_at_call 26; refine (rising3 true _ _ _ _ E3 _ (by simp [go_sem]) (by simp [go_sem]) (by simp [go_sem])).mono ?_; rintro e w2 ⟨rfl, hb⟩; have g2 := (g.alloc _).below hb (by have := g.lt; simp; omega); have r2 := (r.alloc _).below hb (by have := r.lt; simp; omega); have B2 := (B.alloc B.size _).trans (hb.mono (by have := B.size; simp; omega)); clear hb; clear g r B; have g := g2; have r := r2; have B := B2; clear g2 r2 B2)
    | (go_at_call 30; refine (rising2w true _ _ _ E2 _ (by simp [go_sem]) (by simp [go_sem])).mono ?_; rintro e w2 ⟨rfl, hb⟩; have g2 := (g.alloc _).below hb (by have := g.lt; simp; omega); have r2 := (r.alloc _).below hb (by have := r.lt; simp; omega); have B2 := (B.alloc B.size _).trans (hb.mono (by have := B.size; simp; omega)); clear hb; clear g r B; have g := g2; have r := r2; have B := B2; clear g2 r2 B2)
    | (go_at_call 18; refine (flight_pv _ _ _ _ _ _ _ _ _ _ _ _ _ _).mono ?_; rintro e w2 ⟨rfl, hb⟩; have g2 := g.below hb g.lt; have r2 := r.below hb r.lt; have B2 := B.trans (hb.mono B.size); clear hb; clear g r B; have g := g2; have r := r2; have B := B2; clear g2 r2 B2))
  refine ret_held2 r (by exact rfl) (by exact rfl) Try.underlying26 rfl dqlInfo ⟨?_, B⟩
  rfl
theorem queue_p (d : DQ) (n : Int) (h0 : 0 ≤ n) (h1 : n ≤ 4294967295) (w : World) : Calls Try.prog 20 #[dq d, .int .u32 n] w fun e w' => e = .returned (.tuple #[dq (queueV d n), .int .i64 (queueE d n)]) ∧ Below w.heap.size w w' := by
  rcases hr : d.rightB
  · refine (queue_p0 d.q d.adj d.last d.lim d.comp d.pov d.plast d.pq d.slack d.start d.hold d.mn d.mx n h0 h1 hr w).mono fun e w' h => ⟨h.1.trans ?_, h.2⟩
    simp only [queueV, queueE, hr, Bool.false_and, cond_false]
    rfl
  · by_cases h3 : (1 : Int) ≤ n ∧ n ≤ 65535
    · by_cases h2 : DQ.fr d.comp d.q + n ≤ 2147483647
      · refine (queue_p3 d.q d.adj d.last d.lim d.comp d.pov d.plast d.pq d.slack d.start d.hold d.mn d.mx n h0 h1 hr (decide_eq_true h3) (decide_eq_true h2) w).mono fun e w' h => ⟨h.1.trans ?_, h.2⟩
        have hq : d.queueB n = true := decide_eq_true ⟨h3.1, h3.2, h2⟩
        simp only [queueV, queueE, hr, hq, Bool.and_true, cond_true]
        rfl
      · refine (queue_p2 d.q d.adj d.last d.lim d.comp d.pov d.plast d.pq d.slack d.start d.hold d.mn d.mx n h0 h1 hr (decide_eq_true h3) (decide_eq_false h2) w).mono fun e w' h => ⟨h.1.trans ?_, h.2⟩
        have hq : d.queueB n = false := decide_eq_false fun hh => h2 hh.2.2
        simp only [queueV, queueE, hr, hq, Bool.and_false, cond_false, cond_true]
        rfl
    · refine (queue_p1 d.q d.adj d.last d.lim d.comp d.pov d.plast d.pq d.slack d.start d.hold d.mn d.mx n h0 h1 hr (decide_eq_false h3) w).mono fun e w' h => ⟨h.1.trans ?_, h.2⟩
      have hq : d.queueB n = false := decide_eq_false fun hh => h3 ⟨hh.1, hh.2.1⟩
      simp only [queueV, queueE, hr, hq, Bool.and_false, cond_false, cond_true]
      rfl
/-- beginning anew: the state, and the code -/
def resetV (d : DQ) (t : Int) : DQ := bif d.rightB then newV d.mn d.mx d.hold t else DQ.none
def resetE (d : DQ) : Int := bif d.rightB then newE d.mn d.mx else 2
set_option maxHeartbeats 1000000 in
theorem reset_p0 (q adj last lim comp pov plast pq slack start hold mn mx t : Int) (hr : DQ.rightB ⟨q, adj, last, lim, comp, pov, plast, pq, slack, start, hold, mn, mx⟩ = false) (w : World) : Calls Try.prog 24 #[dqv q adj last lim comp pov plast pq slack start hold mn mx, .int .u64 t] w fun e w' => e = .returned (.tuple #[dqv 0 0 0 0 0 0 0 0 0 0 0 0 0, .int .i64 2]) ∧ Below w.heap.size w w' := by
  go_enter Try.func24, Try.ntmps24
  go_upto_region 1 with (fail)
  obtain ⟨g, r, B⟩ := two_boxes w 26 26 (dqc q adj last lim comp pov plast pq slack start hold mn mx) (dqc 0 0 0 0 0 0 0 0 0 0 0 0 0)
  generalize (w.alloc (.cells (dqc q adj last lim comp pov plast pq slack start hold mn mx) 26)).alloc (.cells (dqc 0 0 0 0 0 0 0 0 0 0 0 0 0) 26) = w1 at g r B ⊢
  go_wp2_with (first
    | go_skip
    | ((with_reducible show wpList _ _ _ (⟨_, .load 26 _, _, _, _, _⟩ :: _) _ _); refine load_held g (by first | exact wanted_none rfl | exact wanted_some rfl rfl rfl rfl) (by exact rfl) (by exact rfl) Try.underlying26 rfl dqlInfo ?_)
    | ((with_reducible show wpList _ _ _ (⟨_, .load _ _, _, _, _, _⟩ :: _) _ _); refine load_fld g (by first | exact wanted_none rfl | exact wanted_some rfl rfl rfl rfl) (by exact rfl) (by exact rfl) (by first | exact Try.underlying22 | exact Try.underlying23) rfl (by exact rfl) ?_)
    | ((with_reducible show wpList _ _ _ (⟨_, .store 26 _ _, _, _, _, _⟩ :: _) _ _); refine store_held r (by first | exact wanted_none rfl | exact wanted_some rfl rfl rfl rfl) (by exact rfl) (by exact rfl) (by exact rfl) (by exact dqlInfo) (by exact rfl) (by exact rfl) ?_; intro w2 r2 F2; have g2 := g.foot F2 (by omega); have B2 := below_foot B F2 (by omega) (Nat.le_refl _); clear F2; clear r g B; have r := r2; have g := g2; have B := B2; clear r2 g2 B2)
    | ((with_reducible show wpList _ _ _ (⟨_, .store _ _ _, _, _, _, _⟩ :: _) _ _); refine store_fld g (by first | exact wanted_none rfl | exact wanted_some rfl rfl rfl rfl) (by exact rfl) (by exact rfl) (by exact rfl) (by first | exact infoU32 | exact infoU64) (by exact rfl) (by exact rfl) ?_; intro w2 g2 F2; simp only [List.setIfInBounds_toArray, List.set_cons_succ, List.set_cons_zero] at g2; have r2 := r.foot F2 (by omega); have B2 := below_foot B F2 (by omega) (Nat.le_refl _); clear F2; clear g r B; have g := g2; have r := r2; have B := B2; clear g2 r2 B2)
    | (go_at_call 14; refine (right_v false _ _ _ _ _ _ _ _ _ _ _ _ _ hr _).mono ?_; rintro e w2 ⟨rfl, hb⟩; have g2 := g.below hb g.lt; have r2 := r.below hb r.lt; have B2 := B.trans (hb.mono B.size); clear hb; clear g r B; have g := g2; have r := r2; have B := B2; clear g2 r2 B2))
  refine ret_held2 r (by exact rfl) (by exact rfl) Try.underlying26 rfl dqlInfo ⟨?_, B⟩
  rfl
set_option maxHeartbeats 1000000 in
theorem reset_p1 (q adj last lim comp pov plast pq slack start hold mn mx t : Int) (hr : DQ.rightB ⟨q, adj, last, lim, comp, pov, plast, pq, slack, start, hold, mn, mx⟩ = true) (w : World) : Calls Try.prog 24 #[dqv q adj last lim comp pov plast pq slack start hold mn mx, .int .u64 t] w fun e w' => e = .returned (.tuple #[dq (newV mn mx hold t), .int .i64 (newE mn mx)]) ∧ Below w.heap.size w w' := by
  go_enter Try.func24, Try.ntmps24
  go_upto_region 1 with (fail)
  obtain ⟨g, r, B⟩ := two_boxes w 26 26 (dqc q adj last lim comp pov plast pq slack start hold mn mx) (dqc 0 0 0 0 0 0 0 0 0 0 0 0 0)
  generalize (w.alloc (.cells (dqc q adj last lim comp pov plast pq slack start hold mn mx) 26)).alloc (.cells (dqc 0 0 0 0 0 0 0 0 0 0 0 0 0) 26) = w1 at g r B ⊢
  go_wp2_with (first
    | go_skip
    | ((with_reducible show wpList _ _ _ (⟨_, .load 26 _, _, _, _, _⟩ :: _) _ _); refine load_held g (by first | exact wanted_none rfl | exact wanted_some rfl rfl rfl rfl) (by exact rfl) (by exact rfl) Try.underlying26 rfl dqlInfo ?_)
    | ((with_reducible show wpList _ _ _ (⟨_, .load _ _, _, _, _, _⟩ :: _) _ _); refine load_fld g (by first | exact wanted_none rfl | exact wanted_some rfl rfl rfl rfl) (by exact rfl) (by exact rfl) (by first | exact Try.underlying22 | exact Try.underlying23) rfl (by exact rfl) ?_)
    | ((with_reducible show wpList _ _ _ (⟨_, .store 26 _ _, _, _, _, _⟩ :: _) _ _); refine store_held r (by first | exact wanted_none rfl | exact wanted_some rfl rfl rfl rfl) (by exact rfl) (by exact rfl) (by exact rfl) (by exact dqlInfo) (by exact rfl) (by exact rfl) ?_; intro w2 r2 F2; have g2 := g.foot F2 (by omega); have B2 := below_foot B F2 (by omega) (Nat.le_refl _); clear F2; clear r g B; have r := r2; have g := g2; have B := B2; clear r2 g2 B2)
    | ((with_reducible show wpList _ _ _ (⟨_, .store _ _ _, _, _, _, _⟩ :: _) _ _); refine store_fld g (by first | exact wanted_none rfl | exact wanted_some rfl rfl rfl rfl) (by exact rfl) (by exact rfl) (by exact rfl) (by first | exact infoU32 | exact infoU64) (by exact rfl) (by exact rfl) ?_; intro w2 g2 F2; simp only [List.setIfInBounds_toArray, List.set_cons_succ, List.set_cons_zero] at g2; have r2 := r.foot F2 (by omega); have B2 := below_foot B F2 (by omega) (Nat.le_refl _); clear F2; clear g r B; have g := g2; have r := r2; have B := B2; clear g2 r2 B2)
    | (go_at_call 14; refine (right_v true _ _ _ _ _ _ _ _ _ _ _ _ _ hr _).mono ?_; rintro e w2 ⟨rfl, hb⟩; have g2 := g.below hb g.lt; have r2 := r.below hb r.lt; have B2 := B.trans (hb.mono B.size); clear hb; clear g r B; have g := g2; have r := r2; have B := B2; clear g2 r2 B2)
    | (go_at_call 12; refine (new_p _ _ _ _ _).mono ?_; rintro e w2 ⟨rfl, hb⟩; have g2 := g.below hb g.lt; have r2 := r.below hb r.lt; have B2 := B.trans (hb.mono B.size); clear hb; clear g r B; have g := g2; have r := r2; have B := B2; clear g2 r2 B2))
  refine ret_held2 r (by exact rfl) (by exact rfl) Try.underlying26 rfl dqlInfo ⟨?_, B⟩
  rfl
theorem reset_p (d : DQ) (t : Int) (w : World) : Calls Try.prog 24 #[dq d, .int .u64 t] w fun e w' => e = .returned (.tuple #[dq (resetV d t), .int .i64 (resetE d)]) ∧ Below w.heap.size w w' := by
  rcases hr : d.rightB
  · refine (reset_p0 d.q d.adj d.last d.lim d.comp d.pov d.plast d.pq d.slack d.start d.hold d.mn d.mx t hr w).mono fun e w' h => ⟨h.1.trans ?_, h.2⟩
    simp only [resetV, resetE, hr, cond_false]
    rfl
  · refine (reset_p1 d.q d.adj d.last d.lim d.comp d.pov d.plast d.pq d.slack d.start d.hold d.mn d.mx t hr w).mono fun e w' h => ⟨h.1.trans ?_, h.2⟩
    simp only [resetV, resetE, hr, cond_true]
set_option maxHeartbeats 1000000 in
theorem reset_r0 (q adj last lim comp pov plast pq slack start hold mn mx t : Int) (hr : DQ.rightB ⟨q, adj, last, lim, comp, pov, plast, pq, slack, start, hold, mn, mx⟩ = false) (w : World) : Calls Try.prog 25 #[dqv q adj last lim comp pov plast pq slack start hold mn mx, .int .u64 t] w fun e w' => e = .returned (.tuple #[dqv 0 0 0 0 0 0 0 0 0 0 0 0 0, .int .i64 2]) ∧ Below w.heap.size w w' := by
  go_enter Try.func25, Try.ntmps25
  go_upto_region 1 with (fail)
  obtain ⟨g, r, B⟩ := two_boxes w 26 26 (dqc q adj last lim comp pov plast pq slack start hold mn mx) (dqc 0 0 0 0 0 0 0 0 0 0 0 0 0)
  generalize (w.alloc (.cells (dqc q adj last lim comp pov plast pq slack start hold mn mx) 26)).alloc (.cells (dqc 0 0 0 0 0 0 0 0 0 0 0 0 0) 26) = w1 at g r B ⊢
  go_wp2_with (first
    | go_skip
    | ((with_reducible show wpList _ _ _ (⟨_, .load 26 _, _, _, _, _⟩ :: _) _ _); refine load_held g (by first | exact wanted_none rfl | exact wanted_some rfl rfl rfl rfl) (by exact rfl) (by exact rfl) Try.underlying26 rfl dqlInfo ?_)
    | ((with_reducible show wpList _ _ _ (⟨_, .load _ _, _, _, _, _⟩ :: _) _ _); refine load_fld g (by first | exact wanted_none rfl | exact wanted_some rfl rfl rfl rfl) (by exact rfl) (by exact rfl) (by first | exact Try.underlying22 | exact Try.underlying23) rfl (by exact rfl) ?_)
    | ((with_reducible show wpList _ _ _ (⟨_, .store 26 _ _, _, _, _, _⟩ :: _) _ _); refine store_held r (by first | exact wanted_none rfl | exact wanted_some rfl rfl rfl rfl) (by exact rfl) (by exact rfl) (by exact rfl) (by exact dqlInfo) (by exact rfl) (by exact rfl) ?_; intro w2 r2 F2; have g2 := g.foot F2 (by omega); have B2 := below_foot B F2 (by omega) (Nat.le_refl _); clear F2; clear r g B; have r := r2; have g := g2; have B := B2; clear r2 g2 B2)
    | ((with_reducible show wpList _ _ _ (⟨_, .store _ _ _, _, _, _, _⟩ :: _) _ _); refine store_fld g (by first | exact wanted_none rfl | exact wanted_some rfl rfl rfl rfl) (by exact rfl) (by exact rfl) (by exact rfl) (by first | exact infoU32 | exact infoU64) (by exact rfl) (by exact rfl) ?_; intro w2 g2 F2; simp only [List.setIfInBounds_toArray, List.set_cons_succ, List.set_cons_zero] at g2; have r2 := r.foot F2 (by omega); have B2 := below_foot B F2 (by omega) (Nat.le_refl _); clear F2; clear g r B; have g := g2; have r := r2; have B := B2; clear g2 r2 B2)
    | (go_at_call 16; refine (rightr_v false _ _ _ _ _ _ _ _ _ _ _ _ _ hr _).mono ?_; rintro e w2 ⟨rfl, hb⟩; have g2 := g.below hb g.lt; have r2 := r.below hb r.lt; have B2 := B.trans (hb.mono B.size); clear hb; clear g r B; have g := g2; have r := r2; have B := B2; clear g2 r2 B2))
  refine ret_held2 r (by exact rfl) (by exact rfl) Try.underlying26 rfl dqlInfo ⟨?_, B⟩
  rfl
set_option maxHeartbeats 1000000 in
theorem reset_r1 (q adj last lim comp pov plast pq slack start hold mn mx t : Int) (hr : DQ.rightB ⟨q, adj, last, lim, comp, pov, plast, pq, slack, start, hold, mn, mx⟩ = true) (w : World) : Calls Try.prog 25 #[dqv q adj last lim comp pov plast pq slack start hold mn mx, .int .u64 t] w fun e w' => e = .returned (.tuple #[dq (newV mn mx hold t), .int .i64 (newE mn mx)]) ∧ Below w.heap.size w w' := by
  go_enter Try.func25, Try.ntmps25
  go_upto_region 1 with (fail)
  obtain ⟨g, r, B⟩ := two_boxes w 26 26 (dqc q adj last lim comp pov plast pq slack start hold mn mx) (dqc 0 0 0 0 0 0 0 0 0 0 0 0 0)
  generalize (w.alloc (.cells (dqc q adj last lim comp pov plast pq slack start hold mn mx) 26)).alloc (.cells (dqc 0 0 0 0 0 0 0 0 0 0 0 0 0) 26) = w1 at g r B ⊢
  go_wp2_with (first
    | go_skip
    | ((with_reducible show wpList _ _ _ (⟨_, .load 26 _, _, _, _, _⟩ :: _) _ _); refine load_held g (by first | exact wanted_none rfl | exact wanted_some rfl rfl rfl rfl) (by exact rfl) (by exact rfl) Try.underlying26 rfl dqlInfo ?_)
    | ((with_reducible show wpList _ _ _ (⟨_, .load _ _, _, _, _, _⟩ :: _) _ _); refine load_fld g (by first | exact wanted_none rfl | exact wanted_some rfl rfl rfl rfl) (by exact rfl) (by exact rfl) (by first | exact Try.underlying22 | exact Try.underlying23) rfl (by exact rfl) ?_)
    | ((with_reducible show wpList _ _ _ (⟨_, .store 26 _ _, _, _, _, _⟩ :: _) _ _); refine store_held r (by first | exact wanted_none rfl | exact wanted_some rfl rfl rfl rfl) (by exact rfl) (by exact rfl) (by exact rfl) (by exact dqlInfo) (by exact rfl) (by exact rfl) ?_; intro w2 r2 F2; have g2 := g.foot F2 (by omega); have B2 := below_foot B F2 (by omega) (Nat.le_refl _); clear F2; clear r g B; have r := r2; have g := g2; have B := B2; clear r2 g2 B2)
    | ((with_reducible show wpList _ _ _ (⟨_, .store _ _ _, _, _, _, _⟩ :: _) _ _); refine store_fld g (by first | exact wanted_none rfl | exact wanted_some rfl rfl rfl rfl) (by exact rfl) (by exact rfl) (by exact rfl) (by first | exact infoU32 | exact infoU64) (by exact rfl) (by exact rfl) ?_; intro w2 g2 F2; simp only [List.setIfInBounds_toArray, List.set_cons_succ, List.set_cons_zero] at g2; have r2 := r.foot F2 (by omega); have B2 := below_foot B F2 (by omega) (Nat.le_refl _); clear F2; clear g r B; have g := g2; have r := r2; have B := B2; clear g2 r2 B2)
    | (go_at_call 16; refine (rightr_v true _ _ _ _ _ _ _ _ _ _ _ _ _ hr _).mono ?_; rintro e w2 ⟨rfl, hb⟩; have g2 := g.below hb g.lt; have r2 := r.below hb r.lt; have B2 := B.trans (hb.mono B.size); clear hb; clear g r B; have g := g2; have r := r2; have B := B2; clear g2 r2 B2)
    | (go_at_call 13; refine (new_r _ _ _ _ _).mono ?_; rintro e w2 ⟨rfl, hb⟩; have g2 := g.below hb g.lt; have r2 := r.below hb r.lt; have B2 := B.trans (hb.mono B.size); clear hb; clear g r B; have g := g2; have r := r2; have B := B2; clear g2 r2 B2))
  refine ret_held2 r (by exact rfl) (by exact rfl) Try.underlying26 rfl dqlInfo ⟨?_, B⟩
  rfl
theorem reset_r (d : DQ) (t : Int) (w : World) : Calls Try.prog 25 #[dq d, .int .u64 t] w fun e w' => e = .returned (.tuple #[dq (resetV d t), .int .i64 (resetE d)]) ∧ Below w.heap.size w w' := by
  rcases hr : d.rightB
  · refine (reset_r0 d.q d.adj d.last d.lim d.comp d.pov d.plast d.pq d.slack d.start d.hold d.mn d.mx t hr w).mono fun e w' h => ⟨h.1.trans ?_, h.2⟩
    simp only [resetV, resetE, hr, cond_false]
    rfl
  · refine (reset_r1 d.q d.adj d.last d.lim d.comp d.pov d.plast d.pq d.slack d.start d.hold d.mn d.mx t hr w).mono fun e w' h => ⟨h.1.trans ?_, h.2⟩
    simp only [resetV, resetE, hr, cond_true]
end Go.Proofs.Ytfgaeaebchgcdaa
