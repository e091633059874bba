/-
  The contract of dql.Complete. Conditions: the numbers fit their kinds.
-/
import Derived.Test.YtfgaeaebchgcdaaDqlL
namespace Go.Proofs.Ytfgaeaebchgcdaa
set_option linter.unusedSimpArgs false
set_option linter.unusedVariables false
open Go.ChangeShapes Go.WideShapes Go.ChangeAt Go.RowKit

theorem adjusted_v (L sl st q adj last lim comp pov plast pq slack start hold mn mx n t : Int) (hpq : 0 ≤ pq ∧ pq ≤ 4294967295) (hcm : 0 ≤ comp ∧ comp ≤ 4294967295) (hst : 0 ≤ start ∧ start ≤ 18446744073709551615) (htt : 0 ≤ t ∧ t ≤ 18446744073709551615) (eL : DQ.rawL (⟨q, adj, last, lim, comp, pov, plast, pq, slack, start, hold, mn, mx⟩ : DQ) n t = L) (es : DQ.slW (⟨q, adj, last, lim, comp, pov, plast, pq, slack, start, hold, mn, mx⟩ : DQ) n t = sl) (et : DQ.stW (⟨q, adj, last, lim, comp, pov, plast, pq, slack, start, hold, mn, mx⟩ : DQ) n t = st) (w : World) :
    Calls Try.prog 31 #[dqv q adj last lim comp pov plast pq slack start hold mn mx, .int .u32 n, .int .u64 t] w fun e w' => e = .returned (dqv q adj last L comp pov plast pq sl st hold mn mx) ∧ Below w.heap.size w w' := by
  subst eL es et
  exact adjusted_pv q adj last lim comp pov plast pq slack start hold mn mx n t hpq hcm hst htt w
theorem bounded_v (NL q adj last lim comp pov plast pq slack start hold mn mx : Int) (eN : min (max lim mn) mx = NL) (w : World) : Calls Try.prog 27 #[dqv q adj last lim comp pov plast pq slack start hold mn mx] w fun e w' => e = .returned (dqv q ((NL + comp) % 4294967296) last NL comp pov plast pq slack start hold mn mx) ∧ Below w.heap.size w w' := by
  subst eN
  exact bounded_pv q adj last lim comp pov plast pq slack start hold mn mx w
set_option maxRecDepth 4000 in
set_option maxHeartbeats 4000000 in
theorem complete_p0 (q adj last lim comp pov plast pq slack start hold mn mx n t : Int) (hr : DQ.rightB (⟨q, adj, last, lim, comp, pov, plast, pq, slack, start, hold, mn, mx⟩ : DQ) = false) (w : World) : Calls Try.prog 22 #[dqv q adj last lim comp pov plast pq slack start hold mn mx, .int .u32 n, .int .u64 t] w fun e w' => e = .returned (.tuple #[dqv 0 0 0 0 0 0 0 0 0 0 0 0 0, .int .i64 2]) ∧ Below w.heap.size w w' := by
  go_enter Try.func22, Try.ntmps22
  go_upto_region 1 with (fail)
  obtain ⟨g, r, B⟩ := two_boxes w 26 26 (dqc q adj last lim comp pov plast pq slack start hold mn mx) (dqc 0 0 0 0 0 0 0 0 0 0 0 0 0)
  generalize (w.alloc (.cells (dqc q adj last lim comp pov plast pq slack start hold mn mx) 26)).alloc (.cells (dqc 0 0 0 0 0 0 0 0 0 0 0 0 0) 26) = w1 at g r B ⊢
  go_wp2_with (first
    | go_skip
    | ((with_reducible show wpList _ _ _ (⟨_, .load 26 _, _, _, _, _⟩ :: _) _ _); refine load_held g (by first | exact wanted_none rfl | exact wanted_some rfl rfl rfl rfl) (by exact rfl) (by exact rfl) Try.underlying26 rfl dqlInfo ?_)
    | ((with_reducible show wpList _ _ _ (⟨_, .load _ _, _, _, _, _⟩ :: _) _ _); refine load_fld g (by first | exact wanted_none rfl | exact wanted_some rfl rfl rfl rfl) (by exact rfl) (by exact rfl) (by first | exact Try.underlying22 | exact Try.underlying23) rfl (by exact rfl) ?_)
    | ((with_reducible show wpList _ _ _ (⟨_, .store 26 _ _, _, _, _, _⟩ :: _) _ _); refine store_held r (by first | exact wanted_none rfl | exact wanted_some rfl rfl rfl rfl) (by exact rfl) (by exact rfl) (by exact rfl) (by exact dqlInfo) (by exact rfl) (by exact rfl) ?_; intro w2 r2 F2; have g2 := g.foot F2 (by omega); have B2 := below_foot B F2 (by omega) (Nat.le_refl _); clear F2; clear r g B; have r := r2; have g := g2; have B := B2; clear r2 g2 B2)
    | ((with_reducible show wpList _ _ _ (⟨_, .store _ _ _, _, _, _, _⟩ :: _) _ _); refine store_fld g (by first | exact wanted_none rfl | exact wanted_some rfl rfl rfl rfl) (by exact rfl) (by exact rfl) (by exact rfl) (by first | exact infoU32 | exact infoU64) (by exact rfl) (by exact rfl) ?_; intro w2 g2 F2; simp only [List.setIfInBounds_toArray, List.set_cons_succ, List.set_cons_zero] at g2; have r2 := r.foot F2 (by omega); have B2 := below_foot B F2 (by omega) (Nat.le_refl _); clear F2; clear g r B; have g := g2; have r := r2; have B := B2; clear g2 r2 B2)
    | (go_at_call 14; refine (right_v false _ _ _ _ _ _ _ _ _ _ _ _ _ hr _).mono ?_; rintro e w2 ⟨rfl, hb⟩; have g2 := g.below hb g.lt; have r2 := r.below hb r.lt; have B2 := B.trans (hb.mono B.size); clear hb; clear g r B; have g := g2; have r := r2; have B := B2; clear g2 r2 B2))
  refine ret_held2 r (by exact rfl) (by exact rfl) Try.underlying26 rfl dqlInfo ⟨?_, B⟩
  rfl
set_option maxRecDepth 4000 in
set_option maxHeartbeats 4000000 in
theorem complete_p1 (q adj last lim comp pov plast pq slack start hold mn mx n t : Int) (hr : DQ.rightB (⟨q, adj, last, lim, comp, pov, plast, pq, slack, start, hold, mn, mx⟩ : DQ) = true) (E2 : decide (n ≤ DQ.fr comp q) = false) (w : World) : Calls Try.prog 22 #[dqv q adj last lim comp pov plast pq slack start hold mn mx, .int .u32 n, .int .u64 t] w fun e w' => e = .returned (.tuple #[dqv 0 0 0 0 0 0 0 0 0 0 0 0 0, .int .i64 40]) ∧ Below w.heap.size w w' := by
  go_enter Try.func22, Try.ntmps22
  go_upto_region 1 with (fail)
  obtain ⟨g, r, B⟩ := two_boxes w 26 26 (dqc q adj last lim comp pov plast pq slack start hold mn mx) (dqc 0 0 0 0 0 0 0 0 0 0 0 0 0)
  generalize (w.alloc (.cells (dqc q adj last lim comp pov plast pq slack start hold mn mx) 26)).alloc (.cells (dqc 0 0 0 0 0 0 0 0 0 0 0 0 0) 26) = w1 at g r B ⊢
  go_wp2_with (first
    | go_skip
    | ((with_reducible show wpList _ _ _ (⟨_, .load 26 _, _, _, _, _⟩ :: _) _ _); refine load_held g (by first | exact wanted_none rfl | exact wanted_some rfl rfl rfl rfl) (by exact rfl) (by exact rfl) Try.underlying26 rfl dqlInfo ?_)
    | ((with_reducible show wpList _ _ _ (⟨_, .load _ _, _, _, _, _⟩ :: _) _ _); refine load_fld g (by first | exact wanted_none rfl | exact wanted_some rfl rfl rfl rfl) (by exact rfl) (by exact rfl) (by first | exact Try.underlying22 | exact Try.underlying23) rfl (by exact rfl) ?_)
    | ((with_reducible show wpList _ _ _ (⟨_, .store 26 _ _, _, _, _, _⟩ :: _) _ _); refine store_held r (by first | exact wanted_none rfl | exact wanted_some rfl rfl rfl rfl) (by exact rfl) (by exact rfl) (by exact rfl) (by exact dqlInfo) (by exact rfl) (by exact rfl) ?_; intro w2 r2 F2; have g2 := g.foot F2 (by omega); have B2 := below_foot B F2 (by omega) (Nat.le_refl _); clear F2; clear r g B; have r := r2; have g := g2; have B := B2; clear r2 g2 B2)
    | ((with_reducible show wpList _ _ _ (⟨_, .store _ _ _, _, _, _, _⟩ :: _) _ _); refine store_fld g (by first | exact wanted_none rfl | exact wanted_some rfl rfl rfl rfl) (by exact rfl) (by exact rfl) (by exact rfl) (by first | exact infoU32 | exact infoU64) (by exact rfl) (by exact rfl) ?_; intro w2 g2 F2; simp only [List.setIfInBounds_toArray, List.set_cons_succ, List.set_cons_zero] at g2; have r2 := r.foot F2 (by omega); have B2 := below_foot B F2 (by omega) (Nat.le_refl _); clear F2; clear g r B; have g := g2; have r := r2; have B := B2; clear g2 r2 B2)
    | (go_at_call 14; refine (right_v true _ _ _ _ _ _ _ _ _ _ _ _ _ hr _).mono ?_; rintro e w2 ⟨rfl, hb⟩; have g2 := g.below hb g.lt; have r2 := r.below hb r.lt; have B2 := B.trans (hb.mono B.size); clear hb; clear g r B; have g := g2; have r := r2; have B := B2; clear g2 r2 B2)
    | (go_at_call 26; refine (rising2 false _ _ _ E2 _ (by simp [go_sem]) (by simp [go_sem])).mono ?_; rintro e w2 ⟨rfl, hb⟩; have g2 := (g.alloc _).below hb (by have := g.lt; simp; omega); have r2 := (r.alloc _).below hb (by have := r.lt; simp; omega); have B2 := (B.alloc B.size _).trans (hb.mono (by have := B.size; simp; omega)); clear hb; clear g r B; have g := g2; have r := r2; have B := B2; clear g2 r2 B2)
    | (go_at_call 18; refine (flight_pv _ _ _ _ _ _ _ _ _ _ _ _ _ _).mono ?_; rintro e w2 ⟨rfl, hb⟩; have g2 := g.below hb g.lt; have r2 := r.below hb r.lt; have B2 := B.trans (hb.mono B.size); clear hb; clear g r B; have g := g2; have r := r2; have B := B2; clear g2 r2 B2))
  refine ret_held2 r (by exact rfl) (by exact rfl) Try.underlying26 rfl dqlInfo ⟨?_, B⟩
  rfl
set_option maxRecDepth 4000 in
set_option maxHeartbeats 4000000 in
theorem complete_p2t (NL L sl st q adj last lim comp pov plast pq slack start hold mn mx n t : Int) (hpq : 0 ≤ pq ∧ pq ≤ 4294967295) (hcm : 0 ≤ comp ∧ comp ≤ 4294967295) (hst : 0 ≤ start ∧ start ≤ 18446744073709551615) (htt : 0 ≤ t ∧ t ≤ 18446744073709551615) (hr : DQ.rightB (⟨q, adj, last, lim, comp, pov, plast, pq, slack, start, hold, mn, mx⟩ : DQ) = true) (E2 : decide (n ≤ DQ.fr comp q) = true) (eL : DQ.rawL (⟨q, adj, last, lim, comp, pov, plast, pq, slack, start, hold, mn, mx⟩ : DQ) n t = L) (es : DQ.slW (⟨q, adj, last, lim, comp, pov, plast, pq, slack, start, hold, mn, mx⟩ : DQ) n t = sl) (et : DQ.stW (⟨q, adj, last, lim, comp, pov, plast, pq, slack, start, hold, mn, mx⟩ : DQ) n t = st) (eN : min (max L mn) mx = NL) (e9 : (NL == lim) = true) (w : World) : Calls Try.prog 22 #[dqv q adj last lim comp pov plast pq slack start hold mn mx, .int .u32 n, .int .u64 t] w fun e w' => e = .returned (.tuple #[dqv q ((NL + (comp + n)) % 4294967296) last NL ((comp + n) % 4294967296) (DQ.ov (DQ.fr comp q) lim) last q sl st hold mn mx, .int .i64 0]) ∧ Below w.heap.size w w' := by
  go_enter Try.func22, Try.ntmps22
  go_upto_region 1 with (fail)
  obtain ⟨g, r, B⟩ := two_boxes w 26 26 (dqc q adj last lim comp pov plast pq slack start hold mn mx) (dqc 0 0 0 0 0 0 0 0 0 0 0 0 0)
  generalize (w.alloc (.cells (dqc q adj last lim comp pov plast pq slack start hold mn mx) 26)).alloc (.cells (dqc 0 0 0 0 0 0 0 0 0 0 0 0 0) 26) = w1 at g r B ⊢
  go_wp2_with (first
    | go_skip
    | ((with_reducible show wpList _ _ _ (⟨_, .load 26 _, _, _, _, _⟩ :: _) _ _); refine load_held g (by first | exact wanted_none rfl | exact wanted_some rfl rfl rfl rfl) (by exact rfl) (by exact rfl) Try.underlying26 rfl dqlInfo ?_)
    | ((with_reducible show wpList _ _ _ (⟨_, .load 26 _, _, _, _, _⟩ :: _) _ _); refine load_held x (by first | exact wanted_none rfl | exact wanted_some rfl rfl rfl rfl) (by exact rfl) (by exact rfl) Try.underlying26 rfl dqlInfo ?_)
    | ((with_reducible show wpList _ _ _ (⟨_, .load _ _, _, _, _, _⟩ :: _) _ _); refine load_fld g (by first | exact wanted_none rfl | exact wanted_some rfl rfl rfl rfl) (by exact rfl) (by exact rfl) (by first | exact Try.underlying22 | exact Try.underlying23) rfl (by exact rfl) ?_)
    | ((with_reducible show wpList _ _ _ (⟨_, .load _ _, _, _, _, _⟩ :: _) _ _); refine load_fld x (by first | exact wanted_none rfl | exact wanted_some rfl rfl rfl rfl) (by exact rfl) (by exact rfl) (by first | exact Try.underlying22 | exact Try.underlying23) rfl (by exact rfl) ?_)
    | ((with_reducible show wpList _ _ _ (⟨_, .store 26 _ _, _, _, _, _⟩ :: _) _ _); refine store_held x (by first | exact wanted_none rfl | exact wanted_some rfl rfl rfl rfl) (by exact rfl) (by exact rfl) (by exact rfl) (by exact dqlInfo) (by exact rfl) (by exact rfl) ?_; intro w2 x2 F2; have g2 := g.foot F2 (by omega); have r2 := r.foot F2 (by omega); have B2 := below_foot B F2 (by omega) (Nat.le_refl _); clear F2; clear x g r B; have x := x2; have g := g2; have r := r2; have B := B2; clear x2 g2 r2 B2)
    | ((with_reducible show wpList _ _ _ (⟨_, .store 26 _ _, _, _, _, _⟩ :: _) _ _); refine store_held r (by first | exact wanted_none rfl | exact wanted_some rfl rfl rfl rfl) (by exact rfl) (by exact rfl) (by exact rfl) (by exact dqlInfo) (by exact rfl) (by exact rfl) ?_; intro w2 r2 F2; have g2 := g.foot F2 (by omega); have x2 := x.foot F2 (by omega); have B2 := below_foot B F2 (by omega) (Nat.le_refl _); clear F2; clear r g x B; have r := r2; have g := g2; have x := x2; have B := B2; clear r2 g2 x2 B2)
    | ((with_reducible show wpList _ _ _ (⟨_, .store _ _ _, _, _, _, _⟩ :: _) _ _); refine store_fld x (by first | exact wanted_none rfl | exact wanted_some rfl rfl rfl rfl) (by exact rfl) (by exact rfl) (by exact rfl) (by first | exact infoU32 | exact infoU64) (by exact rfl) (by exact rfl) ?_; intro w2 x2 F2; simp only [List.setIfInBounds_toArray, List.set_cons_succ, List.set_cons_zero] at x2; have g2 := g.foot F2 (by omega); have r2 := r.foot F2 (by omega); have B2 := below_foot B F2 (by omega) (Nat.le_refl _); clear F2; clear x g r B; have x := x2; have g := g2; have r := r2; have B := B2; clear x2 g2 r2 B2)
    | ((with_reducible show wpList _ _ _ (⟨_, .store 26 _ _, _, _, _, _⟩ :: _) _ _); refine store_held (Held.new _ _ _) (by first | exact wanted_none rfl | exact wanted_some rfl rfl rfl rfl) (by exact rfl) (by exact rfl) (by exact rfl) (by exact dqlInfo) (by exact rfl) (by exact rfl) ?_; intro w2 x F2; have lx := r.lt; have g2 := (g.alloc _).foot F2 (by have := g.lt; omega); have r2 := (r.alloc _).foot F2 (by omega); have B2 := below_foot (B.alloc B.size _) F2 (by omega) (Nat.le_refl _); clear F2; clear g r B; have g := g2; have r := r2; have B := B2; clear g2 r2 B2)
    | (go_at_call 14; refine (right_v true _ _ _ _ _ _ _ _ _ _ _ _ _ hr _).mono ?_; rintro e w2 ⟨rfl, hb⟩; have g2 := g.below hb g.lt; have r2 := r.below hb r.lt; have B2 := B.trans (hb.mono B.size); clear hb; clear g r B; have g := g2; have r := r2; have B := B2; clear g2 r2 B2)
    | (go_at_call 26; refine (rising2 true _ _ _ E2 _ (by simp [go_sem]) (by simp [go_sem])).mono ?_; rintro e w2 ⟨rfl, hb⟩; have g2 := (g.alloc _).below hb (by have := g.lt; simp; omega); have r2 := (r.alloc _).below hb (by have := r.lt; simp; omega); have B2 := (B.alloc B.size _).trans (hb.mono (by have := B.size; simp; omega)); clear hb; clear g r B; have g := g2; have r := r2; have B := B2; clear g2 r2 B2)
    | (go_at_call 18; refine (flight_pv _ _ _ _ _ _ _ _ _ _ _ _ _ _).mono ?_; rintro e w2 ⟨rfl, hb⟩; have g2 := g.below hb g.lt; have r2 := r.below hb r.lt; have B2 := B.trans (hb.mono B.size); clear hb; clear g r B; have g := g2; have r := r2; have B := B2; clear g2 r2 B2)
    | (go_at_call 31; refine (adjusted_v L sl st _ _ _ _ _ _ _ _ _ _ _ _ _ _ _ hpq hcm hst htt eL es et _).mono ?_; rintro e w2 ⟨rfl, hb⟩; have g2 := g.below hb g.lt; have r2 := r.below hb r.lt; have B2 := B.trans (hb.mono B.size); clear hb; clear g r B; have g := g2; have r := r2; have B := B2; clear g2 r2 B2)
    | (go_at_call 27; refine (bounded_v NL _ _ _ _ _ _ _ _ _ _ _ _ _ eN _).mono ?_; rintro e w2 ⟨rfl, hb⟩; have g2 := g.below hb g.lt; have r2 := r.below hb r.lt; have x2 := x.below hb x.lt; have B2 := B.trans (hb.mono B.size); clear hb; clear g r x B; have g := g2; have r := r2; have x := x2; have B := B2; clear g2 r2 x2 B2)
    | (go_at_call 32; refine (excess_pv _ _ _ _ _ _ _ _ _ _ _ _ _ _).mono ?_; rintro e w2 ⟨rfl, hb⟩; have g2 := g.below hb g.lt; have r2 := r.below hb r.lt; have x2 := x.below hb x.lt; have B2 := B.trans (hb.mono B.size); clear hb; clear g r x B; have g := g2; have r := r2; have x := x2; have B := B2; clear g2 r2 x2 B2))
  refine ret_held2 r (by exact rfl) (by exact rfl) Try.underlying26 rfl dqlInfo ⟨?_, B⟩
  rfl
set_option maxRecDepth 4000 in
set_option maxHeartbeats 4000000 in
theorem complete_p2f (NL L sl st q adj last lim comp pov plast pq slack start hold mn mx n t : Int) (hpq : 0 ≤ pq ∧ pq ≤ 4294967295) (hcm : 0 ≤ comp ∧ comp ≤ 4294967295) (hst : 0 ≤ start ∧ start ≤ 18446744073709551615) (htt : 0 ≤ t ∧ t ≤ 18446744073709551615) (hr : DQ.rightB (⟨q, adj, last, lim, comp, pov, plast, pq, slack, start, hold, mn, mx⟩ : DQ) = true) (E2 : decide (n ≤ DQ.fr comp q) = true) (eL : DQ.rawL (⟨q, adj, last, lim, comp, pov, plast, pq, slack, start, hold, mn, mx⟩ : DQ) n t = L) (es : DQ.slW (⟨q, adj, last, lim, comp, pov, plast, pq, slack, start, hold, mn, mx⟩ : DQ) n t = sl) (et : DQ.stW (⟨q, adj, last, lim, comp, pov, plast, pq, slack, start, hold, mn, mx⟩ : DQ) n t = st) (eN : min (max L mn) mx = NL) (e9 : (NL == lim) = false) (w : World) : Calls Try.prog 22 #[dqv q adj last lim comp pov plast pq slack start hold mn mx, .int .u32 n, .int .u64 t] w fun e w' => e = .returned (.tuple #[dqv q ((NL + (comp + n)) % 4294967296) last NL ((comp + n) % 4294967296) 0 last q sl st hold mn mx, .int .i64 0]) ∧ Below w.heap.size w w' := by
  go_enter Try.func22, Try.ntmps22
  go_upto_region 1 with (fail)
  obtain ⟨g, r, B⟩ := two_boxes w 26 26 (dqc q adj last lim comp pov plast pq slack start hold mn mx) (dqc 0 0 0 0 0 0 0 0 0 0 0 0 0)
  generalize (w.alloc (.cells (dqc q adj last lim comp pov plast pq slack start hold mn mx) 26)).alloc (.cells (dqc 0 0 0 0 0 0 0 0 0 0 0 0 0) 26) = w1 at g r B ⊢
  go_wp2_with (first
    | go_skip
    | ((with_reducible show wpList _ _ _ (⟨_, .load 26 _, _, _, _, _⟩ :: _) _ _); refine load_held g (by first | exact wanted_none rfl | exact wanted_some rfl rfl rfl rfl) (by exact rfl) (by exact rfl) Try.underlying26 rfl dqlInfo ?_)
    | ((with_reducible show wpList _ _ _ (⟨_, .load 26 _, _, _, _, _⟩ :: _) _ _); refine load_held x (by first | exact wanted_none rfl | exact wanted_some rfl rfl rfl rfl) (by exact rfl) (by exact rfl) Try.underlying26 rfl dqlInfo ?_)
    | ((with_reducible show wpList _ _ _ (⟨_, .load _ _, _, _, _, _⟩ :: _) _ _); refine load_fld g (by first | exact wanted_none rfl | exact wanted_some rfl rfl rfl rfl) (by exact rfl) (by exact rfl) (by first | exact Try.underlying22 | exact Try.underlying23) rfl (by exact rfl) ?_)
    | ((with_reducible show wpList _ _ _ (⟨_, .load _ _, _, _, _, _⟩ :: _) _ _); refine load_fld x (by first | exact wanted_none rfl | exact wanted_some rfl rfl rfl rfl) (by exact rfl) (by exact rfl) (by first | exact Try.underlying22 | exact Try.underlying23) rfl (by exact rfl) ?_)
    | ((with_reducible show wpList _ _ _ (⟨_, .store 26 _ _, _, _, _, _⟩ :: _) _ _); refine store_held x (by first | exact wanted_none rfl | exact wanted_some rfl rfl rfl rfl) (by exact rfl) (by exact rfl) (by exact rfl) (by exact dqlInfo) (by exact rfl) (by exact rfl) ?_; intro w2 x2 F2; have g2 := g.foot F2 (by omega); have r2 := r.foot F2 (by omega); have B2 := below_foot B F2 (by omega) (Nat.le_refl _); clear F2; clear x g r B; have x := x2; have g := g2; have r := r2; have B := B2; clear x2 g2 r2 B2)
    | ((with_reducible show wpList _ _ _ (⟨_, .store 26 _ _, _, _, _, _⟩ :: _) _ _); refine store_held r (by first | exact wanted_none rfl | exact wanted_some rfl rfl rfl rfl) (by exact rfl) (by exact rfl) (by exact rfl) (by exact dqlInfo) (by exact rfl) (by exact rfl) ?_; intro w2 r2 F2; have g2 := g.foot F2 (by omega); have x2 := x.foot F2 (by omega); have B2 := below_foot B F2 (by omega) (Nat.le_refl _); clear F2; clear r g x B; have r := r2; have g := g2; have x := x2; have B := B2; clear r2 g2 x2 B2)
    | ((with_reducible show wpList _ _ _ (⟨_, .store _ _ _, _, _, _, _⟩ :: _) _ _); refine store_fld x (by first | exact wanted_none rfl | exact wanted_some rfl rfl rfl rfl) (by exact rfl) (by exact rfl) (by exact rfl) (by first | exact infoU32 | exact infoU64) (by exact rfl) (by exact rfl) ?_; intro w2 x2 F2; simp only [List.setIfInBounds_toArray, List.set_cons_succ, List.set_cons_zero] at x2; have g2 := g.foot F2 (by omega); have r2 := r.foot F2 (by omega); have B2 := below_foot B F2 (by omega) (Nat.le_refl _); clear F2; clear x g r B; have x := x2; have g := g2; have r := r2; have B := B2; clear x2 g2 r2 B2)
    | ((with_reducible show wpList _ _ _ (⟨_, .store 26 _ _, _, _, _, _⟩ :: _) _ _); refine store_held (Held.new _ _ _) (by first | exact wanted_none rfl | exact wanted_some rfl rfl rfl rfl) (by exact rfl) (by exact rfl) (by exact rfl) (by exact dqlInfo) (by exact rfl) (by exact rfl) ?_; intro w2 x F2; have lx := r.lt; have g2 := (g.alloc _).foot F2 (by have := g.lt; omega); have r2 := (r.alloc _).foot F2 (by omega); have B2 := below_foot (B.alloc B.size _) F2 (by omega) (Nat.le_refl _); clear F2; clear g r B; have g := g2; have r := r2; have B := B2; clear g2 r2 B2)
    | (go_at_call 14; refine (right_v true _ _ _ _ _ _ _ _ _ _ _ _ _ hr _).mono ?_; rintro e w2 ⟨rfl, hb⟩; have g2 := g.below hb g.lt; have r2 := r.below hb r.lt; have B2 := B.trans (hb.mono B.size); clear hb; clear g r B; have g := g2; have r := r2; have B := B2; clear g2 r2 B2)
    | (go_at_call 26; refine (rising2 true _ _ _ E2 _ (by simp [go_sem]) (by simp [go_sem])).mono ?_; rintro e w2 ⟨rfl, hb⟩; have g2 := (g.alloc _).below hb (by have := g.lt; simp; omega); have r2 := (r.alloc _).below hb (by have := r.lt; simp; omega); have B2 := (B.alloc B.size _).trans (hb.mono (by have := B.size; simp; omega)); clear hb; clear g r B; have g := g2; have r := r2; have B := B2; clear g2 r2 B2)
    | (go_at_call 18; refine (flight_pv _ _ _ _ _ _ _ _ _ _ _ _ _ _).mono ?_; rintro e w2 ⟨rfl, hb⟩; have g2 := g.below hb g.lt; have r2 := r.below hb r.lt; have B2 := B.trans (hb.mono B.size); clear hb; clear g r B; have g := g2; have r := r2; have B := B2; clear g2 r2 B2)
    | (go_at_call 31; refine (adjusted_v L sl st _ _ _ _ _ _ _ _ _ _ _ _ _ _ _ hpq hcm hst htt eL es et _).mono ?_; rintro e w2 ⟨rfl, hb⟩; have g2 := g.below hb g.lt; have r2 := r.below hb r.lt; have B2 := B.trans (hb.mono B.size); clear hb; clear g r B; have g := g2; have r := r2; have B := B2; clear g2 r2 B2)
    | (go_at_call 27; refine (bounded_v NL _ _ _ _ _ _ _ _ _ _ _ _ _ eN _).mono ?_; rintro e w2 ⟨rfl, hb⟩; have g2 := g.below hb g.lt; have r2 := r.below hb r.lt; have x2 := x.below hb x.lt; have B2 := B.trans (hb.mono B.size); clear hb; clear g r x B; have g := g2; have r := r2; have x := x2; have B := B2; clear g2 r2 x2 B2)
    | (go_at_call 32; refine (excess_pv _ _ _ _ _ _ _ _ _ _ _ _ _ _).mono ?_; rintro e w2 ⟨rfl, hb⟩; have g2 := g.below hb g.lt; have r2 := r.below hb r.lt; have x2 := x.below hb x.lt; have B2 := B.trans (hb.mono B.size); clear hb; clear g r x B; have g := g2; have r := r2; have x := x2; have B := B2; clear g2 r2 x2 B2))
  refine ret_held2 r (by exact rfl) (by exact rfl) Try.underlying26 rfl dqlInfo ⟨?_, B⟩
  rfl
theorem complete_p (d : DQ) (n t : Int) (hf : d.Fits) (htt : 0 ≤ t ∧ t ≤ 18446744073709551615) (w : World) : Calls Try.prog 22 #[dq d, .int .u32 n, .int .u64 t] w fun e w' => e = .returned (.tuple #[dq (completeV d n t), .int .i64 (completeE d n)]) ∧ Below w.heap.size w w' := by
  rcases hr : d.rightB
  · refine (complete_p0 d.q d.adj d.last d.lim d.comp d.pov d.plast d.pq d.slack d.start d.hold d.mn d.mx n t hr w).mono fun e w' h => ⟨h.1.trans ?_, h.2⟩
    simp only [completeV, completeE, hr, Bool.false_and, cond_false]
    rfl
  · by_cases h2 : n ≤ DQ.fr d.comp d.q
    · have hq : decide (n ≤ d.flight) = true := decide_eq_true h2
      by_cases h3 : d.newL n t = d.lim
      · refine (complete_p2t (d.newL n t) _ _ _ d.q d.adj d.last d.lim d.comp d.pov d.plast d.pq d.slack d.start d.hold d.mn d.mx n t hf.pq hf.comp hf.start htt hr (decide_eq_true h2) rfl rfl rfl rfl (by simpa using h3) w).mono fun e w' h => ⟨h.1.trans ?_, h.2⟩
        rw [show (d.newL n t + (d.comp + n)) % 4294967296 = (d.newL n t + (d.comp + n) % 4294967296) % 4294967296 from by omega]
        simp only [completeV, completeE, hr, hq, Bool.and_true, cond_true, DQ.completed, if_pos h3]
        rfl
      · refine (complete_p2f (d.newL n t) _ _ _ d.q d.adj d.last d.lim d.comp d.pov d.plast d.pq d.slack d.start d.hold d.mn d.mx n t hf.pq hf.comp hf.start htt hr (decide_eq_true h2) rfl rfl rfl rfl (by simpa using h3) w).mono fun e w' h => ⟨h.1.trans ?_, h.2⟩
        rw [show (d.newL n t + (d.comp + n)) % 4294967296 = (d.newL n t + (d.comp + n) % 4294967296) % 4294967296 from by omega]
        simp only [completeV, completeE, hr, hq, Bool.and_true, cond_true, DQ.completed, if_neg h3]
        rfl
    · have hq : decide (n ≤ d.flight) = false := decide_eq_false h2
      refine (complete_p1 d.q d.adj d.last d.lim d.comp d.pov d.plast d.pq d.slack d.start d.hold d.mn d.mx n t hr (decide_eq_false h2) w).mono fun e w' h => ⟨h.1.trans ?_, h.2⟩
      simp only [completeV, completeE, hr, hq, Bool.and_false, cond_false, cond_true]
      rfl
end Go.Proofs.Ytfgaeaebchgcdaa
