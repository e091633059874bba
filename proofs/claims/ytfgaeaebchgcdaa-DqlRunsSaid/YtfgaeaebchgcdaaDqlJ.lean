/-
  The lowering step of dql's completing. Conditions: the boxes that it has taken hold the number and the time; the numbers fit their kinds.
-/
import Derived.Test.YtfgaeaebchgcdaaDqlI
namespace Go.Proofs.Ytfgaeaebchgcdaa
set_option linter.unusedSimpArgs false
set_option linter.unusedVariables false
open Go.ChangeShapes Go.WideShapes Go.ChangeAt Go.RowKit

set_option maxRecDepth 4000 in
set_option maxHeartbeats 4000000 in
theorem lowering1_no (q adj last lim comp pov plast pq slack start hold mn mx n t : Int) (bn bt : Nat) (hpq : 0 ≤ pq ∧ pq ≤ 4294967295) (hcm : 0 ≤ comp ∧ comp ≤ 4294967295) (hst : 0 ≤ start ∧ start ≤ 18446744073709551615) (htt : 0 ≤ t ∧ t ≤ 18446744073709551615) (hs : DQ.slackB (⟨q, adj, last, lim, comp, pov, plast, pq, slack, start, hold, mn, mx⟩ : DQ) n = false) (w : World) (hn : Held w bn 22 #[.int .u32 n]) (ht : Held w bt 23 #[.int .u64 t]) : Calls Try.prog 44 #[dqv q adj last lim comp pov plast pq slack start hold mn mx, .pointer (some ⟨bn, 0, none⟩), .pointer (some ⟨bt, 0, none⟩)] w fun e w' => e = .returned (.tuple #[dqv q adj last lim comp pov plast pq slack start hold mn mx, .bool false]) ∧ Below w.heap.size w w' := by
  have HU := Lib.hid hs
  clear hs
  go_enter Try.func44, Try.ntmps44
  go_upto_region 1 with (fail)
  obtain ⟨g, r, B⟩ := two_boxes w 26 26 (dqc q adj last lim comp pov plast pq slack start hold mn mx) (dqc 0 0 0 0 0 0 0 0 0 0 0 0 0)
  have hn1 := (hn.alloc (.cells (dqc q adj last lim comp pov plast pq slack start hold mn mx) 26)).alloc (.cells (dqc 0 0 0 0 0 0 0 0 0 0 0 0 0) 26)
  have ht1 := (ht.alloc (.cells (dqc q adj last lim comp pov plast pq slack start hold mn mx) 26)).alloc (.cells (dqc 0 0 0 0 0 0 0 0 0 0 0 0 0) 26)
  have ln := hn.lt
  have lt := ht.lt
  generalize (w.alloc (.cells (dqc q adj last lim comp pov plast pq slack start hold mn mx) 26)).alloc (.cells (dqc 0 0 0 0 0 0 0 0 0 0 0 0 0) 26) = w1 at g r B hn1 ht1 ⊢
  clear hn ht
  have hn := hn1
  have ht := ht1
  clear hn1 ht1
  go_cut [21] (fun s21 wx => s21 = .bool (!DQ.slackB (⟨q, adj, last, lim, comp, pov, plast, pq, slack, start, hold, mn, mx⟩ : DQ) n) ∧ Held wx w.heap.size 26 (dqc q adj last lim comp pov plast pq slack start hold mn mx) ∧ Held wx (w.heap.size + 1) 26 (dqc 0 0 0 0 0 0 0 0 0 0 0 0 0) ∧ Held wx bn 22 #[.int .u32 n] ∧ Held wx bt 23 #[.int .u64 t] ∧ Below w.heap.size w wx)
  case first =>
    have hE : DQ.slackB (⟨q, adj, last, lim, comp, pov, plast, pq, slack, start, hold, mn, mx⟩ : DQ) n = ((decide (DQ.fr ((comp + n) % 4294967296) q ≠ 0) && decide (pq ≠ comp)) && DQ.ah ((comp + n) % 4294967296) pq) := by
      have h5 : ((pq - comp) % 4294967296 ≠ 0) = (pq ≠ comp) := by rw [eq_iff_iff]; omega
      show ((decide (DQ.fr ((comp + n) % 4294967296) q ≠ 0) && decide ((pq - comp) % 4294967296 ≠ 0)) && DQ.ah ((comp + n) % 4294967296) pq) = _
      simp only [h5]
    have HE := Lib.hid hE
    clear hE
    by_cases h2 : DQ.fr ((comp + n) % 4294967296) q = 0
    · have H2 := Lib.hid h2
      go_wp2_with (first
    | go_skip
    | ((with_reducible show wpList _ _ _ (⟨_, .load 26 _, _, _, _, _⟩ :: _) _ _); refine load_held g (by first | exact wanted_none rfl | exact wanted_some rfl rfl rfl rfl) (by exact rfl) (by exact rfl) Try.underlying26 rfl dqlInfo ?_)
    | ((with_reducible show wpList _ _ _ (⟨_, .load _ _, _, _, _, _⟩ :: _) _ _); refine load_fld g (by first | exact wanted_none rfl | exact wanted_some rfl rfl rfl rfl) (by exact rfl) (by exact rfl) (by first | exact Try.underlying22 | exact Try.underlying23) rfl (by exact rfl) ?_)
    | ((with_reducible show wpList _ _ _ (⟨_, .load _ _, _, _, _, _⟩ :: _) _ _); refine load_fld hn (by first | exact wanted_none rfl | exact wanted_some rfl rfl rfl rfl) (by exact rfl) (by exact rfl) (by first | exact Try.underlying22 | exact Try.underlying23) rfl (by exact rfl) ?_)
    | ((with_reducible show wpList _ _ _ (⟨_, .load _ _, _, _, _, _⟩ :: _) _ _); refine load_fld ht (by first | exact wanted_none rfl | exact wanted_some rfl rfl rfl rfl) (by exact rfl) (by exact rfl) (by first | exact Try.underlying22 | exact Try.underlying23) rfl (by exact rfl) ?_)
    | ((with_reducible show wpList _ _ _ (⟨_, .store 26 _ _, _, _, _, _⟩ :: _) _ _); refine store_held r (by first | exact wanted_none rfl | exact wanted_some rfl rfl rfl rfl) (by exact rfl) (by exact rfl) (by exact rfl) (by exact dqlInfo) (by exact rfl) (by exact rfl) ?_; intro w2 r2 F2; have g2 := g.foot F2 (by omega); have hn2 := hn.foot F2 (by omega); have ht2 := ht.foot F2 (by omega); have B2 := below_foot B F2 (by omega) (Nat.le_refl _); clear F2; clear r g hn ht B; have r := r2; have g := g2; have hn := hn2; have ht := ht2; have B := B2; clear r2 g2 hn2 ht2 B2)
    | ((with_reducible show wpList _ _ _ (⟨_, .store 26 _ _, _, _, _, _⟩ :: _) _ _); refine store_held g (by first | exact wanted_none rfl | exact wanted_some rfl rfl rfl rfl) (by exact rfl) (by exact rfl) (by exact rfl) (by exact dqlInfo) (by exact rfl) (by exact rfl) ?_; intro w2 g2 F2; have r2 := r.foot F2 (by omega); have hn2 := hn.foot F2 (by omega); have ht2 := ht.foot F2 (by omega); have B2 := below_foot B F2 (by omega) (Nat.le_refl _); clear F2; clear g r hn ht B; have g := g2; have r := r2; have hn := hn2; have ht := ht2; have B := B2; clear g2 r2 hn2 ht2 B2)
    | ((with_reducible show wpList _ _ _ (⟨_, .store _ _ _, _, _, _, _⟩ :: _) _ _); refine store_fld g (by first | exact wanted_none rfl | exact wanted_some rfl rfl rfl rfl) (by exact rfl) (by exact rfl) (by exact rfl) (by first | exact infoU32 | exact infoU64) (by exact rfl) (by exact rfl) ?_; intro w2 g2 F2; simp only [List.setIfInBounds_toArray, List.set_cons_succ, List.set_cons_zero] at g2; have r2 := r.foot F2 (by omega); have hn2 := hn.foot F2 (by omega); have ht2 := ht.foot F2 (by omega); have B2 := below_foot B F2 (by omega) (Nat.le_refl _); clear F2; clear g r hn ht B; have g := g2; have r := r2; have hn := hn2; have ht := ht2; have B := B2; clear g2 r2 hn2 ht2 B2)
    | (go_at_call 32; refine (excess_pv _ _ _ _ _ _ _ _ _ _ _ _ _ _).mono ?_; rintro e w2 ⟨rfl, hb⟩; have g2 := g.below hb g.lt; have r2 := r.below hb r.lt; have hn2 := hn.below hb hn.lt; have ht2 := ht.below hb ht.lt; have B2 := B.trans (hb.mono B.size); clear hb; clear g r hn ht B; have g := g2; have r := r2; have hn := hn2; have ht := ht2; have B := B2; clear g2 r2 hn2 ht2 B2)
    | (go_at_call 41; refine (remaining_pv _ _ _ _ _ _ _ _ _ _ _ _ _ _ _).mono ?_; rintro e w2 ⟨rfl, hb⟩; have g2 := g.below hb g.lt; have r2 := r.below hb r.lt; have hn2 := hn.below hb hn.lt; have ht2 := ht.below hb ht.lt; have B2 := B.trans (hb.mono B.size); clear hb; clear g r hn ht B; have g := g2; have r := r2; have hn := hn2; have ht := ht2; have B := B2; clear g2 r2 hn2 ht2 B2)
    | (go_at_call 42; refine (allPrevious_pv _ _ _ _ _ _ _ _ _ _ _ _ _ _ _).mono ?_; rintro e w2 ⟨rfl, hb⟩; have g2 := g.below hb g.lt; have r2 := r.below hb r.lt; have hn2 := hn.below hb hn.lt; have ht2 := ht.below hb ht.lt; have B2 := B.trans (hb.mono B.size); clear hb; clear g r hn ht B; have g := g2; have r := r2; have hn := hn2; have ht := ht2; have B := B2; clear g2 r2 hn2 ht2 B2)
    | (go_at_call 43; refine (restarted_pv _ _ _ _ _ _ _ _ _ _ _ _ _ _ _).mono ?_; rintro e w2 ⟨rfl, hb⟩; have g2 := g.below hb g.lt; have r2 := r.below hb r.lt; have hn2 := hn.below hb hn.lt; have ht2 := ht.below hb ht.lt; have B2 := B.trans (hb.mono B.size); clear hb; clear g r hn ht B; have g := g2; have r := r2; have hn := hn2; have ht := ht2; have B := B2; clear g2 r2 hn2 ht2 B2)
    | (go_at_call 45; refine (slack_pv _ _ _ _ _ _ _ _ _ _ _ _ _ _ _).mono ?_; rintro e w2 ⟨rfl, hb⟩; have g2 := g.below hb g.lt; have r2 := r.below hb r.lt; have hn2 := hn.below hb hn.lt; have ht2 := ht.below hb ht.lt; have B2 := B.trans (hb.mono B.size); clear hb; clear g r hn ht B; have g := g2; have r := r2; have hn := hn2; have ht := ht2; have B := B2; clear g2 r2 hn2 ht2 B2)
    | (go_at_call 38; refine (over_g _ _ _).mono ?_; rintro e w' ⟨rfl, rfl⟩))
      go_meet
      case rel => exact ⟨congrArg Value.bool (by rw [HE.out]; simp [H2.out]), g, r, hn, ht, B⟩
    · have e2 : (DQ.fr ((comp + n) % 4294967296) q == 0) = false := by simpa using h2
      by_cases h3 : pq = comp
      · have H2 := Lib.hid h2
        have H3 := Lib.hid h3
        have e3 : (pq == comp) = true := by simpa using h3
        clear h3
        go_wp2_with (first
    | go_skip
    | ((with_reducible show wpList _ _ _ (⟨_, .load 26 _, _, _, _, _⟩ :: _) _ _); refine load_held g (by first | exact wanted_none rfl | exact wanted_some rfl rfl rfl rfl) (by exact rfl) (by exact rfl) Try.underlying26 rfl dqlInfo ?_)
    | ((with_reducible show wpList _ _ _ (⟨_, .load _ _, _, _, _, _⟩ :: _) _ _); refine load_fld g (by first | exact wanted_none rfl | exact wanted_some rfl rfl rfl rfl) (by exact rfl) (by exact rfl) (by first | exact Try.underlying22 | exact Try.underlying23) rfl (by exact rfl) ?_)
    | ((with_reducible show wpList _ _ _ (⟨_, .load _ _, _, _, _, _⟩ :: _) _ _); refine load_fld hn (by first | exact wanted_none rfl | exact wanted_some rfl rfl rfl rfl) (by exact rfl) (by exact rfl) (by first | exact Try.underlying22 | exact Try.underlying23) rfl (by exact rfl) ?_)
    | ((with_reducible show wpList _ _ _ (⟨_, .load _ _, _, _, _, _⟩ :: _) _ _); refine load_fld ht (by first | exact wanted_none rfl | exact wanted_some rfl rfl rfl rfl) (by exact rfl) (by exact rfl) (by first | exact Try.underlying22 | exact Try.underlying23) rfl (by exact rfl) ?_)
    | ((with_reducible show wpList _ _ _ (⟨_, .store 26 _ _, _, _, _, _⟩ :: _) _ _); refine store_held r (by first | exact wanted_none rfl | exact wanted_some rfl rfl rfl rfl) (by exact rfl) (by exact rfl) (by exact rfl) (by exact dqlInfo) (by exact rfl) (by exact rfl) ?_; intro w2 r2 F2; have g2 := g.foot F2 (by omega); have hn2 := hn.foot F2 (by omega); have ht2 := ht.foot F2 (by omega); have B2 := below_foot B F2 (by omega) (Nat.le_refl _); clear F2; clear r g hn ht B; have r := r2; have g := g2; have hn := hn2; have ht := ht2; have B := B2; clear r2 g2 hn2 ht2 B2)
    | ((with_reducible show wpList _ _ _ (⟨_, .store 26 _ _, _, _, _, _⟩ :: _) _ _); refine store_held g (by first | exact wanted_none rfl | exact wanted_some rfl rfl rfl rfl) (by exact rfl) (by exact rfl) (by exact rfl) (by exact dqlInfo) (by exact rfl) (by exact rfl) ?_; intro w2 g2 F2; have r2 := r.foot F2 (by omega); have hn2 := hn.foot F2 (by omega); have ht2 := ht.foot F2 (by omega); have B2 := below_foot B F2 (by omega) (Nat.le_refl _); clear F2; clear g r hn ht B; have g := g2; have r := r2; have hn := hn2; have ht := ht2; have B := B2; clear g2 r2 hn2 ht2 B2)
    | ((with_reducible show wpList _ _ _ (⟨_, .store _ _ _, _, _, _, _⟩ :: _) _ _); refine store_fld g (by first | exact wanted_none rfl | exact wanted_some rfl rfl rfl rfl) (by exact rfl) (by exact rfl) (by exact rfl) (by first | exact infoU32 | exact infoU64) (by exact rfl) (by exact rfl) ?_; intro w2 g2 F2; simp only [List.setIfInBounds_toArray, List.set_cons_succ, List.set_cons_zero] at g2; have r2 := r.foot F2 (by omega); have hn2 := hn.foot F2 (by omega); have ht2 := ht.foot F2 (by omega); have B2 := below_foot B F2 (by omega) (Nat.le_refl _); clear F2; clear g r hn ht B; have g := g2; have r := r2; have hn := hn2; have ht := ht2; have B := B2; clear g2 r2 hn2 ht2 B2)
    | (go_at_call 32; refine (excess_pv _ _ _ _ _ _ _ _ _ _ _ _ _ _).mono ?_; rintro e w2 ⟨rfl, hb⟩; have g2 := g.below hb g.lt; have r2 := r.below hb r.lt; have hn2 := hn.below hb hn.lt; have ht2 := ht.below hb ht.lt; have B2 := B.trans (hb.mono B.size); clear hb; clear g r hn ht B; have g := g2; have r := r2; have hn := hn2; have ht := ht2; have B := B2; clear g2 r2 hn2 ht2 B2)
    | (go_at_call 41; refine (remaining_pv _ _ _ _ _ _ _ _ _ _ _ _ _ _ _).mono ?_; rintro e w2 ⟨rfl, hb⟩; have g2 := g.below hb g.lt; have r2 := r.below hb r.lt; have hn2 := hn.below hb hn.lt; have ht2 := ht.below hb ht.lt; have B2 := B.trans (hb.mono B.size); clear hb; clear g r hn ht B; have g := g2; have r := r2; have hn := hn2; have ht := ht2; have B := B2; clear g2 r2 hn2 ht2 B2)
    | (go_at_call 42; refine (allPrevious_pv _ _ _ _ _ _ _ _ _ _ _ _ _ _ _).mono ?_; rintro e w2 ⟨rfl, hb⟩; have g2 := g.below hb g.lt; have r2 := r.below hb r.lt; have hn2 := hn.below hb hn.lt; have ht2 := ht.below hb ht.lt; have B2 := B.trans (hb.mono B.size); clear hb; clear g r hn ht B; have g := g2; have r := r2; have hn := hn2; have ht := ht2; have B := B2; clear g2 r2 hn2 ht2 B2)
    | (go_at_call 43; refine (restarted_pv _ _ _ _ _ _ _ _ _ _ _ _ _ _ _).mono ?_; rintro e w2 ⟨rfl, hb⟩; have g2 := g.below hb g.lt; have r2 := r.below hb r.lt; have hn2 := hn.below hb hn.lt; have ht2 := ht.below hb ht.lt; have B2 := B.trans (hb.mono B.size); clear hb; clear g r hn ht B; have g := g2; have r := r2; have hn := hn2; have ht := ht2; have B := B2; clear g2 r2 hn2 ht2 B2)
    | (go_at_call 45; refine (slack_pv _ _ _ _ _ _ _ _ _ _ _ _ _ _ _).mono ?_; rintro e w2 ⟨rfl, hb⟩; have g2 := g.below hb g.lt; have r2 := r.below hb r.lt; have hn2 := hn.below hb hn.lt; have ht2 := ht.below hb ht.lt; have B2 := B.trans (hb.mono B.size); clear hb; clear g r hn ht B; have g := g2; have r := r2; have hn := hn2; have ht := ht2; have B := B2; clear g2 r2 hn2 ht2 B2)
    | (go_at_call 38; refine (over_g _ _ _).mono ?_; rintro e w' ⟨rfl, rfl⟩))
        go_meet
        case rel => exact ⟨congrArg Value.bool (by rw [HE.out]; simp [H3.out]), by first | exact g | (rw [H3.out]; exact g) | (rw [← H3.out]; exact g), r, hn, ht, B⟩
      · have e3 : (pq == comp) = false := by simpa using h3
        rcases h4 : DQ.ah ((comp + n) % 4294967296) pq
        all_goals
          have H2 := Lib.hid h2
          have H3 := Lib.hid h3
          go_wp2_with (first
    | go_skip
    | ((with_reducible show wpList _ _ _ (⟨_, .load 26 _, _, _, _, _⟩ :: _) _ _); refine load_held g (by first | exact wanted_none rfl | exact wanted_some rfl rfl rfl rfl) (by exact rfl) (by exact rfl) Try.underlying26 rfl dqlInfo ?_)
    | ((with_reducible show wpList _ _ _ (⟨_, .load _ _, _, _, _, _⟩ :: _) _ _); refine load_fld g (by first | exact wanted_none rfl | exact wanted_some rfl rfl rfl rfl) (by exact rfl) (by exact rfl) (by first | exact Try.underlying22 | exact Try.underlying23) rfl (by exact rfl) ?_)
    | ((with_reducible show wpList _ _ _ (⟨_, .load _ _, _, _, _, _⟩ :: _) _ _); refine load_fld hn (by first | exact wanted_none rfl | exact wanted_some rfl rfl rfl rfl) (by exact rfl) (by exact rfl) (by first | exact Try.underlying22 | exact Try.underlying23) rfl (by exact rfl) ?_)
    | ((with_reducible show wpList _ _ _ (⟨_, .load _ _, _, _, _, _⟩ :: _) _ _); refine load_fld ht (by first | exact wanted_none rfl | exact wanted_some rfl rfl rfl rfl) (by exact rfl) (by exact rfl) (by first | exact Try.underlying22 | exact Try.underlying23) rfl (by exact rfl) ?_)
    | ((with_reducible show wpList _ _ _ (⟨_, .store 26 _ _, _, _, _, _⟩ :: _) _ _); refine store_held r (by first | exact wanted_none rfl | exact wanted_some rfl rfl rfl rfl) (by exact rfl) (by exact rfl) (by exact rfl) (by exact dqlInfo) (by exact rfl) (by exact rfl) ?_; intro w2 r2 F2; have g2 := g.foot F2 (by omega); have hn2 := hn.foot F2 (by omega); have ht2 := ht.foot F2 (by omega); have B2 := below_foot B F2 (by omega) (Nat.le_refl _); clear F2; clear r g hn ht B; have r := r2; have g := g2; have hn := hn2; have ht := ht2; have B := B2; clear r2 g2 hn2 ht2 B2)
    | ((with_reducible show wpList _ _ _ (⟨_, .store 26 _ _, _, _, _, _⟩ :: _) _ _); refine store_held g (by first | exact wanted_none rfl | exact wanted_some rfl rfl rfl rfl) (by exact rfl) (by exact rfl) (by exact rfl) (by exact dqlInfo) (by exact rfl) (by exact rfl) ?_; intro w2 g2 F2; have r2 := r.foot F2 (by omega); have hn2 := hn.foot F2 (by omega); have ht2 := ht.foot F2 (by omega); have B2 := below_foot B F2 (by omega) (Nat.le_refl _); clear F2; clear g r hn ht B; have g := g2; have r := r2; have hn := hn2; have ht := ht2; have B := B2; clear g2 r2 hn2 ht2 B2)
    | ((with_reducible show wpList _ _ _ (⟨_, .store _ _ _, _, _, _, _⟩ :: _) _ _); refine store_fld g (by first | exact wanted_none rfl | exact wanted_some rfl rfl rfl rfl) (by exact rfl) (by exact rfl) (by exact rfl) (by first | exact infoU32 | exact infoU64) (by exact rfl) (by exact rfl) ?_; intro w2 g2 F2; simp only [List.setIfInBounds_toArray, List.set_cons_succ, List.set_cons_zero] at g2; have r2 := r.foot F2 (by omega); have hn2 := hn.foot F2 (by omega); have ht2 := ht.foot F2 (by omega); have B2 := below_foot B F2 (by omega) (Nat.le_refl _); clear F2; clear g r hn ht B; have g := g2; have r := r2; have hn := hn2; have ht := ht2; have B := B2; clear g2 r2 hn2 ht2 B2)
    | (go_at_call 32; refine (excess_pv _ _ _ _ _ _ _ _ _ _ _ _ _ _).mono ?_; rintro e w2 ⟨rfl, hb⟩; have g2 := g.below hb g.lt; have r2 := r.below hb r.lt; have hn2 := hn.below hb hn.lt; have ht2 := ht.below hb ht.lt; have B2 := B.trans (hb.mono B.size); clear hb; clear g r hn ht B; have g := g2; have r := r2; have hn := hn2; have ht := ht2; have B := B2; clear g2 r2 hn2 ht2 B2)
    | (go_at_call 41; refine (remaining_pv _ _ _ _ _ _ _ _ _ _ _ _ _ _ _).mono ?_; rintro e w2 ⟨rfl, hb⟩; have g2 := g.below hb g.lt; have r2 := r.below hb r.lt; have hn2 := hn.below hb hn.lt; have ht2 := ht.below hb ht.lt; have B2 := B.trans (hb.mono B.size); clear hb; clear g r hn ht B; have g := g2; have r := r2; have hn := hn2; have ht := ht2; have B := B2; clear g2 r2 hn2 ht2 B2)
    | (go_at_call 42; refine (allPrevious_pv _ _ _ _ _ _ _ _ _ _ _ _ _ _ _).mono ?_; rintro e w2 ⟨rfl, hb⟩; have g2 := g.below hb g.lt; have r2 := r.below hb r.lt; have hn2 := hn.below hb hn.lt; have ht2 := ht.below hb ht.lt; have B2 := B.trans (hb.mono B.size); clear hb; clear g r hn ht B; have g := g2; have r := r2; have hn := hn2; have ht := ht2; have B := B2; clear g2 r2 hn2 ht2 B2)
    | (go_at_call 43; refine (restarted_pv _ _ _ _ _ _ _ _ _ _ _ _ _ _ _).mono ?_; rintro e w2 ⟨rfl, hb⟩; have g2 := g.below hb g.lt; have r2 := r.below hb r.lt; have hn2 := hn.below hb hn.lt; have ht2 := ht.below hb ht.lt; have B2 := B.trans (hb.mono B.size); clear hb; clear g r hn ht B; have g := g2; have r := r2; have hn := hn2; have ht := ht2; have B := B2; clear g2 r2 hn2 ht2 B2)
    | (go_at_call 45; refine (slack_pv _ _ _ _ _ _ _ _ _ _ _ _ _ _ _).mono ?_; rintro e w2 ⟨rfl, hb⟩; have g2 := g.below hb g.lt; have r2 := r.below hb r.lt; have hn2 := hn.below hb hn.lt; have ht2 := ht.below hb ht.lt; have B2 := B.trans (hb.mono B.size); clear hb; clear g r hn ht B; have g := g2; have r := r2; have hn := hn2; have ht := ht2; have B := B2; clear g2 r2 hn2 ht2 B2)
    | (go_at_call 38; refine (over_g _ _ _).mono ?_; rintro e w' ⟨rfl, rfl⟩))
          go_meet
          case rel =>
            have h2 := H2.out
            have h3 := H3.out
            exact ⟨congrArg Value.bool (by rw [HE.out]; simp [h2, h3, h4]), g, r, hn, ht, B⟩
  case rest =>
    clear g r hn ht B
    obtain ⟨rfl, g, r, hn, ht, B⟩ := hcut
    rw [HU.out]
    go_wp2_with (first
    | go_skip
    | ((with_reducible show wpList _ _ _ (⟨_, .load 26 _, _, _, _, _⟩ :: _) _ _); refine load_held g (by first | exact wanted_none rfl | exact wanted_some rfl rfl rfl rfl) (by exact rfl) (by exact rfl) Try.underlying26 rfl dqlInfo ?_)
    | ((with_reducible show wpList _ _ _ (⟨_, .load _ _, _, _, _, _⟩ :: _) _ _); refine load_fld g (by first | exact wanted_none rfl | exact wanted_some rfl rfl rfl rfl) (by exact rfl) (by exact rfl) (by first | exact Try.underlying22 | exact Try.underlying23) rfl (by exact rfl) ?_)
    | ((with_reducible show wpList _ _ _ (⟨_, .load _ _, _, _, _, _⟩ :: _) _ _); refine load_fld hn (by first | exact wanted_none rfl | exact wanted_some rfl rfl rfl rfl) (by exact rfl) (by exact rfl) (by first | exact Try.underlying22 | exact Try.underlying23) rfl (by exact rfl) ?_)
    | ((with_reducible show wpList _ _ _ (⟨_, .load _ _, _, _, _, _⟩ :: _) _ _); refine load_fld ht (by first | exact wanted_none rfl | exact wanted_some rfl rfl rfl rfl) (by exact rfl) (by exact rfl) (by first | exact Try.underlying22 | exact Try.underlying23) rfl (by exact rfl) ?_)
    | ((with_reducible show wpList _ _ _ (⟨_, .store 26 _ _, _, _, _, _⟩ :: _) _ _); refine store_held r (by first | exact wanted_none rfl | exact wanted_some rfl rfl rfl rfl) (by exact rfl) (by exact rfl) (by exact rfl) (by exact dqlInfo) (by exact rfl) (by exact rfl) ?_; intro w2 r2 F2; have g2 := g.foot F2 (by omega); have hn2 := hn.foot F2 (by omega); have ht2 := ht.foot F2 (by omega); have B2 := below_foot B F2 (by omega) (Nat.le_refl _); clear F2; clear r g hn ht B; have r := r2; have g := g2; have hn := hn2; have ht := ht2; have B := B2; clear r2 g2 hn2 ht2 B2)
    | ((with_reducible show wpList _ _ _ (⟨_, .store 26 _ _, _, _, _, _⟩ :: _) _ _); refine store_held g (by first | exact wanted_none rfl | exact wanted_some rfl rfl rfl rfl) (by exact rfl) (by exact rfl) (by exact rfl) (by exact dqlInfo) (by exact rfl) (by exact rfl) ?_; intro w2 g2 F2; have r2 := r.foot F2 (by omega); have hn2 := hn.foot F2 (by omega); have ht2 := ht.foot F2 (by omega); have B2 := below_foot B F2 (by omega) (Nat.le_refl _); clear F2; clear g r hn ht B; have g := g2; have r := r2; have hn := hn2; have ht := ht2; have B := B2; clear g2 r2 hn2 ht2 B2)
    | ((with_reducible show wpList _ _ _ (⟨_, .store _ _ _, _, _, _, _⟩ :: _) _ _); refine store_fld g (by first | exact wanted_none rfl | exact wanted_some rfl rfl rfl rfl) (by exact rfl) (by exact rfl) (by exact rfl) (by first | exact infoU32 | exact infoU64) (by exact rfl) (by exact rfl) ?_; intro w2 g2 F2; simp only [List.setIfInBounds_toArray, List.set_cons_succ, List.set_cons_zero] at g2; have r2 := r.foot F2 (by omega); have hn2 := hn.foot F2 (by omega); have ht2 := ht.foot F2 (by omega); have B2 := below_foot B F2 (by omega) (Nat.le_refl _); clear F2; clear g r hn ht B; have g := g2; have r := r2; have hn := hn2; have ht := ht2; have B := B2; clear g2 r2 hn2 ht2 B2)
    | (go_at_call 32; refine (excess_pv _ _ _ _ _ _ _ _ _ _ _ _ _ _).mono ?_; rintro e w2 ⟨rfl, hb⟩; have g2 := g.below hb g.lt; have r2 := r.below hb r.lt; have hn2 := hn.below hb hn.lt; have ht2 := ht.below hb ht.lt; have B2 := B.trans (hb.mono B.size); clear hb; clear g r hn ht B; have g := g2; have r := r2; have hn := hn2; have ht := ht2; have B := B2; clear g2 r2 hn2 ht2 B2)
    | (go_at_call 41; refine (remaining_pv _ _ _ _ _ _ _ _ _ _ _ _ _ _ _).mono ?_; rintro e w2 ⟨rfl, hb⟩; have g2 := g.below hb g.lt; have r2 := r.below hb r.lt; have hn2 := hn.below hb hn.lt; have ht2 := ht.below hb ht.lt; have B2 := B.trans (hb.mono B.size); clear hb; clear g r hn ht B; have g := g2; have r := r2; have hn := hn2; have ht := ht2; have B := B2; clear g2 r2 hn2 ht2 B2)
    | (go_at_call 42; refine (allPrevious_pv _ _ _ _ _ _ _ _ _ _ _ _ _ _ _).mono ?_; rintro e w2 ⟨rfl, hb⟩; have g2 := g.below hb g.lt; have r2 := r.below hb r.lt; have hn2 := hn.below hb hn.lt; have ht2 := ht.below hb ht.lt; have B2 := B.trans (hb.mono B.size); clear hb; clear g r hn ht B; have g := g2; have r := r2; have hn := hn2; have ht := ht2; have B := B2; clear g2 r2 hn2 ht2 B2)
    | (go_at_call 43; refine (restarted_pv _ _ _ _ _ _ _ _ _ _ _ _ _ _ _).mono ?_; rintro e w2 ⟨rfl, hb⟩; have g2 := g.below hb g.lt; have r2 := r.below hb r.lt; have hn2 := hn.below hb hn.lt; have ht2 := ht.below hb ht.lt; have B2 := B.trans (hb.mono B.size); clear hb; clear g r hn ht B; have g := g2; have r := r2; have hn := hn2; have ht := ht2; have B := B2; clear g2 r2 hn2 ht2 B2)
    | (go_at_call 45; refine (slack_pv _ _ _ _ _ _ _ _ _ _ _ _ _ _ _).mono ?_; rintro e w2 ⟨rfl, hb⟩; have g2 := g.below hb g.lt; have r2 := r.below hb r.lt; have hn2 := hn.below hb hn.lt; have ht2 := ht.below hb ht.lt; have B2 := B.trans (hb.mono B.size); clear hb; clear g r hn ht B; have g := g2; have r := r2; have hn := hn2; have ht := ht2; have B := B2; clear g2 r2 hn2 ht2 B2)
    | (go_at_call 38; refine (over_g _ _ _).mono ?_; rintro e w' ⟨rfl, rfl⟩))
    refine ret_held2 r (by exact rfl) (by exact rfl) Try.underlying26 rfl dqlInfo ⟨?_, B⟩
    rfl
set_option maxRecDepth 4000 in
set_option maxHeartbeats 4000000 in
theorem lowering1_keep (q adj last lim comp pov plast pq slack start hold mn mx n t : Int) (bn bt : Nat) (hpq : 0 ≤ pq ∧ pq ≤ 4294967295) (hcm : 0 ≤ comp ∧ comp ≤ 4294967295) (hst : 0 ≤ start ∧ start ≤ 18446744073709551615) (htt : 0 ≤ t ∧ t ≤ 18446744073709551615) (hs : DQ.slackB (⟨q, adj, last, lim, comp, pov, plast, pq, slack, start, hold, mn, mx⟩ : DQ) n = true) (hd : DQ.dueB (⟨q, adj, last, lim, comp, pov, plast, pq, slack, start, hold, mn, mx⟩ : DQ) t = false) (w : World) (hn : Held w bn 22 #[.int .u32 n]) (ht : Held w bt 23 #[.int .u64 t]) : Calls Try.prog 44 #[dqv q adj last lim comp pov plast pq slack start hold mn mx, .pointer (some ⟨bn, 0, none⟩), .pointer (some ⟨bt, 0, none⟩)] w fun e w' => e = .returned (.tuple #[dqv q adj last lim comp pov plast pq (DQ.slackN (⟨q, adj, last, lim, comp, pov, plast, pq, slack, start, hold, mn, mx⟩ : DQ) n) start hold mn mx, .bool true]) ∧ Below w.heap.size w w' := by
  have HU := Lib.hid hs
  clear hs
  have HD := Lib.hid hd
  clear hd
  go_enter Try.func44, Try.ntmps44
  go_upto_region 1 with (fail)
  obtain ⟨g, r, B⟩ := two_boxes w 26 26 (dqc q adj last lim comp pov plast pq slack start hold mn mx) (dqc 0 0 0 0 0 0 0 0 0 0 0 0 0)
  have hn1 := (hn.alloc (.cells (dqc q adj last lim comp pov plast pq slack start hold mn mx) 26)).alloc (.cells (dqc 0 0 0 0 0 0 0 0 0 0 0 0 0) 26)
  have ht1 := (ht.alloc (.cells (dqc q adj last lim comp pov plast pq slack start hold mn mx) 26)).alloc (.cells (dqc 0 0 0 0 0 0 0 0 0 0 0 0 0) 26)
  have ln := hn.lt
  have lt := ht.lt
  generalize (w.alloc (.cells (dqc q adj last lim comp pov plast pq slack start hold mn mx) 26)).alloc (.cells (dqc 0 0 0 0 0 0 0 0 0 0 0 0 0) 26) = w1 at g r B hn1 ht1 ⊢
  clear hn ht
  have hn := hn1
  have ht := ht1
  clear hn1 ht1
  go_cut [21] (fun s21 wx => s21 = .bool (!DQ.slackB (⟨q, adj, last, lim, comp, pov, plast, pq, slack, start, hold, mn, mx⟩ : DQ) n) ∧ Held wx w.heap.size 26 (dqc q adj last lim comp pov plast pq slack start hold mn mx) ∧ Held wx (w.heap.size + 1) 26 (dqc 0 0 0 0 0 0 0 0 0 0 0 0 0) ∧ Held wx bn 22 #[.int .u32 n] ∧ Held wx bt 23 #[.int .u64 t] ∧ Below w.heap.size w wx)
  case first =>
    have hE : DQ.slackB (⟨q, adj, last, lim, comp, pov, plast, pq, slack, start, hold, mn, mx⟩ : DQ) n = ((decide (DQ.fr ((comp + n) % 4294967296) q ≠ 0) && decide (pq ≠ comp)) && DQ.ah ((comp + n) % 4294967296) pq) := by
      have h5 : ((pq - comp) % 4294967296 ≠ 0) = (pq ≠ comp) := by rw [eq_iff_iff]; omega
      show ((decide (DQ.fr ((comp + n) % 4294967296) q ≠ 0) && decide ((pq - comp) % 4294967296 ≠ 0)) && DQ.ah ((comp + n) % 4294967296) pq) = _
      simp only [h5]
    have HE := Lib.hid hE
    clear hE
    by_cases h2 : DQ.fr ((comp + n) % 4294967296) q = 0
    · have H2 := Lib.hid h2
      go_wp2_with (first
    | go_skip
    | ((with_reducible show wpList _ _ _ (⟨_, .load 26 _, _, _, _, _⟩ :: _) _ _); refine load_held g (by first | exact wanted_none rfl | exact wanted_some rfl rfl rfl rfl) (by exact rfl) (by exact rfl) Try.underlying26 rfl dqlInfo ?_)
    | ((with_reducible show wpList _ _ _ (⟨_, .load _ _, _, _, _, _⟩ :: _) _ _); refine load_fld g (by first | exact wanted_none rfl | exact wanted_some rfl rfl rfl rfl) (by exact rfl) (by exact rfl) (by first | exact Try.underlying22 | exact Try.underlying23) rfl (by exact rfl) ?_)
    | ((with_reducible show wpList _ _ _ (⟨_, .load _ _, _, _, _, _⟩ :: _) _ _); refine load_fld hn (by first | exact wanted_none rfl | exact wanted_some rfl rfl rfl rfl) (by exact rfl) (by exact rfl) (by first | exact Try.underlying22 | exact Try.underlying23) rfl (by exact rfl) ?_)
    | ((with_reducible show wpList _ _ _ (⟨_, .load _ _, _, _, _, _⟩ :: _) _ _); refine load_fld ht (by first | exact wanted_none rfl | exact wanted_some rfl rfl rfl rfl) (by exact rfl) (by exact rfl) (by first | exact Try.underlying22 | exact Try.underlying23) rfl (by exact rfl) ?_)
    | ((with_reducible show wpList _ _ _ (⟨_, .store 26 _ _, _, _, _, _⟩ :: _) _ _); refine store_held r (by first | exact wanted_none rfl | exact wanted_some rfl rfl rfl rfl) (by exact rfl) (by exact rfl) (by exact rfl) (by exact dqlInfo) (by exact rfl) (by exact rfl) ?_; intro w2 r2 F2; have g2 := g.foot F2 (by omega); have hn2 := hn.foot F2 (by omega); have ht2 := ht.foot F2 (by omega); have B2 := below_foot B F2 (by omega) (Nat.le_refl _); clear F2; clear r g hn ht B; have r := r2; have g := g2; have hn := hn2; have ht := ht2; have B := B2; clear r2 g2 hn2 ht2 B2)
    | ((with_reducible show wpList _ _ _ (⟨_, .store 26 _ _, _, _, _, _⟩ :: _) _ _); refine store_held g (by first | exact wanted_none rfl | exact wanted_some rfl rfl rfl rfl) (by exact rfl) (by exact rfl) (by exact rfl) (by exact dqlInfo) (by exact rfl) (by exact rfl) ?_; intro w2 g2 F2; have r2 := r.foot F2 (by omega); have hn2 := hn.foot F2 (by omega); have ht2 := ht.foot F2 (by omega); have B2 := below_foot B F2 (by omega) (Nat.le_refl _); clear F2; clear g r hn ht B; have g := g2; have r := r2; have hn := hn2; have ht := ht2; have B := B2; clear g2 r2 hn2 ht2 B2)
    | ((with_reducible show wpList _ _ _ (⟨_, .store _ _ _, _, _, _, _⟩ :: _) _ _); refine store_fld g (by first | exact wanted_none rfl | exact wanted_some rfl rfl rfl rfl) (by exact rfl) (by exact rfl) (by exact rfl) (by first | exact infoU32 | exact infoU64) (by exact rfl) (by exact rfl) ?_; intro w2 g2 F2; simp only [List.setIfInBounds_toArray, List.set_cons_succ, List.set_cons_zero] at g2; have r2 := r.foot F2 (by omega); have hn2 := hn.foot F2 (by omega); have ht2 := ht.foot F2 (by omega); have B2 := below_foot B F2 (by omega) (Nat.le_refl _); clear F2; clear g r hn ht B; have g := g2; have r := r2; have hn := hn2; have ht := ht2; have B := B2; clear g2 r2 hn2 ht2 B2)
    | (go_at_call 32; refine (excess_pv _ _ _ _ _ _ _ _ _ _ _ _ _ _).mono ?_; rintro e w2 ⟨rfl, hb⟩; have g2 := g.below hb g.lt; have r2 := r.below hb r.lt; have hn2 := hn.below hb hn.lt; have ht2 := ht.below hb ht.lt; have B2 := B.trans (hb.mono B.size); clear hb; clear g r hn ht B; have g := g2; have r := r2; have hn := hn2; have ht := ht2; have B := B2; clear g2 r2 hn2 ht2 B2)
    | (go_at_call 41; refine (remaining_pv _ _ _ _ _ _ _ _ _ _ _ _ _ _ _).mono ?_; rintro e w2 ⟨rfl, hb⟩; have g2 := g.below hb g.lt; have r2 := r.below hb r.lt; have hn2 := hn.below hb hn.lt; have ht2 := ht.below hb ht.lt; have B2 := B.trans (hb.mono B.size); clear hb; clear g r hn ht B; have g := g2; have r := r2; have hn := hn2; have ht := ht2; have B := B2; clear g2 r2 hn2 ht2 B2)
    | (go_at_call 42; refine (allPrevious_pv _ _ _ _ _ _ _ _ _ _ _ _ _ _ _).mono ?_; rintro e w2 ⟨rfl, hb⟩; have g2 := g.below hb g.lt; have r2 := r.below hb r.lt; have hn2 := hn.below hb hn.lt; have ht2 := ht.below hb ht.lt; have B2 := B.trans (hb.mono B.size); clear hb; clear g r hn ht B; have g := g2; have r := r2; have hn := hn2; have ht := ht2; have B := B2; clear g2 r2 hn2 ht2 B2)
    | (go_at_call 43; refine (restarted_pv _ _ _ _ _ _ _ _ _ _ _ _ _ _ _).mono ?_; rintro e w2 ⟨rfl, hb⟩; have g2 := g.below hb g.lt; have r2 := r.below hb r.lt; have hn2 := hn.below hb hn.lt; have ht2 := ht.below hb ht.lt; have B2 := B.trans (hb.mono B.size); clear hb; clear g r hn ht B; have g := g2; have r := r2; have hn := hn2; have ht := ht2; have B := B2; clear g2 r2 hn2 ht2 B2)
    | (go_at_call 45; refine (slack_pv _ _ _ _ _ _ _ _ _ _ _ _ _ _ _).mono ?_; rintro e w2 ⟨rfl, hb⟩; have g2 := g.below hb g.lt; have r2 := r.below hb r.lt; have hn2 := hn.below hb hn.lt; have ht2 := ht.below hb ht.lt; have B2 := B.trans (hb.mono B.size); clear hb; clear g r hn ht B; have g := g2; have r := r2; have hn := hn2; have ht := ht2; have B := B2; clear g2 r2 hn2 ht2 B2)
    | (go_at_call 38; refine (over_g _ _ _).mono ?_; rintro e w' ⟨rfl, rfl⟩))
      go_meet
      case rel => exact ⟨congrArg Value.bool (by rw [HE.out]; simp [H2.out]), g, r, hn, ht, B⟩
    · have e2 : (DQ.fr ((comp + n) % 4294967296) q == 0) = false := by simpa using h2
      by_cases h3 : pq = comp
      · have H2 := Lib.hid h2
        have H3 := Lib.hid h3
        have e3 : (pq == comp) = true := by simpa using h3
        clear h3
        go_wp2_with (first
    | go_skip
    | ((with_reducible show wpList _ _ _ (⟨_, .load 26 _, _, _, _, _⟩ :: _) _ _); refine load_held g (by first | exact wanted_none rfl | exact wanted_some rfl rfl rfl rfl) (by exact rfl) (by exact rfl) Try.underlying26 rfl dqlInfo ?_)
    | ((with_reducible show wpList _ _ _ (⟨_, .load _ _, _, _, _, _⟩ :: _) _ _); refine load_fld g (by first | exact wanted_none rfl | exact wanted_some rfl rfl rfl rfl) (by exact rfl) (by exact rfl) (by first | exact Try.underlying22 | exact Try.underlying23) rfl (by exact rfl) ?_)
    | ((with_reducible show wpList _ _ _ (⟨_, .load _ _, _, _, _, _⟩ :: _) _ _); refine load_fld hn (by first | exact wanted_none rfl | exact wanted_some rfl rfl rfl rfl) (by exact rfl) (by exact rfl) (by first | exact Try.underlying22 | exact Try.underlying23) rfl (by exact rfl) ?_)
    | ((with_reducible show wpList _ _ _ (⟨_, .load _ _, _, _, _, _⟩ :: _) _ _); refine load_fld ht (by first | exact wanted_none rfl | exact wanted_some rfl rfl rfl rfl) (by exact rfl) (by exact rfl) (by first | exact Try.underlying22 | exact Try.underlying23) rfl (by exact rfl) ?_)
    | ((with_reducible show wpList _ _ _ (⟨_, .store 26 _ _, _, _, _, _⟩ :: _) _ _); refine store_held r (by first | exact wanted_none rfl | exact wanted_some rfl rfl rfl rfl) (by exact rfl) (by exact rfl) (by exact rfl) (by exact dqlInfo) (by exact rfl) (by exact rfl) ?_; intro w2 r2 F2; have g2 := g.foot F2 (by omega); have hn2 := hn.foot F2 (by omega); have ht2 := ht.foot F2 (by omega); have B2 := below_foot B F2 (by omega) (Nat.le_refl _); clear F2; clear r g hn ht B; have r := r2; have g := g2; have hn := hn2; have ht := ht2; have B := B2; clear r2 g2 hn2 ht2 B2)
    | ((with_reducible show wpList _ _ _ (⟨_, .store 26 _ _, _, _, _, _⟩ :: _) _ _); refine store_held g (by first | exact wanted_none rfl | exact wanted_some rfl rfl rfl rfl) (by exact rfl) (by exact rfl) (by exact rfl) (by exact dqlInfo) (by exact rfl) (by exact rfl) ?_; intro w2 g2 F2; have r2 := r.foot F2 (by omega); have hn2 := hn.foot F2 (by omega); have ht2 := ht.foot F2 (by omega); have B2 := below_foot B F2 (by omega) (Nat.le_refl _); clear F2; clear g r hn ht B; have g := g2; have r := r2; have hn := hn2; have ht := ht2; have B := B2; clear g2 r2 hn2 ht2 B2)
    | ((with_reducible show wpList _ _ _ (⟨_, .store _ _ _, _, _, _, _⟩ :: _) _ _); refine store_fld g (by first | exact wanted_none rfl | exact wanted_some rfl rfl rfl rfl) (by exact rfl) (by exact rfl) (by exact rfl) (by first | exact infoU32 | exact infoU64) (by exact rfl) (by exact rfl) ?_; intro w2 g2 F2; simp only [List.setIfInBounds_toArray, List.set_cons_succ, List.set_cons_zero] at g2; have r2 := r.foot F2 (by omega); have hn2 := hn.foot F2 (by omega); have ht2 := ht.foot F2 (by omega); have B2 := below_foot B F2 (by omega) (Nat.le_refl _); clear F2; clear g r hn ht B; have g := g2; have r := r2; have hn := hn2; have ht := ht2; have B := B2; clear g2 r2 hn2 ht2 B2)
    | (go_at_call 32; refine (excess_pv _ _ _ _ _ _ _ _ _ _ _ _ _ _).mono ?_; rintro e w2 ⟨rfl, hb⟩; have g2 := g.below hb g.lt; have r2 := r.below hb r.lt; have hn2 := hn.below hb hn.lt; have ht2 := ht.below hb ht.lt; have B2 := B.trans (hb.mono B.size); clear hb; clear g r hn ht B; have g := g2; have r := r2; have hn := hn2; have ht := ht2; have B := B2; clear g2 r2 hn2 ht2 B2)
    | (go_at_call 41; refine (remaining_pv _ _ _ _ _ _ _ _ _ _ _ _ _ _ _).mono ?_; rintro e w2 ⟨rfl, hb⟩; have g2 := g.below hb g.lt; have r2 := r.below hb r.lt; have hn2 := hn.below hb hn.lt; have ht2 := ht.below hb ht.lt; have B2 := B.trans (hb.mono B.size); clear hb; clear g r hn ht B; have g := g2; have r := r2; have hn := hn2; have ht := ht2; have B := B2; clear g2 r2 hn2 ht2 B2)
    | (go_at_call 42; refine (allPrevious_pv _ _ _ _ _ _ _ _ _ _ _ _ _ _ _).mono ?_; rintro e w2 ⟨rfl, hb⟩; have g2 := g.below hb g.lt; have r2 := r.below hb r.lt; have hn2 := hn.below hb hn.lt; have ht2 := ht.below hb ht.lt; have B2 := B.trans (hb.mono B.size); clear hb; clear g r hn ht B; have g := g2; have r := r2; have hn := hn2; have ht := ht2; have B := B2; clear g2 r2 hn2 ht2 B2)
    | (go_at_call 43; refine (restarted_pv _ _ _ _ _ _ _ _ _ _ _ _ _ _ _).mono ?_; rintro e w2 ⟨rfl, hb⟩; have g2 := g.below hb g.lt; have r2 := r.below hb r.lt; have hn2 := hn.below hb hn.lt; have ht2 := ht.below hb ht.lt; have B2 := B.trans (hb.mono B.size); clear hb; clear g r hn ht B; have g := g2; have r := r2; have hn := hn2; have ht := ht2; have B := B2; clear g2 r2 hn2 ht2 B2)
    | (go_at_call 45; refine (slack_pv _ _ _ _ _ _ _ _ _ _ _ _ _ _ _).mono ?_; rintro e w2 ⟨rfl, hb⟩; have g2 := g.below hb g.lt; have r2 := r.below hb r.lt; have hn2 := hn.below hb hn.lt; have ht2 := ht.below hb ht.lt; have B2 := B.trans (hb.mono B.size); clear hb; clear g r hn ht B; have g := g2; have r := r2; have hn := hn2; have ht := ht2; have B := B2; clear g2 r2 hn2 ht2 B2)
    | (go_at_call 38; refine (over_g _ _ _).mono ?_; rintro e w' ⟨rfl, rfl⟩))
        go_meet
        case rel => exact ⟨congrArg Value.bool (by rw [HE.out]; simp [H3.out]), by first | exact g | (rw [H3.out]; exact g) | (rw [← H3.out]; exact g), r, hn, ht, B⟩
      · have e3 : (pq == comp) = false := by simpa using h3
        rcases h4 : DQ.ah ((comp + n) % 4294967296) pq
        all_goals
          have H2 := Lib.hid h2
          have H3 := Lib.hid h3
          go_wp2_with (first
    | go_skip
    | ((with_reducible show wpList _ _ _ (⟨_, .load 26 _, _, _, _, _⟩ :: _) _ _); refine load_held g (by first | exact wanted_none rfl | exact wanted_some rfl rfl rfl rfl) (by exact rfl) (by exact rfl) Try.underlying26 rfl dqlInfo ?_)
    | ((with_reducible show wpList _ _ _ (⟨_, .load _ _, _, _, _, _⟩ :: _) _ _); refine load_fld g (by first | exact wanted_none rfl | exact wanted_some rfl rfl rfl rfl) (by exact rfl) (by exact rfl) (by first | exact Try.underlying22 | exact Try.underlying23) rfl (by exact rfl) ?_)
    | ((with_reducible show wpList _ _ _ (⟨_, .load _ _, _, _, _, _⟩ :: _) _ _); refine load_fld hn (by first | exact wanted_none rfl | exact wanted_some rfl rfl rfl rfl) (by exact rfl) (by exact rfl) (by first | exact Try.underlying22 | exact Try.underlying23) rfl (by exact rfl) ?_)
    | ((with_reducible show wpList _ _ _ (⟨_, .load _ _, _, _, _, _⟩ :: _) _ _); refine load_fld ht (by first | exact wanted_none rfl | exact wanted_some rfl rfl rfl rfl) (by exact rfl) (by exact rfl) (by first | exact Try.underlying22 | exact Try.underlying23) rfl (by exact rfl) ?_)
    | ((with_reducible show wpList _ _ _ (⟨_, .store 26 _ _, _, _, _, _⟩ :: _) _ _); refine store_held r (by first | exact wanted_none rfl | exact wanted_some rfl rfl rfl rfl) (by exact rfl) (by exact rfl) (by exact rfl) (by exact dqlInfo) (by exact rfl) (by exact rfl) ?_; intro w2 r2 F2; have g2 := g.foot F2 (by omega); have hn2 := hn.foot F2 (by omega); have ht2 := ht.foot F2 (by omega); have B2 := below_foot B F2 (by omega) (Nat.le_refl _); clear F2; clear r g hn ht B; have r := r2; have g := g2; have hn := hn2; have ht := ht2; have B := B2; clear r2 g2 hn2 ht2 B2)
    | ((with_reducible show wpList _ _ _ (⟨_, .store 26 _ _, _, _, _, _⟩ :: _) _ _); refine store_held g (by first | exact wanted_none rfl | exact wanted_some rfl rfl rfl rfl) (by exact rfl) (by exact rfl) (by exact rfl) (by exact dqlInfo) (by exact rfl) (by exact rfl) ?_; intro w2 g2 F2; have r2 := r.foot F2 (by omega); have hn2 := hn.foot F2 (by omega); have ht2 := ht.foot F2 (by omega); have B2 := below_foot B F2 (by omega) (Nat.le_refl _); clear F2; clear g r hn ht B; have g := g2; have r := r2; have hn := hn2; have ht := ht2; have B := B2; clear g2 r2 hn2 ht2 B2)
    | ((with_reducible show wpList _ _ _ (⟨_, .store _ _ _, _, _, _, _⟩ :: _) _ _); refine store_fld g (by first | exact wanted_none rfl | exact wanted_some rfl rfl rfl rfl) (by exact rfl) (by exact rfl) (by exact rfl) (by first | exact infoU32 | exact infoU64) (by exact rfl) (by exact rfl) ?_; intro w2 g2 F2; simp only [List.setIfInBounds_toArray, List.set_cons_succ, List.set_cons_zero] at g2; have r2 := r.foot F2 (by omega); have hn2 := hn.foot F2 (by omega); have ht2 := ht.foot F2 (by omega); have B2 := below_foot B F2 (by omega) (Nat.le_refl _); clear F2; clear g r hn ht B; have g := g2; have r := r2; have hn := hn2; have ht := ht2; have B := B2; clear g2 r2 hn2 ht2 B2)
    | (go_at_call 32; refine (excess_pv _ _ _ _ _ _ _ _ _ _ _ _ _ _).mono ?_; rintro e w2 ⟨rfl, hb⟩; have g2 := g.below hb g.lt; have r2 := r.below hb r.lt; have hn2 := hn.below hb hn.lt; have ht2 := ht.below hb ht.lt; have B2 := B.trans (hb.mono B.size); clear hb; clear g r hn ht B; have g := g2; have r := r2; have hn := hn2; have ht := ht2; have B := B2; clear g2 r2 hn2 ht2 B2)
    | (go_at_call 41; refine (remaining_pv _ _ _ _ _ _ _ _ _ _ _ _ _ _ _).mono ?_; rintro e w2 ⟨rfl, hb⟩; have g2 := g.below hb g.lt; have r2 := r.below hb r.lt; have hn2 := hn.below hb hn.lt; have ht2 := ht.below hb ht.lt; have B2 := B.trans (hb.mono B.size); clear hb; clear g r hn ht B; have g := g2; have r := r2; have hn := hn2; have ht := ht2; have B := B2; clear g2 r2 hn2 ht2 B2)
    | (go_at_call 42; refine (allPrevious_pv _ _ _ _ _ _ _ _ _ _ _ _ _ _ _).mono ?_; rintro e w2 ⟨rfl, hb⟩; have g2 := g.below hb g.lt; have r2 := r.below hb r.lt; have hn2 := hn.below hb hn.lt; have ht2 := ht.below hb ht.lt; have B2 := B.trans (hb.mono B.size); clear hb; clear g r hn ht B; have g := g2; have r := r2; have hn := hn2; have ht := ht2; have B := B2; clear g2 r2 hn2 ht2 B2)
    | (go_at_call 43; refine (restarted_pv _ _ _ _ _ _ _ _ _ _ _ _ _ _ _).mono ?_; rintro e w2 ⟨rfl, hb⟩; have g2 := g.below hb g.lt; have r2 := r.below hb r.lt; have hn2 := hn.below hb hn.lt; have ht2 := ht.below hb ht.lt; have B2 := B.trans (hb.mono B.size); clear hb; clear g r hn ht B; have g := g2; have r := r2; have hn := hn2; have ht := ht2; have B := B2; clear g2 r2 hn2 ht2 B2)
    | (go_at_call 45; refine (slack_pv _ _ _ _ _ _ _ _ _ _ _ _ _ _ _).mono ?_; rintro e w2 ⟨rfl, hb⟩; have g2 := g.below hb g.lt; have r2 := r.below hb r.lt; have hn2 := hn.below hb hn.lt; have ht2 := ht.below hb ht.lt; have B2 := B.trans (hb.mono B.size); clear hb; clear g r hn ht B; have g := g2; have r := r2; have hn := hn2; have ht := ht2; have B := B2; clear g2 r2 hn2 ht2 B2)
    | (go_at_call 38; refine (over_g _ _ _).mono ?_; rintro e w' ⟨rfl, rfl⟩))
          go_meet
          case rel =>
            have h2 := H2.out
            have h3 := H3.out
            exact ⟨congrArg Value.bool (by rw [HE.out]; simp [h2, h3, h4]), g, r, hn, ht, B⟩
  case rest =>
    clear g r hn ht B
    obtain ⟨rfl, g, r, hn, ht, B⟩ := hcut
    rw [HU.out]
    go_upto_region 3 with (fail)
    have hS : (Held wc.drew w.heap.size 26 (dqc q adj last lim comp pov plast pq slack start hold mn mx) ∧ Held wc.drew (w.heap.size + 1) 26 (dqc 0 0 0 0 0 0 0 0 0 0 0 0 0) ∧ Held wc.drew bn 22 #[.int .u32 n] ∧ Held wc.drew bt 23 #[.int .u64 t] ∧ Below w.heap.size w wc.drew) := ⟨g.drew, r.drew, hn.drew, ht.drew, B.drew⟩
    refine (wpIn_wide (n := 6)).1 ?_
    refine wpIn_region_G (fun wx => Held wx w.heap.size 26 (dqc q adj last lim comp pov plast pq slack start hold mn mx) ∧ Held wx (w.heap.size + 1) 26 (dqc 0 0 0 0 0 0 0 0 0 0 0 0 0) ∧ Held wx bn 22 #[.int .u32 n] ∧ Held wx bt 23 #[.int .u64 t] ∧ Below w.heap.size w wx) 7 8 rfl (by kernel_rfl) (fun hcl => ?_)
    refine wpAnyG_take (i := 0) 1 (v := .pointer (some ⟨w.heap.size, 8, none⟩)) rfl rfl (by kernel_rfl) (by kernel_rfl) (by kernel_rfl) (fun _ _ _ h => h) (by kernel_rfl) (by decide) hcl ⟨by rfl, fun w _ => ?hy_1, fun _ => rfl⟩ hS (fun hc1 => ?rest_1)
    case hy_1 => go_simp; try (first | (simp only [IntKind.wrap_u32]; done) | rfl)
    clear hcl; have hcl := hc1; clear hc1; simp only [List.getElem_toArray, List.getElem_cons_zero, List.getElem_cons_succ, Act.put, List.setIfInBounds_toArray, List.set_cons_zero, List.set_cons_succ]
    refine wpAnyG_take (i := 1) 1 (v := .int .u32 slack) rfl rfl (by kernel_rfl) (by kernel_rfl) (by kernel_rfl) (fun _ _ _ h => h) (by kernel_rfl) (by decide) hcl (yields_fld (fun w h => h.1) (by exact rfl) (by exact rfl) (by exact rfl) Try.underlying22 rfl (by exact rfl)) hS (fun hc1 => ?rest_2)
    clear hcl; have hcl := hc1; clear hc1; simp only [List.getElem_toArray, List.getElem_cons_zero, List.getElem_cons_succ, Act.put, List.setIfInBounds_toArray, List.set_cons_zero, List.set_cons_succ]
    refine wpAnyG_take (i := 2) 1 (v := dqv q adj last lim comp pov plast pq slack start hold mn mx) rfl rfl (by kernel_rfl) (by kernel_rfl) (by kernel_rfl) (fun _ _ _ h => h) (by kernel_rfl) (by decide) hcl (yields_held (fun w h => h.1) (by exact rfl) (by exact rfl) (by exact rfl) Try.underlying26 rfl dqlInfo) hS (fun hc1 => ?rest_3)
    clear hcl; have hcl := hc1; clear hc1; simp only [List.getElem_toArray, List.getElem_cons_zero, List.getElem_cons_succ, Act.put, List.setIfInBounds_toArray, List.set_cons_zero, List.set_cons_succ]
    refine wpAnyG_take (i := 3) 1 (v := .int .u32 n) rfl rfl (by kernel_rfl) (by kernel_rfl) (by kernel_rfl) (fun _ _ _ h => h) (by kernel_rfl) (by decide) hcl (yields_fld (fun w h => h.2.2.1) (by exact rfl) (by exact rfl) (by exact rfl) Try.underlying22 rfl (by exact rfl)) hS (fun hc1 => ?rest_4)
    clear hcl; have hcl := hc1; clear hc1; simp only [List.getElem_toArray, List.getElem_cons_zero, List.getElem_cons_succ, Act.put, List.setIfInBounds_toArray, List.set_cons_zero, List.set_cons_succ]
    refine wpAnyG_one (i := 4) (by kernel_rfl) rfl (fun K hK => ?_)
    go_simp
    refine ⟨trivial, (callsIn_wide.2 (slack_pv _ _ _ _ _ _ _ _ _ _ _ _ _ _ _)).mono ?_⟩
    rintro e w5 ⟨rfl, hb⟩
    have hS5 : (Held w5 w.heap.size 26 (dqc q adj last lim comp pov plast pq slack start hold mn mx) ∧ Held w5 (w.heap.size + 1) 26 (dqc 0 0 0 0 0 0 0 0 0 0 0 0 0) ∧ Held w5 bn 22 #[.int .u32 n] ∧ Held w5 bt 23 #[.int .u64 t] ∧ Below w.heap.size w w5) := ⟨hS.1.below hb hS.1.lt, hS.2.1.below hb hS.2.1.lt, hS.2.2.1.below hb hS.2.2.1.lt, hS.2.2.2.1.below hb hS.2.2.2.1.lt, hS.2.2.2.2.trans (hb.mono hS.2.2.2.2.size)⟩
    clear hb hS
    have hS := hS5
    clear hS5
    obtain ⟨X, hX⟩ : ∃ X, (if 0 < pov then max (DQ.ov ((lim + pov) % 4294967296) (2 * n % 4294967296)) (DQ.ov plast pov) else DQ.ov ((lim + pov) % 4294967296) (2 * n % 4294967296)) = X := ⟨_, rfl⟩
    rw [hX]
    have HX := Lib.hid hX
    clear hX
    refine hK _ _ (.inr hS) ?_
    clear hK K
    refine wpAnyG_one (i := 5) (by kernel_rfl) rfl (fun K hK => ?_)
    go_simp
    refine hK _ _ (.inr hS) ?_
    clear hK K
    refine wpAnyG_one (i := 6) (by kernel_rfl) rfl (fun K hK => ?_)
    go_simp
    refine hK _ _ (.inr hS) ?_
    clear hK K
    clear hcl g r hn ht B
    obtain ⟨g, r, hn, ht, B⟩ := hS
    have c8 : w5.cell? ⟨w.heap.size, 8, none⟩ = some (.int .u32 slack) := (Held.dql g).1.2.2.2.2.2.2.2.2.1
    have f8 := g.frozen 8
    refine wpAnyG_one (i := 7) (by kernel_rfl) rfl (fun K hK => ?_)
    go_simp
    refine hK _ _ (.inl (by kernel_rfl)) ?_
    clear hK K c8 f8
    refine wpAnyG_done (by kernel_rfl) ?_ _
    have e : (if X < slack then X else slack) = DQ.slackN (⟨q, adj, last, lim, comp, pov, plast, pq, slack, start, hold, mn, mx⟩ : DQ) n := by
      show _ = min slack (if 0 < pov then max (DQ.ov ((lim + pov) % 4294967296) (2 * n % 4294967296)) (DQ.ov plast pov) else DQ.ov ((lim + pov) % 4294967296) (2 * n % 4294967296))
      rw [HX.out]
      split <;> omega
    rw [e]
    clear e
    have g2 := g.set 8 (.int .u32 (DQ.slackN (⟨q, adj, last, lim, comp, pov, plast, pq, slack, start, hold, mn, mx⟩ : DQ) n))
    have r2 := r.other (by omega) 8 (.int .u32 (DQ.slackN (⟨q, adj, last, lim, comp, pov, plast, pq, slack, start, hold, mn, mx⟩ : DQ) n)) (b' := w.heap.size)
    have hn2 := hn.other (by omega) 8 (.int .u32 (DQ.slackN (⟨q, adj, last, lim, comp, pov, plast, pq, slack, start, hold, mn, mx⟩ : DQ) n)) (b' := w.heap.size)
    have ht2 := ht.other (by omega) 8 (.int .u32 (DQ.slackN (⟨q, adj, last, lim, comp, pov, plast, pq, slack, start, hold, mn, mx⟩ : DQ) n)) (b' := w.heap.size)
    have B2 := B.setCell (p := ⟨w.heap.size, 8, none⟩) (Nat.le_refl _) (.int .u32 (DQ.slackN (⟨q, adj, last, lim, comp, pov, plast, pq, slack, start, hold, mn, mx⟩ : DQ) n))
    generalize w5.setCell ⟨w.heap.size, 8, none⟩ (.int .u32 (DQ.slackN (⟨q, adj, last, lim, comp, pov, plast, pq, slack, start, hold, mn, mx⟩ : DQ) n)) = w6 at g2 r2 hn2 ht2 B2 ⊢
    simp only [List.setIfInBounds_toArray, List.set_cons_succ, List.set_cons_zero] at g2
    obtain ⟨L, hLL⟩ : ∃ L, DQ.slackN (⟨q, adj, last, lim, comp, pov, plast, pq, slack, start, hold, mn, mx⟩ : DQ) n = L := ⟨_, rfl⟩
    rw [hLL] at g2 ⊢
    have HL := Lib.hid hLL
    clear hLL
    clear g r hn ht B
    have g := g2
    have r := r2
    have hn := hn2
    have ht := ht2
    have B := B2
    clear g2 r2 hn2 ht2 B2
    go_upto_region 4 with (fail)
    go_cut [42] (fun s42 wx => s42 = .bool (DQ.dueB (⟨q, adj, last, lim, comp, pov, plast, pq, slack, start, hold, mn, mx⟩ : DQ) t) ∧ wx = w6)
    case first =>
      have c9 : w6.cell? ⟨w.heap.size, 9, none⟩ = some (.int .u64 start) := g.cell 9
      have c10 : w6.cell? ⟨w.heap.size, 10, none⟩ = some (.int .u64 hold) := g.cell 10
      have ct : w6.cell? ⟨bt, 0, none⟩ = some (.int .u64 t) := ht.cell 0
      clear g r hn ht B HL HD HU HX
      by_cases h5 : start < t
      all_goals by_cases h6 : hold < t - start
      all_goals
        have H5 := Lib.hid h5
        have H6 := Lib.hid h6
        go_wp2
        go_meet
        case rel =>
          have h5 := H5.out
          have h6 := H6.out
          exact ⟨congrArg Value.bool (by show _ = (decide (start < t) && decide (hold < t - start)); simp [h5, h6]), rfl⟩
    case rest =>
      obtain ⟨rfl, rfl⟩ := hcut
      rw [HD.out]
      go_wp2_with (first
    | go_skip
    | ((with_reducible show wpList _ _ _ (⟨_, .load 26 _, _, _, _, _⟩ :: _) _ _); refine load_held g (by first | exact wanted_none rfl | exact wanted_some rfl rfl rfl rfl) (by exact rfl) (by exact rfl) Try.underlying26 rfl dqlInfo ?_)
    | ((with_reducible show wpList _ _ _ (⟨_, .load _ _, _, _, _, _⟩ :: _) _ _); refine load_fld g (by first | exact wanted_none rfl | exact wanted_some rfl rfl rfl rfl) (by exact rfl) (by exact rfl) (by first | exact Try.underlying22 | exact Try.underlying23) rfl (by exact rfl) ?_)
    | ((with_reducible show wpList _ _ _ (⟨_, .load _ _, _, _, _, _⟩ :: _) _ _); refine load_fld hn (by first | exact wanted_none rfl | exact wanted_some rfl rfl rfl rfl) (by exact rfl) (by exact rfl) (by first | exact Try.underlying22 | exact Try.underlying23) rfl (by exact rfl) ?_)
    | ((with_reducible show wpList _ _ _ (⟨_, .load _ _, _, _, _, _⟩ :: _) _ _); refine load_fld ht (by first | exact wanted_none rfl | exact wanted_some rfl rfl rfl rfl) (by exact rfl) (by exact rfl) (by first | exact Try.underlying22 | exact Try.underlying23) rfl (by exact rfl) ?_)
    | ((with_reducible show wpList _ _ _ (⟨_, .store 26 _ _, _, _, _, _⟩ :: _) _ _); refine store_held r (by first | exact wanted_none rfl | exact wanted_some rfl rfl rfl rfl) (by exact rfl) (by exact rfl) (by exact rfl) (by exact dqlInfo) (by exact rfl) (by exact rfl) ?_; intro w2 r2 F2; have g2 := g.foot F2 (by omega); have hn2 := hn.foot F2 (by omega); have ht2 := ht.foot F2 (by omega); have B2 := below_foot B F2 (by omega) (Nat.le_refl _); clear F2; clear r g hn ht B; have r := r2; have g := g2; have hn := hn2; have ht := ht2; have B := B2; clear r2 g2 hn2 ht2 B2)
    | ((with_reducible show wpList _ _ _ (⟨_, .store 26 _ _, _, _, _, _⟩ :: _) _ _); refine store_held g (by first | exact wanted_none rfl | exact wanted_some rfl rfl rfl rfl) (by exact rfl) (by exact rfl) (by exact rfl) (by exact dqlInfo) (by exact rfl) (by exact rfl) ?_; intro w2 g2 F2; have r2 := r.foot F2 (by omega); have hn2 := hn.foot F2 (by omega); have ht2 := ht.foot F2 (by omega); have B2 := below_foot B F2 (by omega) (Nat.le_refl _); clear F2; clear g r hn ht B; have g := g2; have r := r2; have hn := hn2; have ht := ht2; have B := B2; clear g2 r2 hn2 ht2 B2)
    | ((with_reducible show wpList _ _ _ (⟨_, .store _ _ _, _, _, _, _⟩ :: _) _ _); refine store_fld g (by first | exact wanted_none rfl | exact wanted_some rfl rfl rfl rfl) (by exact rfl) (by exact rfl) (by exact rfl) (by first | exact infoU32 | exact infoU64) (by exact rfl) (by exact rfl) ?_; intro w2 g2 F2; simp only [List.setIfInBounds_toArray, List.set_cons_succ, List.set_cons_zero] at g2; have r2 := r.foot F2 (by omega); have hn2 := hn.foot F2 (by omega); have ht2 := ht.foot F2 (by omega); have B2 := below_foot B F2 (by omega) (Nat.le_refl _); clear F2; clear g r hn ht B; have g := g2; have r := r2; have hn := hn2; have ht := ht2; have B := B2; clear g2 r2 hn2 ht2 B2)
    | (go_at_call 32; refine (excess_pv _ _ _ _ _ _ _ _ _ _ _ _ _ _).mono ?_; rintro e w2 ⟨rfl, hb⟩; have g2 := g.below hb g.lt; have r2 := r.below hb r.lt; have hn2 := hn.below hb hn.lt; have ht2 := ht.below hb ht.lt; have B2 := B.trans (hb.mono B.size); clear hb; clear g r hn ht B; have g := g2; have r := r2; have hn := hn2; have ht := ht2; have B := B2; clear g2 r2 hn2 ht2 B2)
    | (go_at_call 41; refine (remaining_pv _ _ _ _ _ _ _ _ _ _ _ _ _ _ _).mono ?_; rintro e w2 ⟨rfl, hb⟩; have g2 := g.below hb g.lt; have r2 := r.below hb r.lt; have hn2 := hn.below hb hn.lt; have ht2 := ht.below hb ht.lt; have B2 := B.trans (hb.mono B.size); clear hb; clear g r hn ht B; have g := g2; have r := r2; have hn := hn2; have ht := ht2; have B := B2; clear g2 r2 hn2 ht2 B2)
    | (go_at_call 42; refine (allPrevious_pv _ _ _ _ _ _ _ _ _ _ _ _ _ _ _).mono ?_; rintro e w2 ⟨rfl, hb⟩; have g2 := g.below hb g.lt; have r2 := r.below hb r.lt; have hn2 := hn.below hb hn.lt; have ht2 := ht.below hb ht.lt; have B2 := B.trans (hb.mono B.size); clear hb; clear g r hn ht B; have g := g2; have r := r2; have hn := hn2; have ht := ht2; have B := B2; clear g2 r2 hn2 ht2 B2)
    | (go_at_call 43; refine (restarted_pv _ _ _ _ _ _ _ _ _ _ _ _ _ _ _).mono ?_; rintro e w2 ⟨rfl, hb⟩; have g2 := g.below hb g.lt; have r2 := r.below hb r.lt; have hn2 := hn.below hb hn.lt; have ht2 := ht.below hb ht.lt; have B2 := B.trans (hb.mono B.size); clear hb; clear g r hn ht B; have g := g2; have r := r2; have hn := hn2; have ht := ht2; have B := B2; clear g2 r2 hn2 ht2 B2)
    | (go_at_call 45; refine (slack_pv _ _ _ _ _ _ _ _ _ _ _ _ _ _ _).mono ?_; rintro e w2 ⟨rfl, hb⟩; have g2 := g.below hb g.lt; have r2 := r.below hb r.lt; have hn2 := hn.below hb hn.lt; have ht2 := ht.below hb ht.lt; have B2 := B.trans (hb.mono B.size); clear hb; clear g r hn ht B; have g := g2; have r := r2; have hn := hn2; have ht := ht2; have B := B2; clear g2 r2 hn2 ht2 B2)
    | (go_at_call 38; refine (over_g _ _ _).mono ?_; rintro e w' ⟨rfl, rfl⟩))
      refine ret_held2 r (by exact rfl) (by exact rfl) Try.underlying26 rfl dqlInfo ⟨?_, B⟩
      rw [HL.out]
      rfl
set_option maxRecDepth 4000 in
set_option maxHeartbeats 4000000 in
theorem lowering1_due (q adj last lim comp pov plast pq slack start hold mn mx n t : Int) (bn bt : Nat) (hpq : 0 ≤ pq ∧ pq ≤ 4294967295) (hcm : 0 ≤ comp ∧ comp ≤ 4294967295) (hst : 0 ≤ start ∧ start ≤ 18446744073709551615) (htt : 0 ≤ t ∧ t ≤ 18446744073709551615) (hs : DQ.slackB (⟨q, adj, last, lim, comp, pov, plast, pq, slack, start, hold, mn, mx⟩ : DQ) n = true) (hd : DQ.dueB (⟨q, adj, last, lim, comp, pov, plast, pq, slack, start, hold, mn, mx⟩ : DQ) t = true) (w : World) (hn : Held w bn 22 #[.int .u32 n]) (ht : Held w bt 23 #[.int .u64 t]) : Calls Try.prog 44 #[dqv q adj last lim comp pov plast pq slack start hold mn mx, .pointer (some ⟨bn, 0, none⟩), .pointer (some ⟨bt, 0, none⟩)] w fun e w' => e = .returned (.tuple #[dqv q adj last (DQ.ov lim (DQ.slackN (⟨q, adj, last, lim, comp, pov, plast, pq, slack, start, hold, mn, mx⟩ : DQ) n)) comp pov plast pq 4294967295 t hold mn mx, .bool true]) ∧ Below w.heap.size w w' := by
  have HU := Lib.hid hs
  clear hs
  have HD := Lib.hid hd
  clear hd
  go_enter Try.func44, Try.ntmps44
  go_upto_region 1 with (fail)
  obtain ⟨g, r, B⟩ := two_boxes w 26 26 (dqc q adj last lim comp pov plast pq slack start hold mn mx) (dqc 0 0 0 0 0 0 0 0 0 0 0 0 0)
  have hn1 := (hn.alloc (.cells (dqc q adj last lim comp pov plast pq slack start hold mn mx) 26)).alloc (.cells (dqc 0 0 0 0 0 0 0 0 0 0 0 0 0) 26)
  have ht1 := (ht.alloc (.cells (dqc q adj last lim comp pov plast pq slack start hold mn mx) 26)).alloc (.cells (dqc 0 0 0 0 0 0 0 0 0 0 0 0 0) 26)
  have ln := hn.lt
  have lt := ht.lt
  generalize (w.alloc (.cells (dqc q adj last lim comp pov plast pq slack start hold mn mx) 26)).alloc (.cells (dqc 0 0 0 0 0 0 0 0 0 0 0 0 0) 26) = w1 at g r B hn1 ht1 ⊢
  clear hn ht
  have hn := hn1
  have ht := ht1
  clear hn1 ht1
  go_cut [21] (fun s21 wx => s21 = .bool (!DQ.slackB (⟨q, adj, last, lim, comp, pov, plast, pq, slack, start, hold, mn, mx⟩ : DQ) n) ∧ Held wx w.heap.size 26 (dqc q adj last lim comp pov plast pq slack start hold mn mx) ∧ Held wx (w.heap.size + 1) 26 (dqc 0 0 0 0 0 0 0 0 0 0 0 0 0) ∧ Held wx bn 22 #[.int .u32 n] ∧ Held wx bt 23 #[.int .u64 t] ∧ Below w.heap.size w wx)
  case first =>
    have hE : DQ.slackB (⟨q, adj, last, lim, comp, pov, plast, pq, slack, start, hold, mn, mx⟩ : DQ) n = ((decide (DQ.fr ((comp + n) % 4294967296) q ≠ 0) && decide (pq ≠ comp)) && DQ.ah ((comp + n) % 4294967296) pq) := by
      have h5 : ((pq - comp) % 4294967296 ≠ 0) = (pq ≠ comp) := by rw [eq_iff_iff]; omega
      show ((decide (DQ.fr ((comp + n) % 4294967296) q ≠ 0) && decide ((pq - comp) % 4294967296 ≠ 0)) && DQ.ah ((comp + n) % 4294967296) pq) = _
      simp only [h5]
    have HE := Lib.hid hE
    clear hE
    by_cases h2 : DQ.fr ((comp + n) % 4294967296) q = 0
    · have H2 := Lib.hid h2
      go_wp2_with (first
    | go_skip
    | ((with_reducible show wpList _ _ _ (⟨_, .load 26 _, _, _, _, _⟩ :: _) _ _); refine load_held g (by first | exact wanted_none rfl | exact wanted_some rfl rfl rfl rfl) (by exact rfl) (by exact rfl) Try.underlying26 rfl dqlInfo ?_)
    | ((with_reducible show wpList _ _ _ (⟨_, .load _ _, _, _, _, _⟩ :: _) _ _); refine load_fld g (by first | exact wanted_none rfl | exact wanted_some rfl rfl rfl rfl) (by exact rfl) (by exact rfl) (by first | exact Try.underlying22 | exact Try.underlying23) rfl (by exact rfl) ?_)
    | ((with_reducible show wpList _ _ _ (⟨_, .load _ _, _, _, _, _⟩ :: _) _ _); refine load_fld hn (by first | exact wanted_none rfl | exact wanted_some rfl rfl rfl rfl) (by exact rfl) (by exact rfl) (by first | exact Try.underlying22 | exact Try.underlying23) rfl (by exact rfl) ?_)
    | ((with_reducible show wpList _ _ _ (⟨_, .load _ _, _, _, _, _⟩ :: _) _ _); refine load_fld ht (by first | exact wanted_none rfl | exact wanted_some rfl rfl rfl rfl) (by exact rfl) (by exact rfl) (by first | exact Try.underlying22 | exact Try.underlying23) rfl (by exact rfl) ?_)
    | ((with_reducible show wpList _ _ _ (⟨_, .store 26 _ _, _, _, _, _⟩ :: _) _ _); refine store_held r (by first | exact wanted_none rfl | exact wanted_some rfl rfl rfl rfl) (by exact rfl) (by exact rfl) (by exact rfl) (by exact dqlInfo) (by exact rfl) (by exact rfl) ?_; intro w2 r2 F2; have g2 := g.foot F2 (by omega); have hn2 := hn.foot F2 (by omega); have ht2 := ht.foot F2 (by omega); have B2 := below_foot B F2 (by omega) (Nat.le_refl _); clear F2; clear r g hn ht B; have r := r2; have g := g2; have hn := hn2; have ht := ht2; have B := B2; clear r2 g2 hn2 ht2 B2)
    | ((with_reducible show wpList _ _ _ (⟨_, .store 26 _ _, _, _, _, _⟩ :: _) _ _); refine store_held g (by first | exact wanted_none rfl | exact wanted_some rfl rfl rfl rfl) (by exact rfl) (by exact rfl) (by exact rfl) (by exact dqlInfo) (by exact rfl) (by exact rfl) ?_; intro w2 g2 F2; have r2 := r.foot F2 (by omega); have hn2 := hn.foot F2 (by omega); have ht2 := ht.foot F2 (by omega); have B2 := below_foot B F2 (by omega) (Nat.le_refl _); clear F2; clear g r hn ht B; have g := g2; have r := r2; have hn := hn2; have ht := ht2; have B := B2; clear g2 r2 hn2 ht2 B2)
    | ((with_reducible show wpList _ _ _ (⟨_, .store _ _ _, _, _, _, _⟩ :: _) _ _); refine store_fld g (by first | exact wanted_none rfl | exact wanted_some rfl rfl rfl rfl) (by exact rfl) (by exact rfl) (by exact rfl) (by first | exact infoU32 | exact infoU64) (by exact rfl) (by exact rfl) ?_; intro w2 g2 F2; simp only [List.setIfInBounds_toArray, List.set_cons_succ, List.set_cons_zero] at g2; have r2 := r.foot F2 (by omega); have hn2 := hn.foot F2 (by omega); have ht2 := ht.foot F2 (by omega); have B2 := below_foot B F2 (by omega) (Nat.le_refl _); clear F2; clear g r hn ht B; have g := g2; have r := r2; have hn := hn2; have ht := ht2; have B := B2; clear g2 r2 hn2 ht2 B2)
    | (go_at_call 32; refine (excess_pv _ _ _ _ _ _ _ _ _ _ _ _ _ _).mono ?_; rintro e w2 ⟨rfl, hb⟩; have g2 := g.below hb g.lt; have r2 := r.below hb r.lt; have hn2 := hn.below hb hn.lt; have ht2 := ht.below hb ht.lt; have B2 := B.trans (hb.mono B.size); clear hb; clear g r hn ht B; have g := g2; have r := r2; have hn := hn2; have ht := ht2; have B := B2; clear g2 r2 hn2 ht2 B2)
    | (go_at_call 41; refine (remaining_pv _ _ _ _ _ _ _ _ _ _ _ _ _ _ _).mono ?_; rintro e w2 ⟨rfl, hb⟩; have g2 := g.below hb g.lt; have r2 := r.below hb r.lt; have hn2 := hn.below hb hn.lt; have ht2 := ht.below hb ht.lt; have B2 := B.trans (hb.mono B.size); clear hb; clear g r hn ht B; have g := g2; have r := r2; have hn := hn2; have ht := ht2; have B := B2; clear g2 r2 hn2 ht2 B2)
    | (go_at_call 42; refine (allPrevious_pv _ _ _ _ _ _ _ _ _ _ _ _ _ _ _).mono ?_; rintro e w2 ⟨rfl, hb⟩; have g2 := g.below hb g.lt; have r2 := r.below hb r.lt; have hn2 := hn.below hb hn.lt; have ht2 := ht.below hb ht.lt; have B2 := B.trans (hb.mono B.size); clear hb; clear g r hn ht B; have g := g2; have r := r2; have hn := hn2; have ht := ht2; have B := B2; clear g2 r2 hn2 ht2 B2)
    | (go_at_call 43; refine (restarted_pv _ _ _ _ _ _ _ _ _ _ _ _ _ _ _).mono ?_; rintro e w2 ⟨rfl, hb⟩; have g2 := g.below hb g.lt; have r2 := r.below hb r.lt; have hn2 := hn.below hb hn.lt; have ht2 := ht.below hb ht.lt; have B2 := B.trans (hb.mono B.size); clear hb; clear g r hn ht B; have g := g2; have r := r2; have hn := hn2; have ht := ht2; have B := B2; clear g2 r2 hn2 ht2 B2)
    | (go_at_call 45; refine (slack_pv _ _ _ _ _ _ _ _ _ _ _ _ _ _ _).mono ?_; rintro e w2 ⟨rfl, hb⟩; have g2 := g.below hb g.lt; have r2 := r.below hb r.lt; have hn2 := hn.below hb hn.lt; have ht2 := ht.below hb ht.lt; have B2 := B.trans (hb.mono B.size); clear hb; clear g r hn ht B; have g := g2; have r := r2; have hn := hn2; have ht := ht2; have B := B2; clear g2 r2 hn2 ht2 B2)
    | (go_at_call 38; refine (over_g _ _ _).mono ?_; rintro e w' ⟨rfl, rfl⟩))
      go_meet
      case rel => exact ⟨congrArg Value.bool (by rw [HE.out]; simp [H2.out]), g, r, hn, ht, B⟩
    · have e2 : (DQ.fr ((comp + n) % 4294967296) q == 0) = false := by simpa using h2
      by_cases h3 : pq = comp
      · have H2 := Lib.hid h2
        have H3 := Lib.hid h3
        have e3 : (pq == comp) = true := by simpa using h3
        clear h3
        go_wp2_with (first
    | go_skip
    | ((with_reducible show wpList _ _ _ (⟨_, .load 26 _, _, _, _, _⟩ :: _) _ _); refine load_held g (by first | exact wanted_none rfl | exact wanted_some rfl rfl rfl rfl) (by exact rfl) (by exact rfl) Try.underlying26 rfl dqlInfo ?_)
    | ((with_reducible show wpList _ _ _ (⟨_, .load _ _, _, _, _, _⟩ :: _) _ _); refine load_fld g (by first | exact wanted_none rfl | exact wanted_some rfl rfl rfl rfl) (by exact rfl) (by exact rfl) (by first | exact Try.underlying22 | exact Try.underlying23) rfl (by exact rfl) ?_)
    | ((with_reducible show wpList _ _ _ (⟨_, .load _ _, _, _, _, _⟩ :: _) _ _); refine load_fld hn (by first | exact wanted_none rfl | exact wanted_some rfl rfl rfl rfl) (by exact rfl) (by exact rfl) (by first | exact Try.underlying22 | exact Try.underlying23) rfl (by exact rfl) ?_)
    | ((with_reducible show wpList _ _ _ (⟨_, .load _ _, _, _, _, _⟩ :: _) _ _); refine load_fld ht (by first | exact wanted_none rfl | exact wanted_some rfl rfl rfl rfl) (by exact rfl) (by exact rfl) (by first | exact Try.underlying22 | exact Try.underlying23) rfl (by exact rfl) ?_)
    | ((with_reducible show wpList _ _ _ (⟨_, .store 26 _ _, _, _, _, _⟩ :: _) _ _); refine store_held r (by first | exact wanted_none rfl | exact wanted_some rfl rfl rfl rfl) (by exact rfl) (by exact rfl) (by exact rfl) (by exact dqlInfo) (by exact rfl) (by exact rfl) ?_; intro w2 r2 F2; have g2 := g.foot F2 (by omega); have hn2 := hn.foot F2 (by omega); have ht2 := ht.foot F2 (by omega); have B2 := below_foot B F2 (by omega) (Nat.le_refl _); clear F2; clear r g hn ht B; have r := r2; have g := g2; have hn := hn2; have ht := ht2; have B := B2; clear r2 g2 hn2 ht2 B2)
    | ((with_reducible show wpList _ _ _ (⟨_, .store 26 _ _, _, _, _, _⟩ :: _) _ _); refine store_held g (by first | exact wanted_none rfl | exact wanted_some rfl rfl rfl rfl) (by exact rfl) (by exact rfl) (by exact rfl) (by exact dqlInfo) (by exact rfl) (by exact rfl) ?_; intro w2 g2 F2; have r2 := r.foot F2 (by omega); have hn2 := hn.foot F2 (by omega); have ht2 := ht.foot F2 (by omega); have B2 := below_foot B F2 (by omega) (Nat.le_refl _); clear F2; clear g r hn ht B; have g := g2; have r := r2; have hn := hn2; have ht := ht2; have B := B2; clear g2 r2 hn2 ht2 B2)
    | ((with_reducible show wpList _ _ _ (⟨_, .store _ _ _, _, _, _, _⟩ :: _) _ _); refine store_fld g (by first | exact wanted_none rfl | exact wanted_some rfl rfl rfl rfl) (by exact rfl) (by exact rfl) (by exact rfl) (by first | exact infoU32 | exact infoU64) (by exact rfl) (by exact rfl) ?_; intro w2 g2 F2; simp only [List.setIfInBounds_toArray, List.set_cons_succ, List.set_cons_zero] at g2; have r2 := r.foot F2 (by omega); have hn2 := hn.foot F2 (by omega); have ht2 := ht.foot F2 (by omega); have B2 := below_foot B F2 (by omega) (Nat.le_refl _); clear F2; clear g r hn ht B; have g := g2; have r := r2; have hn := hn2; have ht := ht2; have B := B2; clear g2 r2 hn2 ht2 B2)
    | (go_at_call 32; refine (excess_pv _ _ _ _ _ _ _ _ _ _ _ _ _ _).mono ?_; rintro e w2 ⟨rfl, hb⟩; have g2 := g.below hb g.lt; have r2 := r.below hb r.lt; have hn2 := hn.below hb hn.lt; have ht2 := ht.below hb ht.lt; have B2 := B.trans (hb.mono B.size); clear hb; clear g r hn ht B; have g := g2; have r := r2; have hn := hn2; have ht := ht2; have B := B2; clear g2 r2 hn2 ht2 B2)
    | (go_at_call 41; refine (remaining_pv _ _ _ _ _ _ _ _ _ _ _ _ _ _ _).mono ?_; rintro e w2 ⟨rfl, hb⟩; have g2 := g.below hb g.lt; have r2 := r.below hb r.lt; have hn2 := hn.below hb hn.lt; have ht2 := ht.below hb ht.lt; have B2 := B.trans (hb.mono B.size); clear hb; clear g r hn ht B; have g := g2; have r := r2; have hn := hn2; have ht := ht2; have B := B2; clear g2 r2 hn2 ht2 B2)
    | (go_at_call 42; refine (allPrevious_pv _ _ _ _ _ _ _ _ _ _ _ _ _ _ _).mono ?_; rintro e w2 ⟨rfl, hb⟩; have g2 := g.below hb g.lt; have r2 := r.below hb r.lt; have hn2 := hn.below hb hn.lt; have ht2 := ht.below hb ht.lt; have B2 := B.trans (hb.mono B.size); clear hb; clear g r hn ht B; have g := g2; have r := r2; have hn := hn2; have ht := ht2; have B := B2; clear g2 r2 hn2 ht2 B2)
    | (go_at_call 43; refine (restarted_pv _ _ _ _ _ _ _ _ _ _ _ _ _ _ _).mono ?_; rintro e w2 ⟨rfl, hb⟩; have g2 := g.below hb g.lt; have r2 := r.below hb r.lt; have hn2 := hn.below hb hn.lt; have ht2 := ht.below hb ht.lt; have B2 := B.trans (hb.mono B.size); clear hb; clear g r hn ht B; have g := g2; have r := r2; have hn := hn2; have ht := ht2; have B := B2; clear g2 r2 hn2 ht2 B2)
    | (go_at_call 45; refine (slack_pv _ _ _ _ _ _ _ _ _ _ _ _ _ _ _).mono ?_; rintro e w2 ⟨rfl, hb⟩; have g2 := g.below hb g.lt; have r2 := r.below hb r.lt; have hn2 := hn.below hb hn.lt; have ht2 := ht.below hb ht.lt; have B2 := B.trans (hb.mono B.size); clear hb; clear g r hn ht B; have g := g2; have r := r2; have hn := hn2; have ht := ht2; have B := B2; clear g2 r2 hn2 ht2 B2)
    | (go_at_call 38; refine (over_g _ _ _).mono ?_; rintro e w' ⟨rfl, rfl⟩))
        go_meet
        case rel => exact ⟨congrArg Value.bool (by rw [HE.out]; simp [H3.out]), by first | exact g | (rw [H3.out]; exact g) | (rw [← H3.out]; exact g), r, hn, ht, B⟩
      · have e3 : (pq == comp) = false := by simpa using h3
        rcases h4 : DQ.ah ((comp + n) % 4294967296) pq
        all_goals
          have H2 := Lib.hid h2
          have H3 := Lib.hid h3
          go_wp2_with (first
    | go_skip
    | ((with_reducible show wpList _ _ _ (⟨_, .load 26 _, _, _, _, _⟩ :: _) _ _); refine load_held g (by first | exact wanted_none rfl | exact wanted_some rfl rfl rfl rfl) (by exact rfl) (by exact rfl) Try.underlying26 rfl dqlInfo ?_)
    | ((with_reducible show wpList _ _ _ (⟨_, .load _ _, _, _, _, _⟩ :: _) _ _); refine load_fld g (by first | exact wanted_none rfl | exact wanted_some rfl rfl rfl rfl) (by exact rfl) (by exact rfl) (by first | exact Try.underlying22 | exact Try.underlying23) rfl (by exact rfl) ?_)
    | ((with_reducible show wpList _ _ _ (⟨_, .load _ _, _, _, _, _⟩ :: _) _ _); refine load_fld hn (by first | exact wanted_none rfl | exact wanted_some rfl rfl rfl rfl) (by exact rfl) (by exact rfl) (by first | exact Try.underlying22 | exact Try.underlying23) rfl (by exact rfl) ?_)
    | ((with_reducible show wpList _ _ _ (⟨_, .load _ _, _, _, _, _⟩ :: _) _ _); refine load_fld ht (by first | exact wanted_none rfl | exact wanted_some rfl rfl rfl rfl) (by exact rfl) (by exact rfl) (by first | exact Try.underlying22 | exact Try.underlying23) rfl (by exact rfl) ?_)
    | ((with_reducible show wpList _ _ _ (⟨_, .store 26 _ _, _, _, _, _⟩ :: _) _ _); refine store_held r (by first | exact wanted_none rfl | exact wanted_some rfl rfl rfl rfl) (by exact rfl) (by exact rfl) (by exact rfl) (by exact dqlInfo) (by exact rfl) (by exact rfl) ?_; intro w2 r2 F2; have g2 := g.foot F2 (by omega); have hn2 := hn.foot F2 (by omega); have ht2 := ht.foot F2 (by omega); have B2 := below_foot B F2 (by omega) (Nat.le_refl _); clear F2; clear r g hn ht B; have r := r2; have g := g2; have hn := hn2; have ht := ht2; have B := B2; clear r2 g2 hn2 ht2 B2)
    | ((with_reducible show wpList _ _ _ (⟨_, .store 26 _ _, _, _, _, _⟩ :: _) _ _); refine store_held g (by first | exact wanted_none rfl | exact wanted_some rfl rfl rfl rfl) (by exact rfl) (by exact rfl) (by exact rfl) (by exact dqlInfo) (by exact rfl) (by exact rfl) ?_; intro w2 g2 F2; have r2 := r.foot F2 (by omega); have hn2 := hn.foot F2 (by omega); have ht2 := ht.foot F2 (by omega); have B2 := below_foot B F2 (by omega) (Nat.le_refl _); clear F2; clear g r hn ht B; have g := g2; have r := r2; have hn := hn2; have ht := ht2; have B := B2; clear g2 r2 hn2 ht2 B2)
    | ((with_reducible show wpList _ _ _ (⟨_, .store _ _ _, _, _, _, _⟩ :: _) _ _); refine store_fld g (by first | exact wanted_none rfl | exact wanted_some rfl rfl rfl rfl) (by exact rfl) (by exact rfl) (by exact rfl) (by first | exact infoU32 | exact infoU64) (by exact rfl) (by exact rfl) ?_; intro w2 g2 F2; simp only [List.setIfInBounds_toArray, List.set_cons_succ, List.set_cons_zero] at g2; have r2 := r.foot F2 (by omega); have hn2 := hn.foot F2 (by omega); have ht2 := ht.foot F2 (by omega); have B2 := below_foot B F2 (by omega) (Nat.le_refl _); clear F2; clear g r hn ht B; have g := g2; have r := r2; have hn := hn2; have ht := ht2; have B := B2; clear g2 r2 hn2 ht2 B2)
    | (go_at_call 32; refine (excess_pv _ _ _ _ _ _ _ _ _ _ _ _ _ _).mono ?_; rintro e w2 ⟨rfl, hb⟩; have g2 := g.below hb g.lt; have r2 := r.below hb r.lt; have hn2 := hn.below hb hn.lt; have ht2 := ht.below hb ht.lt; have B2 := B.trans (hb.mono B.size); clear hb; clear g r hn ht B; have g := g2; have r := r2; have hn := hn2; have ht := ht2; have B := B2; clear g2 r2 hn2 ht2 B2)
    | (go_at_call 41; refine (remaining_pv _ _ _ _ _ _ _ _ _ _ _ _ _ _ _).mono ?_; rintro e w2 ⟨rfl, hb⟩; have g2 := g.below hb g.lt; have r2 := r.below hb r.lt; have hn2 := hn.below hb hn.lt; have ht2 := ht.below hb ht.lt; have B2 := B.trans (hb.mono B.size); clear hb; clear g r hn ht B; have g := g2; have r := r2; have hn := hn2; have ht := ht2; have B := B2; clear g2 r2 hn2 ht2 B2)
    | (go_at_call 42; refine (allPrevious_pv _ _ _ _ _ _ _ _ _ _ _ _ _ _ _).mono ?_; rintro e w2 ⟨rfl, hb⟩; have g2 := g.below hb g.lt; have r2 := r.below hb r.lt; have hn2 := hn.below hb hn.lt; have ht2 := ht.below hb ht.lt; have B2 := B.trans (hb.mono B.size); clear hb; clear g r hn ht B; have g := g2; have r := r2; have hn := hn2; have ht := ht2; have B := B2; clear g2 r2 hn2 ht2 B2)
    | (go_at_call 43; refine (restarted_pv _ _ _ _ _ _ _ _ _ _ _ _ _ _ _).mono ?_; rintro e w2 ⟨rfl, hb⟩; have g2 := g.below hb g.lt; have r2 := r.below hb r.lt; have hn2 := hn.below hb hn.lt; have ht2 := ht.below hb ht.lt; have B2 := B.trans (hb.mono B.size); clear hb; clear g r hn ht B; have g := g2; have r := r2; have hn := hn2; have ht := ht2; have B := B2; clear g2 r2 hn2 ht2 B2)
    | (go_at_call 45; refine (slack_pv _ _ _ _ _ _ _ _ _ _ _ _ _ _ _).mono ?_; rintro e w2 ⟨rfl, hb⟩; have g2 := g.below hb g.lt; have r2 := r.below hb r.lt; have hn2 := hn.below hb hn.lt; have ht2 := ht.below hb ht.lt; have B2 := B.trans (hb.mono B.size); clear hb; clear g r hn ht B; have g := g2; have r := r2; have hn := hn2; have ht := ht2; have B := B2; clear g2 r2 hn2 ht2 B2)
    | (go_at_call 38; refine (over_g _ _ _).mono ?_; rintro e w' ⟨rfl, rfl⟩))
          go_meet
          case rel =>
            have h2 := H2.out
            have h3 := H3.out
            exact ⟨congrArg Value.bool (by rw [HE.out]; simp [h2, h3, h4]), g, r, hn, ht, B⟩
  case rest =>
    clear g r hn ht B
    obtain ⟨rfl, g, r, hn, ht, B⟩ := hcut
    rw [HU.out]
    go_upto_region 3 with (fail)
    have hS : (Held wc.drew w.heap.size 26 (dqc q adj last lim comp pov plast pq slack start hold mn mx) ∧ Held wc.drew (w.heap.size + 1) 26 (dqc 0 0 0 0 0 0 0 0 0 0 0 0 0) ∧ Held wc.drew bn 22 #[.int .u32 n] ∧ Held wc.drew bt 23 #[.int .u64 t] ∧ Below w.heap.size w wc.drew) := ⟨g.drew, r.drew, hn.drew, ht.drew, B.drew⟩
    refine (wpIn_wide (n := 6)).1 ?_
    refine wpIn_region_G (fun wx => Held wx w.heap.size 26 (dqc q adj last lim comp pov plast pq slack start hold mn mx) ∧ Held wx (w.heap.size + 1) 26 (dqc 0 0 0 0 0 0 0 0 0 0 0 0 0) ∧ Held wx bn 22 #[.int .u32 n] ∧ Held wx bt 23 #[.int .u64 t] ∧ Below w.heap.size w wx) 7 8 rfl (by kernel_rfl) (fun hcl => ?_)
    refine wpAnyG_take (i := 0) 1 (v := .pointer (some ⟨w.heap.size, 8, none⟩)) rfl rfl (by kernel_rfl) (by kernel_rfl) (by kernel_rfl) (fun _ _ _ h => h) (by kernel_rfl) (by decide) hcl ⟨by rfl, fun w _ => ?hy_1, fun _ => rfl⟩ hS (fun hc1 => ?rest_1)
    case hy_1 => go_simp; try (first | (simp only [IntKind.wrap_u32]; done) | rfl)
    clear hcl; have hcl := hc1; clear hc1; simp only [List.getElem_toArray, List.getElem_cons_zero, List.getElem_cons_succ, Act.put, List.setIfInBounds_toArray, List.set_cons_zero, List.set_cons_succ]
    refine wpAnyG_take (i := 1) 1 (v := .int .u32 slack) rfl rfl (by kernel_rfl) (by kernel_rfl) (by kernel_rfl) (fun _ _ _ h => h) (by kernel_rfl) (by decide) hcl (yields_fld (fun w h => h.1) (by exact rfl) (by exact rfl) (by exact rfl) Try.underlying22 rfl (by exact rfl)) hS (fun hc1 => ?rest_2)
    clear hcl; have hcl := hc1; clear hc1; simp only [List.getElem_toArray, List.getElem_cons_zero, List.getElem_cons_succ, Act.put, List.setIfInBounds_toArray, List.set_cons_zero, List.set_cons_succ]
    refine wpAnyG_take (i := 2) 1 (v := dqv q adj last lim comp pov plast pq slack start hold mn mx) rfl rfl (by kernel_rfl) (by kernel_rfl) (by kernel_rfl) (fun _ _ _ h => h) (by kernel_rfl) (by decide) hcl (yields_held (fun w h => h.1) (by exact rfl) (by exact rfl) (by exact rfl) Try.underlying26 rfl dqlInfo) hS (fun hc1 => ?rest_3)
    clear hcl; have hcl := hc1; clear hc1; simp only [List.getElem_toArray, List.getElem_cons_zero, List.getElem_cons_succ, Act.put, List.setIfInBounds_toArray, List.set_cons_zero, List.set_cons_succ]
    refine wpAnyG_take (i := 3) 1 (v := .int .u32 n) rfl rfl (by kernel_rfl) (by kernel_rfl) (by kernel_rfl) (fun _ _ _ h => h) (by kernel_rfl) (by decide) hcl (yields_fld (fun w h => h.2.2.1) (by exact rfl) (by exact rfl) (by exact rfl) Try.underlying22 rfl (by exact rfl)) hS (fun hc1 => ?rest_4)
    clear hcl; have hcl := hc1; clear hc1; simp only [List.getElem_toArray, List.getElem_cons_zero, List.getElem_cons_succ, Act.put, List.setIfInBounds_toArray, List.set_cons_zero, List.set_cons_succ]
    refine wpAnyG_one (i := 4) (by kernel_rfl) rfl (fun K hK => ?_)
    go_simp
    refine ⟨trivial, (callsIn_wide.2 (slack_pv _ _ _ _ _ _ _ _ _ _ _ _ _ _ _)).mono ?_⟩
    rintro e w5 ⟨rfl, hb⟩
    have hS5 : (Held w5 w.heap.size 26 (dqc q adj last lim comp pov plast pq slack start hold mn mx) ∧ Held w5 (w.heap.size + 1) 26 (dqc 0 0 0 0 0 0 0 0 0 0 0 0 0) ∧ Held w5 bn 22 #[.int .u32 n] ∧ Held w5 bt 23 #[.int .u64 t] ∧ Below w.heap.size w w5) := ⟨hS.1.below hb hS.1.lt, hS.2.1.below hb hS.2.1.lt, hS.2.2.1.below hb hS.2.2.1.lt, hS.2.2.2.1.below hb hS.2.2.2.1.lt, hS.2.2.2.2.trans (hb.mono hS.2.2.2.2.size)⟩
    clear hb hS
    have hS := hS5
    clear hS5
    obtain ⟨X, hX⟩ : ∃ X, (if 0 < pov then max (DQ.ov ((lim + pov) % 4294967296) (2 * n % 4294967296)) (DQ.ov plast pov) else DQ.ov ((lim + pov) % 4294967296) (2 * n % 4294967296)) = X := ⟨_, rfl⟩
    rw [hX]
    have HX := Lib.hid hX
    clear hX
    refine hK _ _ (.inr hS) ?_
    clear hK K
    refine wpAnyG_one (i := 5) (by kernel_rfl) rfl (fun K hK => ?_)
    go_simp
    refine hK _ _ (.inr hS) ?_
    clear hK K
    refine wpAnyG_one (i := 6) (by kernel_rfl) rfl (fun K hK => ?_)
    go_simp
    refine hK _ _ (.inr hS) ?_
    clear hK K
    clear hcl g r hn ht B
    obtain ⟨g, r, hn, ht, B⟩ := hS
    have c8 : w5.cell? ⟨w.heap.size, 8, none⟩ = some (.int .u32 slack) := (Held.dql g).1.2.2.2.2.2.2.2.2.1
    have f8 := g.frozen 8
    refine wpAnyG_one (i := 7) (by kernel_rfl) rfl (fun K hK => ?_)
    go_simp
    refine hK _ _ (.inl (by kernel_rfl)) ?_
    clear hK K c8 f8
    refine wpAnyG_done (by kernel_rfl) ?_ _
    have e : (if X < slack then X else slack) = DQ.slackN (⟨q, adj, last, lim, comp, pov, plast, pq, slack, start, hold, mn, mx⟩ : DQ) n := by
      show _ = min slack (if 0 < pov then max (DQ.ov ((lim + pov) % 4294967296) (2 * n % 4294967296)) (DQ.ov plast pov) else DQ.ov ((lim + pov) % 4294967296) (2 * n % 4294967296))
      rw [HX.out]
      split <;> omega
    rw [e]
    clear e
    have g2 := g.set 8 (.int .u32 (DQ.slackN (⟨q, adj, last, lim, comp, pov, plast, pq, slack, start, hold, mn, mx⟩ : DQ) n))
    have r2 := r.other (by omega) 8 (.int .u32 (DQ.slackN (⟨q, adj, last, lim, comp, pov, plast, pq, slack, start, hold, mn, mx⟩ : DQ) n)) (b' := w.heap.size)
    have hn2 := hn.other (by omega) 8 (.int .u32 (DQ.slackN (⟨q, adj, last, lim, comp, pov, plast, pq, slack, start, hold, mn, mx⟩ : DQ) n)) (b' := w.heap.size)
    have ht2 := ht.other (by omega) 8 (.int .u32 (DQ.slackN (⟨q, adj, last, lim, comp, pov, plast, pq, slack, start, hold, mn, mx⟩ : DQ) n)) (b' := w.heap.size)
    have B2 := B.setCell (p := ⟨w.heap.size, 8, none⟩) (Nat.le_refl _) (.int .u32 (DQ.slackN (⟨q, adj, last, lim, comp, pov, plast, pq, slack, start, hold, mn, mx⟩ : DQ) n))
    generalize w5.setCell ⟨w.heap.size, 8, none⟩ (.int .u32 (DQ.slackN (⟨q, adj, last, lim, comp, pov, plast, pq, slack, start, hold, mn, mx⟩ : DQ) n)) = w6 at g2 r2 hn2 ht2 B2 ⊢
    simp only [List.setIfInBounds_toArray, List.set_cons_succ, List.set_cons_zero] at g2
    obtain ⟨L, hLL⟩ : ∃ L, DQ.slackN (⟨q, adj, last, lim, comp, pov, plast, pq, slack, start, hold, mn, mx⟩ : DQ) n = L := ⟨_, rfl⟩
    rw [hLL] at g2 ⊢
    have HL := Lib.hid hLL
    clear hLL
    clear g r hn ht B
    have g := g2
    have r := r2
    have hn := hn2
    have ht := ht2
    have B := B2
    clear g2 r2 hn2 ht2 B2
    go_upto_region 4 with (fail)
    go_cut [42] (fun s42 wx => s42 = .bool (DQ.dueB (⟨q, adj, last, lim, comp, pov, plast, pq, slack, start, hold, mn, mx⟩ : DQ) t) ∧ wx = w6)
    case first =>
      have c9 : w6.cell? ⟨w.heap.size, 9, none⟩ = some (.int .u64 start) := g.cell 9
      have c10 : w6.cell? ⟨w.heap.size, 10, none⟩ = some (.int .u64 hold) := g.cell 10
      have ct : w6.cell? ⟨bt, 0, none⟩ = some (.int .u64 t) := ht.cell 0
      clear g r hn ht B HL HD HU HX
      by_cases h5 : start < t
      all_goals by_cases h6 : hold < t - start
      all_goals
        have H5 := Lib.hid h5
        have H6 := Lib.hid h6
        go_wp2
        go_meet
        case rel =>
          have h5 := H5.out
          have h6 := H6.out
          exact ⟨congrArg Value.bool (by show _ = (decide (start < t) && decide (hold < t - start)); simp [h5, h6]), rfl⟩
    case rest =>
      obtain ⟨rfl, rfl⟩ := hcut
      rw [HD.out]
      go_wp2_with (first
    | go_skip
    | ((with_reducible show wpList _ _ _ (⟨_, .load 26 _, _, _, _, _⟩ :: _) _ _); refine load_held g (by first | exact wanted_none rfl | exact wanted_some rfl rfl rfl rfl) (by exact rfl) (by exact rfl) Try.underlying26 rfl dqlInfo ?_)
    | ((with_reducible show wpList _ _ _ (⟨_, .load _ _, _, _, _, _⟩ :: _) _ _); refine load_fld g (by first | exact wanted_none rfl | exact wanted_some rfl rfl rfl rfl) (by exact rfl) (by exact rfl) (by first | exact Try.underlying22 | exact Try.underlying23) rfl (by exact rfl) ?_)
    | ((with_reducible show wpList _ _ _ (⟨_, .load _ _, _, _, _, _⟩ :: _) _ _); refine load_fld hn (by first | exact wanted_none rfl | exact wanted_some rfl rfl rfl rfl) (by exact rfl) (by exact rfl) (by first | exact Try.underlying22 | exact Try.underlying23) rfl (by exact rfl) ?_)
    | ((with_reducible show wpList _ _ _ (⟨_, .load _ _, _, _, _, _⟩ :: _) _ _); refine load_fld ht (by first | exact wanted_none rfl | exact wanted_some rfl rfl rfl rfl) (by exact rfl) (by exact rfl) (by first | exact Try.underlying22 | exact Try.underlying23) rfl (by exact rfl) ?_)
    | ((with_reducible show wpList _ _ _ (⟨_, .store 26 _ _, _, _, _, _⟩ :: _) _ _); refine store_held r (by first | exact wanted_none rfl | exact wanted_some rfl rfl rfl rfl) (by exact rfl) (by exact rfl) (by exact rfl) (by exact dqlInfo) (by exact rfl) (by exact rfl) ?_; intro w2 r2 F2; have g2 := g.foot F2 (by omega); have hn2 := hn.foot F2 (by omega); have ht2 := ht.foot F2 (by omega); have B2 := below_foot B F2 (by omega) (Nat.le_refl _); clear F2; clear r g hn ht B; have r := r2; have g := g2; have hn := hn2; have ht := ht2; have B := B2; clear r2 g2 hn2 ht2 B2)
    | ((with_reducible show wpList _ _ _ (⟨_, .store 26 _ _, _, _, _, _⟩ :: _) _ _); refine store_held g (by first | exact wanted_none rfl | exact wanted_some rfl rfl rfl rfl) (by exact rfl) (by exact rfl) (by exact rfl) (by exact dqlInfo) (by exact rfl) (by exact rfl) ?_; intro w2 g2 F2; have r2 := r.foot F2 (by omega); have hn2 := hn.foot F2 (by omega); have ht2 := ht.foot F2 (by omega); have B2 := below_foot B F2 (by omega) (Nat.le_refl _); clear F2; clear g r hn ht B; have g := g2; have r := r2; have hn := hn2; have ht := ht2; have B := B2; clear g2 r2 hn2 ht2 B2)
    | ((with_reducible show wpList _ _ _ (⟨_, .store _ _ _, _, _, _, _⟩ :: _) _ _); refine store_fld g (by first | exact wanted_none rfl | exact wanted_some rfl rfl rfl rfl) (by exact rfl) (by exact rfl) (by exact rfl) (by first | exact infoU32 | exact infoU64) (by exact rfl) (by exact rfl) ?_; intro w2 g2 F2; simp only [List.setIfInBounds_toArray, List.set_cons_succ, List.set_cons_zero] at g2; have r2 := r.foot F2 (by omega); have hn2 := hn.foot F2 (by omega); have ht2 := ht.foot F2 (by omega); have B2 := below_foot B F2 (by omega) (Nat.le_refl _); clear F2; clear g r hn ht B; have g := g2; have r := r2; have hn := hn2; have ht := ht2; have B := B2; clear g2 r2 hn2 ht2 B2)
    | (go_at_call 32; refine (excess_pv _ _ _ _ _ _ _ _ _ _ _ _ _ _).mono ?_; rintro e w2 ⟨rfl, hb⟩; have g2 := g.below hb g.lt; have r2 := r.below hb r.lt; have hn2 := hn.below hb hn.lt; have ht2 := ht.below hb ht.lt; have B2 := B.trans (hb.mono B.size); clear hb; clear g r hn ht B; have g := g2; have r := r2; have hn := hn2; have ht := ht2; have B := B2; clear g2 r2 hn2 ht2 B2)
    | (go_at_call 41; refine (remaining_pv _ _ _ _ _ _ _ _ _ _ _ _ _ _ _).mono ?_; rintro e w2 ⟨rfl, hb⟩; have g2 := g.below hb g.lt; have r2 := r.below hb r.lt; have hn2 := hn.below hb hn.lt; have ht2 := ht.below hb ht.lt; have B2 := B.trans (hb.mono B.size); clear hb; clear g r hn ht B; have g := g2; have r := r2; have hn := hn2; have ht := ht2; have B := B2; clear g2 r2 hn2 ht2 B2)
    | (go_at_call 42; refine (allPrevious_pv _ _ _ _ _ _ _ _ _ _ _ _ _ _ _).mono ?_; rintro e w2 ⟨rfl, hb⟩; have g2 := g.below hb g.lt; have r2 := r.below hb r.lt; have hn2 := hn.below hb hn.lt; have ht2 := ht.below hb ht.lt; have B2 := B.trans (hb.mono B.size); clear hb; clear g r hn ht B; have g := g2; have r := r2; have hn := hn2; have ht := ht2; have B := B2; clear g2 r2 hn2 ht2 B2)
    | (go_at_call 43; refine (restarted_pv _ _ _ _ _ _ _ _ _ _ _ _ _ _ _).mono ?_; rintro e w2 ⟨rfl, hb⟩; have g2 := g.below hb g.lt; have r2 := r.below hb r.lt; have hn2 := hn.below hb hn.lt; have ht2 := ht.below hb ht.lt; have B2 := B.trans (hb.mono B.size); clear hb; clear g r hn ht B; have g := g2; have r := r2; have hn := hn2; have ht := ht2; have B := B2; clear g2 r2 hn2 ht2 B2)
    | (go_at_call 45; refine (slack_pv _ _ _ _ _ _ _ _ _ _ _ _ _ _ _).mono ?_; rintro e w2 ⟨rfl, hb⟩; have g2 := g.below hb g.lt; have r2 := r.below hb r.lt; have hn2 := hn.below hb hn.lt; have ht2 := ht.below hb ht.lt; have B2 := B.trans (hb.mono B.size); clear hb; clear g r hn ht B; have g := g2; have r := r2; have hn := hn2; have ht := ht2; have B := B2; clear g2 r2 hn2 ht2 B2)
    | (go_at_call 38; refine (over_g _ _ _).mono ?_; rintro e w' ⟨rfl, rfl⟩))
      refine ret_held2 r (by exact rfl) (by exact rfl) Try.underlying26 rfl dqlInfo ⟨?_, B⟩
      rw [HL.out]
      rfl
end Go.Proofs.Ytfgaeaebchgcdaa
