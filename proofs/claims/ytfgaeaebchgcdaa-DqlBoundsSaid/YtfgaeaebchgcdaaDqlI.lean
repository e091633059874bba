/-
  The two steps of dql's completing: raising and lowering, and the functions that make them. Each returns what the state becomes, and whether the step applies. Conditions: the boxes that a step has taken hold the number and the time.
-/
import Derived.Test.YtfgaeaebchgcdaaDqlH
import Derived.Test.YtfgaeaebchgcdaaOrdH
namespace Go.Proofs.Ytfgaeaebchgcdaa
set_option linter.unusedSimpArgs false
set_option linter.unusedVariables false
open Go.ChangeShapes Go.WideShapes Go.ChangeAt Go.RowKit

set_option maxRecDepth 4000 in
set_option maxHeartbeats 4000000 in
theorem raising1_no (q adj last lim comp pov plast pq slack start hold mn mx n t : Int) (bn bt : Nat) (hu : DQ.upB (⟨q, adj, last, lim, comp, pov, plast, pq, slack, start, hold, mn, mx⟩ : DQ) n = false) (w : World) (hn : Held w bn 22 #[.int .u32 n]) (ht : Held w bt 23 #[.int .u64 t]) : Calls Try.prog 40 #[dqv q adj last lim comp pov plast pq slack start hold mn mx, .pointer (some ⟨bn, 0, none⟩), .pointer (some ⟨bt, 0, none⟩)] w fun e w' => e = .returned (.tuple #[dqv q adj last lim comp pov plast pq slack start hold mn mx, .bool false]) ∧ Below w.heap.size w w' := by
  have HU := Lib.hid hu
  clear hu
  go_enter Try.func40, Try.ntmps40
  go_upto_region 1 with (fail)
  obtain ⟨g, r, B⟩ := two_boxes w 26 26 (dqc q adj last lim comp pov plast pq slack start hold mn mx) (dqc 0 0 0 0 0 0 0 0 0 0 0 0 0)
  have hn1 := (hn.alloc (.cells (dqc q adj last lim comp pov plast pq slack start hold mn mx) 26)).alloc (.cells (dqc 0 0 0 0 0 0 0 0 0 0 0 0 0) 26)
  have ht1 := (ht.alloc (.cells (dqc q adj last lim comp pov plast pq slack start hold mn mx) 26)).alloc (.cells (dqc 0 0 0 0 0 0 0 0 0 0 0 0 0) 26)
  have ln := hn.lt
  have lt := ht.lt
  generalize (w.alloc (.cells (dqc q adj last lim comp pov plast pq slack start hold mn mx) 26)).alloc (.cells (dqc 0 0 0 0 0 0 0 0 0 0 0 0 0) 26) = w1 at g r B hn1 ht1 ⊢
  clear hn ht
  have hn := hn1
  have ht := ht1
  clear hn1 ht1
  go_cut [6] (fun s6 wx => s6 = .bool (decide (0 < DQ.ov (DQ.fr comp q) lim) && decide (DQ.fr ((comp + n) % 4294967296) q = 0)) ∧ Held wx w.heap.size 26 (dqc q adj last lim comp pov plast pq slack start hold mn mx) ∧ Held wx (w.heap.size + 1) 26 (dqc 0 0 0 0 0 0 0 0 0 0 0 0 0) ∧ Held wx bn 22 #[.int .u32 n] ∧ Held wx bt 23 #[.int .u64 t] ∧ Below w.heap.size w wx)
  case first =>
    by_cases h1 : 0 < DQ.ov (DQ.fr comp q) lim
    · by_cases h2 : DQ.fr ((comp + n) % 4294967296) q = 0
      all_goals
        have H2 := Lib.hid h2
        go_wp2_with (first
    | go_skip
    | ((with_reducible show wpList _ _ _ (⟨_, .load 26 _, _, _, _, _⟩ :: _) _ _); refine load_held g (by first | exact wanted_none rfl | exact wanted_some rfl rfl rfl rfl) (by exact rfl) (by exact rfl) Try.underlying26 rfl dqlInfo ?_)
    | ((with_reducible show wpList _ _ _ (⟨_, .load _ _, _, _, _, _⟩ :: _) _ _); refine load_fld g (by first | exact wanted_none rfl | exact wanted_some rfl rfl rfl rfl) (by exact rfl) (by exact rfl) (by first | exact Try.underlying22 | exact Try.underlying23) rfl (by exact rfl) ?_)
    | ((with_reducible show wpList _ _ _ (⟨_, .load _ _, _, _, _, _⟩ :: _) _ _); refine load_fld hn (by first | exact wanted_none rfl | exact wanted_some rfl rfl rfl rfl) (by exact rfl) (by exact rfl) (by first | exact Try.underlying22 | exact Try.underlying23) rfl (by exact rfl) ?_)
    | ((with_reducible show wpList _ _ _ (⟨_, .load _ _, _, _, _, _⟩ :: _) _ _); refine load_fld ht (by first | exact wanted_none rfl | exact wanted_some rfl rfl rfl rfl) (by exact rfl) (by exact rfl) (by first | exact Try.underlying22 | exact Try.underlying23) rfl (by exact rfl) ?_)
    | ((with_reducible show wpList _ _ _ (⟨_, .store 26 _ _, _, _, _, _⟩ :: _) _ _); refine store_held r (by first | exact wanted_none rfl | exact wanted_some rfl rfl rfl rfl) (by exact rfl) (by exact rfl) (by exact rfl) (by exact dqlInfo) (by exact rfl) (by exact rfl) ?_; intro w2 r2 F2; have g2 := g.foot F2 (by omega); have hn2 := hn.foot F2 (by omega); have ht2 := ht.foot F2 (by omega); have B2 := below_foot B F2 (by omega) (Nat.le_refl _); clear F2; clear r g hn ht B; have r := r2; have g := g2; have hn := hn2; have ht := ht2; have B := B2; clear r2 g2 hn2 ht2 B2)
    | ((with_reducible show wpList _ _ _ (⟨_, .store _ _ _, _, _, _, _⟩ :: _) _ _); refine store_fld g (by first | exact wanted_none rfl | exact wanted_some rfl rfl rfl rfl) (by exact rfl) (by exact rfl) (by exact rfl) (by first | exact infoU32 | exact infoU64) (by exact rfl) (by exact rfl) ?_; intro w2 g2 F2; simp only [List.setIfInBounds_toArray, List.set_cons_succ, List.set_cons_zero] at g2; have r2 := r.foot F2 (by omega); have hn2 := hn.foot F2 (by omega); have ht2 := ht.foot F2 (by omega); have B2 := below_foot B F2 (by omega) (Nat.le_refl _); clear F2; clear g r hn ht B; have g := g2; have r := r2; have hn := hn2; have ht := ht2; have B := B2; clear g2 r2 hn2 ht2 B2)
    | (go_at_call 32; refine (excess_pv _ _ _ _ _ _ _ _ _ _ _ _ _ _).mono ?_; rintro e w2 ⟨rfl, hb⟩; have g2 := g.below hb g.lt; have r2 := r.below hb r.lt; have hn2 := hn.below hb hn.lt; have ht2 := ht.below hb ht.lt; have B2 := B.trans (hb.mono B.size); clear hb; clear g r hn ht B; have g := g2; have r := r2; have hn := hn2; have ht := ht2; have B := B2; clear g2 r2 hn2 ht2 B2)
    | (go_at_call 41; refine (remaining_pv _ _ _ _ _ _ _ _ _ _ _ _ _ _ _).mono ?_; rintro e w2 ⟨rfl, hb⟩; have g2 := g.below hb g.lt; have r2 := r.below hb r.lt; have hn2 := hn.below hb hn.lt; have ht2 := ht.below hb ht.lt; have B2 := B.trans (hb.mono B.size); clear hb; clear g r hn ht B; have g := g2; have r := r2; have hn := hn2; have ht := ht2; have B := B2; clear g2 r2 hn2 ht2 B2)
    | (go_at_call 42; refine (allPrevious_pv _ _ _ _ _ _ _ _ _ _ _ _ _ _ _).mono ?_; rintro e w2 ⟨rfl, hb⟩; have g2 := g.below hb g.lt; have r2 := r.below hb r.lt; have hn2 := hn.below hb hn.lt; have ht2 := ht.below hb ht.lt; have B2 := B.trans (hb.mono B.size); clear hb; clear g r hn ht B; have g := g2; have r := r2; have hn := hn2; have ht := ht2; have B := B2; clear g2 r2 hn2 ht2 B2)
    | (go_at_call 43; refine (restarted_pv _ _ _ _ _ _ _ _ _ _ _ _ _ _ _).mono ?_; rintro e w2 ⟨rfl, hb⟩; have g2 := g.below hb g.lt; have r2 := r.below hb r.lt; have hn2 := hn.below hb hn.lt; have ht2 := ht.below hb ht.lt; have B2 := B.trans (hb.mono B.size); clear hb; clear g r hn ht B; have g := g2; have r := r2; have hn := hn2; have ht := ht2; have B := B2; clear g2 r2 hn2 ht2 B2)
    | (go_at_call 45; refine (slack_pv _ _ _ _ _ _ _ _ _ _ _ _ _ _ _).mono ?_; rintro e w2 ⟨rfl, hb⟩; have g2 := g.below hb g.lt; have r2 := r.below hb r.lt; have hn2 := hn.below hb hn.lt; have ht2 := ht.below hb ht.lt; have B2 := B.trans (hb.mono B.size); clear hb; clear g r hn ht B; have g := g2; have r := r2; have hn := hn2; have ht := ht2; have B := B2; clear g2 r2 hn2 ht2 B2)
    | (go_at_call 38; refine (over_g _ _ _).mono ?_; rintro e w' ⟨rfl, rfl⟩))
        go_meet
        case rel =>
          have h2 := H2.out
          exact ⟨congrArg Value.bool (by simp [h1, h2]), g, r, hn, ht, B⟩
    · go_wp2_with (first
    | go_skip
    | ((with_reducible show wpList _ _ _ (⟨_, .load 26 _, _, _, _, _⟩ :: _) _ _); refine load_held g (by first | exact wanted_none rfl | exact wanted_some rfl rfl rfl rfl) (by exact rfl) (by exact rfl) Try.underlying26 rfl dqlInfo ?_)
    | ((with_reducible show wpList _ _ _ (⟨_, .load _ _, _, _, _, _⟩ :: _) _ _); refine load_fld g (by first | exact wanted_none rfl | exact wanted_some rfl rfl rfl rfl) (by exact rfl) (by exact rfl) (by first | exact Try.underlying22 | exact Try.underlying23) rfl (by exact rfl) ?_)
    | ((with_reducible show wpList _ _ _ (⟨_, .load _ _, _, _, _, _⟩ :: _) _ _); refine load_fld hn (by first | exact wanted_none rfl | exact wanted_some rfl rfl rfl rfl) (by exact rfl) (by exact rfl) (by first | exact Try.underlying22 | exact Try.underlying23) rfl (by exact rfl) ?_)
    | ((with_reducible show wpList _ _ _ (⟨_, .load _ _, _, _, _, _⟩ :: _) _ _); refine load_fld ht (by first | exact wanted_none rfl | exact wanted_some rfl rfl rfl rfl) (by exact rfl) (by exact rfl) (by first | exact Try.underlying22 | exact Try.underlying23) rfl (by exact rfl) ?_)
    | ((with_reducible show wpList _ _ _ (⟨_, .store 26 _ _, _, _, _, _⟩ :: _) _ _); refine store_held r (by first | exact wanted_none rfl | exact wanted_some rfl rfl rfl rfl) (by exact rfl) (by exact rfl) (by exact rfl) (by exact dqlInfo) (by exact rfl) (by exact rfl) ?_; intro w2 r2 F2; have g2 := g.foot F2 (by omega); have hn2 := hn.foot F2 (by omega); have ht2 := ht.foot F2 (by omega); have B2 := below_foot B F2 (by omega) (Nat.le_refl _); clear F2; clear r g hn ht B; have r := r2; have g := g2; have hn := hn2; have ht := ht2; have B := B2; clear r2 g2 hn2 ht2 B2)
    | ((with_reducible show wpList _ _ _ (⟨_, .store _ _ _, _, _, _, _⟩ :: _) _ _); refine store_fld g (by first | exact wanted_none rfl | exact wanted_some rfl rfl rfl rfl) (by exact rfl) (by exact rfl) (by exact rfl) (by first | exact infoU32 | exact infoU64) (by exact rfl) (by exact rfl) ?_; intro w2 g2 F2; simp only [List.setIfInBounds_toArray, List.set_cons_succ, List.set_cons_zero] at g2; have r2 := r.foot F2 (by omega); have hn2 := hn.foot F2 (by omega); have ht2 := ht.foot F2 (by omega); have B2 := below_foot B F2 (by omega) (Nat.le_refl _); clear F2; clear g r hn ht B; have g := g2; have r := r2; have hn := hn2; have ht := ht2; have B := B2; clear g2 r2 hn2 ht2 B2)
    | (go_at_call 32; refine (excess_pv _ _ _ _ _ _ _ _ _ _ _ _ _ _).mono ?_; rintro e w2 ⟨rfl, hb⟩; have g2 := g.below hb g.lt; have r2 := r.below hb r.lt; have hn2 := hn.below hb hn.lt; have ht2 := ht.below hb ht.lt; have B2 := B.trans (hb.mono B.size); clear hb; clear g r hn ht B; have g := g2; have r := r2; have hn := hn2; have ht := ht2; have B := B2; clear g2 r2 hn2 ht2 B2)
    | (go_at_call 41; refine (remaining_pv _ _ _ _ _ _ _ _ _ _ _ _ _ _ _).mono ?_; rintro e w2 ⟨rfl, hb⟩; have g2 := g.below hb g.lt; have r2 := r.below hb r.lt; have hn2 := hn.below hb hn.lt; have ht2 := ht.below hb ht.lt; have B2 := B.trans (hb.mono B.size); clear hb; clear g r hn ht B; have g := g2; have r := r2; have hn := hn2; have ht := ht2; have B := B2; clear g2 r2 hn2 ht2 B2)
    | (go_at_call 42; refine (allPrevious_pv _ _ _ _ _ _ _ _ _ _ _ _ _ _ _).mono ?_; rintro e w2 ⟨rfl, hb⟩; have g2 := g.below hb g.lt; have r2 := r.below hb r.lt; have hn2 := hn.below hb hn.lt; have ht2 := ht.below hb ht.lt; have B2 := B.trans (hb.mono B.size); clear hb; clear g r hn ht B; have g := g2; have r := r2; have hn := hn2; have ht := ht2; have B := B2; clear g2 r2 hn2 ht2 B2)
    | (go_at_call 43; refine (restarted_pv _ _ _ _ _ _ _ _ _ _ _ _ _ _ _).mono ?_; rintro e w2 ⟨rfl, hb⟩; have g2 := g.below hb g.lt; have r2 := r.below hb r.lt; have hn2 := hn.below hb hn.lt; have ht2 := ht.below hb ht.lt; have B2 := B.trans (hb.mono B.size); clear hb; clear g r hn ht B; have g := g2; have r := r2; have hn := hn2; have ht := ht2; have B := B2; clear g2 r2 hn2 ht2 B2)
    | (go_at_call 45; refine (slack_pv _ _ _ _ _ _ _ _ _ _ _ _ _ _ _).mono ?_; rintro e w2 ⟨rfl, hb⟩; have g2 := g.below hb g.lt; have r2 := r.below hb r.lt; have hn2 := hn.below hb hn.lt; have ht2 := ht.below hb ht.lt; have B2 := B.trans (hb.mono B.size); clear hb; clear g r hn ht B; have g := g2; have r := r2; have hn := hn2; have ht := ht2; have B := B2; clear g2 r2 hn2 ht2 B2)
    | (go_at_call 38; refine (over_g _ _ _).mono ?_; rintro e w' ⟨rfl, rfl⟩))
      go_meet
      case rel => exact ⟨congrArg Value.bool (by simp; omega), g, r, hn, ht, B⟩
  case rest =>
    clear g r hn ht B
    obtain ⟨rfl, g, r, hn, ht, B⟩ := hcut
    obtain ⟨X, hX⟩ : ∃ X, (decide (0 < DQ.ov (DQ.fr comp q) lim) && decide (DQ.fr ((comp + n) % 4294967296) q = 0)) = X := ⟨_, rfl⟩
    rw [hX]
    have HX := Lib.hid hX
    clear hX
    go_upto_region 2 with (fail)
    go_cut [7] (fun s7 wx => s7 = .bool (decide (0 < pov) && !DQ.ah ((comp + n) % 4294967296) pq) ∧ Held wx w.heap.size 26 (dqc q adj last lim comp pov plast pq slack start hold mn mx) ∧ Held wx (w.heap.size + 1) 26 (dqc 0 0 0 0 0 0 0 0 0 0 0 0 0) ∧ Held wx bn 22 #[.int .u32 n] ∧ Held wx bt 23 #[.int .u64 t] ∧ Below w.heap.size w wx)
    case first =>
      by_cases h3 : 0 < pov
      · rcases h4 : DQ.ah ((comp + n) % 4294967296) pq
        all_goals
          go_wp2_with (first
    | go_skip
    | ((with_reducible show wpList _ _ _ (⟨_, .load 26 _, _, _, _, _⟩ :: _) _ _); refine load_held g (by first | exact wanted_none rfl | exact wanted_some rfl rfl rfl rfl) (by exact rfl) (by exact rfl) Try.underlying26 rfl dqlInfo ?_)
    | ((with_reducible show wpList _ _ _ (⟨_, .load _ _, _, _, _, _⟩ :: _) _ _); refine load_fld g (by first | exact wanted_none rfl | exact wanted_some rfl rfl rfl rfl) (by exact rfl) (by exact rfl) (by first | exact Try.underlying22 | exact Try.underlying23) rfl (by exact rfl) ?_)
    | ((with_reducible show wpList _ _ _ (⟨_, .load _ _, _, _, _, _⟩ :: _) _ _); refine load_fld hn (by first | exact wanted_none rfl | exact wanted_some rfl rfl rfl rfl) (by exact rfl) (by exact rfl) (by first | exact Try.underlying22 | exact Try.underlying23) rfl (by exact rfl) ?_)
    | ((with_reducible show wpList _ _ _ (⟨_, .load _ _, _, _, _, _⟩ :: _) _ _); refine load_fld ht (by first | exact wanted_none rfl | exact wanted_some rfl rfl rfl rfl) (by exact rfl) (by exact rfl) (by first | exact Try.underlying22 | exact Try.underlying23) rfl (by exact rfl) ?_)
    | ((with_reducible show wpList _ _ _ (⟨_, .store 26 _ _, _, _, _, _⟩ :: _) _ _); refine store_held r (by first | exact wanted_none rfl | exact wanted_some rfl rfl rfl rfl) (by exact rfl) (by exact rfl) (by exact rfl) (by exact dqlInfo) (by exact rfl) (by exact rfl) ?_; intro w2 r2 F2; have g2 := g.foot F2 (by omega); have hn2 := hn.foot F2 (by omega); have ht2 := ht.foot F2 (by omega); have B2 := below_foot B F2 (by omega) (Nat.le_refl _); clear F2; clear r g hn ht B; have r := r2; have g := g2; have hn := hn2; have ht := ht2; have B := B2; clear r2 g2 hn2 ht2 B2)
    | ((with_reducible show wpList _ _ _ (⟨_, .store _ _ _, _, _, _, _⟩ :: _) _ _); refine store_fld g (by first | exact wanted_none rfl | exact wanted_some rfl rfl rfl rfl) (by exact rfl) (by exact rfl) (by exact rfl) (by first | exact infoU32 | exact infoU64) (by exact rfl) (by exact rfl) ?_; intro w2 g2 F2; simp only [List.setIfInBounds_toArray, List.set_cons_succ, List.set_cons_zero] at g2; have r2 := r.foot F2 (by omega); have hn2 := hn.foot F2 (by omega); have ht2 := ht.foot F2 (by omega); have B2 := below_foot B F2 (by omega) (Nat.le_refl _); clear F2; clear g r hn ht B; have g := g2; have r := r2; have hn := hn2; have ht := ht2; have B := B2; clear g2 r2 hn2 ht2 B2)
    | (go_at_call 32; refine (excess_pv _ _ _ _ _ _ _ _ _ _ _ _ _ _).mono ?_; rintro e w2 ⟨rfl, hb⟩; have g2 := g.below hb g.lt; have r2 := r.below hb r.lt; have hn2 := hn.below hb hn.lt; have ht2 := ht.below hb ht.lt; have B2 := B.trans (hb.mono B.size); clear hb; clear g r hn ht B; have g := g2; have r := r2; have hn := hn2; have ht := ht2; have B := B2; clear g2 r2 hn2 ht2 B2)
    | (go_at_call 41; refine (remaining_pv _ _ _ _ _ _ _ _ _ _ _ _ _ _ _).mono ?_; rintro e w2 ⟨rfl, hb⟩; have g2 := g.below hb g.lt; have r2 := r.below hb r.lt; have hn2 := hn.below hb hn.lt; have ht2 := ht.below hb ht.lt; have B2 := B.trans (hb.mono B.size); clear hb; clear g r hn ht B; have g := g2; have r := r2; have hn := hn2; have ht := ht2; have B := B2; clear g2 r2 hn2 ht2 B2)
    | (go_at_call 42; refine (allPrevious_pv _ _ _ _ _ _ _ _ _ _ _ _ _ _ _).mono ?_; rintro e w2 ⟨rfl, hb⟩; have g2 := g.below hb g.lt; have r2 := r.below hb r.lt; have hn2 := hn.below hb hn.lt; have ht2 := ht.below hb ht.lt; have B2 := B.trans (hb.mono B.size); clear hb; clear g r hn ht B; have g := g2; have r := r2; have hn := hn2; have ht := ht2; have B := B2; clear g2 r2 hn2 ht2 B2)
    | (go_at_call 43; refine (restarted_pv _ _ _ _ _ _ _ _ _ _ _ _ _ _ _).mono ?_; rintro e w2 ⟨rfl, hb⟩; have g2 := g.below hb g.lt; have r2 := r.below hb r.lt; have hn2 := hn.below hb hn.lt; have ht2 := ht.below hb ht.lt; have B2 := B.trans (hb.mono B.size); clear hb; clear g r hn ht B; have g := g2; have r := r2; have hn := hn2; have ht := ht2; have B := B2; clear g2 r2 hn2 ht2 B2)
    | (go_at_call 45; refine (slack_pv _ _ _ _ _ _ _ _ _ _ _ _ _ _ _).mono ?_; rintro e w2 ⟨rfl, hb⟩; have g2 := g.below hb g.lt; have r2 := r.below hb r.lt; have hn2 := hn.below hb hn.lt; have ht2 := ht.below hb ht.lt; have B2 := B.trans (hb.mono B.size); clear hb; clear g r hn ht B; have g := g2; have r := r2; have hn := hn2; have ht := ht2; have B := B2; clear g2 r2 hn2 ht2 B2)
    | (go_at_call 38; refine (over_g _ _ _).mono ?_; rintro e w' ⟨rfl, rfl⟩))
          go_meet
          case rel => exact ⟨congrArg Value.bool (by simp [h3, h4]), g, r, hn, ht, B⟩
      · go_wp2_with (first
    | go_skip
    | ((with_reducible show wpList _ _ _ (⟨_, .load 26 _, _, _, _, _⟩ :: _) _ _); refine load_held g (by first | exact wanted_none rfl | exact wanted_some rfl rfl rfl rfl) (by exact rfl) (by exact rfl) Try.underlying26 rfl dqlInfo ?_)
    | ((with_reducible show wpList _ _ _ (⟨_, .load _ _, _, _, _, _⟩ :: _) _ _); refine load_fld g (by first | exact wanted_none rfl | exact wanted_some rfl rfl rfl rfl) (by exact rfl) (by exact rfl) (by first | exact Try.underlying22 | exact Try.underlying23) rfl (by exact rfl) ?_)
    | ((with_reducible show wpList _ _ _ (⟨_, .load _ _, _, _, _, _⟩ :: _) _ _); refine load_fld hn (by first | exact wanted_none rfl | exact wanted_some rfl rfl rfl rfl) (by exact rfl) (by exact rfl) (by first | exact Try.underlying22 | exact Try.underlying23) rfl (by exact rfl) ?_)
    | ((with_reducible show wpList _ _ _ (⟨_, .load _ _, _, _, _, _⟩ :: _) _ _); refine load_fld ht (by first | exact wanted_none rfl | exact wanted_some rfl rfl rfl rfl) (by exact rfl) (by exact rfl) (by first | exact Try.underlying22 | exact Try.underlying23) rfl (by exact rfl) ?_)
    | ((with_reducible show wpList _ _ _ (⟨_, .store 26 _ _, _, _, _, _⟩ :: _) _ _); refine store_held r (by first | exact wanted_none rfl | exact wanted_some rfl rfl rfl rfl) (by exact rfl) (by exact rfl) (by exact rfl) (by exact dqlInfo) (by exact rfl) (by exact rfl) ?_; intro w2 r2 F2; have g2 := g.foot F2 (by omega); have hn2 := hn.foot F2 (by omega); have ht2 := ht.foot F2 (by omega); have B2 := below_foot B F2 (by omega) (Nat.le_refl _); clear F2; clear r g hn ht B; have r := r2; have g := g2; have hn := hn2; have ht := ht2; have B := B2; clear r2 g2 hn2 ht2 B2)
    | ((with_reducible show wpList _ _ _ (⟨_, .store _ _ _, _, _, _, _⟩ :: _) _ _); refine store_fld g (by first | exact wanted_none rfl | exact wanted_some rfl rfl rfl rfl) (by exact rfl) (by exact rfl) (by exact rfl) (by first | exact infoU32 | exact infoU64) (by exact rfl) (by exact rfl) ?_; intro w2 g2 F2; simp only [List.setIfInBounds_toArray, List.set_cons_succ, List.set_cons_zero] at g2; have r2 := r.foot F2 (by omega); have hn2 := hn.foot F2 (by omega); have ht2 := ht.foot F2 (by omega); have B2 := below_foot B F2 (by omega) (Nat.le_refl _); clear F2; clear g r hn ht B; have g := g2; have r := r2; have hn := hn2; have ht := ht2; have B := B2; clear g2 r2 hn2 ht2 B2)
    | (go_at_call 32; refine (excess_pv _ _ _ _ _ _ _ _ _ _ _ _ _ _).mono ?_; rintro e w2 ⟨rfl, hb⟩; have g2 := g.below hb g.lt; have r2 := r.below hb r.lt; have hn2 := hn.below hb hn.lt; have ht2 := ht.below hb ht.lt; have B2 := B.trans (hb.mono B.size); clear hb; clear g r hn ht B; have g := g2; have r := r2; have hn := hn2; have ht := ht2; have B := B2; clear g2 r2 hn2 ht2 B2)
    | (go_at_call 41; refine (remaining_pv _ _ _ _ _ _ _ _ _ _ _ _ _ _ _).mono ?_; rintro e w2 ⟨rfl, hb⟩; have g2 := g.below hb g.lt; have r2 := r.below hb r.lt; have hn2 := hn.below hb hn.lt; have ht2 := ht.below hb ht.lt; have B2 := B.trans (hb.mono B.size); clear hb; clear g r hn ht B; have g := g2; have r := r2; have hn := hn2; have ht := ht2; have B := B2; clear g2 r2 hn2 ht2 B2)
    | (go_at_call 42; refine (allPrevious_pv _ _ _ _ _ _ _ _ _ _ _ _ _ _ _).mono ?_; rintro e w2 ⟨rfl, hb⟩; have g2 := g.below hb g.lt; have r2 := r.below hb r.lt; have hn2 := hn.below hb hn.lt; have ht2 := ht.below hb ht.lt; have B2 := B.trans (hb.mono B.size); clear hb; clear g r hn ht B; have g := g2; have r := r2; have hn := hn2; have ht := ht2; have B := B2; clear g2 r2 hn2 ht2 B2)
    | (go_at_call 43; refine (restarted_pv _ _ _ _ _ _ _ _ _ _ _ _ _ _ _).mono ?_; rintro e w2 ⟨rfl, hb⟩; have g2 := g.below hb g.lt; have r2 := r.below hb r.lt; have hn2 := hn.below hb hn.lt; have ht2 := ht.below hb ht.lt; have B2 := B.trans (hb.mono B.size); clear hb; clear g r hn ht B; have g := g2; have r := r2; have hn := hn2; have ht := ht2; have B := B2; clear g2 r2 hn2 ht2 B2)
    | (go_at_call 45; refine (slack_pv _ _ _ _ _ _ _ _ _ _ _ _ _ _ _).mono ?_; rintro e w2 ⟨rfl, hb⟩; have g2 := g.below hb g.lt; have r2 := r.below hb r.lt; have hn2 := hn.below hb hn.lt; have ht2 := ht.below hb ht.lt; have B2 := B.trans (hb.mono B.size); clear hb; clear g r hn ht B; have g := g2; have r := r2; have hn := hn2; have ht := ht2; have B := B2; clear g2 r2 hn2 ht2 B2)
    | (go_at_call 38; refine (over_g _ _ _).mono ?_; rintro e w' ⟨rfl, rfl⟩))
        go_meet
        case rel => exact ⟨congrArg Value.bool (by simp; omega), g, r, hn, ht, B⟩
    case rest =>
      clear g r hn ht B
      obtain ⟨rfl, g, r, hn, ht, B⟩ := hcut
      obtain ⟨Y, hY⟩ : ∃ Y, (decide (0 < pov) && !DQ.ah ((comp + n) % 4294967296) pq) = Y := ⟨_, rfl⟩
      rw [hY]
      have hXY : (X || Y) = false := by rw [← HX.out, ← hY]; exact HU.out
      clear hY
      cases X
      · cases Y
        · clear hXY
          go_wp2_with (first
    | go_skip
    | ((with_reducible show wpList _ _ _ (⟨_, .load 26 _, _, _, _, _⟩ :: _) _ _); refine load_held g (by first | exact wanted_none rfl | exact wanted_some rfl rfl rfl rfl) (by exact rfl) (by exact rfl) Try.underlying26 rfl dqlInfo ?_)
    | ((with_reducible show wpList _ _ _ (⟨_, .load _ _, _, _, _, _⟩ :: _) _ _); refine load_fld g (by first | exact wanted_none rfl | exact wanted_some rfl rfl rfl rfl) (by exact rfl) (by exact rfl) (by first | exact Try.underlying22 | exact Try.underlying23) rfl (by exact rfl) ?_)
    | ((with_reducible show wpList _ _ _ (⟨_, .load _ _, _, _, _, _⟩ :: _) _ _); refine load_fld hn (by first | exact wanted_none rfl | exact wanted_some rfl rfl rfl rfl) (by exact rfl) (by exact rfl) (by first | exact Try.underlying22 | exact Try.underlying23) rfl (by exact rfl) ?_)
    | ((with_reducible show wpList _ _ _ (⟨_, .load _ _, _, _, _, _⟩ :: _) _ _); refine load_fld ht (by first | exact wanted_none rfl | exact wanted_some rfl rfl rfl rfl) (by exact rfl) (by exact rfl) (by first | exact Try.underlying22 | exact Try.underlying23) rfl (by exact rfl) ?_)
    | ((with_reducible show wpList _ _ _ (⟨_, .store 26 _ _, _, _, _, _⟩ :: _) _ _); refine store_held r (by first | exact wanted_none rfl | exact wanted_some rfl rfl rfl rfl) (by exact rfl) (by exact rfl) (by exact rfl) (by exact dqlInfo) (by exact rfl) (by exact rfl) ?_; intro w2 r2 F2; have g2 := g.foot F2 (by omega); have hn2 := hn.foot F2 (by omega); have ht2 := ht.foot F2 (by omega); have B2 := below_foot B F2 (by omega) (Nat.le_refl _); clear F2; clear r g hn ht B; have r := r2; have g := g2; have hn := hn2; have ht := ht2; have B := B2; clear r2 g2 hn2 ht2 B2)
    | ((with_reducible show wpList _ _ _ (⟨_, .store _ _ _, _, _, _, _⟩ :: _) _ _); refine store_fld g (by first | exact wanted_none rfl | exact wanted_some rfl rfl rfl rfl) (by exact rfl) (by exact rfl) (by exact rfl) (by first | exact infoU32 | exact infoU64) (by exact rfl) (by exact rfl) ?_; intro w2 g2 F2; simp only [List.setIfInBounds_toArray, List.set_cons_succ, List.set_cons_zero] at g2; have r2 := r.foot F2 (by omega); have hn2 := hn.foot F2 (by omega); have ht2 := ht.foot F2 (by omega); have B2 := below_foot B F2 (by omega) (Nat.le_refl _); clear F2; clear g r hn ht B; have g := g2; have r := r2; have hn := hn2; have ht := ht2; have B := B2; clear g2 r2 hn2 ht2 B2)
    | (go_at_call 32; refine (excess_pv _ _ _ _ _ _ _ _ _ _ _ _ _ _).mono ?_; rintro e w2 ⟨rfl, hb⟩; have g2 := g.below hb g.lt; have r2 := r.below hb r.lt; have hn2 := hn.below hb hn.lt; have ht2 := ht.below hb ht.lt; have B2 := B.trans (hb.mono B.size); clear hb; clear g r hn ht B; have g := g2; have r := r2; have hn := hn2; have ht := ht2; have B := B2; clear g2 r2 hn2 ht2 B2)
    | (go_at_call 41; refine (remaining_pv _ _ _ _ _ _ _ _ _ _ _ _ _ _ _).mono ?_; rintro e w2 ⟨rfl, hb⟩; have g2 := g.below hb g.lt; have r2 := r.below hb r.lt; have hn2 := hn.below hb hn.lt; have ht2 := ht.below hb ht.lt; have B2 := B.trans (hb.mono B.size); clear hb; clear g r hn ht B; have g := g2; have r := r2; have hn := hn2; have ht := ht2; have B := B2; clear g2 r2 hn2 ht2 B2)
    | (go_at_call 42; refine (allPrevious_pv _ _ _ _ _ _ _ _ _ _ _ _ _ _ _).mono ?_; rintro e w2 ⟨rfl, hb⟩; have g2 := g.below hb g.lt; have r2 := r.below hb r.lt; have hn2 := hn.below hb hn.lt; have ht2 := ht.below hb ht.lt; have B2 := B.trans (hb.mono B.size); clear hb; clear g r hn ht B; have g := g2; have r := r2; have hn := hn2; have ht := ht2; have B := B2; clear g2 r2 hn2 ht2 B2)
    | (go_at_call 43; refine (restarted_pv _ _ _ _ _ _ _ _ _ _ _ _ _ _ _).mono ?_; rintro e w2 ⟨rfl, hb⟩; have g2 := g.below hb g.lt; have r2 := r.below hb r.lt; have hn2 := hn.below hb hn.lt; have ht2 := ht.below hb ht.lt; have B2 := B.trans (hb.mono B.size); clear hb; clear g r hn ht B; have g := g2; have r := r2; have hn := hn2; have ht := ht2; have B := B2; clear g2 r2 hn2 ht2 B2)
    | (go_at_call 45; refine (slack_pv _ _ _ _ _ _ _ _ _ _ _ _ _ _ _).mono ?_; rintro e w2 ⟨rfl, hb⟩; have g2 := g.below hb g.lt; have r2 := r.below hb r.lt; have hn2 := hn.below hb hn.lt; have ht2 := ht.below hb ht.lt; have B2 := B.trans (hb.mono B.size); clear hb; clear g r hn ht B; have g := g2; have r := r2; have hn := hn2; have ht := ht2; have B := B2; clear g2 r2 hn2 ht2 B2)
    | (go_at_call 38; refine (over_g _ _ _).mono ?_; rintro e w' ⟨rfl, rfl⟩))
          refine ret_held2 r (by exact rfl) (by exact rfl) Try.underlying26 rfl dqlInfo ⟨?_, B⟩
          rfl
        · cases hXY
      · cases Y <;> cases hXY
set_option maxRecDepth 4000 in
set_option maxHeartbeats 4000000 in
theorem raising1_up (q adj last lim comp pov plast pq slack start hold mn mx n t : Int) (bn bt : Nat) (hu : DQ.upB (⟨q, adj, last, lim, comp, pov, plast, pq, slack, start, hold, mn, mx⟩ : DQ) n = true) (w : World) (hn : Held w bn 22 #[.int .u32 n]) (ht : Held w bt 23 #[.int .u64 t]) : Calls Try.prog 40 #[dqv q adj last lim comp pov plast pq slack start hold mn mx, .pointer (some ⟨bn, 0, none⟩), .pointer (some ⟨bt, 0, none⟩)] w fun e w' => e = .returned (.tuple #[dqv q adj last ((lim + DQ.ov ((comp + n) % 4294967296) pq + pov) % 4294967296) comp pov plast pq 4294967295 t hold mn mx, .bool true]) ∧ Below w.heap.size w w' := by
  have HU := Lib.hid hu
  clear hu
  go_enter Try.func40, Try.ntmps40
  go_upto_region 1 with (fail)
  obtain ⟨g, r, B⟩ := two_boxes w 26 26 (dqc q adj last lim comp pov plast pq slack start hold mn mx) (dqc 0 0 0 0 0 0 0 0 0 0 0 0 0)
  have hn1 := (hn.alloc (.cells (dqc q adj last lim comp pov plast pq slack start hold mn mx) 26)).alloc (.cells (dqc 0 0 0 0 0 0 0 0 0 0 0 0 0) 26)
  have ht1 := (ht.alloc (.cells (dqc q adj last lim comp pov plast pq slack start hold mn mx) 26)).alloc (.cells (dqc 0 0 0 0 0 0 0 0 0 0 0 0 0) 26)
  have ln := hn.lt
  have lt := ht.lt
  generalize (w.alloc (.cells (dqc q adj last lim comp pov plast pq slack start hold mn mx) 26)).alloc (.cells (dqc 0 0 0 0 0 0 0 0 0 0 0 0 0) 26) = w1 at g r B hn1 ht1 ⊢
  clear hn ht
  have hn := hn1
  have ht := ht1
  clear hn1 ht1
  go_cut [6] (fun s6 wx => s6 = .bool (decide (0 < DQ.ov (DQ.fr comp q) lim) && decide (DQ.fr ((comp + n) % 4294967296) q = 0)) ∧ Held wx w.heap.size 26 (dqc q adj last lim comp pov plast pq slack start hold mn mx) ∧ Held wx (w.heap.size + 1) 26 (dqc 0 0 0 0 0 0 0 0 0 0 0 0 0) ∧ Held wx bn 22 #[.int .u32 n] ∧ Held wx bt 23 #[.int .u64 t] ∧ Below w.heap.size w wx)
  case first =>
    by_cases h1 : 0 < DQ.ov (DQ.fr comp q) lim
    · by_cases h2 : DQ.fr ((comp + n) % 4294967296) q = 0
      all_goals
        have H2 := Lib.hid h2
        go_wp2_with (first
    | go_skip
    | ((with_reducible show wpList _ _ _ (⟨_, .load 26 _, _, _, _, _⟩ :: _) _ _); refine load_held g (by first | exact wanted_none rfl | exact wanted_some rfl rfl rfl rfl) (by exact rfl) (by exact rfl) Try.underlying26 rfl dqlInfo ?_)
    | ((with_reducible show wpList _ _ _ (⟨_, .load _ _, _, _, _, _⟩ :: _) _ _); refine load_fld g (by first | exact wanted_none rfl | exact wanted_some rfl rfl rfl rfl) (by exact rfl) (by exact rfl) (by first | exact Try.underlying22 | exact Try.underlying23) rfl (by exact rfl) ?_)
    | ((with_reducible show wpList _ _ _ (⟨_, .load _ _, _, _, _, _⟩ :: _) _ _); refine load_fld hn (by first | exact wanted_none rfl | exact wanted_some rfl rfl rfl rfl) (by exact rfl) (by exact rfl) (by first | exact Try.underlying22 | exact Try.underlying23) rfl (by exact rfl) ?_)
    | ((with_reducible show wpList _ _ _ (⟨_, .load _ _, _, _, _, _⟩ :: _) _ _); refine load_fld ht (by first | exact wanted_none rfl | exact wanted_some rfl rfl rfl rfl) (by exact rfl) (by exact rfl) (by first | exact Try.underlying22 | exact Try.underlying23) rfl (by exact rfl) ?_)
    | ((with_reducible show wpList _ _ _ (⟨_, .store 26 _ _, _, _, _, _⟩ :: _) _ _); refine store_held r (by first | exact wanted_none rfl | exact wanted_some rfl rfl rfl rfl) (by exact rfl) (by exact rfl) (by exact rfl) (by exact dqlInfo) (by exact rfl) (by exact rfl) ?_; intro w2 r2 F2; have g2 := g.foot F2 (by omega); have hn2 := hn.foot F2 (by omega); have ht2 := ht.foot F2 (by omega); have B2 := below_foot B F2 (by omega) (Nat.le_refl _); clear F2; clear r g hn ht B; have r := r2; have g := g2; have hn := hn2; have ht := ht2; have B := B2; clear r2 g2 hn2 ht2 B2)
    | ((with_reducible show wpList _ _ _ (⟨_, .store _ _ _, _, _, _, _⟩ :: _) _ _); refine store_fld g (by first | exact wanted_none rfl | exact wanted_some rfl rfl rfl rfl) (by exact rfl) (by exact rfl) (by exact rfl) (by first | exact infoU32 | exact infoU64) (by exact rfl) (by exact rfl) ?_; intro w2 g2 F2; simp only [List.setIfInBounds_toArray, List.set_cons_succ, List.set_cons_zero] at g2; have r2 := r.foot F2 (by omega); have hn2 := hn.foot F2 (by omega); have ht2 := ht.foot F2 (by omega); have B2 := below_foot B F2 (by omega) (Nat.le_refl _); clear F2; clear g r hn ht B; have g := g2; have r := r2; have hn := hn2; have ht := ht2; have B := B2; clear g2 r2 hn2 ht2 B2)
    | (go_at_call 32; refine (excess_pv _ _ _ _ _ _ _ _ _ _ _ _ _ _).mono ?_; rintro e w2 ⟨rfl, hb⟩; have g2 := g.below hb g.lt; have r2 := r.below hb r.lt; have hn2 := hn.below hb hn.lt; have ht2 := ht.below hb ht.lt; have B2 := B.trans (hb.mono B.size); clear hb; clear g r hn ht B; have g := g2; have r := r2; have hn := hn2; have ht := ht2; have B := B2; clear g2 r2 hn2 ht2 B2)
    | (go_at_call 41; refine (remaining_pv _ _ _ _ _ _ _ _ _ _ _ _ _ _ _).mono ?_; rintro e w2 ⟨rfl, hb⟩; have g2 := g.below hb g.lt; have r2 := r.below hb r.lt; have hn2 := hn.below hb hn.lt; have ht2 := ht.below hb ht.lt; have B2 := B.trans (hb.mono B.size); clear hb; clear g r hn ht B; have g := g2; have r := r2; have hn := hn2; have ht := ht2; have B := B2; clear g2 r2 hn2 ht2 B2)
    | (go_at_call 42; refine (allPrevious_pv _ _ _ _ _ _ _ _ _ _ _ _ _ _ _).mono ?_; rintro e w2 ⟨rfl, hb⟩; have g2 := g.below hb g.lt; have r2 := r.below hb r.lt; have hn2 := hn.below hb hn.lt; have ht2 := ht.below hb ht.lt; have B2 := B.trans (hb.mono B.size); clear hb; clear g r hn ht B; have g := g2; have r := r2; have hn := hn2; have ht := ht2; have B := B2; clear g2 r2 hn2 ht2 B2)
    | (go_at_call 43; refine (restarted_pv _ _ _ _ _ _ _ _ _ _ _ _ _ _ _).mono ?_; rintro e w2 ⟨rfl, hb⟩; have g2 := g.below hb g.lt; have r2 := r.below hb r.lt; have hn2 := hn.below hb hn.lt; have ht2 := ht.below hb ht.lt; have B2 := B.trans (hb.mono B.size); clear hb; clear g r hn ht B; have g := g2; have r := r2; have hn := hn2; have ht := ht2; have B := B2; clear g2 r2 hn2 ht2 B2)
    | (go_at_call 45; refine (slack_pv _ _ _ _ _ _ _ _ _ _ _ _ _ _ _).mono ?_; rintro e w2 ⟨rfl, hb⟩; have g2 := g.below hb g.lt; have r2 := r.below hb r.lt; have hn2 := hn.below hb hn.lt; have ht2 := ht.below hb ht.lt; have B2 := B.trans (hb.mono B.size); clear hb; clear g r hn ht B; have g := g2; have r := r2; have hn := hn2; have ht := ht2; have B := B2; clear g2 r2 hn2 ht2 B2)
    | (go_at_call 38; refine (over_g _ _ _).mono ?_; rintro e w' ⟨rfl, rfl⟩))
        go_meet
        case rel =>
          have h2 := H2.out
          exact ⟨congrArg Value.bool (by simp [h1, h2]), g, r, hn, ht, B⟩
    · go_wp2_with (first
    | go_skip
    | ((with_reducible show wpList _ _ _ (⟨_, .load 26 _, _, _, _, _⟩ :: _) _ _); refine load_held g (by first | exact wanted_none rfl | exact wanted_some rfl rfl rfl rfl) (by exact rfl) (by exact rfl) Try.underlying26 rfl dqlInfo ?_)
    | ((with_reducible show wpList _ _ _ (⟨_, .load _ _, _, _, _, _⟩ :: _) _ _); refine load_fld g (by first | exact wanted_none rfl | exact wanted_some rfl rfl rfl rfl) (by exact rfl) (by exact rfl) (by first | exact Try.underlying22 | exact Try.underlying23) rfl (by exact rfl) ?_)
    | ((with_reducible show wpList _ _ _ (⟨_, .load _ _, _, _, _, _⟩ :: _) _ _); refine load_fld hn (by first | exact wanted_none rfl | exact wanted_some rfl rfl rfl rfl) (by exact rfl) (by exact rfl) (by first | exact Try.underlying22 | exact Try.underlying23) rfl (by exact rfl) ?_)
    | ((with_reducible show wpList _ _ _ (⟨_, .load _ _, _, _, _, _⟩ :: _) _ _); refine load_fld ht (by first | exact wanted_none rfl | exact wanted_some rfl rfl rfl rfl) (by exact rfl) (by exact rfl) (by first | exact Try.underlying22 | exact Try.underlying23) rfl (by exact rfl) ?_)
    | ((with_reducible show wpList _ _ _ (⟨_, .store 26 _ _, _, _, _, _⟩ :: _) _ _); refine store_held r (by first | exact wanted_none rfl | exact wanted_some rfl rfl rfl rfl) (by exact rfl) (by exact rfl) (by exact rfl) (by exact dqlInfo) (by exact rfl) (by exact rfl) ?_; intro w2 r2 F2; have g2 := g.foot F2 (by omega); have hn2 := hn.foot F2 (by omega); have ht2 := ht.foot F2 (by omega); have B2 := below_foot B F2 (by omega) (Nat.le_refl _); clear F2; clear r g hn ht B; have r := r2; have g := g2; have hn := hn2; have ht := ht2; have B := B2; clear r2 g2 hn2 ht2 B2)
    | ((with_reducible show wpList _ _ _ (⟨_, .store _ _ _, _, _, _, _⟩ :: _) _ _); refine store_fld g (by first | exact wanted_none rfl | exact wanted_some rfl rfl rfl rfl) (by exact rfl) (by exact rfl) (by exact rfl) (by first | exact infoU32 | exact infoU64) (by exact rfl) (by exact rfl) ?_; intro w2 g2 F2; simp only [List.setIfInBounds_toArray, List.set_cons_succ, List.set_cons_zero] at g2; have r2 := r.foot F2 (by omega); have hn2 := hn.foot F2 (by omega); have ht2 := ht.foot F2 (by omega); have B2 := below_foot B F2 (by omega) (Nat.le_refl _); clear F2; clear g r hn ht B; have g := g2; have r := r2; have hn := hn2; have ht := ht2; have B := B2; clear g2 r2 hn2 ht2 B2)
    | (go_at_call 32; refine (excess_pv _ _ _ _ _ _ _ _ _ _ _ _ _ _).mono ?_; rintro e w2 ⟨rfl, hb⟩; have g2 := g.below hb g.lt; have r2 := r.below hb r.lt; have hn2 := hn.below hb hn.lt; have ht2 := ht.below hb ht.lt; have B2 := B.trans (hb.mono B.size); clear hb; clear g r hn ht B; have g := g2; have r := r2; have hn := hn2; have ht := ht2; have B := B2; clear g2 r2 hn2 ht2 B2)
    | (go_at_call 41; refine (remaining_pv _ _ _ _ _ _ _ _ _ _ _ _ _ _ _).mono ?_; rintro e w2 ⟨rfl, hb⟩; have g2 := g.below hb g.lt; have r2 := r.below hb r.lt; have hn2 := hn.below hb hn.lt; have ht2 := ht.below hb ht.lt; have B2 := B.trans (hb.mono B.size); clear hb; clear g r hn ht B; have g := g2; have r := r2; have hn := hn2; have ht := ht2; have B := B2; clear g2 r2 hn2 ht2 B2)
    | (go_at_call 42; refine (allPrevious_pv _ _ _ _ _ _ _ _ _ _ _ _ _ _ _).mono ?_; rintro e w2 ⟨rfl, hb⟩; have g2 := g.below hb g.lt; have r2 := r.below hb r.lt; have hn2 := hn.below hb hn.lt; have ht2 := ht.below hb ht.lt; have B2 := B.trans (hb.mono B.size); clear hb; clear g r hn ht B; have g := g2; have r := r2; have hn := hn2; have ht := ht2; have B := B2; clear g2 r2 hn2 ht2 B2)
    | (go_at_call 43; refine (restarted_pv _ _ _ _ _ _ _ _ _ _ _ _ _ _ _).mono ?_; rintro e w2 ⟨rfl, hb⟩; have g2 := g.below hb g.lt; have r2 := r.below hb r.lt; have hn2 := hn.below hb hn.lt; have ht2 := ht.below hb ht.lt; have B2 := B.trans (hb.mono B.size); clear hb; clear g r hn ht B; have g := g2; have r := r2; have hn := hn2; have ht := ht2; have B := B2; clear g2 r2 hn2 ht2 B2)
    | (go_at_call 45; refine (slack_pv _ _ _ _ _ _ _ _ _ _ _ _ _ _ _).mono ?_; rintro e w2 ⟨rfl, hb⟩; have g2 := g.below hb g.lt; have r2 := r.below hb r.lt; have hn2 := hn.below hb hn.lt; have ht2 := ht.below hb ht.lt; have B2 := B.trans (hb.mono B.size); clear hb; clear g r hn ht B; have g := g2; have r := r2; have hn := hn2; have ht := ht2; have B := B2; clear g2 r2 hn2 ht2 B2)
    | (go_at_call 38; refine (over_g _ _ _).mono ?_; rintro e w' ⟨rfl, rfl⟩))
      go_meet
      case rel => exact ⟨congrArg Value.bool (by simp; omega), g, r, hn, ht, B⟩
  case rest =>
    clear g r hn ht B
    obtain ⟨rfl, g, r, hn, ht, B⟩ := hcut
    obtain ⟨X, hX⟩ : ∃ X, (decide (0 < DQ.ov (DQ.fr comp q) lim) && decide (DQ.fr ((comp + n) % 4294967296) q = 0)) = X := ⟨_, rfl⟩
    rw [hX]
    have HX := Lib.hid hX
    clear hX
    go_upto_region 2 with (fail)
    go_cut [7] (fun s7 wx => s7 = .bool (decide (0 < pov) && !DQ.ah ((comp + n) % 4294967296) pq) ∧ Held wx w.heap.size 26 (dqc q adj last lim comp pov plast pq slack start hold mn mx) ∧ Held wx (w.heap.size + 1) 26 (dqc 0 0 0 0 0 0 0 0 0 0 0 0 0) ∧ Held wx bn 22 #[.int .u32 n] ∧ Held wx bt 23 #[.int .u64 t] ∧ Below w.heap.size w wx)
    case first =>
      by_cases h3 : 0 < pov
      · rcases h4 : DQ.ah ((comp + n) % 4294967296) pq
        all_goals
          go_wp2_with (first
    | go_skip
    | ((with_reducible show wpList _ _ _ (⟨_, .load 26 _, _, _, _, _⟩ :: _) _ _); refine load_held g (by first | exact wanted_none rfl | exact wanted_some rfl rfl rfl rfl) (by exact rfl) (by exact rfl) Try.underlying26 rfl dqlInfo ?_)
    | ((with_reducible show wpList _ _ _ (⟨_, .load _ _, _, _, _, _⟩ :: _) _ _); refine load_fld g (by first | exact wanted_none rfl | exact wanted_some rfl rfl rfl rfl) (by exact rfl) (by exact rfl) (by first | exact Try.underlying22 | exact Try.underlying23) rfl (by exact rfl) ?_)
    | ((with_reducible show wpList _ _ _ (⟨_, .load _ _, _, _, _, _⟩ :: _) _ _); refine load_fld hn (by first | exact wanted_none rfl | exact wanted_some rfl rfl rfl rfl) (by exact rfl) (by exact rfl) (by first | exact Try.underlying22 | exact Try.underlying23) rfl (by exact rfl) ?_)
    | ((with_reducible show wpList _ _ _ (⟨_, .load _ _, _, _, _, _⟩ :: _) _ _); refine load_fld ht (by first | exact wanted_none rfl | exact wanted_some rfl rfl rfl rfl) (by exact rfl) (by exact rfl) (by first | exact Try.underlying22 | exact Try.underlying23) rfl (by exact rfl) ?_)
    | ((with_reducible show wpList _ _ _ (⟨_, .store 26 _ _, _, _, _, _⟩ :: _) _ _); refine store_held r (by first | exact wanted_none rfl | exact wanted_some rfl rfl rfl rfl) (by exact rfl) (by exact rfl) (by exact rfl) (by exact dqlInfo) (by exact rfl) (by exact rfl) ?_; intro w2 r2 F2; have g2 := g.foot F2 (by omega); have hn2 := hn.foot F2 (by omega); have ht2 := ht.foot F2 (by omega); have B2 := below_foot B F2 (by omega) (Nat.le_refl _); clear F2; clear r g hn ht B; have r := r2; have g := g2; have hn := hn2; have ht := ht2; have B := B2; clear r2 g2 hn2 ht2 B2)
    | ((with_reducible show wpList _ _ _ (⟨_, .store _ _ _, _, _, _, _⟩ :: _) _ _); refine store_fld g (by first | exact wanted_none rfl | exact wanted_some rfl rfl rfl rfl) (by exact rfl) (by exact rfl) (by exact rfl) (by first | exact infoU32 | exact infoU64) (by exact rfl) (by exact rfl) ?_; intro w2 g2 F2; simp only [List.setIfInBounds_toArray, List.set_cons_succ, List.set_cons_zero] at g2; have r2 := r.foot F2 (by omega); have hn2 := hn.foot F2 (by omega); have ht2 := ht.foot F2 (by omega); have B2 := below_foot B F2 (by omega) (Nat.le_refl _); clear F2; clear g r hn ht B; have g := g2; have r := r2; have hn := hn2; have ht := ht2; have B := B2; clear g2 r2 hn2 ht2 B2)
    | (go_at_call 32; refine (excess_pv _ _ _ _ _ _ _ _ _ _ _ _ _ _).mono ?_; rintro e w2 ⟨rfl, hb⟩; have g2 := g.below hb g.lt; have r2 := r.below hb r.lt; have hn2 := hn.below hb hn.lt; have ht2 := ht.below hb ht.lt; have B2 := B.trans (hb.mono B.size); clear hb; clear g r hn ht B; have g := g2; have r := r2; have hn := hn2; have ht := ht2; have B := B2; clear g2 r2 hn2 ht2 B2)
    | (go_at_call 41; refine (remaining_pv _ _ _ _ _ _ _ _ _ _ _ _ _ _ _).mono ?_; rintro e w2 ⟨rfl, hb⟩; have g2 := g.below hb g.lt; have r2 := r.below hb r.lt; have hn2 := hn.below hb hn.lt; have ht2 := ht.below hb ht.lt; have B2 := B.trans (hb.mono B.size); clear hb; clear g r hn ht B; have g := g2; have r := r2; have hn := hn2; have ht := ht2; have B := B2; clear g2 r2 hn2 ht2 B2)
    | (go_at_call 42; refine (allPrevious_pv _ _ _ _ _ _ _ _ _ _ _ _ _ _ _).mono ?_; rintro e w2 ⟨rfl, hb⟩; have g2 := g.below hb g.lt; have r2 := r.below hb r.lt; have hn2 := hn.below hb hn.lt; have ht2 := ht.below hb ht.lt; have B2 := B.trans (hb.mono B.size); clear hb; clear g r hn ht B; have g := g2; have r := r2; have hn := hn2; have ht := ht2; have B := B2; clear g2 r2 hn2 ht2 B2)
    | (go_at_call 43; refine (restarted_pv _ _ _ _ _ _ _ _ _ _ _ _ _ _ _).mono ?_; rintro e w2 ⟨rfl, hb⟩; have g2 := g.below hb g.lt; have r2 := r.below hb r.lt; have hn2 := hn.below hb hn.lt; have ht2 := ht.below hb ht.lt; have B2 := B.trans (hb.mono B.size); clear hb; clear g r hn ht B; have g := g2; have r := r2; have hn := hn2; have ht := ht2; have B := B2; clear g2 r2 hn2 ht2 B2)
    | (go_at_call 45; refine (slack_pv _ _ _ _ _ _ _ _ _ _ _ _ _ _ _).mono ?_; rintro e w2 ⟨rfl, hb⟩; have g2 := g.below hb g.lt; have r2 := r.below hb r.lt; have hn2 := hn.below hb hn.lt; have ht2 := ht.below hb ht.lt; have B2 := B.trans (hb.mono B.size); clear hb; clear g r hn ht B; have g := g2; have r := r2; have hn := hn2; have ht := ht2; have B := B2; clear g2 r2 hn2 ht2 B2)
    | (go_at_call 38; refine (over_g _ _ _).mono ?_; rintro e w' ⟨rfl, rfl⟩))
          go_meet
          case rel => exact ⟨congrArg Value.bool (by simp [h3, h4]), g, r, hn, ht, B⟩
      · go_wp2_with (first
    | go_skip
    | ((with_reducible show wpList _ _ _ (⟨_, .load 26 _, _, _, _, _⟩ :: _) _ _); refine load_held g (by first | exact wanted_none rfl | exact wanted_some rfl rfl rfl rfl) (by exact rfl) (by exact rfl) Try.underlying26 rfl dqlInfo ?_)
    | ((with_reducible show wpList _ _ _ (⟨_, .load _ _, _, _, _, _⟩ :: _) _ _); refine load_fld g (by first | exact wanted_none rfl | exact wanted_some rfl rfl rfl rfl) (by exact rfl) (by exact rfl) (by first | exact Try.underlying22 | exact Try.underlying23) rfl (by exact rfl) ?_)
    | ((with_reducible show wpList _ _ _ (⟨_, .load _ _, _, _, _, _⟩ :: _) _ _); refine load_fld hn (by first | exact wanted_none rfl | exact wanted_some rfl rfl rfl rfl) (by exact rfl) (by exact rfl) (by first | exact Try.underlying22 | exact Try.underlying23) rfl (by exact rfl) ?_)
    | ((with_reducible show wpList _ _ _ (⟨_, .load _ _, _, _, _, _⟩ :: _) _ _); refine load_fld ht (by first | exact wanted_none rfl | exact wanted_some rfl rfl rfl rfl) (by exact rfl) (by exact rfl) (by first | exact Try.underlying22 | exact Try.underlying23) rfl (by exact rfl) ?_)
    | ((with_reducible show wpList _ _ _ (⟨_, .store 26 _ _, _, _, _, _⟩ :: _) _ _); refine store_held r (by first | exact wanted_none rfl | exact wanted_some rfl rfl rfl rfl) (by exact rfl) (by exact rfl) (by exact rfl) (by exact dqlInfo) (by exact rfl) (by exact rfl) ?_; intro w2 r2 F2; have g2 := g.foot F2 (by omega); have hn2 := hn.foot F2 (by omega); have ht2 := ht.foot F2 (by omega); have B2 := below_foot B F2 (by omega) (Nat.le_refl _); clear F2; clear r g hn ht B; have r := r2; have g := g2; have hn := hn2; have ht := ht2; have B := B2; clear r2 g2 hn2 ht2 B2)
    | ((with_reducible show wpList _ _ _ (⟨_, .store _ _ _, _, _, _, _⟩ :: _) _ _); refine store_fld g (by first | exact wanted_none rfl | exact wanted_some rfl rfl rfl rfl) (by exact rfl) (by exact rfl) (by exact rfl) (by first | exact infoU32 | exact infoU64) (by exact rfl) (by exact rfl) ?_; intro w2 g2 F2; simp only [List.setIfInBounds_toArray, List.set_cons_succ, List.set_cons_zero] at g2; have r2 := r.foot F2 (by omega); have hn2 := hn.foot F2 (by omega); have ht2 := ht.foot F2 (by omega); have B2 := below_foot B F2 (by omega) (Nat.le_refl _); clear F2; clear g r hn ht B; have g := g2; have r := r2; have hn := hn2; have ht := ht2; have B := B2; clear g2 r2 hn2 ht2 B2)
    | (go_at_call 32; refine (excess_pv _ _ _ _ _ _ _ _ _ _ _ _ _ _).mono ?_; rintro e w2 ⟨rfl, hb⟩; have g2 := g.below hb g.lt; have r2 := r.below hb r.lt; have hn2 := hn.below hb hn.lt; have ht2 := ht.below hb ht.lt; have B2 := B.trans (hb.mono B.size); clear hb; clear g r hn ht B; have g := g2; have r := r2; have hn := hn2; have ht := ht2; have B := B2; clear g2 r2 hn2 ht2 B2)
    | (go_at_call 41; refine (remaining_pv _ _ _ _ _ _ _ _ _ _ _ _ _ _ _).mono ?_; rintro e w2 ⟨rfl, hb⟩; have g2 := g.below hb g.lt; have r2 := r.below hb r.lt; have hn2 := hn.below hb hn.lt; have ht2 := ht.below hb ht.lt; have B2 := B.trans (hb.mono B.size); clear hb; clear g r hn ht B; have g := g2; have r := r2; have hn := hn2; have ht := ht2; have B := B2; clear g2 r2 hn2 ht2 B2)
    | (go_at_call 42; refine (allPrevious_pv _ _ _ _ _ _ _ _ _ _ _ _ _ _ _).mono ?_; rintro e w2 ⟨rfl, hb⟩; have g2 := g.below hb g.lt; have r2 := r.below hb r.lt; have hn2 := hn.below hb hn.lt; have ht2 := ht.below hb ht.lt; have B2 := B.trans (hb.mono B.size); clear hb; clear g r hn ht B; have g := g2; have r := r2; have hn := hn2; have ht := ht2; have B := B2; clear g2 r2 hn2 ht2 B2)
    | (go_at_call 43; refine (restarted_pv _ _ _ _ _ _ _ _ _ _ _ _ _ _ _).mono ?_; rintro e w2 ⟨rfl, hb⟩; have g2 := g.below hb g.lt; have r2 := r.below hb r.lt; have hn2 := hn.below hb hn.lt; have ht2 := ht.below hb ht.lt; have B2 := B.trans (hb.mono B.size); clear hb; clear g r hn ht B; have g := g2; have r := r2; have hn := hn2; have ht := ht2; have B := B2; clear g2 r2 hn2 ht2 B2)
    | (go_at_call 45; refine (slack_pv _ _ _ _ _ _ _ _ _ _ _ _ _ _ _).mono ?_; rintro e w2 ⟨rfl, hb⟩; have g2 := g.below hb g.lt; have r2 := r.below hb r.lt; have hn2 := hn.below hb hn.lt; have ht2 := ht.below hb ht.lt; have B2 := B.trans (hb.mono B.size); clear hb; clear g r hn ht B; have g := g2; have r := r2; have hn := hn2; have ht := ht2; have B := B2; clear g2 r2 hn2 ht2 B2)
    | (go_at_call 38; refine (over_g _ _ _).mono ?_; rintro e w' ⟨rfl, rfl⟩))
        go_meet
        case rel => exact ⟨congrArg Value.bool (by simp; omega), g, r, hn, ht, B⟩
    case rest =>
      clear g r hn ht B
      obtain ⟨rfl, g, r, hn, ht, B⟩ := hcut
      obtain ⟨Y, hY⟩ : ∃ Y, (decide (0 < pov) && !DQ.ah ((comp + n) % 4294967296) pq) = Y := ⟨_, rfl⟩
      rw [hY]
      have hXY : (X || Y) = true := by rw [← HX.out, ← hY]; exact HU.out
      clear hY
      have hcase : (!X && !Y) = false := by cases X <;> cases Y <;> simp_all
      go_upto_region 3 with (fail)
      go_cut [30] (fun s30 wx => s30 = .bool false ∧ wx = wc)
      case first =>
        cases X
        · cases Y
          · cases hcase
          · go_wp2_with (fail)
            go_meet
            case rel => exact ⟨rfl, rfl⟩
        · cases Y
          all_goals
            go_wp2_with (fail)
            go_meet
            case rel => exact ⟨rfl, rfl⟩
      case rest =>
        obtain ⟨rfl, rfl⟩ := hcut
        go_upto_region 5 with (fail)
        have hS : (Held wc.drew w.heap.size 26 (dqc q adj last lim comp pov plast pq slack start hold mn mx) ∧ Held wc.drew (w.heap.size + 1) 26 (dqc 0 0 0 0 0 0 0 0 0 0 0 0 0) ∧ Held wc.drew bn 22 #[.int .u32 n] ∧ Held wc.drew bt 23 #[.int .u64 t] ∧ Below w.heap.size w wc.drew) := ⟨g.drew, r.drew, hn.drew, ht.drew, B.drew⟩
        refine (wpIn_wide (n := 6)).1 ?_
        refine wpIn_region_G (fun wx => Held wx w.heap.size 26 (dqc q adj last lim comp pov plast pq slack start hold mn mx) ∧ Held wx (w.heap.size + 1) 26 (dqc 0 0 0 0 0 0 0 0 0 0 0 0 0) ∧ Held wx bn 22 #[.int .u32 n] ∧ Held wx bt 23 #[.int .u64 t] ∧ Below w.heap.size w wx) 14 15 rfl (by kernel_rfl) (fun hcl => ?_)
        refine wpAnyG_take (i := 0) 1 (v := .pointer (some ⟨w.heap.size, 3, none⟩)) rfl rfl (by kernel_rfl) (by kernel_rfl) (by kernel_rfl) (fun _ _ _ h => h) (by kernel_rfl) (by decide) hcl ⟨by rfl, fun w _ => ?hy_1, fun _ => rfl⟩ hS (fun hc1 => ?rest_1)
        case hy_1 => go_simp; try (first | (simp only [IntKind.wrap_u32]; done) | rfl)
        clear hcl; have hcl := hc1; clear hc1; simp only [List.getElem_toArray, List.getElem_cons_zero, List.getElem_cons_succ, Act.put, List.setIfInBounds_toArray, List.set_cons_zero, List.set_cons_succ]
        refine wpAnyG_take (i := 1) 1 (v := .int .u32 lim) rfl rfl (by kernel_rfl) (by kernel_rfl) (by kernel_rfl) (fun _ _ _ h => h) (by kernel_rfl) (by decide) hcl (yields_fld (fun w h => h.1) (by exact rfl) (by exact rfl) (by exact rfl) Try.underlying22 rfl (by exact rfl)) hS (fun hc1 => ?rest_2)
        clear hcl; have hcl := hc1; clear hc1; simp only [List.getElem_toArray, List.getElem_cons_zero, List.getElem_cons_succ, Act.put, List.setIfInBounds_toArray, List.set_cons_zero, List.set_cons_succ]
        refine wpAnyG_take (i := 2) 1 (v := .pointer (some ⟨w.heap.size, 4, none⟩)) rfl rfl (by kernel_rfl) (by kernel_rfl) (by kernel_rfl) (fun _ _ _ h => h) (by kernel_rfl) (by decide) hcl ⟨by rfl, fun w _ => ?hy_3, fun _ => rfl⟩ hS (fun hc1 => ?rest_3)
        case hy_3 => go_simp; try (first | (simp only [IntKind.wrap_u32]; done) | rfl)
        clear hcl; have hcl := hc1; clear hc1; simp only [List.getElem_toArray, List.getElem_cons_zero, List.getElem_cons_succ, Act.put, List.setIfInBounds_toArray, List.set_cons_zero, List.set_cons_succ]
        refine wpAnyG_take (i := 3) 1 (v := .int .u32 comp) rfl rfl (by kernel_rfl) (by kernel_rfl) (by kernel_rfl) (fun _ _ _ h => h) (by kernel_rfl) (by decide) hcl (yields_fld (fun w h => h.1) (by exact rfl) (by exact rfl) (by exact rfl) Try.underlying22 rfl (by exact rfl)) hS (fun hc1 => ?rest_4)
        clear hcl; have hcl := hc1; clear hc1; simp only [List.getElem_toArray, List.getElem_cons_zero, List.getElem_cons_succ, Act.put, List.setIfInBounds_toArray, List.set_cons_zero, List.set_cons_succ]
        refine wpAnyG_take (i := 4) 1 (v := .int .u32 n) rfl rfl (by kernel_rfl) (by kernel_rfl) (by kernel_rfl) (fun _ _ _ h => h) (by kernel_rfl) (by decide) hcl (yields_fld (fun w h => h.2.2.1) (by exact rfl) (by exact rfl) (by exact rfl) Try.underlying22 rfl (by exact rfl)) hS (fun hc1 => ?rest_5)
        clear hcl; have hcl := hc1; clear hc1; simp only [List.getElem_toArray, List.getElem_cons_zero, List.getElem_cons_succ, Act.put, List.setIfInBounds_toArray, List.set_cons_zero, List.set_cons_succ]
        refine wpAnyG_take (i := 5) 1 (v := .int .u32 ((comp + n) % 4294967296)) rfl rfl (by kernel_rfl) (by kernel_rfl) (by kernel_rfl) (fun _ _ _ h => h) (by kernel_rfl) (by decide) hcl ⟨by rfl, fun w _ => ?hy_6, fun _ => rfl⟩ hS (fun hc1 => ?rest_6)
        case hy_6 => go_simp; try (first | (simp only [IntKind.wrap_u32]; done) | rfl)
        clear hcl; have hcl := hc1; clear hc1; simp only [List.getElem_toArray, List.getElem_cons_zero, List.getElem_cons_succ, Act.put, List.setIfInBounds_toArray, List.set_cons_zero, List.set_cons_succ]
        refine wpAnyG_take (i := 6) 1 (v := .pointer (some ⟨w.heap.size, 7, none⟩)) rfl rfl (by kernel_rfl) (by kernel_rfl) (by kernel_rfl) (fun _ _ _ h => h) (by kernel_rfl) (by decide) hcl ⟨by rfl, fun w _ => ?hy_7, fun _ => rfl⟩ hS (fun hc1 => ?rest_7)
        case hy_7 => go_simp; try (first | (simp only [IntKind.wrap_u32]; done) | rfl)
        clear hcl; have hcl := hc1; clear hc1; simp only [List.getElem_toArray, List.getElem_cons_zero, List.getElem_cons_succ, Act.put, List.setIfInBounds_toArray, List.set_cons_zero, List.set_cons_succ]
        refine wpAnyG_take (i := 7) 1 (v := .int .u32 pq) rfl rfl (by kernel_rfl) (by kernel_rfl) (by kernel_rfl) (fun _ _ _ h => h) (by kernel_rfl) (by decide) hcl (yields_fld (fun w h => h.1) (by exact rfl) (by exact rfl) (by exact rfl) Try.underlying22 rfl (by exact rfl)) hS (fun hc1 => ?rest_8)
        clear hcl; have hcl := hc1; clear hc1; simp only [List.getElem_toArray, List.getElem_cons_zero, List.getElem_cons_succ, Act.put, List.setIfInBounds_toArray, List.set_cons_zero, List.set_cons_succ]
        refine wpAnyG_take (i := 9) 1 (v := .pointer (some ⟨w.heap.size, 5, none⟩)) rfl rfl (by kernel_rfl) (by kernel_rfl) (by kernel_rfl) (fun _ _ _ h => h) (by kernel_rfl) (by decide) hcl ⟨by rfl, fun w _ => ?hy_9, fun _ => rfl⟩ hS (fun hc1 => ?rest_9)
        case hy_9 => go_simp; try (first | (simp only [IntKind.wrap_u32]; done) | rfl)
        clear hcl; have hcl := hc1; clear hc1; simp only [List.getElem_toArray, List.getElem_cons_zero, List.getElem_cons_succ, Act.put, List.setIfInBounds_toArray, List.set_cons_zero, List.set_cons_succ]
        refine wpAnyG_take (i := 10) 1 (v := .int .u32 pov) rfl rfl (by kernel_rfl) (by kernel_rfl) (by kernel_rfl) (fun _ _ _ h => h) (by kernel_rfl) (by decide) hcl (yields_fld (fun w h => h.1) (by exact rfl) (by exact rfl) (by exact rfl) Try.underlying22 rfl (by exact rfl)) hS (fun hc1 => ?rest_10)
        clear hcl; have hcl := hc1; clear hc1; simp only [List.getElem_toArray, List.getElem_cons_zero, List.getElem_cons_succ, Act.put, List.setIfInBounds_toArray, List.set_cons_zero, List.set_cons_succ]
        refine wpAnyG_one (i := 8) (by kernel_rfl) rfl (fun K hK => ?_)
        go_simp
        refine ⟨trivial, (callsIn_wide.2 (over_g _ _ _)).mono ?_⟩
        rintro e w2 ⟨rfl, rfl⟩
        refine hK _ _ (.inr hS) ?_
        clear hK K
        refine wpAnyG_one (i := 11) (by kernel_rfl) rfl (fun K hK => ?_)
        go_simp
        refine hK _ _ (.inr hS) ?_
        clear hK K
        refine wpAnyG_one (i := 12) (by kernel_rfl) rfl (fun K hK => ?_)
        go_simp
        refine hK _ _ (.inr hS) ?_
        clear hK K
        refine wpAnyG_one (i := 13) (by kernel_rfl) rfl (fun K hK => ?_)
        go_simp
        refine hK _ _ (.inr hS) ?_
        clear hK K
        clear hcl g r hn ht B
        obtain ⟨g, r, hn, ht, B⟩ := hS
        generalize wc.drew = w4 at g r hn ht B ⊢
        have c3 : w4.cell? ⟨w.heap.size, 3, none⟩ = some (.int .u32 lim) := (Held.dql g).1.2.2.2.1
        have f3 := g.frozen 3
        refine wpAnyG_one (i := 14) (by kernel_rfl) rfl (fun K hK => ?_)
        go_simp
        refine hK _ _ (.inl (by kernel_rfl)) ?_
        clear hK K c3 f3
        refine wpAnyG_done (by kernel_rfl) ?_ _
        have e : IntKind.u32.wrap (lim + IntKind.u32.wrap (DQ.ov ((comp + n) % 4294967296) pq + pov)) = ((lim + DQ.ov ((comp + n) % 4294967296) pq + pov) % 4294967296) := by
          rw [IntKind.wrap_u32, IntKind.wrap_u32]
          omega
        rw [e]
        clear e
        have g2 := g.set 3 (.int .u32 ((lim + DQ.ov ((comp + n) % 4294967296) pq + pov) % 4294967296))
        have r2 := r.other (by omega) 3 (.int .u32 ((lim + DQ.ov ((comp + n) % 4294967296) pq + pov) % 4294967296)) (b' := w.heap.size)
        have hn2 := hn.other (by omega) 3 (.int .u32 ((lim + DQ.ov ((comp + n) % 4294967296) pq + pov) % 4294967296)) (b' := w.heap.size)
        have ht2 := ht.other (by omega) 3 (.int .u32 ((lim + DQ.ov ((comp + n) % 4294967296) pq + pov) % 4294967296)) (b' := w.heap.size)
        have B2 := B.setCell (p := ⟨w.heap.size, 3, none⟩) (Nat.le_refl _) (.int .u32 ((lim + DQ.ov ((comp + n) % 4294967296) pq + pov) % 4294967296))
        generalize w4.setCell ⟨w.heap.size, 3, none⟩ (.int .u32 ((lim + DQ.ov ((comp + n) % 4294967296) pq + pov) % 4294967296)) = w5 at g2 r2 hn2 ht2 B2 ⊢
        simp only [List.setIfInBounds_toArray, List.set_cons_succ, List.set_cons_zero] at g2
        obtain ⟨L, hLL⟩ : ∃ L, ((lim + DQ.ov ((comp + n) % 4294967296) pq + pov) % 4294967296) = L := ⟨_, rfl⟩
        rw [hLL] at g2 ⊢
        have HL := Lib.hid hLL
        clear hLL
        clear g r hn ht B
        have g := g2
        have r := r2
        have hn := hn2
        have ht := ht2
        have B := B2
        clear g2 r2 hn2 ht2 B2
        go_wp2_with (first
    | go_skip
    | ((with_reducible show wpList _ _ _ (⟨_, .load 26 _, _, _, _, _⟩ :: _) _ _); refine load_held g (by first | exact wanted_none rfl | exact wanted_some rfl rfl rfl rfl) (by exact rfl) (by exact rfl) Try.underlying26 rfl dqlInfo ?_)
    | ((with_reducible show wpList _ _ _ (⟨_, .load _ _, _, _, _, _⟩ :: _) _ _); refine load_fld g (by first | exact wanted_none rfl | exact wanted_some rfl rfl rfl rfl) (by exact rfl) (by exact rfl) (by first | exact Try.underlying22 | exact Try.underlying23) rfl (by exact rfl) ?_)
    | ((with_reducible show wpList _ _ _ (⟨_, .load _ _, _, _, _, _⟩ :: _) _ _); refine load_fld hn (by first | exact wanted_none rfl | exact wanted_some rfl rfl rfl rfl) (by exact rfl) (by exact rfl) (by first | exact Try.underlying22 | exact Try.underlying23) rfl (by exact rfl) ?_)
    | ((with_reducible show wpList _ _ _ (⟨_, .load _ _, _, _, _, _⟩ :: _) _ _); refine load_fld ht (by first | exact wanted_none rfl | exact wanted_some rfl rfl rfl rfl) (by exact rfl) (by exact rfl) (by first | exact Try.underlying22 | exact Try.underlying23) rfl (by exact rfl) ?_)
    | ((with_reducible show wpList _ _ _ (⟨_, .store 26 _ _, _, _, _, _⟩ :: _) _ _); refine store_held r (by first | exact wanted_none rfl | exact wanted_some rfl rfl rfl rfl) (by exact rfl) (by exact rfl) (by exact rfl) (by exact dqlInfo) (by exact rfl) (by exact rfl) ?_; intro w2 r2 F2; have g2 := g.foot F2 (by omega); have hn2 := hn.foot F2 (by omega); have ht2 := ht.foot F2 (by omega); have B2 := below_foot B F2 (by omega) (Nat.le_refl _); clear F2; clear r g hn ht B; have r := r2; have g := g2; have hn := hn2; have ht := ht2; have B := B2; clear r2 g2 hn2 ht2 B2)
    | ((with_reducible show wpList _ _ _ (⟨_, .store _ _ _, _, _, _, _⟩ :: _) _ _); refine store_fld g (by first | exact wanted_none rfl | exact wanted_some rfl rfl rfl rfl) (by exact rfl) (by exact rfl) (by exact rfl) (by first | exact infoU32 | exact infoU64) (by exact rfl) (by exact rfl) ?_; intro w2 g2 F2; simp only [List.setIfInBounds_toArray, List.set_cons_succ, List.set_cons_zero] at g2; have r2 := r.foot F2 (by omega); have hn2 := hn.foot F2 (by omega); have ht2 := ht.foot F2 (by omega); have B2 := below_foot B F2 (by omega) (Nat.le_refl _); clear F2; clear g r hn ht B; have g := g2; have r := r2; have hn := hn2; have ht := ht2; have B := B2; clear g2 r2 hn2 ht2 B2)
    | (go_at_call 32; refine (excess_pv _ _ _ _ _ _ _ _ _ _ _ _ _ _).mono ?_; rintro e w2 ⟨rfl, hb⟩; have g2 := g.below hb g.lt; have r2 := r.below hb r.lt; have hn2 := hn.below hb hn.lt; have ht2 := ht.below hb ht.lt; have B2 := B.trans (hb.mono B.size); clear hb; clear g r hn ht B; have g := g2; have r := r2; have hn := hn2; have ht := ht2; have B := B2; clear g2 r2 hn2 ht2 B2)
    | (go_at_call 41; refine (remaining_pv _ _ _ _ _ _ _ _ _ _ _ _ _ _ _).mono ?_; rintro e w2 ⟨rfl, hb⟩; have g2 := g.below hb g.lt; have r2 := r.below hb r.lt; have hn2 := hn.below hb hn.lt; have ht2 := ht.below hb ht.lt; have B2 := B.trans (hb.mono B.size); clear hb; clear g r hn ht B; have g := g2; have r := r2; have hn := hn2; have ht := ht2; have B := B2; clear g2 r2 hn2 ht2 B2)
    | (go_at_call 42; refine (allPrevious_pv _ _ _ _ _ _ _ _ _ _ _ _ _ _ _).mono ?_; rintro e w2 ⟨rfl, hb⟩; have g2 := g.below hb g.lt; have r2 := r.below hb r.lt; have hn2 := hn.below hb hn.lt; have ht2 := ht.below hb ht.lt; have B2 := B.trans (hb.mono B.size); clear hb; clear g r hn ht B; have g := g2; have r := r2; have hn := hn2; have ht := ht2; have B := B2; clear g2 r2 hn2 ht2 B2)
    | (go_at_call 43; refine (restarted_pv _ _ _ _ _ _ _ _ _ _ _ _ _ _ _).mono ?_; rintro e w2 ⟨rfl, hb⟩; have g2 := g.below hb g.lt; have r2 := r.below hb r.lt; have hn2 := hn.below hb hn.lt; have ht2 := ht.below hb ht.lt; have B2 := B.trans (hb.mono B.size); clear hb; clear g r hn ht B; have g := g2; have r := r2; have hn := hn2; have ht := ht2; have B := B2; clear g2 r2 hn2 ht2 B2)
    | (go_at_call 45; refine (slack_pv _ _ _ _ _ _ _ _ _ _ _ _ _ _ _).mono ?_; rintro e w2 ⟨rfl, hb⟩; have g2 := g.below hb g.lt; have r2 := r.below hb r.lt; have hn2 := hn.below hb hn.lt; have ht2 := ht.below hb ht.lt; have B2 := B.trans (hb.mono B.size); clear hb; clear g r hn ht B; have g := g2; have r := r2; have hn := hn2; have ht := ht2; have B := B2; clear g2 r2 hn2 ht2 B2)
    | (go_at_call 38; refine (over_g _ _ _).mono ?_; rintro e w' ⟨rfl, rfl⟩))
        refine ret_held2 r (by exact rfl) (by exact rfl) Try.underlying26 rfl dqlInfo ⟨?_, B⟩
        rw [HL.out]
        rfl
end Go.Proofs.Ytfgaeaebchgcdaa
