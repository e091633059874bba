/-
  The document's Complete where the state is right and no more is completed than is in flight. Conditions: the numbers fit their kinds.
-/
import Derived.Test.YtfgaeaebchgcdaaDqlG
namespace Go.Proofs.Ytfgaeaebchgcdaa
set_option linter.unusedSimpArgs false
set_option linter.unusedVariables false
open Go.ChangeShapes Go.WideShapes Go.ChangeAt Go.RowKit

/-- what completing makes of Slack and Start -/
def DQ.slW (d : DQ) (n t : Int) : Int := if d.upB n = true then 4294967295 else if d.slackB n = true then (if d.dueB t = true then 4294967295 else d.slackN n) else d.slack
def DQ.stW (d : DQ) (n t : Int) : Int := if d.upB n = true then t else if d.slackB n = true ∧ d.dueB t = true then t else d.start
theorem DQ.way_up {d : DQ} {n t : Int} (h : d.upB n = true) : d.rawL n t = (d.lim + DQ.ov ((d.comp + n) % 4294967296) d.pq + d.pov) % 4294967296 ∧ d.slW n t = 4294967295 ∧ d.stW n t = t := by
  simp [DQ.rawL, DQ.slW, DQ.stW, h]
theorem DQ.way_no {d : DQ} {n t : Int} (h : d.upB n = false) (h' : d.slackB n = false) : d.rawL n t = d.lim ∧ d.slW n t = d.slack ∧ d.stW n t = d.start := by
  simp [DQ.rawL, DQ.slW, DQ.stW, h, h']
theorem DQ.way_keep {d : DQ} {n t : Int} (h : d.upB n = false) (h' : d.slackB n = true) (h2 : d.dueB t = false) : d.rawL n t = d.lim ∧ d.slW n t = d.slackN n ∧ d.stW n t = d.start := by
  simp [DQ.rawL, DQ.slW, DQ.stW, h, h', h2]
theorem DQ.way_due {d : DQ} {n t : Int} (h : d.upB n = false) (h' : d.slackB n = true) (h2 : d.dueB t = true) : d.rawL n t = DQ.ov d.lim (d.slackN n) ∧ d.slW n t = 4294967295 ∧ d.stW n t = t := by
  simp [DQ.rawL, DQ.slW, DQ.stW, h, h', h2]
/-- behind the first part: the limit ahead of its bounds, Slack and Start -/
def Raw (d : DQ) (n t : Int) (k : Nat) (w : World) (s : Value) (wx : World) : Prop :=
  s = .int .u32 (d.rawL n t) ∧ Held wx k 26 (dqc d.q d.adj d.last d.lim d.comp d.pov d.plast d.pq (d.slW n t) (d.stW n t) d.hold d.mn d.mx) ∧ Held wx (k + 1) 26 (dqc 0 0 0 0 0 0 0 0 0 0 0 0 0) ∧ Below k w wx
set_option maxRecDepth 8000 in
set_option maxHeartbeats 8000000 in
theorem complete_r1 (q adj last lim comp pov plast pq slack start hold mn mx n t : Int) (hr : DQ.rightB (⟨q, adj, last, lim, comp, pov, plast, pq, slack, start, hold, mn, mx⟩ : DQ) = true) (hn : n ≤ DQ.fr comp q) (hst : 0 ≤ start ∧ start ≤ 18446744073709551615) (ht : 0 ≤ t ∧ t ≤ 18446744073709551615) (w : World) : Calls Try.prog 23 #[dqv q adj last lim comp pov plast pq slack start hold mn mx, .int .u32 n, .int .u64 t] w fun e w' => e = .returned (.tuple #[dq (DQ.completed (⟨q, adj, last, lim, comp, pov, plast, pq, slack, start, hold, mn, mx⟩ : DQ) n t), .int .i64 0]) ∧ Below w.heap.size w w' := by
  go_enter Try.func23, Try.ntmps23
  go_upto_region 1 with (fail)
  obtain ⟨g, r, B⟩ := two_boxes w 26 26 (dqc q adj last lim comp pov plast pq slack start hold mn mx) (dqc 0 0 0 0 0 0 0 0 0 0 0 0 0)
  generalize (w.alloc (.cells (dqc q adj last lim comp pov plast pq slack start hold mn mx) 26)).alloc (.cells (dqc 0 0 0 0 0 0 0 0 0 0 0 0 0) 26) = w1 at g r B ⊢
  go_upto_region 13 with (first
    | go_skip
    | ((with_reducible show wpList _ _ _ (⟨_, .load 26 _, _, _, _, _⟩ :: _) _ _); refine load_held g (by first | exact wanted_none rfl | exact wanted_some rfl rfl rfl rfl) (by exact rfl) (by exact rfl) Try.underlying26 rfl dqlInfo ?_)
    | ((with_reducible show wpList _ _ _ (⟨_, .load _ _, _, _, _, _⟩ :: _) _ _); refine load_fld g (by first | exact wanted_none rfl | exact wanted_some rfl rfl rfl rfl) (by exact rfl) (by exact rfl) (by first | exact Try.underlying22 | exact Try.underlying23) rfl (by exact rfl) ?_)
    | ((with_reducible show wpList _ _ _ (⟨_, .store 26 _ _, _, _, _, _⟩ :: _) _ _); refine store_held r (by first | exact wanted_none rfl | exact wanted_some rfl rfl rfl rfl) (by exact rfl) (by exact rfl) (by exact rfl) (by exact dqlInfo) (by exact rfl) (by exact rfl) ?_; intro w2 r2 F2; have g2 := g.foot F2 (by omega); have B2 := below_foot B F2 (by omega) (Nat.le_refl _); clear F2; clear r g B; have r := r2; have g := g2; have B := B2; clear r2 g2 B2)
    | ((with_reducible show wpList _ _ _ (⟨_, .store _ _ _, _, _, _, _⟩ :: _) _ _); refine store_fld g (by first | exact wanted_none rfl | exact wanted_some rfl rfl rfl rfl) (by exact rfl) (by exact rfl) (by exact rfl) (by first | exact infoU32 | exact infoU64) (by exact rfl) (by exact rfl) ?_; intro w2 g2 F2; simp only [List.setIfInBounds_toArray, List.set_cons_succ, List.set_cons_zero] at g2; have r2 := r.foot F2 (by omega); have B2 := below_foot B F2 (by omega) (Nat.le_refl _); clear F2; clear g r B; have g := g2; have r := r2; have B := B2; clear g2 r2 B2)
    | (go_at_call 16; refine (rightr_v true _ _ _ _ _ _ _ _ _ _ _ _ _ hr _).mono ?_; rintro e w2 ⟨rfl, hb⟩; have g2 := g.below hb g.lt; have r2 := r.below hb r.lt; have B2 := B.trans (hb.mono B.size); clear hb; clear g r B; have g := g2; have r := r2; have B := B2; clear g2 r2 B2)
    | (go_at_call 19; refine (flight_rv _ _ _ _ _ _ _ _ _ _ _ _ _ _).mono ?_; rintro e w2 ⟨rfl, hb⟩; have g2 := g.below hb g.lt; have r2 := r.below hb r.lt; have B2 := B.trans (hb.mono B.size); clear hb; clear g r B; have g := g2; have r := r2; have B := B2; clear g2 r2 B2)
    | (go_at_call 29; refine (far_f _ _ _).mono ?_; rintro e w' ⟨rfl, rfl⟩)
    | (go_at_call 34; refine (ahead_f _ _ _).mono ?_; rintro e w' ⟨rfl, rfl⟩)
    | (go_at_call 33; refine (over_f _ _ _).mono ?_; rintro e w' ⟨rfl, rfl⟩))
  clear hn
  go_cut [69, 11, 13, 14] (fun s69 s11 s13 s14 wx => s69 = .bool (DQ.upB (⟨q, adj, last, lim, comp, pov, plast, pq, slack, start, hold, mn, mx⟩ : DQ) n) ∧ s11 = .int .u32 (DQ.fr ((comp + n) % 4294967296) q) ∧ s13 = .bool (DQ.ah ((comp + n) % 4294967296) pq) ∧ s14 = .bool (!DQ.ah ((comp + n) % 4294967296) pq) ∧ wx = w2)
  case first =>
    rcases h4 : DQ.ah ((comp + n) % 4294967296) pq
    all_goals by_cases h1 : 0 < DQ.ov ((q - comp) % 4294967296) lim
    all_goals by_cases h2 : DQ.fr ((comp + n) % 4294967296) q = 0
    all_goals by_cases h3 : 0 < pov
    all_goals
      have H2 := Lib.hid h2
      have e2 : (DQ.fr ((comp + n) % 4294967296) q == 0) = decide (DQ.fr ((comp + n) % 4294967296) q = 0) := rfl
      simp only [h2, decide_true, decide_false] at e2
      clear h2
      go_wp2_with (first
        | go_skip
        | ((with_reducible show wpList _ _ _ (⟨_, .load _ _, _, _, _, _⟩ :: _) _ _); refine load_fld g (by first | exact wanted_none rfl | exact wanted_some rfl rfl rfl rfl) (by exact rfl) (by exact rfl) (by first | exact Try.underlying22 | exact Try.underlying23) rfl (by exact rfl) ?_))
      go_meet
      case rel =>
        have h2 := H2.out
        refine ⟨congrArg Value.bool ?_, by first | rfl | rw [h2], by first | rfl | rw [h4], by simp [h4], rfl⟩
        show _ = ((decide (0 < DQ.ov ((q - comp) % 4294967296) lim) && decide (DQ.fr ((comp + n) % 4294967296) q = 0)) || (decide (0 < pov) && !DQ.ah ((comp + n) % 4294967296) pq))
        simp [h1, h2, h3, h4]
  case rest =>
    obtain ⟨rfl, rfl, rfl, rfl, rfl⟩ := hcut
    go_upto_if 69 with (fail)
    go_cut [15, 11, 12, 13, 14] (fun s15 _ _ _ _ wx => Raw (⟨q, adj, last, lim, comp, pov, plast, pq, slack, start, hold, mn, mx⟩ : DQ) n t w.heap.size w s15 wx)
    case first =>
      rcases hu : DQ.upB (⟨q, adj, last, lim, comp, pov, plast, pq, slack, start, hold, mn, mx⟩ : DQ) n
      · go_upto_region 17 with (fail)
        go_cut [91, 11, 12, 13, 14] (fun s91 _ _ _ _ wx => s91 = .bool (DQ.slackB (⟨q, adj, last, lim, comp, pov, plast, pq, slack, start, hold, mn, mx⟩ : DQ) n) ∧ wx = wc)
        case first =>
          rcases h4 : DQ.ah ((comp + n) % 4294967296) pq
          all_goals by_cases h2 : DQ.fr ((comp + n) % 4294967296) q = 0
          all_goals by_cases h1 : (pq - comp) % 4294967296 = 0
          all_goals
            have H2 := Lib.hid h2
            have H1 := Lib.hid h1
            have e2 : (DQ.fr ((comp + n) % 4294967296) q == 0) = decide (DQ.fr ((comp + n) % 4294967296) q = 0) := rfl
            simp only [h2, decide_true, decide_false] at e2
            have e1 : ((pq - comp) % 4294967296 == 0) = decide ((pq - comp) % 4294967296 = 0) := rfl
            simp only [h1, decide_true, decide_false] at e1
            clear h1 h2
            go_wp2_with (first
              | go_skip
              | ((with_reducible show wpList _ _ _ (⟨_, .load _ _, _, _, _, _⟩ :: _) _ _); refine load_fld g (by first | exact wanted_none rfl | exact wanted_some rfl rfl rfl rfl) (by exact rfl) (by exact rfl) (by first | exact Try.underlying22 | exact Try.underlying23) rfl (by exact rfl) ?_))
            go_meet
            case rel =>
              have h2 := H2.out
              have h1 := H1.out
              refine ⟨congrArg Value.bool ?_, rfl⟩
              show _ = ((decide (DQ.fr ((comp + n) % 4294967296) q ≠ 0) && decide ((pq - comp) % 4294967296 ≠ 0)) && DQ.ah ((comp + n) % 4294967296) pq)
              simp [h1, h2, h4]
        case rest =>
          obtain ⟨rfl, rfl⟩ := hcut
          rcases hs : DQ.slackB (⟨q, adj, last, lim, comp, pov, plast, pq, slack, start, hold, mn, mx⟩ : DQ) n
          · go_wp2_with (fail)
            go_meet
            case rel =>
              obtain ⟨e1, e2, e3⟩ := DQ.way_no (t := t) hu hs
              refine ⟨by rw [e1], ?_, r, B⟩
              rw [e2, e3]
              exact g
          · go_upto_if 102 with (first
    | go_skip
    | ((with_reducible show wpList _ _ _ (⟨_, .load 26 _, _, _, _, _⟩ :: _) _ _); refine load_held g (by first | exact wanted_none rfl | exact wanted_some rfl rfl rfl rfl) (by exact rfl) (by exact rfl) Try.underlying26 rfl dqlInfo ?_)
    | ((with_reducible show wpList _ _ _ (⟨_, .load _ _, _, _, _, _⟩ :: _) _ _); refine load_fld g (by first | exact wanted_none rfl | exact wanted_some rfl rfl rfl rfl) (by exact rfl) (by exact rfl) (by first | exact Try.underlying22 | exact Try.underlying23) rfl (by exact rfl) ?_)
    | ((with_reducible show wpList _ _ _ (⟨_, .store 26 _ _, _, _, _, _⟩ :: _) _ _); refine store_held r (by first | exact wanted_none rfl | exact wanted_some rfl rfl rfl rfl) (by exact rfl) (by exact rfl) (by exact rfl) (by exact dqlInfo) (by exact rfl) (by exact rfl) ?_; intro w2 r2 F2; have g2 := g.foot F2 (by omega); have B2 := below_foot B F2 (by omega) (Nat.le_refl _); clear F2; clear r g B; have r := r2; have g := g2; have B := B2; clear r2 g2 B2)
    | ((with_reducible show wpList _ _ _ (⟨_, .store _ _ _, _, _, _, _⟩ :: _) _ _); refine store_fld g (by first | exact wanted_none rfl | exact wanted_some rfl rfl rfl rfl) (by exact rfl) (by exact rfl) (by exact rfl) (by first | exact infoU32 | exact infoU64) (by exact rfl) (by exact rfl) ?_; intro w2 g2 F2; simp only [List.setIfInBounds_toArray, List.set_cons_succ, List.set_cons_zero] at g2; have r2 := r.foot F2 (by omega); have B2 := below_foot B F2 (by omega) (Nat.le_refl _); clear F2; clear g r B; have g := g2; have r := r2; have B := B2; clear g2 r2 B2)
    | (go_at_call 16; refine (rightr_v true _ _ _ _ _ _ _ _ _ _ _ _ _ hr _).mono ?_; rintro e w2 ⟨rfl, hb⟩; have g2 := g.below hb g.lt; have r2 := r.below hb r.lt; have B2 := B.trans (hb.mono B.size); clear hb; clear g r B; have g := g2; have r := r2; have B := B2; clear g2 r2 B2)
    | (go_at_call 19; refine (flight_rv _ _ _ _ _ _ _ _ _ _ _ _ _ _).mono ?_; rintro e w2 ⟨rfl, hb⟩; have g2 := g.below hb g.lt; have r2 := r.below hb r.lt; have B2 := B.trans (hb.mono B.size); clear hb; clear g r B; have g := g2; have r := r2; have B := B2; clear g2 r2 B2)
    | (go_at_call 29; refine (far_f _ _ _).mono ?_; rintro e w' ⟨rfl, rfl⟩)
    | (go_at_call 34; refine (ahead_f _ _ _).mono ?_; rintro e w' ⟨rfl, rfl⟩)
    | (go_at_call 33; refine (over_f _ _ _).mono ?_; rintro e w' ⟨rfl, rfl⟩))
            go_cut [16] (fun s16 wx => s16 = .int .u32 (if 0 < pov then max (DQ.ov ((lim + pov) % 4294967296) (2 * n % 4294967296)) (DQ.ov plast pov) else DQ.ov ((lim + pov) % 4294967296) (2 * n % 4294967296)) ∧ wx = wc)
            case first =>
              by_cases hp : 0 < pov
              · go_upto_region 20 with (fail)
                go_wp2_with (first
    | go_skip
    | ((with_reducible show wpList _ _ _ (⟨_, .load 26 _, _, _, _, _⟩ :: _) _ _); refine load_held g (by first | exact wanted_none rfl | exact wanted_some rfl rfl rfl rfl) (by exact rfl) (by exact rfl) Try.underlying26 rfl dqlInfo ?_)
    | ((with_reducible show wpList _ _ _ (⟨_, .load _ _, _, _, _, _⟩ :: _) _ _); refine load_fld g (by first | exact wanted_none rfl | exact wanted_some rfl rfl rfl rfl) (by exact rfl) (by exact rfl) (by first | exact Try.underlying22 | exact Try.underlying23) rfl (by exact rfl) ?_)
    | ((with_reducible show wpList _ _ _ (⟨_, .store 26 _ _, _, _, _, _⟩ :: _) _ _); refine store_held r (by first | exact wanted_none rfl | exact wanted_some rfl rfl rfl rfl) (by exact rfl) (by exact rfl) (by exact rfl) (by exact dqlInfo) (by exact rfl) (by exact rfl) ?_; intro w2 r2 F2; have g2 := g.foot F2 (by omega); have B2 := below_foot B F2 (by omega) (Nat.le_refl _); clear F2; clear r g B; have r := r2; have g := g2; have B := B2; clear r2 g2 B2)
    | ((with_reducible show wpList _ _ _ (⟨_, .store _ _ _, _, _, _, _⟩ :: _) _ _); refine store_fld g (by first | exact wanted_none rfl | exact wanted_some rfl rfl rfl rfl) (by exact rfl) (by exact rfl) (by exact rfl) (by first | exact infoU32 | exact infoU64) (by exact rfl) (by exact rfl) ?_; intro w2 g2 F2; simp only [List.setIfInBounds_toArray, List.set_cons_succ, List.set_cons_zero] at g2; have r2 := r.foot F2 (by omega); have B2 := below_foot B F2 (by omega) (Nat.le_refl _); clear F2; clear g r B; have g := g2; have r := r2; have B := B2; clear g2 r2 B2)
    | (go_at_call 16; refine (rightr_v true _ _ _ _ _ _ _ _ _ _ _ _ _ hr _).mono ?_; rintro e w2 ⟨rfl, hb⟩; have g2 := g.below hb g.lt; have r2 := r.below hb r.lt; have B2 := B.trans (hb.mono B.size); clear hb; clear g r B; have g := g2; have r := r2; have B := B2; clear g2 r2 B2)
    | (go_at_call 19; refine (flight_rv _ _ _ _ _ _ _ _ _ _ _ _ _ _).mono ?_; rintro e w2 ⟨rfl, hb⟩; have g2 := g.below hb g.lt; have r2 := r.below hb r.lt; have B2 := B.trans (hb.mono B.size); clear hb; clear g r B; have g := g2; have r := r2; have B := B2; clear g2 r2 B2)
    | (go_at_call 29; refine (far_f _ _ _).mono ?_; rintro e w' ⟨rfl, rfl⟩)
    | (go_at_call 34; refine (ahead_f _ _ _).mono ?_; rintro e w' ⟨rfl, rfl⟩)
    | (go_at_call 33; refine (over_f _ _ _).mono ?_; rintro e w' ⟨rfl, rfl⟩))
                all_goals go_meet
                all_goals exact ⟨congrArg (Value.int .u32) (by rw [if_pos hp]; first | omega | ((repeat' split) <;> omega)), rfl⟩
              · go_wp2_with (fail)
                go_meet
                case rel => exact ⟨congrArg (Value.int .u32) (by rw [if_neg (by omega)]), rfl⟩
            case rest =>
              obtain ⟨rfl, rfl⟩ := hcut
              obtain ⟨X, hX⟩ : ∃ X, (if 0 < pov then max (DQ.ov ((lim + pov) % 4294967296) (2 * n % 4294967296)) (DQ.ov plast pov) else DQ.ov ((lim + pov) % 4294967296) (2 * n % 4294967296)) = X := ⟨_, rfl⟩
              rw [hX]
              have HX := Lib.hid hX
              clear hX
              go_upto_region 22 with (first
    | go_skip
    | ((with_reducible show wpList _ _ _ (⟨_, .load 26 _, _, _, _, _⟩ :: _) _ _); refine load_held g (by first | exact wanted_none rfl | exact wanted_some rfl rfl rfl rfl) (by exact rfl) (by exact rfl) Try.underlying26 rfl dqlInfo ?_)
    | ((with_reducible show wpList _ _ _ (⟨_, .load _ _, _, _, _, _⟩ :: _) _ _); refine load_fld g (by first | exact wanted_none rfl | exact wanted_some rfl rfl rfl rfl) (by exact rfl) (by exact rfl) (by first | exact Try.underlying22 | exact Try.underlying23) rfl (by exact rfl) ?_)
    | ((with_reducible show wpList _ _ _ (⟨_, .store 26 _ _, _, _, _, _⟩ :: _) _ _); refine store_held r (by first | exact wanted_none rfl | exact wanted_some rfl rfl rfl rfl) (by exact rfl) (by exact rfl) (by exact rfl) (by exact dqlInfo) (by exact rfl) (by exact rfl) ?_; intro w2 r2 F2; have g2 := g.foot F2 (by omega); have B2 := below_foot B F2 (by omega) (Nat.le_refl _); clear F2; clear r g B; have r := r2; have g := g2; have B := B2; clear r2 g2 B2)
    | ((with_reducible show wpList _ _ _ (⟨_, .store _ _ _, _, _, _, _⟩ :: _) _ _); refine store_fld g (by first | exact wanted_none rfl | exact wanted_some rfl rfl rfl rfl) (by exact rfl) (by exact rfl) (by exact rfl) (by first | exact infoU32 | exact infoU64) (by exact rfl) (by exact rfl) ?_; intro w2 g2 F2; simp only [List.setIfInBounds_toArray, List.set_cons_succ, List.set_cons_zero] at g2; have r2 := r.foot F2 (by omega); have B2 := below_foot B F2 (by omega) (Nat.le_refl _); clear F2; clear g r B; have g := g2; have r := r2; have B := B2; clear g2 r2 B2)
    | (go_at_call 16; refine (rightr_v true _ _ _ _ _ _ _ _ _ _ _ _ _ hr _).mono ?_; rintro e w2 ⟨rfl, hb⟩; have g2 := g.below hb g.lt; have r2 := r.below hb r.lt; have B2 := B.trans (hb.mono B.size); clear hb; clear g r B; have g := g2; have r := r2; have B := B2; clear g2 r2 B2)
    | (go_at_call 19; refine (flight_rv _ _ _ _ _ _ _ _ _ _ _ _ _ _).mono ?_; rintro e w2 ⟨rfl, hb⟩; have g2 := g.below hb g.lt; have r2 := r.below hb r.lt; have B2 := B.trans (hb.mono B.size); clear hb; clear g r B; have g := g2; have r := r2; have B := B2; clear g2 r2 B2)
    | (go_at_call 29; refine (far_f _ _ _).mono ?_; rintro e w' ⟨rfl, rfl⟩)
    | (go_at_call 34; refine (ahead_f _ _ _).mono ?_; rintro e w' ⟨rfl, rfl⟩)
    | (go_at_call 33; refine (over_f _ _ _).mono ?_; rintro e w' ⟨rfl, rfl⟩))
              have e : (if X < slack then X else slack) = DQ.slackN (⟨q, adj, last, lim, comp, pov, plast, pq, slack, start, hold, mn, mx⟩ : DQ) n := by
                show _ = min slack (if 0 < pov then max (DQ.ov ((lim + pov) % 4294967296) (2 * n % 4294967296)) (DQ.ov plast pov) else DQ.ov ((lim + pov) % 4294967296) (2 * n % 4294967296))
                rw [HX.out]
                split <;> omega
              rw [e] at g ⊢
              clear e
              simp only [Act.put, List.setIfInBounds_toArray, List.set_cons_zero, List.set_cons_succ]
              go_cut [127, 16] (fun s127 _ wx => s127 = .bool (DQ.dueB (⟨q, adj, last, lim, comp, pov, plast, pq, slack, start, hold, mn, mx⟩ : DQ) t) ∧ wx = w2)
              case first =>
                by_cases h5 : start < t
                all_goals by_cases h6 : hold < t - start
                all_goals
                  have H5 := Lib.hid h5
                  have H6 := Lib.hid h6
                  go_wp2_with (first
                    | go_skip
                    | ((with_reducible show wpList _ _ _ (⟨_, .load _ _, _, _, _, _⟩ :: _) _ _); refine load_fld g (by first | exact wanted_none rfl | exact wanted_some rfl rfl rfl rfl) (by exact rfl) (by exact rfl) (by first | exact Try.underlying22 | exact Try.underlying23) rfl (by exact rfl) ?_))
                  go_meet
                  case rel =>
                    have h5 := H5.out
                    have h6 := H6.out
                    exact ⟨congrArg Value.bool (by show _ = (decide (start < t) && decide (hold < t - start)); simp [h5, h6]), rfl⟩
              case rest =>
                obtain ⟨rfl, rfl⟩ := hcut
                rcases hd : DQ.dueB (⟨q, adj, last, lim, comp, pov, plast, pq, slack, start, hold, mn, mx⟩ : DQ) t
                · go_wp2_with (fail)
                  go_meet
                  case rel =>
                    obtain ⟨e1, e2, e3⟩ := DQ.way_keep (t := t) hu hs hd
                    refine ⟨by rw [e1], ?_, r, B⟩
                    rw [e2, e3]
                    exact g
                · go_wp2_with (first
    | go_skip
    | ((with_reducible show wpList _ _ _ (⟨_, .load 26 _, _, _, _, _⟩ :: _) _ _); refine load_held g (by first | exact wanted_none rfl | exact wanted_some rfl rfl rfl rfl) (by exact rfl) (by exact rfl) Try.underlying26 rfl dqlInfo ?_)
    | ((with_reducible show wpList _ _ _ (⟨_, .load _ _, _, _, _, _⟩ :: _) _ _); refine load_fld g (by first | exact wanted_none rfl | exact wanted_some rfl rfl rfl rfl) (by exact rfl) (by exact rfl) (by first | exact Try.underlying22 | exact Try.underlying23) rfl (by exact rfl) ?_)
    | ((with_reducible show wpList _ _ _ (⟨_, .store 26 _ _, _, _, _, _⟩ :: _) _ _); refine store_held r (by first | exact wanted_none rfl | exact wanted_some rfl rfl rfl rfl) (by exact rfl) (by exact rfl) (by exact rfl) (by exact dqlInfo) (by exact rfl) (by exact rfl) ?_; intro w2 r2 F2; have g2 := g.foot F2 (by omega); have B2 := below_foot B F2 (by omega) (Nat.le_refl _); clear F2; clear r g B; have r := r2; have g := g2; have B := B2; clear r2 g2 B2)
    | ((with_reducible show wpList _ _ _ (⟨_, .store _ _ _, _, _, _, _⟩ :: _) _ _); refine store_fld g (by first | exact wanted_none rfl | exact wanted_some rfl rfl rfl rfl) (by exact rfl) (by exact rfl) (by exact rfl) (by first | exact infoU32 | exact infoU64) (by exact rfl) (by exact rfl) ?_; intro w2 g2 F2; simp only [List.setIfInBounds_toArray, List.set_cons_succ, List.set_cons_zero] at g2; have r2 := r.foot F2 (by omega); have B2 := below_foot B F2 (by omega) (Nat.le_refl _); clear F2; clear g r B; have g := g2; have r := r2; have B := B2; clear g2 r2 B2)
    | (go_at_call 16; refine (rightr_v true _ _ _ _ _ _ _ _ _ _ _ _ _ hr _).mono ?_; rintro e w2 ⟨rfl, hb⟩; have g2 := g.below hb g.lt; have r2 := r.below hb r.lt; have B2 := B.trans (hb.mono B.size); clear hb; clear g r B; have g := g2; have r := r2; have B := B2; clear g2 r2 B2)
    | (go_at_call 19; refine (flight_rv _ _ _ _ _ _ _ _ _ _ _ _ _ _).mono ?_; rintro e w2 ⟨rfl, hb⟩; have g2 := g.below hb g.lt; have r2 := r.below hb r.lt; have B2 := B.trans (hb.mono B.size); clear hb; clear g r B; have g := g2; have r := r2; have B := B2; clear g2 r2 B2)
    | (go_at_call 29; refine (far_f _ _ _).mono ?_; rintro e w' ⟨rfl, rfl⟩)
    | (go_at_call 34; refine (ahead_f _ _ _).mono ?_; rintro e w' ⟨rfl, rfl⟩)
    | (go_at_call 33; refine (over_f _ _ _).mono ?_; rintro e w' ⟨rfl, rfl⟩))
                  go_meet
                  case rel =>
                    obtain ⟨e1, e2, e3⟩ := DQ.way_due (t := t) hu hs hd
                    refine ⟨by rw [e1], ?_, r, B⟩
                    rw [e2, e3]
                    exact g
      · go_upto_region 14 with (fail)
        obtain ⟨⟨-, -, -, -, -, c5, -, c7, -⟩, -⟩ := Held.dql g
        go_quiet ((go_at_call 33; exact Calls.quiet_of_same ((over_f _ _ _).mono (fun _ _ ⟨a, b⟩ => ⟨a, b.symm⟩))))
        obtain ⟨w3, hw3⟩ : ∃ w3, wc.drewN nq = w3 := ⟨_, rfl⟩
        have g3 : Held w3 w.heap.size 26 (dqc q adj last lim comp pov plast pq slack start hold mn mx) := by rw [← hw3]; exact g
        have r3 : Held w3 (w.heap.size + 1) 26 (dqc 0 0 0 0 0 0 0 0 0 0 0 0 0) := by rw [← hw3]; exact r
        have B3 : Below w.heap.size w w3 := by rw [← hw3]; exact below_drewN B _
        rw [hw3]
        clear hw3 g r B c5 c7
        have g := g3
        have r := r3
        have B := B3
        clear g3 r3 B3
        go_wp2_with (first
    | go_skip
    | ((with_reducible show wpList _ _ _ (⟨_, .load 26 _, _, _, _, _⟩ :: _) _ _); refine load_held g (by first | exact wanted_none rfl | exact wanted_some rfl rfl rfl rfl) (by exact rfl) (by exact rfl) Try.underlying26 rfl dqlInfo ?_)
    | ((with_reducible show wpList _ _ _ (⟨_, .load _ _, _, _, _, _⟩ :: _) _ _); refine load_fld g (by first | exact wanted_none rfl | exact wanted_some rfl rfl rfl rfl) (by exact rfl) (by exact rfl) (by first | exact Try.underlying22 | exact Try.underlying23) rfl (by exact rfl) ?_)
    | ((with_reducible show wpList _ _ _ (⟨_, .store 26 _ _, _, _, _, _⟩ :: _) _ _); refine store_held r (by first | exact wanted_none rfl | exact wanted_some rfl rfl rfl rfl) (by exact rfl) (by exact rfl) (by exact rfl) (by exact dqlInfo) (by exact rfl) (by exact rfl) ?_; intro w2 r2 F2; have g2 := g.foot F2 (by omega); have B2 := below_foot B F2 (by omega) (Nat.le_refl _); clear F2; clear r g B; have r := r2; have g := g2; have B := B2; clear r2 g2 B2)
    | ((with_reducible show wpList _ _ _ (⟨_, .store _ _ _, _, _, _, _⟩ :: _) _ _); refine store_fld g (by first | exact wanted_none rfl | exact wanted_some rfl rfl rfl rfl) (by exact rfl) (by exact rfl) (by exact rfl) (by first | exact infoU32 | exact infoU64) (by exact rfl) (by exact rfl) ?_; intro w2 g2 F2; simp only [List.setIfInBounds_toArray, List.set_cons_succ, List.set_cons_zero] at g2; have r2 := r.foot F2 (by omega); have B2 := below_foot B F2 (by omega) (Nat.le_refl _); clear F2; clear g r B; have g := g2; have r := r2; have B := B2; clear g2 r2 B2)
    | (go_at_call 16; refine (rightr_v true _ _ _ _ _ _ _ _ _ _ _ _ _ hr _).mono ?_; rintro e w2 ⟨rfl, hb⟩; have g2 := g.below hb g.lt; have r2 := r.below hb r.lt; have B2 := B.trans (hb.mono B.size); clear hb; clear g r B; have g := g2; have r := r2; have B := B2; clear g2 r2 B2)
    | (go_at_call 19; refine (flight_rv _ _ _ _ _ _ _ _ _ _ _ _ _ _).mono ?_; rintro e w2 ⟨rfl, hb⟩; have g2 := g.below hb g.lt; have r2 := r.below hb r.lt; have B2 := B.trans (hb.mono B.size); clear hb; clear g r B; have g := g2; have r := r2; have B := B2; clear g2 r2 B2)
    | (go_at_call 29; refine (far_f _ _ _).mono ?_; rintro e w' ⟨rfl, rfl⟩)
    | (go_at_call 34; refine (ahead_f _ _ _).mono ?_; rintro e w' ⟨rfl, rfl⟩)
    | (go_at_call 33; refine (over_f _ _ _).mono ?_; rintro e w' ⟨rfl, rfl⟩))
        go_meet
        case rel =>
          obtain ⟨e1, e2, e3⟩ := DQ.way_up (t := t) hu
          refine ⟨by rw [e1], ?_, r, B⟩
          rw [e2, e3]
          exact g
    case rest =>
      unfold Raw at hcut
      obtain ⟨rfl, g, r, B⟩ := hcut
      have hN : (if mx < if DQ.rawL (⟨q, adj, last, lim, comp, pov, plast, pq, slack, start, hold, mn, mx⟩ : DQ) n t < mn then mn else DQ.rawL (⟨q, adj, last, lim, comp, pov, plast, pq, slack, start, hold, mn, mx⟩ : DQ) n t then mx else if DQ.rawL (⟨q, adj, last, lim, comp, pov, plast, pq, slack, start, hold, mn, mx⟩ : DQ) n t < mn then mn else DQ.rawL (⟨q, adj, last, lim, comp, pov, plast, pq, slack, start, hold, mn, mx⟩ : DQ) n t) = DQ.newL (⟨q, adj, last, lim, comp, pov, plast, pq, slack, start, hold, mn, mx⟩ : DQ) n t := by
        show _ = min (max (DQ.rawL (⟨q, adj, last, lim, comp, pov, plast, pq, slack, start, hold, mn, mx⟩ : DQ) n t) mn) mx
        generalize DQ.rawL (⟨q, adj, last, lim, comp, pov, plast, pq, slack, start, hold, mn, mx⟩ : DQ) n t = X
        (repeat' split) <;> omega
      have hC : DQ.completed (⟨q, adj, last, lim, comp, pov, plast, pq, slack, start, hold, mn, mx⟩ : DQ) n t = ⟨q, (DQ.newL (⟨q, adj, last, lim, comp, pov, plast, pq, slack, start, hold, mn, mx⟩ : DQ) n t + ((comp + n) % 4294967296)) % 4294967296, last, DQ.newL (⟨q, adj, last, lim, comp, pov, plast, pq, slack, start, hold, mn, mx⟩ : DQ) n t, ((comp + n) % 4294967296), if DQ.newL (⟨q, adj, last, lim, comp, pov, plast, pq, slack, start, hold, mn, mx⟩ : DQ) n t = lim then DQ.ov ((q - comp) % 4294967296) lim else 0, last, q, DQ.slW (⟨q, adj, last, lim, comp, pov, plast, pq, slack, start, hold, mn, mx⟩ : DQ) n t, DQ.stW (⟨q, adj, last, lim, comp, pov, plast, pq, slack, start, hold, mn, mx⟩ : DQ) n t, hold, mn, mx⟩ := rfl
      have HC := Lib.hid hC
      clear hC
      dsimp only at g
      go_upto_region 27 with (first
    | go_skip
    | ((with_reducible show wpList _ _ _ (⟨_, .load 26 _, _, _, _, _⟩ :: _) _ _); refine load_held g (by first | exact wanted_none rfl | exact wanted_some rfl rfl rfl rfl) (by exact rfl) (by exact rfl) Try.underlying26 rfl dqlInfo ?_)
    | ((with_reducible show wpList _ _ _ (⟨_, .load _ _, _, _, _, _⟩ :: _) _ _); refine load_fld g (by first | exact wanted_none rfl | exact wanted_some rfl rfl rfl rfl) (by exact rfl) (by exact rfl) (by first | exact Try.underlying22 | exact Try.underlying23) rfl (by exact rfl) ?_)
    | ((with_reducible show wpList _ _ _ (⟨_, .store 26 _ _, _, _, _, _⟩ :: _) _ _); refine store_held r (by first | exact wanted_none rfl | exact wanted_some rfl rfl rfl rfl) (by exact rfl) (by exact rfl) (by exact rfl) (by exact dqlInfo) (by exact rfl) (by exact rfl) ?_; intro w2 r2 F2; have g2 := g.foot F2 (by omega); have B2 := below_foot B F2 (by omega) (Nat.le_refl _); clear F2; clear r g B; have r := r2; have g := g2; have B := B2; clear r2 g2 B2)
    | ((with_reducible show wpList _ _ _ (⟨_, .store _ _ _, _, _, _, _⟩ :: _) _ _); refine store_fld g (by first | exact wanted_none rfl | exact wanted_some rfl rfl rfl rfl) (by exact rfl) (by exact rfl) (by exact rfl) (by first | exact infoU32 | exact infoU64) (by exact rfl) (by exact rfl) ?_; intro w2 g2 F2; simp only [List.setIfInBounds_toArray, List.set_cons_succ, List.set_cons_zero] at g2; have r2 := r.foot F2 (by omega); have B2 := below_foot B F2 (by omega) (Nat.le_refl _); clear F2; clear g r B; have g := g2; have r := r2; have B := B2; clear g2 r2 B2)
    | (go_at_call 16; refine (rightr_v true _ _ _ _ _ _ _ _ _ _ _ _ _ hr _).mono ?_; rintro e w2 ⟨rfl, hb⟩; have g2 := g.below hb g.lt; have r2 := r.below hb r.lt; have B2 := B.trans (hb.mono B.size); clear hb; clear g r B; have g := g2; have r := r2; have B := B2; clear g2 r2 B2)
    | (go_at_call 19; refine (flight_rv _ _ _ _ _ _ _ _ _ _ _ _ _ _).mono ?_; rintro e w2 ⟨rfl, hb⟩; have g2 := g.below hb g.lt; have r2 := r.below hb r.lt; have B2 := B.trans (hb.mono B.size); clear hb; clear g r B; have g := g2; have r := r2; have B := B2; clear g2 r2 B2)
    | (go_at_call 29; refine (far_f _ _ _).mono ?_; rintro e w' ⟨rfl, rfl⟩)
    | (go_at_call 34; refine (ahead_f _ _ _).mono ?_; rintro e w' ⟨rfl, rfl⟩)
    | (go_at_call 33; refine (over_f _ _ _).mono ?_; rintro e w' ⟨rfl, rfl⟩))
      try rw [hN]
      clear hN
      generalize DQ.newL (⟨q, adj, last, lim, comp, pov, plast, pq, slack, start, hold, mn, mx⟩ : DQ) n t = L at HC ⊢
      generalize DQ.slW (⟨q, adj, last, lim, comp, pov, plast, pq, slack, start, hold, mn, mx⟩ : DQ) n t = sl at HC g
      generalize DQ.stW (⟨q, adj, last, lim, comp, pov, plast, pq, slack, start, hold, mn, mx⟩ : DQ) n t = st at HC g
      by_cases hL : L = lim
      · have HL := Lib.hid hL
        go_upto_region 35 with (first
    | go_skip
    | ((with_reducible show wpList _ _ _ (⟨_, .load 26 _, _, _, _, _⟩ :: _) _ _); refine load_held g (by first | exact wanted_none rfl | exact wanted_some rfl rfl rfl rfl) (by exact rfl) (by exact rfl) Try.underlying26 rfl dqlInfo ?_)
    | ((with_reducible show wpList _ _ _ (⟨_, .load _ _, _, _, _, _⟩ :: _) _ _); refine load_fld g (by first | exact wanted_none rfl | exact wanted_some rfl rfl rfl rfl) (by exact rfl) (by exact rfl) (by first | exact Try.underlying22 | exact Try.underlying23) rfl (by exact rfl) ?_)
    | ((with_reducible show wpList _ _ _ (⟨_, .store 26 _ _, _, _, _, _⟩ :: _) _ _); refine store_held r (by first | exact wanted_none rfl | exact wanted_some rfl rfl rfl rfl) (by exact rfl) (by exact rfl) (by exact rfl) (by exact dqlInfo) (by exact rfl) (by exact rfl) ?_; intro w2 r2 F2; have g2 := g.foot F2 (by omega); have B2 := below_foot B F2 (by omega) (Nat.le_refl _); clear F2; clear r g B; have r := r2; have g := g2; have B := B2; clear r2 g2 B2)
    | ((with_reducible show wpList _ _ _ (⟨_, .store _ _ _, _, _, _, _⟩ :: _) _ _); refine store_fld g (by first | exact wanted_none rfl | exact wanted_some rfl rfl rfl rfl) (by exact rfl) (by exact rfl) (by exact rfl) (by first | exact infoU32 | exact infoU64) (by exact rfl) (by exact rfl) ?_; intro w2 g2 F2; simp only [List.setIfInBounds_toArray, List.set_cons_succ, List.set_cons_zero] at g2; have r2 := r.foot F2 (by omega); have B2 := below_foot B F2 (by omega) (Nat.le_refl _); clear F2; clear g r B; have g := g2; have r := r2; have B := B2; clear g2 r2 B2)
    | (go_at_call 16; refine (rightr_v true _ _ _ _ _ _ _ _ _ _ _ _ _ hr _).mono ?_; rintro e w2 ⟨rfl, hb⟩; have g2 := g.below hb g.lt; have r2 := r.below hb r.lt; have B2 := B.trans (hb.mono B.size); clear hb; clear g r B; have g := g2; have r := r2; have B := B2; clear g2 r2 B2)
    | (go_at_call 19; refine (flight_rv _ _ _ _ _ _ _ _ _ _ _ _ _ _).mono ?_; rintro e w2 ⟨rfl, hb⟩; have g2 := g.below hb g.lt; have r2 := r.below hb r.lt; have B2 := B.trans (hb.mono B.size); clear hb; clear g r B; have g := g2; have r := r2; have B := B2; clear g2 r2 B2)
    | (go_at_call 29; refine (far_f _ _ _).mono ?_; rintro e w' ⟨rfl, rfl⟩)
    | (go_at_call 34; refine (ahead_f _ _ _).mono ?_; rintro e w' ⟨rfl, rfl⟩)
    | (go_at_call 33; refine (over_f _ _ _).mono ?_; rintro e w' ⟨rfl, rfl⟩))
        go_step
        refine load_held g (by exact rfl) (by exact rfl) (by exact rfl) Try.underlying26 rfl dqlInfo ?_
        simp only [Act.put, List.setIfInBounds_toArray, List.set_cons_zero, List.set_cons_succ]
        refine store_held r (by exact rfl) (by exact rfl) (by exact rfl) (by exact rfl) (by exact dqlInfo) (by exact rfl) (by exact rfl) ?_
        intro w5 r5 F5
        have B5 := below_foot B F5 (by omega) (Nat.le_refl _)
        clear g r B F5 hL
        simp only [Act.put]
        iterate 10 (try go_step)
        refine ret_held2 r5 (by exact rfl) (by exact rfl) Try.underlying26 rfl dqlInfo ⟨?_, B5⟩
        rw [HC.out, if_pos HL.out, HL.out]
        rfl
      · have HL := Lib.hid hL
        go_upto_region 35 with (first
    | go_skip
    | ((with_reducible show wpList _ _ _ (⟨_, .load 26 _, _, _, _, _⟩ :: _) _ _); refine load_held g (by first | exact wanted_none rfl | exact wanted_some rfl rfl rfl rfl) (by exact rfl) (by exact rfl) Try.underlying26 rfl dqlInfo ?_)
    | ((with_reducible show wpList _ _ _ (⟨_, .load _ _, _, _, _, _⟩ :: _) _ _); refine load_fld g (by first | exact wanted_none rfl | exact wanted_some rfl rfl rfl rfl) (by exact rfl) (by exact rfl) (by first | exact Try.underlying22 | exact Try.underlying23) rfl (by exact rfl) ?_)
    | ((with_reducible show wpList _ _ _ (⟨_, .store 26 _ _, _, _, _, _⟩ :: _) _ _); refine store_held r (by first | exact wanted_none rfl | exact wanted_some rfl rfl rfl rfl) (by exact rfl) (by exact rfl) (by exact rfl) (by exact dqlInfo) (by exact rfl) (by exact rfl) ?_; intro w2 r2 F2; have g2 := g.foot F2 (by omega); have B2 := below_foot B F2 (by omega) (Nat.le_refl _); clear F2; clear r g B; have r := r2; have g := g2; have B := B2; clear r2 g2 B2)
    | ((with_reducible show wpList _ _ _ (⟨_, .store _ _ _, _, _, _, _⟩ :: _) _ _); refine store_fld g (by first | exact wanted_none rfl | exact wanted_some rfl rfl rfl rfl) (by exact rfl) (by exact rfl) (by exact rfl) (by first | exact infoU32 | exact infoU64) (by exact rfl) (by exact rfl) ?_; intro w2 g2 F2; simp only [List.setIfInBounds_toArray, List.set_cons_succ, List.set_cons_zero] at g2; have r2 := r.foot F2 (by omega); have B2 := below_foot B F2 (by omega) (Nat.le_refl _); clear F2; clear g r B; have g := g2; have r := r2; have B := B2; clear g2 r2 B2)
    | (go_at_call 16; refine (rightr_v true _ _ _ _ _ _ _ _ _ _ _ _ _ hr _).mono ?_; rintro e w2 ⟨rfl, hb⟩; have g2 := g.below hb g.lt; have r2 := r.below hb r.lt; have B2 := B.trans (hb.mono B.size); clear hb; clear g r B; have g := g2; have r := r2; have B := B2; clear g2 r2 B2)
    | (go_at_call 19; refine (flight_rv _ _ _ _ _ _ _ _ _ _ _ _ _ _).mono ?_; rintro e w2 ⟨rfl, hb⟩; have g2 := g.below hb g.lt; have r2 := r.below hb r.lt; have B2 := B.trans (hb.mono B.size); clear hb; clear g r B; have g := g2; have r := r2; have B := B2; clear g2 r2 B2)
    | (go_at_call 29; refine (far_f _ _ _).mono ?_; rintro e w' ⟨rfl, rfl⟩)
    | (go_at_call 34; refine (ahead_f _ _ _).mono ?_; rintro e w' ⟨rfl, rfl⟩)
    | (go_at_call 33; refine (over_f _ _ _).mono ?_; rintro e w' ⟨rfl, rfl⟩))
        go_step
        refine load_held g (by exact rfl) (by exact rfl) (by exact rfl) Try.underlying26 rfl dqlInfo ?_
        simp only [Act.put, List.setIfInBounds_toArray, List.set_cons_zero, List.set_cons_succ]
        refine store_held r (by exact rfl) (by exact rfl) (by exact rfl) (by exact rfl) (by exact dqlInfo) (by exact rfl) (by exact rfl) ?_
        intro w5 r5 F5
        have B5 := below_foot B F5 (by omega) (Nat.le_refl _)
        clear g r B F5 hL
        simp only [Act.put]
        iterate 10 (try go_step)
        refine ret_held2 r5 (by exact rfl) (by exact rfl) Try.underlying26 rfl dqlInfo ⟨?_, B5⟩
        rw [HC.out, if_neg HL.out]
        rfl
theorem complete_r (d : DQ) (n t : Int) (hst : 0 ≤ d.start ∧ d.start ≤ 18446744073709551615) (ht : 0 ≤ t ∧ t ≤ 18446744073709551615) (w : World) : Calls Try.prog 23 #[dq d, .int .u32 n, .int .u64 t] w fun e w' => e = .returned (.tuple #[dq (completeV d n t), .int .i64 (completeE d n)]) ∧ Below w.heap.size w w' := by
  rcases hr : d.rightB
  · exact complete_r0 d n t hr w
  · by_cases hn : n ≤ DQ.fr d.comp d.q
    · refine (complete_r1 d.q d.adj d.last d.lim d.comp d.pov d.plast d.pq d.slack d.start d.hold d.mn d.mx n t hr hn hst ht w).mono fun e w' h => ⟨h.1.trans ?_, h.2⟩
      have hq : decide (n ≤ d.flight) = true := decide_eq_true hn
      simp only [completeV, completeE, hr, hq, Bool.and_true, cond_true]
    · exact complete_far d n t hr (by omega) w
end Go.Proofs.Ytfgaeaebchgcdaa
