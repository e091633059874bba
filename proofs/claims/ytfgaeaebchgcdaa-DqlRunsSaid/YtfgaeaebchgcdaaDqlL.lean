/-
  The contract of dql.adjusted, over the steps visited. Conditions: the numbers fit their kinds.
-/
import Derived.Test.YtfgaeaebchgcdaaDqlJ
import Derived.Test.YtfgaeaebchgcdaaDqlK
namespace Go.Proofs.Ytfgaeaebchgcdaa
set_option linter.unusedSimpArgs false
set_option linter.unusedVariables false
open Go.ChangeShapes Go.WideShapes Go.ChangeAt Go.RowKit Go.Shelf
attribute [local go_sem] Oper.semAt_some

theorem keepsFrom_below {B : Nat} {W W' : World} (h : Below W.heap.size W W') : KeepsFrom B W W' := ⟨h.size, fun k o _ hk _ => (h.block k (Array.getElem?_eq_some_iff.1 hk).1).trans hk⟩
theorem keepsFrom_foot {B b : Nat} {W W' : World} (h : Foot (· = b) W W') (hb : b < B) : KeepsFrom B W W' := ⟨h.size, fun k o hB hk _ => (h.block k (Array.getElem?_eq_some_iff.1 hk).1 (by omega)).trans hk⟩
theorem keepsBut_below {n : Nat} {W W' : World} (h : Below W.heap.size W W') (hn : n ≤ W.heap.size) : KeepsBut n n W W' := fun k hk _ => h.block k (by omega)
/-- what adjusted keeps by it all along: the result's box, the steps' boxes -/
structure AdjK (n t : Int) (b : Nat) (w W0 W : World) : Prop where
  r : Held W (w.heap.size + 1) 26 (dqc 0 0 0 0 0 0 0 0 0 0 0 0 0)
  n0 : Held W b 22 #[.int .u32 n]
  t0 : Held W (b + 1) 23 #[.int .u64 t]
  n1 : Held W (b + 2) 22 #[.int .u32 n]
  t1 : Held W (b + 2 + 1) 23 #[.int .u64 t]
  B : Below w.heap.size w W
  le : W0.heap.size ≤ W.heap.size
theorem AdjK.below {n t : Int} {b : Nat} {w W0 W W' : World} (h : AdjK n t b w W0 W) (hb : Below W.heap.size W W') : AdjK n t b w W0 W' :=
  ⟨h.r.below hb h.r.lt, h.n0.below hb h.n0.lt, h.t0.below hb h.t0.lt, h.n1.below hb h.n1.lt, h.t1.below hb h.t1.lt, h.B.trans (hb.mono h.B.size), Nat.le_trans h.le hb.size⟩
theorem AdjK.far {n t : Int} {b m : Nat} {w W0 W W' : World} (h : AdjK n t b w W0 W) (hb : Below m W W') (h1 : w.heap.size + 2 ≤ m) (h2 : b + 4 ≤ m) : AdjK n t b w W0 W' :=
  ⟨h.r.below hb (by omega), h.n0.below hb (by omega), h.t0.below hb (by omega), h.n1.below hb (by omega), h.t1.below hb (by omega), h.B.trans (hb.mono (by omega)), Nat.le_trans h.le hb.size⟩
theorem AdjK.foot {n t : Int} {b : Nat} {w W0 W W' : World} (h : AdjK n t b w W0 W) (hf : Foot (· = w.heap.size) W W') (hb : w.heap.size < b) : AdjK n t b w W0 W' :=
  ⟨h.r.foot hf (by omega), h.n0.foot hf (by omega), h.t0.foot hf (by omega), h.n1.foot hf (by omega), h.t1.foot hf (by omega), below_foot h.B hf (Nat.le_refl _) (Nat.le_refl _), Nat.le_trans h.le hf.size⟩
theorem stepV_zero (b : Nat) : stepV b 0 = .func (.func 40) #[] #[.pointer (some ⟨b, 0, none⟩), .pointer (some ⟨b + 1, 0, none⟩)] := rfl
theorem stepV_pos {b x : Nat} (h : x ≠ 0) : stepV b x = .func (.func 44) #[] #[.pointer (some ⟨b + 2, 0, none⟩), .pointer (some ⟨b + 2 + 1, 0, none⟩)] := if_neg h
/-- between two rounds -/
def AdjI (q adj last lim comp pov plast pq slack start hold mn mx n t : Int) (b : Nat) (w W0 : World) (pre : List Nat) (W : World) : Prop :=
  ((0 ∈ pre → DQ.upB (⟨q, adj, last, lim, comp, pov, plast, pq, slack, start, hold, mn, mx⟩ : DQ) n = false) ∧ ((∃ k, k ∈ pre ∧ k ≠ 0) → DQ.slackB (⟨q, adj, last, lim, comp, pov, plast, pq, slack, start, hold, mn, mx⟩ : DQ) n = false)) ∧ Held W w.heap.size 26 (dqc q adj last lim comp pov plast pq slack start hold mn mx) ∧ AdjK n t b w W0 W
/-- a round has left -/
def AdjX (q adj last lim comp pov plast pq slack start hold mn mx n t : Int) (b : Nat) (w W0 : World) (c : Code) (pre : List Nat) (W : World) : Prop :=
  c = .exit 0 ∧ ∃ z x, pre = z ++ [x] ∧ ((0 ∈ z ∨ x = 0) → Held W w.heap.size 26 (dqc q adj last (DQ.rawL (⟨q, adj, last, lim, comp, pov, plast, pq, slack, start, hold, mn, mx⟩ : DQ) n t) comp pov plast pq (DQ.slW (⟨q, adj, last, lim, comp, pov, plast, pq, slack, start, hold, mn, mx⟩ : DQ) n t) (DQ.stW (⟨q, adj, last, lim, comp, pov, plast, pq, slack, start, hold, mn, mx⟩ : DQ) n t) hold mn mx)) ∧ AdjK n t b w W0 W
theorem adjI_far (q adj last lim comp pov plast pq slack start hold mn mx n t : Int) (b : Nat) (w W0 : World) (h1 : w.heap.size + 2 ≤ b) (h2 : b + 4 ≤ W0.heap.size) : FarFrom W0.heap.size (AdjI q adj last lim comp pov plast pq slack start hold mn mx n t b w W0) := fun s X Y h hb =>
  ⟨h.1, h.2.1.below hb (by omega), h.2.2.far hb (by omega) (by omega)⟩
theorem adjX_far (q adj last lim comp pov plast pq slack start hold mn mx n t : Int) (b : Nat) (w W0 : World) (h1 : w.heap.size + 2 ≤ b) (h2 : b + 4 ≤ W0.heap.size) (c : Code) : FarFrom W0.heap.size (AdjX q adj last lim comp pov plast pq slack start hold mn mx n t b w W0 c) := by
  rintro s X Y ⟨hc, z, x, e1, e2, e3⟩ hb
  exact ⟨hc, z, x, e1, fun h => (e2 h).below hb (by omega), e3.far hb (by omega) (by omega)⟩

set_option maxRecDepth 100000 in
set_option maxHeartbeats 4000000 in
theorem adjusted_pv (q adj last lim comp pov plast pq slack start hold mn mx n t : Int) (hpq : 0 ≤ pq ∧ pq ≤ 4294967295) (hcm : 0 ≤ comp ∧ comp ≤ 4294967295) (hst : 0 ≤ start ∧ start ≤ 18446744073709551615) (htt : 0 ≤ t ∧ t ≤ 18446744073709551615) (w : World) :
    Calls Try.prog 31 #[dqv q adj last lim comp pov plast pq slack start hold mn mx, .int .u32 n, .int .u64 t] w fun e w' => e = .returned (.agg (dqc q adj last (DQ.rawL (⟨q, adj, last, lim, comp, pov, plast, pq, slack, start, hold, mn, mx⟩ : DQ) n t) comp pov plast pq (DQ.slW (⟨q, adj, last, lim, comp, pov, plast, pq, slack, start, hold, mn, mx⟩ : DQ) n t) (DQ.stW (⟨q, adj, last, lim, comp, pov, plast, pq, slack, start, hold, mn, mx⟩ : DQ) n t) hold mn mx)) ∧ Below w.heap.size w w' := by
  refine (callsIn_wide (n := 6)).1 ?_
  refine callsIn_of_wp_marks Try.func31 rfl trivial ?_ rfl
  simp only [Try.ntmps31, List.size_toArray, List.length_cons, List.length_nil, Nat.reduceAdd, Nat.reduceSub, Array.replicate_succ, Array.replicate_zero, List.push_toArray, List.append_toArray, List.nil_append, List.cons_append]
  gi_wp2
  obtain ⟨g, r, B⟩ := two_boxes w 26 26 (dqc q adj last lim comp pov plast pq slack start hold mn mx) (dqc 0 0 0 0 0 0 0 0 0 0 0 0 0)
  have hsz : ((w.alloc (.cells (dqc q adj last lim comp pov plast pq slack start hold mn mx) 26)).alloc (.cells (dqc 0 0 0 0 0 0 0 0 0 0 0 0 0) 26)).heap.size = w.heap.size + 2 := by simp
  generalize (w.alloc (.cells (dqc q adj last lim comp pov plast pq slack start hold mn mx) 26)).alloc (.cells (dqc 0 0 0 0 0 0 0 0 0 0 0 0 0) 26) = w1 at g r B hsz ⊢
  refine scope_in ?_
  gi_wp2
  refine wpIn_label ?_
  gi_wp2_with (first
    | (refine ⟨trivial, ?_⟩; gi_at_call 36; refine (callsIn_wide.2 (raising_p _ _ _)).mono ?_; rintro e w' ⟨rfl, rfl⟩)
    | (refine ⟨trivial, ?_⟩; gi_at_call 37; refine (callsIn_wide.2 (lowering_p _ _ _)).mono ?_; rintro e w' ⟨rfl, rfl⟩)
    | (refine ⟨trivial, ?_⟩; gi_at_call 35; refine (callsIn_wide.2 (each_p _ _ _ _)).mono ?_; rintro e w' ⟨rfl, rfl⟩))
  obtain ⟨W0, hW0⟩ : ∃ W0, ((((((w1.alloc (.cells #[.int .u32 n] 22)).alloc (.cells #[.int .u64 t] 23)).alloc (.cells #[.int .u32 n] 22)).alloc (.cells #[.int .u64 t] 23)).alloc (.cells #[stepV (w.heap.size + 2) 0, stepV (w.heap.size + 2) 1] 55)).alloc (.cells #[.slice (some ⟨w.heap.size + 2 + 4, 0, none⟩) 2 2] 58)) = W0 := ⟨_, rfl⟩
  have hz : W0.heap.size = w.heap.size + 8 := by rw [← hW0]; simp [hsz]
  have g0 : Held W0 w.heap.size 26 (dqc q adj last lim comp pov plast pq slack start hold mn mx) := by rw [← hW0]; exact (((((g.alloc _).alloc _).alloc _).alloc _).alloc _).alloc _
  have r0 : Held W0 (w.heap.size + 1) 26 (dqc 0 0 0 0 0 0 0 0 0 0 0 0 0) := by rw [← hW0]; exact (((((r.alloc _).alloc _).alloc _).alloc _).alloc _).alloc _
  have n0 : Held W0 (w.heap.size + 2) 22 #[.int .u32 n] := by
    rw [← hW0, ← hsz]
    exact (((((Held.new w1 _ _).alloc _).alloc _).alloc _).alloc _).alloc _
  have t0 : Held W0 (w.heap.size + 2 + 1) 23 #[.int .u64 t] := by
    have e := Held.new (w1.alloc (.cells #[.int .u32 n] 22)) 23 #[.int .u64 t]
    simp only [World.size_alloc, hsz] at e
    rw [← hW0]
    exact (((e.alloc _).alloc _).alloc _).alloc _
  have n1 : Held W0 (w.heap.size + 2 + 2) 22 #[.int .u32 n] := by
    have e := Held.new ((w1.alloc (.cells #[.int .u32 n] 22)).alloc (.cells #[.int .u64 t] 23)) 22 #[.int .u32 n]
    simp only [World.size_alloc, hsz] at e
    rw [← hW0]
    exact ((e.alloc _).alloc _).alloc _
  have t1 : Held W0 (w.heap.size + 2 + 2 + 1) 23 #[.int .u64 t] := by
    have e := Held.new (((w1.alloc (.cells #[.int .u32 n] 22)).alloc (.cells #[.int .u64 t] 23)).alloc (.cells #[.int .u32 n] 22)) 23 #[.int .u64 t]
    simp only [World.size_alloc, hsz] at e
    rw [← hW0]
    exact (e.alloc _).alloc _
  have gs : Held W0 (w.heap.size + 2 + 4) 55 #[stepV (w.heap.size + 2) 0, stepV (w.heap.size + 2) 1] := by
    have e := Held.new ((((w1.alloc (.cells #[.int .u32 n] 22)).alloc (.cells #[.int .u64 t] 23)).alloc (.cells #[.int .u32 n] 22)).alloc (.cells #[.int .u64 t] 23)) 55 #[stepV (w.heap.size + 2) 0, stepV (w.heap.size + 2) 1]
    simp only [World.size_alloc, hsz] at e
    rw [← hW0]
    exact e.alloc _
  have gx : Held W0 (w.heap.size + 2 + 5) 58 #[.slice (some ⟨w.heap.size + 2 + 4, 0, none⟩) 2 2] := by
    have e := Held.new (((((w1.alloc (.cells #[.int .u32 n] 22)).alloc (.cells #[.int .u64 t] 23)).alloc (.cells #[.int .u32 n] 22)).alloc (.cells #[.int .u64 t] 23)).alloc (.cells #[stepV (w.heap.size + 2) 0, stepV (w.heap.size + 2) 1] 55)) 58 #[.slice (some ⟨w.heap.size + 2 + 4, 0, none⟩) 2 2]
    simp only [World.size_alloc, hsz] at e
    rw [← hW0]
    exact e
  have hB0 : Below w.heap.size w W0 := by
    rw [← hW0]
    exact (((((B.alloc B.size _).alloc (by have := B.size; simp; omega) _).alloc (by have := B.size; simp; omega) _).alloc (by have := B.size; simp; omega) _).alloc (by have := B.size; simp; omega) _).alloc (by have := B.size; simp; omega) _
  have K0 : AdjK n t (w.heap.size + 2) w W0 W0 := ⟨r0, n0, t0, n1, t1, hB0, Nat.le_refl _⟩
  change Code.wpIn _ _ _ _ _ _ ((((((w1.alloc (.cells #[.int .u32 n] 22)).alloc (.cells #[.int .u64 t] 23)).alloc (.cells #[.int .u32 n] 22)).alloc (.cells #[.int .u64 t] 23)).alloc (.cells #[stepV (w.heap.size + 2) 0, stepV (w.heap.size + 2) 1] 55)).alloc (.cells #[.slice (some ⟨w.heap.size + 2 + 4, 0, none⟩) 2 2] 58))
  rw [hW0]
  have HZ := Lib.hid hz
  clear hW0 g r B r0 n0 t0 n1 t1 hsz
  refine wpIn_rangeFar (n := 6) (F := Fence.wide) rfl (by omega) (gf := 39) (lb := #[.pointer (some ⟨w.heap.size + 2 + 5, 0, none⟩)]) rfl trivial (enters_of Try.func39 (by kernel_rfl) rfl)
    (each1_far 5 (by omega) (w.heap.size + 2 + 5) (w.heap.size + 2 + 4) (w.heap.size + 2) W0 gx gs)
    (fun h k => h.trans k) (fun W l o o' hl ho hc hw => KeepsBut.put (Nat.le_refl _) W l o o' hl ho hc hw) (fun _ => rfl)
    (AdjI q adj last lim comp pov plast pq slack start hold mn mx n t (w.heap.size + 2) w W0) (AdjX q adj last lim comp pov plast pq slack start hold mn mx n t (w.heap.size + 2) w W0) (adjI_far _ _ _ _ _ _ _ _ _ _ _ _ _ n t _ w W0 (Nat.le_refl _) (by omega)) (adjX_far _ _ _ _ _ _ _ _ _ _ _ _ _ n t _ w W0 (Nat.le_refl _) (by omega))
    ⟨⟨(fun h => by cases h), (fun ⟨_, h, _⟩ => by cases h)⟩, g0, K0⟩
    (fun k => { tmps := #[dqv q adj last lim comp pov plast pq slack start hold mn mx, .int .u32 n, .int .u64 t, .pointer (some ⟨w.heap.size, 0, none⟩), undef, undef, .pointer (some ⟨w.heap.size + 1, 0, none⟩), stepV (w.heap.size + 2) k, undef, undef, .int .u32 n, .int .u64 t,
          .func (.func 40) #[] #[.pointer (some ⟨w.heap.size + 2, 0, none⟩), .pointer (some ⟨w.heap.size + 2 + 1, 0, none⟩)], .int .u32 n, .int .u64 t,
          .func (.func 44) #[] #[.pointer (some ⟨w.heap.size + 2 + 1 + 1, 0, none⟩), .pointer (some ⟨w.heap.size + 2 + 1 + 1 + 1, 0, none⟩)],
          .slice (some ⟨w.heap.size + 2 + 1 + 1 + 1 + 1, 0, none⟩) 2 2, .func (.func 39) #[] #[.pointer (some ⟨w.heap.size + 2 + 1 + 1 + 1 + 1 + 1, 0, none⟩)], stepV (w.heap.size + 2) k,
          undef, undef, undef, undef, undef, undef, undef, undef, undef], defers := [] }) ?assign ?body ?done ?stop
  all_goals clear hz
  case assign =>
    intro l x V K hK
    gi_wp2
    exact hK
  case body =>
    rintro l pre x V ⟨hp, g, K⟩ hlt
    have hsV := K.le
    by_cases hx : x = 0
    · subst hx
      rcases hu : DQ.upB (⟨q, adj, last, lim, comp, pov, plast, pq, slack, start, hold, mn, mx⟩ : DQ) n
      all_goals
        have HU := Lib.hid hu
        clear hu
        simp only [stepV_zero]
      · gi_wp2_with (first
          | ((with_reducible show wpListIn _ _ _ _ _ (⟨_, .load 26 _, _, _, _, _⟩ :: _) _ _); refine load_heldI g (by first | exact wanted_none rfl | exact wanted_some rfl rfl rfl rfl) (by exact rfl) (by exact rfl) Try.underlying26 rfl dqlInfo ?_)
          | (refine ⟨trivial, ?_⟩; gi_at_call 40; refine (CallsIn.inRound l (callsIn_wide.2 (raising1_no q adj last lim comp pov plast pq slack start hold mn mx n t _ _ HU.out V K.n0 K.t0))).mono ?_; rintro e V1 ⟨rfl, hb⟩; skip)
          | ((with_reducible show wpListIn _ _ _ _ _ (⟨_, .store 26 _ _, _, _, _, _⟩ :: _) _ _); refine store_heldI (Held.new V1 _ _) (by first | exact wanted_none rfl | exact wanted_some rfl rfl rfl rfl) (by exact rfl) (by exact rfl) (by exact rfl) (by exact dqlInfo) (by exact rfl) (by exact rfl) ?_; intro V2 gN F2; have b2 := below_foot (hb.alloc hb.size _) F2 hb.size (Nat.le_refl _); clear F2; have g2 := g.below b2 g.lt; have K2 := K.below b2))
        exact ⟨keepsFrom_below b2, keepsBut_below b2 hsV, ⟨fun _ => HU.out, fun ⟨k, hk, hne⟩ => hp.2 ⟨k, by simpa [hne] using hk, hne⟩⟩, g2, K2⟩
      · gi_wp2_with (first
          | ((with_reducible show wpListIn _ _ _ _ _ (⟨_, .load 26 _, _, _, _, _⟩ :: _) _ _); refine load_heldI gN (by first | exact wanted_none rfl | exact wanted_some rfl rfl rfl rfl) (by exact rfl) (by exact rfl) Try.underlying26 rfl dqlInfo ?_)
          | ((with_reducible show wpListIn _ _ _ _ _ (⟨_, .store 26 _ _, _, _, _, _⟩ :: _) _ _); refine store_heldI g2 (by first | exact wanted_none rfl | exact wanted_some rfl rfl rfl rfl) (by exact rfl) (by exact rfl) (by exact rfl) (by exact dqlInfo) (by exact rfl) (by exact rfl) ?_; intro V3 g3 F3)
          | ((with_reducible show wpListIn _ _ _ _ _ (⟨_, .load 26 _, _, _, _, _⟩ :: _) _ _); refine load_heldI g (by first | exact wanted_none rfl | exact wanted_some rfl rfl rfl rfl) (by exact rfl) (by exact rfl) Try.underlying26 rfl dqlInfo ?_)
          | (refine ⟨trivial, ?_⟩; gi_at_call 40; refine (CallsIn.inRound l (callsIn_wide.2 (raising1_up q adj last lim comp pov plast pq slack start hold mn mx n t _ _ HU.out V K.n0 K.t0))).mono ?_; rintro e V1 ⟨rfl, hb⟩; skip)
          | ((with_reducible show wpListIn _ _ _ _ _ (⟨_, .store 26 _ _, _, _, _, _⟩ :: _) _ _); refine store_heldI (Held.new V1 _ _) (by first | exact wanted_none rfl | exact wanted_some rfl rfl rfl rfl) (by exact rfl) (by exact rfl) (by exact rfl) (by exact dqlInfo) (by exact rfl) (by exact rfl) ?_; intro V2 gN F2; have b2 := below_foot (hb.alloc hb.size _) F2 hb.size (Nat.le_refl _); clear F2; have g2 := g.below b2 g.lt; have K2 := K.below b2))
        have hz := HZ.out
        exact ⟨(keepsFrom_below b2).trans (keepsFrom_foot F3 (by omega)), rfl, pre, _, rfl, (fun _ => by obtain ⟨a1, a2, a3⟩ := DQ.way_up (t := t) HU.out; rw [a1, a2, a3]; exact g3), K2.foot F3 (by omega)⟩
    · rcases hs : DQ.slackB (⟨q, adj, last, lim, comp, pov, plast, pq, slack, start, hold, mn, mx⟩ : DQ) n
      · have HS := Lib.hid hs
        clear hs
        simp only [stepV_pos hx]
        gi_wp2_with (first
          | ((with_reducible show wpListIn _ _ _ _ _ (⟨_, .load 26 _, _, _, _, _⟩ :: _) _ _); refine load_heldI g (by first | exact wanted_none rfl | exact wanted_some rfl rfl rfl rfl) (by exact rfl) (by exact rfl) Try.underlying26 rfl dqlInfo ?_)
          | (refine ⟨trivial, ?_⟩; gi_at_call 44; refine (CallsIn.inRound l (callsIn_wide.2 (lowering1_no q adj last lim comp pov plast pq slack start hold mn mx n t _ _ hpq hcm hst htt HS.out V K.n1 K.t1))).mono ?_; rintro e V1 ⟨rfl, hb⟩; skip)
          | ((with_reducible show wpListIn _ _ _ _ _ (⟨_, .store 26 _ _, _, _, _, _⟩ :: _) _ _); refine store_heldI (Held.new V1 _ _) (by first | exact wanted_none rfl | exact wanted_some rfl rfl rfl rfl) (by exact rfl) (by exact rfl) (by exact rfl) (by exact dqlInfo) (by exact rfl) (by exact rfl) ?_; intro V2 gN F2; have b2 := below_foot (hb.alloc hb.size _) F2 hb.size (Nat.le_refl _); clear F2; have g2 := g.below b2 g.lt; have K2 := K.below b2))
        exact ⟨keepsFrom_below b2, keepsBut_below b2 hsV, ⟨fun h => hp.1 (by simpa [Ne.symm hx] using h), fun _ => HS.out⟩, g2, K2⟩
      · rcases hd : DQ.dueB (⟨q, adj, last, lim, comp, pov, plast, pq, slack, start, hold, mn, mx⟩ : DQ) t
        all_goals
          have HS := Lib.hid hs
          have HD := Lib.hid hd
          clear hs hd
          simp only [stepV_pos hx]
        · gi_wp2_with (first
            | ((with_reducible show wpListIn _ _ _ _ _ (⟨_, .load 26 _, _, _, _, _⟩ :: _) _ _); refine load_heldI gN (by first | exact wanted_none rfl | exact wanted_some rfl rfl rfl rfl) (by exact rfl) (by exact rfl) Try.underlying26 rfl dqlInfo ?_)
            | ((with_reducible show wpListIn _ _ _ _ _ (⟨_, .store 26 _ _, _, _, _, _⟩ :: _) _ _); refine store_heldI g2 (by first | exact wanted_none rfl | exact wanted_some rfl rfl rfl rfl) (by exact rfl) (by exact rfl) (by exact rfl) (by exact dqlInfo) (by exact rfl) (by exact rfl) ?_; intro V3 g3 F3)
            | ((with_reducible show wpListIn _ _ _ _ _ (⟨_, .load 26 _, _, _, _, _⟩ :: _) _ _); refine load_heldI g (by first | exact wanted_none rfl | exact wanted_some rfl rfl rfl rfl) (by exact rfl) (by exact rfl) Try.underlying26 rfl dqlInfo ?_)
            | (refine ⟨trivial, ?_⟩; gi_at_call 44; refine (CallsIn.inRound l (callsIn_wide.2 (lowering1_keep q adj last lim comp pov plast pq slack start hold mn mx n t _ _ hpq hcm hst htt HS.out HD.out V K.n1 K.t1))).mono ?_; rintro e V1 ⟨rfl, hb⟩; skip)
            | ((with_reducible show wpListIn _ _ _ _ _ (⟨_, .store 26 _ _, _, _, _, _⟩ :: _) _ _); refine store_heldI (Held.new V1 _ _) (by first | exact wanted_none rfl | exact wanted_some rfl rfl rfl rfl) (by exact rfl) (by exact rfl) (by exact rfl) (by exact dqlInfo) (by exact rfl) (by exact rfl) ?_; intro V2 gN F2; have b2 := below_foot (hb.alloc hb.size _) F2 hb.size (Nat.le_refl _); clear F2; have g2 := g.below b2 g.lt; have K2 := K.below b2))
          have hz := HZ.out
          exact ⟨(keepsFrom_below b2).trans (keepsFrom_foot F3 (by omega)), rfl, pre, _, rfl, (fun h => by obtain ⟨a1, a2, a3⟩ := DQ.way_keep (t := t) (hp.1 (h.resolve_right hx)) HS.out HD.out; rw [a1, a2, a3]; exact g3), K2.foot F3 (by omega)⟩
        · gi_wp2_with (first
            | ((with_reducible show wpListIn _ _ _ _ _ (⟨_, .load 26 _, _, _, _, _⟩ :: _) _ _); refine load_heldI gN (by first | exact wanted_none rfl | exact wanted_some rfl rfl rfl rfl) (by exact rfl) (by exact rfl) Try.underlying26 rfl dqlInfo ?_)
            | ((with_reducible show wpListIn _ _ _ _ _ (⟨_, .store 26 _ _, _, _, _, _⟩ :: _) _ _); refine store_heldI g2 (by first | exact wanted_none rfl | exact wanted_some rfl rfl rfl rfl) (by exact rfl) (by exact rfl) (by exact rfl) (by exact dqlInfo) (by exact rfl) (by exact rfl) ?_; intro V3 g3 F3)
            | ((with_reducible show wpListIn _ _ _ _ _ (⟨_, .load 26 _, _, _, _, _⟩ :: _) _ _); refine load_heldI g (by first | exact wanted_none rfl | exact wanted_some rfl rfl rfl rfl) (by exact rfl) (by exact rfl) Try.underlying26 rfl dqlInfo ?_)
            | (refine ⟨trivial, ?_⟩; gi_at_call 44; refine (CallsIn.inRound l (callsIn_wide.2 (lowering1_due q adj last lim comp pov plast pq slack start hold mn mx n t _ _ hpq hcm hst htt HS.out HD.out V K.n1 K.t1))).mono ?_; rintro e V1 ⟨rfl, hb⟩; skip)
            | ((with_reducible show wpListIn _ _ _ _ _ (⟨_, .store 26 _ _, _, _, _, _⟩ :: _) _ _); refine store_heldI (Held.new V1 _ _) (by first | exact wanted_none rfl | exact wanted_some rfl rfl rfl rfl) (by exact rfl) (by exact rfl) (by exact rfl) (by exact dqlInfo) (by exact rfl) (by exact rfl) ?_; intro V2 gN F2; have b2 := below_foot (hb.alloc hb.size _) F2 hb.size (Nat.le_refl _); clear F2; have g2 := g.below b2 g.lt; have K2 := K.below b2))
          have hz := HZ.out
          exact ⟨(keepsFrom_below b2).trans (keepsFrom_foot F3 (by omega)), rfl, pre, _, rfl, (fun h => by obtain ⟨a1, a2, a3⟩ := DQ.way_due (t := t) (hp.1 (h.resolve_right hx)) HS.out HD.out; rw [a1, a2, a3]; exact g3), K2.foot F3 (by omega)⟩
  case done =>
    rintro D ys V hD rfl ⟨hp, g, K⟩ hK
    have g' : Held V w.heap.size 26 (dqc q adj last (DQ.rawL (⟨q, adj, last, lim, comp, pov, plast, pq, slack, start, hold, mn, mx⟩ : DQ) n t) comp pov plast pq (DQ.slW (⟨q, adj, last, lim, comp, pov, plast, pq, slack, start, hold, mn, mx⟩ : DQ) n t) (DQ.stW (⟨q, adj, last, lim, comp, pov, plast, pq, slack, start, hold, mn, mx⟩ : DQ) n t) hold mn mx) := by
      obtain ⟨a1, a2, a3⟩ := DQ.way_no (t := t) (hp.1 (by decide)) (hp.2 ⟨1, by decide, by decide⟩)
      rw [a1, a2, a3]
      exact g
    have r := K.r
    clear g hp
    gi_wp2_with (first | ((with_reducible show wpListIn _ _ _ _ _ (⟨_, .load 26 _, _, _, _, _⟩ :: _) _ _); refine load_heldI g' (by first | exact wanted_none rfl | exact wanted_some rfl rfl rfl rfl) (by exact rfl) (by exact rfl) Try.underlying26 rfl dqlInfo ?_) | ((with_reducible show wpListIn _ _ _ _ _ (⟨_, .store 26 _ _, _, _, _, _⟩ :: _) _ _); refine store_heldI r (by first | exact wanted_none rfl | exact wanted_some rfl rfl rfl rfl) (by exact rfl) (by exact rfl) (by exact rfl) (by exact dqlInfo) (by exact rfl) (by exact rfl) ?_; intro V3 r3 F3))
    have hz := HZ.out
    have hK3 : V3.heap[D]? = some (.deferred (some [])) := (F3.block D (Array.getElem?_eq_some_iff.1 hK).1 (by omega)).trans hK
    refine ⟨by simp, .inl ⟨_, _, rfl, run_takeDeferred hK3, ?_⟩⟩
    refine ⟨.agg (dqc q adj last (DQ.rawL (⟨q, adj, last, lim, comp, pov, plast, pq, slack, start, hold, mn, mx⟩ : DQ) n t) comp pov plast pq (DQ.slW (⟨q, adj, last, lim, comp, pov, plast, pq, slack, start, hold, mn, mx⟩ : DQ) n t) (DQ.stW (⟨q, adj, last, lim, comp, pov, plast, pq, slack, start, hold, mn, mx⟩ : DQ) n t) hold mn mx), results_cell_row (p := 6) (ty := 26) rfl _ _ (w.heap.size + 1) 26 _ (0, 0) _ rfl ((World.putObj_heap_other (by omega)).trans r3) Try.underlying26 rfl dqlInfo, rfl, ?_⟩
    exact (below_foot K.B F3 (by omega) (Nat.le_refl _)).trans (below_put (by omega) V3 _)
  case stop =>
    rintro D c pre V hD ⟨k, hk, rfl⟩ ⟨rfl, z, x, hz, hg, K⟩ hK
    have g' : Held V w.heap.size 26 (dqc q adj last (DQ.rawL (⟨q, adj, last, lim, comp, pov, plast, pq, slack, start, hold, mn, mx⟩ : DQ) n t) comp pov plast pq (DQ.slW (⟨q, adj, last, lim, comp, pov, plast, pq, slack, start, hold, mn, mx⟩ : DQ) n t) (DQ.stW (⟨q, adj, last, lim, comp, pov, plast, pq, slack, start, hold, mn, mx⟩ : DQ) n t) hold mn mx) := by
      rw [List.range_succ] at hz
      obtain ⟨rfl, hx2⟩ := List.append_inj' hz rfl
      simp at hx2
      subst hx2
      refine hg ?_
      rcases Nat.eq_zero_or_pos k with h | h
      · exact .inr h
      · exact .inl (List.mem_range.2 h)
    have r := K.r
    clear hg hz
    gi_wp2_with (first | ((with_reducible show wpListIn _ _ _ _ _ (⟨_, .load 26 _, _, _, _, _⟩ :: _) _ _); refine load_heldI g' (by first | exact wanted_none rfl | exact wanted_some rfl rfl rfl rfl) (by exact rfl) (by exact rfl) Try.underlying26 rfl dqlInfo ?_) | ((with_reducible show wpListIn _ _ _ _ _ (⟨_, .store 26 _ _, _, _, _, _⟩ :: _) _ _); refine store_heldI r (by first | exact wanted_none rfl | exact wanted_some rfl rfl rfl rfl) (by exact rfl) (by exact rfl) (by exact rfl) (by exact dqlInfo) (by exact rfl) (by exact rfl) ?_; intro V3 r3 F3))
    have hz := HZ.out
    have hK3 : V3.heap[D]? = some (.deferred (some [])) := (F3.block D (Array.getElem?_eq_some_iff.1 hK).1 (by omega)).trans hK
    refine ⟨by simp, .inl ⟨_, _, rfl, run_takeDeferred hK3, ?_⟩⟩
    refine ⟨.agg (dqc q adj last (DQ.rawL (⟨q, adj, last, lim, comp, pov, plast, pq, slack, start, hold, mn, mx⟩ : DQ) n t) comp pov plast pq (DQ.slW (⟨q, adj, last, lim, comp, pov, plast, pq, slack, start, hold, mn, mx⟩ : DQ) n t) (DQ.stW (⟨q, adj, last, lim, comp, pov, plast, pq, slack, start, hold, mn, mx⟩ : DQ) n t) hold mn mx), results_cell_row (p := 6) (ty := 26) rfl _ _ (w.heap.size + 1) 26 _ (0, 0) _ rfl ((World.putObj_heap_other (by omega)).trans r3) Try.underlying26 rfl dqlInfo, rfl, ?_⟩
    exact (below_foot K.B F3 (by omega) (Nat.le_refl _)).trans (below_put (by omega) V3 _)
end Go.Proofs.Ytfgaeaebchgcdaa
