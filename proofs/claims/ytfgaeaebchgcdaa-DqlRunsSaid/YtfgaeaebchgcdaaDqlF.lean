/-
  States held against each other; contracts of dql.Right and dql.New. Conditions: the numbers fit their kinds.
-/
import Derived.Laws.StructEq
import Derived.Test.YtfgaeaebchgcdaaDqlE
import Derived.Deep.RegionWith
namespace Go.Proofs.Ytfgaeaebchgcdaa
open Go.ChangeShapes Go.WideShapes Go.ChangeAt Go.RowKit

/-- two structs held against each other, a whole number first -/
theorem eqF_int {P : Program} {d : Nat} {xs ys : Array Value} {f : Field} {fs : List Field} {k k' : IntKind} {a b : Int} {r : Bool} {w : World} (hn : (f.name == "_") = false) (hu : P.underlying f.type = some (.int k'))
    (hx : (part f.type xs f.offset).run P w = .ok (.int k a) w) (hy : (part f.type ys f.offset).run P w = .ok (.int k b) w) (hr : (Op.eqFields (d + 1) xs ys fs).run P w = .ok r w) : (Op.eqFields (d + 1) xs ys (f :: fs)).run P w = .ok ((a == b) && r) w := by
  have hn' : f.name ≠ "_" := by simpa using hn
  simp only [Op.eqFields, ne_eq, hn', not_false_eq_true, if_true, Sem.run_bind, hx, hy, Result.andThen_ok, run_equalIn_int w d f.type k k' a b hu]
  cases h : (a == b)
  · simp
  · simp [hr]
def dqEq (q adj last lim comp pov plast pq slack start hold mn mx q' adj' last' lim' comp' pov' plast' pq' slack' start' hold' mn' mx' : Int) : Bool := ((q == q') && ((adj == adj') && ((last == last') && ((lim == lim') && ((comp == comp') && ((pov == pov') && ((plast == plast') && ((pq == pq') && ((slack == slack') && ((start == start') && ((hold == hold') && ((mn == mn') && ((mx == mx') && true)))))))))))))
theorem dqEq_iff (q adj last lim comp pov plast pq slack start hold mn mx q' adj' last' lim' comp' pov' plast' pq' slack' start' hold' mn' mx' : Int) : dqEq q adj last lim comp pov plast pq slack start hold mn mx q' adj' last' lim' comp' pov' plast' pq' slack' start' hold' mn' mx' = true ↔ q = q' ∧ adj = adj' ∧ last = last' ∧ lim = lim' ∧ comp = comp' ∧ pov = pov' ∧ plast = plast' ∧ pq = pq' ∧ slack = slack' ∧ start = start' ∧ hold = hold' ∧ mn = mn' ∧ mx = mx' := by simp [dqEq]
set_option maxHeartbeats 4000000 in
theorem dql_eq (q adj last lim comp pov plast pq slack start hold mn mx q' adj' last' lim' comp' pov' plast' pq' slack' start' hold' mn' mx' : Int) (w : World) : (Op.equalIn 10000 26 (dqv q adj last lim comp pov plast pq slack start hold mn mx) (dqv q' adj' last' lim' comp' pov' plast' pq' slack' start' hold' mn' mx')).run Try.prog w = .ok (dqEq q adj last lim comp pov plast pq slack start hold mn mx q' adj' last' lim' comp' pov' plast' pq' slack' start' hold' mn' mx') w := by
  rw [run_equalIn_struct w 9999 26 _ _ (by kernel_rfl) (by kernel_rfl)]
  have u := Try.underlying22
  have u64 := Try.underlying23
  unfold Program.fieldsOf
  rw [Try.underlying26]
  dsimp only
  unfold dqEq
  refine eqF_int (d := 9998) (k := .u32) (by decide) u (by simp [go_sem]) (by simp [go_sem]) ?_
  refine eqF_int (d := 9998) (k := .u32) (by decide) u (by simp [go_sem]) (by simp [go_sem]) ?_
  refine eqF_int (d := 9998) (k := .u32) (by decide) u (by simp [go_sem]) (by simp [go_sem]) ?_
  refine eqF_int (d := 9998) (k := .u32) (by decide) u (by simp [go_sem]) (by simp [go_sem]) ?_
  refine eqF_int (d := 9998) (k := .u32) (by decide) u (by simp [go_sem]) (by simp [go_sem]) ?_
  refine eqF_int (d := 9998) (k := .u32) (by decide) u (by simp [go_sem]) (by simp [go_sem]) ?_
  refine eqF_int (d := 9998) (k := .u32) (by decide) u (by simp [go_sem]) (by simp [go_sem]) ?_
  refine eqF_int (d := 9998) (k := .u32) (by decide) u (by simp [go_sem]) (by simp [go_sem]) ?_
  refine eqF_int (d := 9998) (k := .u32) (by decide) u (by simp [go_sem]) (by simp [go_sem]) ?_
  refine eqF_int (d := 9998) (k := .u64) (by decide) u64 (by simp [go_sem]) (by simp [go_sem]) ?_
  refine eqF_int (d := 9998) (k := .u64) (by decide) u64 (by simp [go_sem]) (by simp [go_sem]) ?_
  refine eqF_int (d := 9998) (k := .u32) (by decide) u (by simp [go_sem]) (by simp [go_sem]) ?_
  refine eqF_int (d := 9998) (k := .u32) (by decide) u (by simp [go_sem]) (by simp [go_sem]) ?_
  rfl
set_option maxHeartbeats 4000000 in
theorem right_pv0 (q adj last lim comp pov plast pq slack start hold mn mx : Int) (E1 : decide ((1 : Int) ≤ mn ∧ mn ≤ mx ∧ mx ≤ 1073741824) = false) (w : World) : Calls Try.prog 14 #[dqv q adj last lim comp pov plast pq slack start hold mn mx] w fun e w' => e = .returned (.bool false) ∧ Below w.heap.size w w' := by
  go_enter Try.func14, Try.ntmps14
  go_upto_region 1 with (fail)
  obtain ⟨g, B⟩ := one_box w 26 (dqc q adj last lim comp pov plast pq slack start hold mn mx)
  generalize w.alloc (.cells (dqc q adj last lim comp pov plast pq slack start hold mn mx) 26) = w1 at g B ⊢
  obtain ⟨⟨c0, c1, c2, c3, c4, c5, c6, c7, c8, c9, c10, c11, c12⟩, -⟩ := Held.dql g
  have hz := B.size
  go_region_with (go_at_call 26; refine (rising4 false _ _ _ _ _ E1 _ (by simp [go_sem]) (by simp [go_sem]) (by simp [go_sem]) (by simp [go_sem])).mono ?_; rintro e w2 ⟨rfl, hb⟩; have g := (Held.drew (g.alloc _)).below hb (by have := g.lt; simp; omega); have B := (B.alloc hz _).drew.trans (hb.mono (by simp; omega)); clear hb hz; obtain ⟨⟨c0, c1, c2, c3, c4, c5, c6, c7, c8, c9, c10, c11, c12⟩, -⟩ := Held.dql g)
  all_goals go_wp2
  all_goals go_ret
  all_goals exact ⟨rfl, B⟩
set_option maxHeartbeats 4000000 in
theorem right_pv1 (q adj last lim comp pov plast pq slack start hold mn mx : Int) (E1 : decide ((1 : Int) ≤ mn ∧ mn ≤ mx ∧ mx ≤ 1073741824) = true) (E2 : decide (DQ.fr comp q ≤ 2147483647) = false) (w : World) : Calls Try.prog 14 #[dqv q adj last lim comp pov plast pq slack start hold mn mx] w fun e w' => e = .returned (.bool false) ∧ Below w.heap.size w w' := by
  go_enter Try.func14, Try.ntmps14
  go_upto_region 1 with (fail)
  obtain ⟨g, B⟩ := one_box w 26 (dqc q adj last lim comp pov plast pq slack start hold mn mx)
  generalize w.alloc (.cells (dqc q adj last lim comp pov plast pq slack start hold mn mx) 26) = w1 at g B ⊢
  obtain ⟨⟨c0, c1, c2, c3, c4, c5, c6, c7, c8, c9, c10, c11, c12⟩, -⟩ := Held.dql g
  have hz := B.size
  go_region_with (first
    | (go_at_call 26; with_reducible refine (rising4 true _ _ _ _ _ E1 _ (by simp [go_sem]) (by simp [go_sem]) (by simp [go_sem]) (by simp [go_sem])).mono ?_; rintro e w2 ⟨rfl, hb⟩; have g := (Held.drew (g.alloc _)).below hb (by have := g.lt; simp; omega); have B := (B.alloc hz _).drew.trans (hb.mono (by simp; omega)); clear c0 c1 c2 c3 c4 c5 c6 c7 c8 c9 c10 c11 c12; clear hb; obtain ⟨⟨c0, c1, c2, c3, c4, c5, c6, c7, c8, c9, c10, c11, c12⟩, -⟩ := Held.dql g)
    | (go_at_call 26; refine (rising2 false _ _ _ E2 _ (by simp [go_sem]) (by simp [go_sem])).mono ?_; rintro e w2 ⟨rfl, hb⟩; have g := (g.alloc _).below hb (by have := g.lt; simp; omega); have B := (B.alloc B.size _).trans (hb.mono (by have := B.size; simp; omega)); clear c0 c1 c2 c3 c4 c5 c6 c7 c8 c9 c10 c11 c12; clear hb; obtain ⟨⟨c0, c1, c2, c3, c4, c5, c6, c7, c8, c9, c10, c11, c12⟩, -⟩ := Held.dql g)
    | (go_at_call 18; refine (flight_pv _ _ _ _ _ _ _ _ _ _ _ _ _ _).mono ?_; rintro e w2 ⟨rfl, hb⟩; have g := g.below hb g.lt; have B := B.trans (hb.mono B.size); clear c0 c1 c2 c3 c4 c5 c6 c7 c8 c9 c10 c11 c12; clear hb; obtain ⟨⟨c0, c1, c2, c3, c4, c5, c6, c7, c8, c9, c10, c11, c12⟩, -⟩ := Held.dql g))
  all_goals go_wp2
  all_goals go_ret
  all_goals exact ⟨rfl, B⟩
set_option maxHeartbeats 4000000 in
theorem right_pv2 (v : Bool) (q adj last lim comp pov plast pq slack start hold mn mx : Int) (E1 : decide ((1 : Int) ≤ mn ∧ mn ≤ mx ∧ mx ≤ 1073741824) = true) (E2 : decide (DQ.fr comp q ≤ 2147483647) = true) (E3 : dqEq q ((min (max lim mn) mx + comp) % 4294967296) last (min (max lim mn) mx) comp pov plast pq slack start hold mn mx q adj last lim comp pov plast pq slack start hold mn mx = v) (w : World) : Calls Try.prog 14 #[dqv q adj last lim comp pov plast pq slack start hold mn mx] w fun e w' => e = .returned (.bool v) ∧ Below w.heap.size w w' := by
  have hE : ∀ w : World, (Op.equalIn 10000 26 (dqv q ((min (max lim mn) mx + comp) % 4294967296) last (min (max lim mn) mx) comp pov plast pq slack start hold mn mx) (dqv q adj last lim comp pov plast pq slack start hold mn mx)).run Try.prog w = .ok v w := fun w => by rw [← E3]; exact dql_eq _ _ _ _ _ _ _ _ _ _ _ _ _ _ _ _ _ _ _ _ _ _ _ _ _ _ w
  clear E3
  go_enter Try.func14, Try.ntmps14
  go_upto_region 1 with (fail)
  obtain ⟨g, B⟩ := one_box w 26 (dqc q adj last lim comp pov plast pq slack start hold mn mx)
  generalize w.alloc (.cells (dqc q adj last lim comp pov plast pq slack start hold mn mx) 26) = w1 at g B ⊢
  have HS := Lib.hid (hold_of g B)
  clear g B
  go_region_held3 (fun w' => (w'.cell? ⟨w.heap.size, 0, none⟩ = some (.int .u32 q) ∧ w'.cell? ⟨w.heap.size, 1, none⟩ = some (.int .u32 adj) ∧ w'.cell? ⟨w.heap.size, 2, none⟩ = some (.int .u32 last) ∧ w'.cell? ⟨w.heap.size, 3, none⟩ = some (.int .u32 lim) ∧ w'.cell? ⟨w.heap.size, 4, none⟩ = some (.int .u32 comp) ∧ w'.cell? ⟨w.heap.size, 5, none⟩ = some (.int .u32 pov) ∧ w'.cell? ⟨w.heap.size, 6, none⟩ = some (.int .u32 plast) ∧ w'.cell? ⟨w.heap.size, 7, none⟩ = some (.int .u32 pq) ∧ w'.cell? ⟨w.heap.size, 8, none⟩ = some (.int .u32 slack) ∧ w'.cell? ⟨w.heap.size, 9, none⟩ = some (.int .u64 start) ∧ w'.cell? ⟨w.heap.size, 10, none⟩ = some (.int .u64 hold) ∧ w'.cell? ⟨w.heap.size, 11, none⟩ = some (.int .u32 mn) ∧ w'.cell? ⟨w.heap.size, 12, none⟩ = some (.int .u32 mx)) ∧ Held w' w.heap.size 26 (dqc q adj last lim comp pov plast pq slack start hold mn mx) ∧ Below w.heap.size w w') (first | assumption | exact HS.out | exact hold_below (by assumption) hb (Nat.le_refl _) | exact hold_alloc (by assumption) (Nat.le_refl _) _)
    (first | (go_at_call 26; first | (with_reducible refine (rising4 true _ _ _ _ _ E1 _ (by simp [go_sem]) (by simp [go_sem]) (by simp [go_sem]) (by simp [go_sem])).mono ?_; rintro e w2 ⟨rfl, hb⟩) | (refine (rising2 true _ _ _ E2 _ (by simp [go_sem]) (by simp [go_sem])).mono ?_; rintro e w2 ⟨rfl, hb⟩)) | (go_at_call 18; refine (flight_pv _ _ _ _ _ _ _ _ _ _ _ _ _ _).mono ?_; rintro e w2 ⟨rfl, hb⟩) | (go_at_call 27; refine (bounded_pv _ _ _ _ _ _ _ _ _ _ _ _ _ _).mono ?_; rintro e w2 ⟨rfl, hb⟩))
  rename_i hh
  obtain ⟨-, -, B⟩ := hh
  go_wp2
  go_ret
  exact ⟨rfl, B⟩
theorem right_pv (q adj last lim comp pov plast pq slack start hold mn mx : Int) (w : World) : Calls Try.prog 14 #[dqv q adj last lim comp pov plast pq slack start hold mn mx] w fun e w' => e = .returned (.bool (DQ.rightB ⟨q, adj, last, lim, comp, pov, plast, pq, slack, start, hold, mn, mx⟩)) ∧ Below w.heap.size w w' := by
  by_cases h1 : (1 : Int) ≤ mn ∧ mn ≤ mx ∧ mx ≤ 1073741824
  · by_cases h2 : DQ.fr comp q ≤ 2147483647
    · refine (right_pv2 _ q adj last lim comp pov plast pq slack start hold mn mx (decide_eq_true h1) (decide_eq_true h2) rfl w).mono fun e w' h => ⟨h.1.trans (congrArg (fun b => Ending.returned (.bool b)) ?_), h.2⟩
      rw [Bool.eq_iff_iff, dqEq_iff, DQ.right_iff]
      show _ ↔ 1 ≤ mn ∧ mn ≤ lim ∧ lim ≤ mx ∧ mx ≤ 1073741824 ∧ adj = (lim + comp) % 4294967296 ∧ DQ.fr comp q ≤ 2147483647
      constructor
      · rintro ⟨-, e1, -, e2, -⟩
        rw [e2] at e1
        exact ⟨h1.1, by omega, by omega, h1.2.2, e1.symm, h2⟩
      · rintro ⟨-, a, b, -, c, -⟩
        have e : min (max lim mn) mx = lim := by omega
        rw [e]
        exact ⟨rfl, c.symm, rfl, rfl, rfl, rfl, rfl, rfl, rfl, rfl, rfl, rfl, rfl⟩
    · refine (right_pv1 q adj last lim comp pov plast pq slack start hold mn mx (decide_eq_true h1) (decide_eq_false h2) w).mono fun e w' h => ⟨h.1.trans (congrArg (fun b => Ending.returned (.bool b)) ?_), h.2⟩
      refine (Bool.eq_false_iff.2 fun hr => ?_).symm
      exact h2 ((DQ.right_iff _).1 hr).2.2.2.2.2
  · refine (right_pv0 q adj last lim comp pov plast pq slack start hold mn mx (decide_eq_false h1) w).mono fun e w' h => ⟨h.1.trans (congrArg (fun b => Ending.returned (.bool b)) ?_), h.2⟩
    refine (Bool.eq_false_iff.2 fun hr => ?_).symm
    have := (DQ.right_iff _).1 hr
    exact h1 ⟨this.1, Int.le_trans this.2.1 this.2.2.1, this.2.2.2.1⟩
theorem right_p (d : DQ) (w : World) : Calls Try.prog 14 #[dq d] w fun e w' => e = .returned (.bool d.rightB) ∧ Below w.heap.size w w' := right_pv _ _ _ _ _ _ _ _ _ _ _ _ _ w
set_option maxHeartbeats 1000000 in
theorem new_p (a b h t : Int) (w : World) : Calls Try.prog 12 #[.int .u32 a, .int .u32 b, .int .u64 h, .int .u64 t] w fun e w' => e = .returned (.tuple #[dq (newV a b h t), .int .i64 (newE a b)]) ∧ Below w.heap.size w w' := by
  by_cases h : (1 : Int) ≤ a ∧ a ≤ b ∧ b ≤ 1073741824
  · have E : decide ((1 : Int) ≤ a ∧ a ≤ b ∧ b ≤ 1073741824) = true := decide_eq_true h
    go_enter Try.func12, Try.ntmps12
    go_upto_region 1 with (fail)
    obtain ⟨r, B⟩ := one_box w 26 (dqc 0 0 0 0 0 0 0 0 0 0 0 0 0)
    generalize w.alloc (.cells (dqc 0 0 0 0 0 0 0 0 0 0 0 0 0) 26) = w1 at r B ⊢
    go_wp2_with (first
      | go_skip
      | (go_at_call 26; refine (rising4 true _ _ _ _ _ E _ (by simp [go_sem]) (by simp [go_sem]) (by simp [go_sem]) (by simp [go_sem])).mono ?_; rintro e w2 ⟨rfl, hb⟩; have r2 := (r.alloc _).below hb (by have := r.lt; simp; omega); have B2 := (B.alloc B.size _).trans (hb.mono (by have := B.size; simp; omega)); clear hb; clear r B; have r := r2; have B := B2; clear r2 B2)
      | ((with_reducible show wpList _ _ _ (⟨_, .store 26 _ _, _, _, _, _⟩ :: _) _ _); refine store_held r (by first | exact wanted_none rfl | exact wanted_some rfl rfl rfl rfl) (by exact rfl) (by exact rfl) (by exact rfl) (by exact dqlInfo) (by exact rfl) (by exact rfl) ?_; intro w2 r2 F2; have B2 := below_foot B F2 (by omega) (Nat.le_refl _); clear F2; clear r B; have r := r2; have B := B2; clear r2 B2))
    refine ret_held2 r (by exact rfl) (by exact rfl) Try.underlying26 rfl dqlInfo ⟨?_, B⟩
    simp only [newV, newE, DQ.newB, E, cond_true]
    rfl
  · have E : decide ((1 : Int) ≤ a ∧ a ≤ b ∧ b ≤ 1073741824) = false := decide_eq_false h
    go_enter Try.func12, Try.ntmps12
    go_upto_region 1 with (fail)
    obtain ⟨r, B⟩ := one_box w 26 (dqc 0 0 0 0 0 0 0 0 0 0 0 0 0)
    generalize w.alloc (.cells (dqc 0 0 0 0 0 0 0 0 0 0 0 0 0) 26) = w1 at r B ⊢
    go_wp2_with (first
      | go_skip
      | (go_at_call 26; refine (rising4 false _ _ _ _ _ E _ (by simp [go_sem]) (by simp [go_sem]) (by simp [go_sem]) (by simp [go_sem])).mono ?_; rintro e w2 ⟨rfl, hb⟩; have r2 := (r.alloc _).below hb (by have := r.lt; simp; omega); have B2 := (B.alloc B.size _).trans (hb.mono (by have := B.size; simp; omega)); clear hb; clear r B; have r := r2; have B := B2; clear r2 B2)
      | ((with_reducible show wpList _ _ _ (⟨_, .store 26 _ _, _, _, _, _⟩ :: _) _ _); refine store_held r (by first | exact wanted_none rfl | exact wanted_some rfl rfl rfl rfl) (by exact rfl) (by exact rfl) (by exact rfl) (by exact dqlInfo) (by exact rfl) (by exact rfl) ?_; intro w2 r2 F2; have B2 := below_foot B F2 (by omega) (Nat.le_refl _); clear F2; clear r B; have r := r2; have B := B2; clear r2 B2))
    refine ret_held2 r (by exact rfl) (by exact rfl) Try.underlying26 rfl dqlInfo ⟨?_, B⟩
    simp only [newV, newE, DQ.newB, E, cond_false]
    rfl
end Go.Proofs.Ytfgaeaebchgcdaa
