/-
  The return of a state that lies in the function's own box; the document's Queue. Conditions: those that each theorem names.
-/
import Derived.Laws.ResultCell
import Derived.Test.YtfgaeaebchgcdaaDqlA
namespace Go.Proofs.Ytfgaeaebchgcdaa
open Go.ChangeShapes Go.WideShapes Go.ChangeAt Go.RowKit

set_option maxHeartbeats 1000000 in
theorem results_dql {fn : Func} {p u : Tmp} (h : fn.results = #[.cell p 26, .tmp u]) (tmps : Array Value) {W : World} {b : Nat} {q adj last lim comp pov plast pq slack start hold mn mx : Int} (hh : Held W b 26 #[.int .u32 q, .int .u32 adj, .int .u32 last, .int .u32 lim, .int .u32 comp, .int .u32 pov, .int .u32 plast, .int .u32 pq, .int .u32 slack, .int .u64 start, .int .u64 hold, .int .u32 mn, .int .u32 mx]) (hp : tmps.getD p undef = .pointer (some ⟨b, 0, none⟩)) :
    (results fn tmps).run Try.prog W = .ok (.tuple #[dqv q adj last lim comp pov plast pq slack start hold mn mx, tmps.getD u undef]) W := by
  obtain ⟨⟨c0, c1, c2, c3, c4, c5, c6, c7, c8, c9, c10, c11, c12⟩, -⟩ := Held.dql hh
  rw [results_cell_tmp h, hp]
  simp [go_sem, Result.andThen, c0, c1, c2, c3, c4, c5, c6, c7, c8, c9, c10, c11, c12]
theorem Held.fill13 {W : World} {b : Nat} {t : TypeId} {u0 u1 u2 u3 u4 u5 u6 u7 u8 u9 u10 u11 u12 v0 v1 v2 v3 v4 v5 v6 v7 v8 v9 v10 v11 v12 : Value} (hh : Held W b t #[u0, u1, u2, u3, u4, u5, u6, u7, u8, u9, u10, u11, u12]) : Held (((((((((((((W.setCell ⟨b, 0, none⟩ v0).setCell ⟨b, 1, none⟩ v1).setCell ⟨b, 2, none⟩ v2).setCell ⟨b, 3, none⟩ v3).setCell ⟨b, 4, none⟩ v4).setCell ⟨b, 5, none⟩ v5).setCell ⟨b, 6, none⟩ v6).setCell ⟨b, 7, none⟩ v7).setCell ⟨b, 8, none⟩ v8).setCell ⟨b, 9, none⟩ v9).setCell ⟨b, 10, none⟩ v10).setCell ⟨b, 11, none⟩ v11).setCell ⟨b, 12, none⟩ v12) b t #[v0, v1, v2, v3, v4, v5, v6, v7, v8, v9, v10, v11, v12] := by
  have e := (Held.set (Held.set (Held.set (Held.set (Held.set (Held.set (Held.set (Held.set (Held.set (Held.set (Held.set (Held.set (Held.set hh 0 v0) 1 v1) 2 v2) 3 v3) 4 v4) 5 v5) 6 v6) 7 v7) 8 v8) 9 v9) 10 v10) 11 v11) 12 v12)
  simp only [List.setIfInBounds_toArray, List.set_cons_succ, List.set_cons_zero] at e
  exact e
/-- the return of a state that was just laid into the function's own box -/
theorem ret_dql {fn : Func} {p u : Tmp} (h : fn.results = #[.cell p 26, .tmp u]) {Q : Ending → World → Prop} {tmps : Array Value} {W : World} {b : Nat} {q adj last lim comp pov plast pq slack start hold mn mx : Int} {u0 u1 u2 u3 u4 u5 u6 u7 u8 u9 u10 u11 u12 : Value} (hh : Held W b 26 #[u0, u1, u2, u3, u4, u5, u6, u7, u8, u9, u10, u11, u12]) (hp : tmps.getD p undef = .pointer (some ⟨b, 0, none⟩))
    (hq : Q (.returned (.tuple #[dqv q adj last lim comp pov plast pq slack start hold mn mx, tmps.getD u undef])) (((((((((((((W.setCell ⟨b, 0, none⟩ (.int .u32 q)).setCell ⟨b, 1, none⟩ (.int .u32 adj)).setCell ⟨b, 2, none⟩ (.int .u32 last)).setCell ⟨b, 3, none⟩ (.int .u32 lim)).setCell ⟨b, 4, none⟩ (.int .u32 comp)).setCell ⟨b, 5, none⟩ (.int .u32 pov)).setCell ⟨b, 6, none⟩ (.int .u32 plast)).setCell ⟨b, 7, none⟩ (.int .u32 pq)).setCell ⟨b, 8, none⟩ (.int .u32 slack)).setCell ⟨b, 9, none⟩ (.int .u64 start)).setCell ⟨b, 10, none⟩ (.int .u64 hold)).setCell ⟨b, 11, none⟩ (.int .u32 mn)).setCell ⟨b, 12, none⟩ (.int .u32 mx))) :
    bodyPost Try.prog fn Q .ret { tmps := tmps, defers := [] } (((((((((((((W.setCell ⟨b, 0, none⟩ (.int .u32 q)).setCell ⟨b, 1, none⟩ (.int .u32 adj)).setCell ⟨b, 2, none⟩ (.int .u32 last)).setCell ⟨b, 3, none⟩ (.int .u32 lim)).setCell ⟨b, 4, none⟩ (.int .u32 comp)).setCell ⟨b, 5, none⟩ (.int .u32 pov)).setCell ⟨b, 6, none⟩ (.int .u32 plast)).setCell ⟨b, 7, none⟩ (.int .u32 pq)).setCell ⟨b, 8, none⟩ (.int .u32 slack)).setCell ⟨b, 9, none⟩ (.int .u64 start)).setCell ⟨b, 10, none⟩ (.int .u64 hold)).setCell ⟨b, 11, none⟩ (.int .u32 mn)).setCell ⟨b, 12, none⟩ (.int .u32 mx)) :=
  bodyPost_ret (results_dql h _ (Held.fill13 hh) hp) rfl hq
/-- queueing: the state, and the code -/
def queueV (d : DQ) (n : Int) : DQ := bif d.rightB && d.queueB n then d.queued n else DQ.none
def queueE (d : DQ) (n : Int) : Int := bif d.rightB then bif d.queueB n then 0 else 40 else 2
set_option maxHeartbeats 2000000 in
theorem queue_r (d : DQ) (n : Int) (h0 : 0 ≤ n) (h1 : n ≤ 4294967295) (w : World) : Calls Try.prog 21 #[dq d, .int .u32 n] w fun e w' => e = .returned (.tuple #[dq (queueV d n), .int .i64 (queueE d n)]) ∧ Below w.heap.size w w' := by
  have hF := DQ.fr_bd d.comp d.q
  have hF' : d.flight = DQ.fr d.comp d.q := rfl
  rcases hr : d.rightB
  · go_enter Try.func21, Try.ntmps21
    go_wp2_with (first
      | (go_at_call 16; refine (right4_r d _).mono ?_; rintro e w1 ⟨rfl, hb1⟩; have g1 := ((Held.new w _ _).alloc _).below hb1 (by simp; omega); have r1 := (Held.new2 w _ _ _).below hb1 (by simp); have B1 : Below w.heap.size w w1 := (show Below w.heap.size w ((w.alloc _).alloc _) by go_grown).trans (hb1.mono (by simp; omega)); obtain ⟨⟨c0, c1, c2, c3, c4, c5, c6, c7, c8, c9, c10, c11, c12⟩, f0, f1, f2, f3, f4, f5, f6, f7, f8, f9, f10, f11, f12⟩ := Held.dql g1; obtain ⟨⟨k0, k1, k2, k3, k4, k5, k6, k7, k8, k9, k10, k11, k12⟩, l0, l1, l2, l3, l4, l5, l6, l7, l8, l9, l10, l11, l12⟩ := Held.dql r1)
      | (go_at_call 19; refine (flight_rv _ _ _ _ _ _ _ _ _ _ _ _ _ _).mono ?_; rintro e w2 ⟨rfl, hb2⟩; have g2 := g1.below hb2 g1.lt; have r2 := r1.below hb2 r1.lt; have B2 : Below w.heap.size w w2 := B1.trans (hb2.mono B1.size); obtain ⟨⟨c0, c1, c2, c3, c4, c5, c6, c7, c8, c9, c10, c11, c12⟩, f0, f1, f2, f3, f4, f5, f6, f7, f8, f9, f10, f11, f12⟩ := Held.dql g2; obtain ⟨⟨k0, k1, k2, k3, k4, k5, k6, k7, k8, k9, k10, k11, k12⟩, l0, l1, l2, l3, l4, l5, l6, l7, l8, l9, l10, l11, l12⟩ := Held.dql r2))
    refine ret_dql rfl r1 rfl ⟨?_, by go_grown⟩
    simp only [queueV, queueE, hr, Bool.false_and, cond_false]
    rfl
  · go_enter Try.func21, Try.ntmps21
    go_wp2_with (first
      | (go_at_call 16; refine (right4_r d _).mono ?_; rintro e w1 ⟨rfl, hb1⟩; have g1 := ((Held.new w _ _).alloc _).below hb1 (by simp; omega); have r1 := (Held.new2 w _ _ _).below hb1 (by simp); have B1 : Below w.heap.size w w1 := (show Below w.heap.size w ((w.alloc _).alloc _) by go_grown).trans (hb1.mono (by simp; omega)); obtain ⟨⟨c0, c1, c2, c3, c4, c5, c6, c7, c8, c9, c10, c11, c12⟩, f0, f1, f2, f3, f4, f5, f6, f7, f8, f9, f10, f11, f12⟩ := Held.dql g1; obtain ⟨⟨k0, k1, k2, k3, k4, k5, k6, k7, k8, k9, k10, k11, k12⟩, l0, l1, l2, l3, l4, l5, l6, l7, l8, l9, l10, l11, l12⟩ := Held.dql r1)
      | (go_at_call 19; refine (flight_rv _ _ _ _ _ _ _ _ _ _ _ _ _ _).mono ?_; rintro e w2 ⟨rfl, hb2⟩; have g2 := g1.below hb2 g1.lt; have r2 := r1.below hb2 r1.lt; have B2 : Below w.heap.size w w2 := B1.trans (hb2.mono B1.size); obtain ⟨⟨c0, c1, c2, c3, c4, c5, c6, c7, c8, c9, c10, c11, c12⟩, f0, f1, f2, f3, f4, f5, f6, f7, f8, f9, f10, f11, f12⟩ := Held.dql g2; obtain ⟨⟨k0, k1, k2, k3, k4, k5, k6, k7, k8, k9, k10, k11, k12⟩, l0, l1, l2, l3, l4, l5, l6, l7, l8, l9, l10, l11, l12⟩ := Held.dql r2))
    all_goals first
      | (refine ret_dql rfl r1 rfl ⟨?_, by go_grown⟩
         have hq : d.queueB n = false := by simp [DQ.queueB]; omega
         simp only [queueV, queueE, hr, hq, Bool.and_false, cond_false, cond_true]
         rfl)
      | (refine ret_dql rfl r2 rfl ⟨?_, by go_grown⟩
         have hq : d.queueB n = false := by simp [DQ.queueB]; omega
         simp only [queueV, queueE, hr, hq, Bool.and_false, cond_false, cond_true]
         rfl)
      | (refine ret_dql rfl ((r2.other (by omega) 0 _).other (by omega) 2 _) rfl ⟨?_, by go_grown⟩
         have hq : d.queueB n = true := by simp [DQ.queueB]; omega
         simp only [queueV, queueE, hr, hq, Bool.and_true, cond_true]
         rfl)
end Go.Proofs.Ytfgaeaebchgcdaa
