/-
  Contracts of the document's own functions of layer 4: New, Right, Left, Flight, Queue, Reset. Each returns the plain state, number or code that XDqlM defines, and leaves all that was there as it was. Conditions: the numbers of the state fit their kinds.
-/
import Derived.Test.YtfgaeaebchgcdaaRows
import Derived.Test.YtfgaeaebchgcdaaBase
import Derived.Test.YtfgaeaebchgcdaaWrapA
import Derived.Test.YtfgaeaebchgcdaaOwn
import Derived.Test.YtfgaeaebchgcdaaStruct
import Derived.Test.YtfgaeaebchgcdaaDqlM
import Derived.WalkKit
import Derived.ProofKit
import Derived.OpenShut
import Derived.Handy
namespace Go.Proofs.Ytfgaeaebchgcdaa
open Go.ChangeShapes Go.WideShapes Go.ChangeAt Go.RowKit

/-- a state, as a value -/
abbrev dq (d : DQ) : Value :=
  .agg #[.int .u32 d.q, .int .u32 d.adj, .int .u32 d.last, .int .u32 d.lim, .int .u32 d.comp, .int .u32 d.pov, .int .u32 d.plast, .int .u32 d.pq, .int .u32 d.slack, .int .u64 d.start, .int .u64 d.hold, .int .u32 d.mn, .int .u32 d.mx]
theorem far_fr (a b : Int) : far a b = DQ.fr a b := by unfold far DQ.fr; rw [IntKind.wrap_u32]
theorem ahead_ah (a b : Int) : aheadB a b = DQ.ah a b := by unfold aheadB DQ.ah; rw [far_fr]
theorem over_ov (a b : Int) : over a b = DQ.ov a b := by unfold over DQ.ov; rw [far_fr, ahead_ah]

/-- what came in is a state -/
theorem cellsDql : Try.prog.cellsOf 26 = 13 := by kernel_rfl
theorem open_dql {H : Type} {enc : TypeId × Value → H} {w : World} {base : Nat} {spare : Nat → Bool} {held : Bool} {r : Reach} {b0 : Nat} {v : Value} {x : DataW H} {p : List MemPlace} (hv : Value.okWide Try.prog w r b0 26 v) (h : DataW.Trod enc Try.prog w base spare held 26 v x p) :
    ∃ d : DQ, v = dq d ∧ d.Fits := by
  have u := Try.underlying22
  have u64 := Try.underlying23
  obtain ⟨n0, n1, n2, n3, n4, n5, n6, n7, n8, n9, n10, n11, n12, rfl, w0, w1, w2, w3, w4, w5, w6, w7, w8, w9, w10, w11, w12⟩ := open_ints13 Try.underlying26 (by kernel_rfl) cellsDql u u u u u u u u u u64 u64 u u hv h
  exact ⟨⟨n0, n1, n2, n3, n4, n5, n6, n7, n8, n9, n10, n11, n12⟩, rfl, ⟨bd_u32 w0, bd_u32 w1, bd_u32 w2, bd_u32 w3, bd_u32 w4, bd_u32 w5, bd_u32 w6, bd_u32 w7, bd_u32 w8, bd_u64 w9, bd_u64 w10, bd_u32 w11, bd_u32 w12⟩⟩

/-- thirteen numbers, as a value -/
abbrev dqv (q adj last lim comp pov plast pq slack start hold mn mx : Int) : Value :=
  .agg #[.int .u32 q, .int .u32 adj, .int .u32 last, .int .u32 lim, .int .u32 comp, .int .u32 pov, .int .u32 plast, .int .u32 pq, .int .u32 slack, .int .u64 start, .int .u64 hold, .int .u32 mn, .int .u32 mx]
theorem flight_rv (q adj last lim comp pov plast pq slack start hold mn mx : Int) (w : World) : Calls Try.prog 19 #[dqv q adj last lim comp pov plast pq slack start hold mn mx] w fun e w' => e = .returned (.int .u32 (DQ.fr comp q)) ∧ Below w.heap.size w w' := by
  go_enter Try.func19, Try.ntmps19
  go_wp2_with (go_at_call 29; refine (far_r _ _ _).mono ?_; rintro e w' ⟨rfl, rfl⟩)
  go_ret
  exact ⟨by rw [far_fr]; rfl, by go_grown⟩
theorem flight_r (d : DQ) (w : World) : Calls Try.prog 19 #[dq d] w fun e w' => e = .returned (.int .u32 d.flight) ∧ Below w.heap.size w w' := flight_rv _ _ _ _ _ _ _ _ _ _ _ _ _ w
theorem left_r (d : DQ) (w : World) : Calls Try.prog 17 #[dq d] w fun e w' => e = .returned (.int .i32 d.left) ∧ Below w.heap.size w w' := by
  go_enter Try.func17, Try.ntmps17
  go_wp2
  go_ret
  refine ⟨?_, by go_grown⟩
  show Ending.returned (.int .i32 (wrap32 ((d.adj - d.q) % 4294967296))) = _
  congr 2
  unfold DQ.left DQ.s32 wrap32
  omega
set_option maxHeartbeats 1000000 in
theorem right4_r (d : DQ) (w : World) : Calls Try.prog 16 #[dq d] w fun e w' => e = .returned (.bool d.rightB) ∧ Below w.heap.size w w' := by
  obtain ⟨q, adj, last, lim, comp, pov, plast, pq, slack, start, hold, mn, mx⟩ := d
  have hR : ∀ b, (b = true ↔ (1 ≤ mn ∧ mn ≤ lim ∧ lim ≤ mx ∧ mx ≤ 1073741824 ∧ adj = (lim + comp) % 4294967296 ∧ DQ.fr comp q ≤ 2147483647)) → DQ.rightB ⟨q, adj, last, lim, comp, pov, plast, pq, slack, start, hold, mn, mx⟩ = b := by
    intro b hb
    rw [Bool.eq_iff_iff, DQ.right_iff, hb]
    rfl
  generalize DQ.rightB ⟨q, adj, last, lim, comp, pov, plast, pq, slack, start, hold, mn, mx⟩ = R at *
  show Calls Try.prog 16 #[dqv q adj last lim comp pov plast pq slack start hold mn mx] w _
  have hF := DQ.fr_bd comp q
  go_enter Try.func16, Try.ntmps16
  go_wp2_with (go_at_call 19; refine (flight_rv _ _ _ _ _ _ _ _ _ _ _ _ _ _).mono ?_; rintro e w' ⟨rfl, hb⟩)
  all_goals go_ret
  all_goals refine ⟨congrArg (fun b => Ending.returned (.bool b)) (hR _ ?_).symm, by first | (go_grown; done) | exact (show Below w.heap.size w (w.alloc _) by go_grown).trans (hb.mono (by go_size))⟩
  all_goals first
    | (rw [decide_eq_true_iff]; constructor <;> intro _ <;> omega)
    | (constructor <;> intro h <;> first | (cases h; done) | (exfalso; omega))
/-- a new state, and the code -/
def newV (a b h t : Int) : DQ := bif DQ.newB a b then DQ.first a b h t else DQ.none
def newE (a b : Int) : Int := bif DQ.newB a b then 0 else 2
set_option maxHeartbeats 2000000 in
theorem new_r (a b h t : Int) (w : World) : Calls Try.prog 13 #[.int .u32 a, .int .u32 b, .int .u64 h, .int .u64 t] w fun e w' => e = .returned (.tuple #[dq (newV a b h t), .int .i64 (newE a b)]) ∧ Below w.heap.size w w' := by
  rcases hb : DQ.newB a b
  all_goals
    simp [DQ.newB] at hb
    go_enter Try.func13, Try.ntmps13
    go_wp2
  all_goals try go_region
  all_goals go_returns
  all_goals refine ⟨?_, by go_grown⟩
  all_goals first
    | (have hb' : DQ.newB a b = true := by simp [DQ.newB]; omega
       simp only [newV, newE, hb', cond_true]
       rfl)
    | (have hb' : DQ.newB a b = false := by simp [DQ.newB]; omega
       simp only [newV, newE, hb', cond_false]
       rfl)
/-- the box of a state: its cells may be read and written -/
theorem Held.dql {W : World} {p : Nat} {q adj last lim comp pov plast pq slack start hold mn mx : Int} (h : Held W p 26 #[.int .u32 q, .int .u32 adj, .int .u32 last, .int .u32 lim, .int .u32 comp, .int .u32 pov, .int .u32 plast, .int .u32 pq, .int .u32 slack, .int .u64 start, .int .u64 hold, .int .u32 mn, .int .u32 mx]) :
    (W.cell? ⟨p, 0, none⟩ = some (.int .u32 q) ∧ W.cell? ⟨p, 1, none⟩ = some (.int .u32 adj) ∧ W.cell? ⟨p, 2, none⟩ = some (.int .u32 last) ∧ W.cell? ⟨p, 3, none⟩ = some (.int .u32 lim) ∧ W.cell? ⟨p, 4, none⟩ = some (.int .u32 comp) ∧ W.cell? ⟨p, 5, none⟩ = some (.int .u32 pov) ∧ W.cell? ⟨p, 6, none⟩ = some (.int .u32 plast) ∧ W.cell? ⟨p, 7, none⟩ = some (.int .u32 pq) ∧ W.cell? ⟨p, 8, none⟩ = some (.int .u32 slack) ∧ W.cell? ⟨p, 9, none⟩ = some (.int .u64 start) ∧ W.cell? ⟨p, 10, none⟩ = some (.int .u64 hold) ∧ W.cell? ⟨p, 11, none⟩ = some (.int .u32 mn) ∧ W.cell? ⟨p, 12, none⟩ = some (.int .u32 mx)) ∧
    (W.frozen? ⟨p, 0, none⟩ = false ∧ W.frozen? ⟨p, 1, none⟩ = false ∧ W.frozen? ⟨p, 2, none⟩ = false ∧ W.frozen? ⟨p, 3, none⟩ = false ∧ W.frozen? ⟨p, 4, none⟩ = false ∧ W.frozen? ⟨p, 5, none⟩ = false ∧ W.frozen? ⟨p, 6, none⟩ = false ∧ W.frozen? ⟨p, 7, none⟩ = false ∧ W.frozen? ⟨p, 8, none⟩ = false ∧ W.frozen? ⟨p, 9, none⟩ = false ∧ W.frozen? ⟨p, 10, none⟩ = false ∧ W.frozen? ⟨p, 11, none⟩ = false ∧ W.frozen? ⟨p, 12, none⟩ = false) :=
  ⟨⟨h.cell 0, h.cell 1, h.cell 2, h.cell 3, h.cell 4, h.cell 5, h.cell 6, h.cell 7, h.cell 8, h.cell 9, h.cell 10, h.cell 11, h.cell 12⟩, h.frozen 0, h.frozen 1, h.frozen 2, h.frozen 3, h.frozen 4, h.frozen 5, h.frozen 6, h.frozen 7, h.frozen 8, h.frozen 9, h.frozen 10, h.frozen 11, h.frozen 12⟩
theorem Held.new2 (W : World) (o : Obj) (t : TypeId) (cs : Array Value) : Held ((W.alloc o).alloc (.cells cs t)) (W.heap.size + 1) t cs := by
  have h := Held.new (W.alloc o) t cs
  rwa [World.size_alloc] at h
end Go.Proofs.Ytfgaeaebchgcdaa
