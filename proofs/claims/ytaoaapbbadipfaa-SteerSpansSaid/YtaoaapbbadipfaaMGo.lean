/-
  The document's New. Conditions: the table lies where its value says. The document's Table. Conditions: the steer and the table lie where their values say. What choosing does to the document's steer in memory. Conditions: those that each theorem names.
-/
import Derived.Test.YtaoaapbbadipfaaMGn
import Derived.Maps.AppendAt
/- The document's New. Conditions: the table lies where its value says. -/
section
namespace Go.Proofs.Ytaoaapbbadipfaa
set_option linter.unusedSimpArgs false
set_option linter.unusedVariables false
set_option maxRecDepth 100000
open Go.ChangeShapes Go.WideShapes Go.ChangeAt Go.RowKit

/-- the slices of a table that may be lie in blocks that are there -/
theorem tbS_lt {B : Nat} {w : World} {A1 A2 : Option Addr} {c1 c2 : Nat} {t : TB} (h : TbAt B w A1 A2 c1 c2 t) (hr : t.right = true) : ∀ i, tbS A1 A2 i → i < B := by
  have hk := (TB.right_iff t).1 hr
  have hm := hk.m
  have hn := hk.n
  obtain ⟨y, hy⟩ : ∃ y, t.cl[0]? = some y := ⟨t.cl[0]'(by omega), List.getElem?_eq_getElem _⟩
  obtain ⟨z, hz⟩ : ∃ z, t.sp[0]? = some z := ⟨t.sp[0]'(by omega), List.getElem?_eq_getElem _⟩
  obtain ⟨b, o, e, hb, _⟩ := h.cl 0 y hy
  obtain ⟨b', o', e', hb', _⟩ := h.sp 0 z hz
  rintro i (⟨o2, m2, h2⟩ | ⟨o2, m2, h2⟩)
  · rw [e] at h2
    cases h2
    exact hb
  · rw [e'] at h2
    cases h2
    exact hb'
theorem stInfo : (Try.prog.info? 82).map (·.size) = some 69 := by kernel_rfl
/-- a new steer -/
theorem RAt.new {W : World} {A1 A2 : Option Addr} {c1 c2 : Nat} {t : TB} (ht : TbAt W.heap.size W A1 A2 c1 c2 t) (hr : t.right = true) {salt : Int} (hs : 0 ≤ salt ∧ salt ≤ 4294967295) :
    RAt (W.alloc (.cells (stC t.q (.slice A1 t.cl.length c1) (.slice A2 t.sp.length c2) salt (fun _ => .slice none 0 0) (.slice none 0 0)) 82)) (fun i => i = W.heap.size ∨ tbS A1 A2 i) (· = W.heap.size) W.heap.size (SS.new t salt) 0 ⟨A1, A2, c1, c2, fun _ => .slice none 0 0, .slice none 0 0, []⟩ := by
  have hlt := tbS_lt ht hr
  have ha : ∀ i, i < W.heap.size → (W.alloc (.cells (stC t.q (.slice A1 t.cl.length c1) (.slice A2 t.sp.length c2) salt (fun _ => .slice none 0 0) (.slice none 0 0)) 82)).heap[i]? = W.heap[i]? := fun i hi => Below.heap_alloc _ _ _ hi
  refine ⟨Held.new W _ _, ht.on (fun i hi => ha i (hlt i hi)) (by simp), fun c _ => SlI.nil _ _, World.ownsRow_nil _ _ _ _, ?_, Nat.le_refl _, (fun f hf => by cases hf), hs, hr, fun c _ => ⟨Nat.zero_le _, (fun q hq => by cases hq)⟩, rfl, fun i hi => (by cases hi), fun i hi => ⟨.inr hi, fun e => ?_⟩, ?_, fun i hi => .inl hi, ?_⟩
  · show (fun _ => none) = flook []
    funext m
    rfl
  · have := hlt i hi
    have e' : i = W.heap.size := e
    omega
  · rintro c _ i ⟨o, m, n, c', e⟩
    cases e
  · rintro i (hi | hi)
    · rw [hi]
      simp
    · have := hlt i hi
      simp
      omega
/-- what New gives -/
def NewR (W : World) (A1 A2 : Option Addr) (t : TB) (salt : Int) (e : Ending) (w' : World) : Prop :=
  ∃ p rd own x, e = .returned (.tuple #[.pointer (some ⟨p, 0, none⟩), .int .i64 0]) ∧ RAt w' rd own p (SS.new t salt) 0 x ∧ Below W.heap.size W w' ∧ (∀ i, own i → W.heap.size ≤ i) ∧ (∀ i, rd i → tbS A1 A2 i ∨ W.heap.size ≤ i)
/-- what a steer's methods do that change it -/
def DidR (W : World) (rd own : Nat → Prop) (p : Nat) (s' : SS) (N : Nat) (S : Nat → Prop) (v : Value) (e : Ending) (w' : World) : Prop :=
  e = .returned v ∧ (∃ rd' own' x', RAt w' rd' own' p s' N x' ∧ (∀ i, rd' i → rd i ∨ S i ∨ W.heap.size ≤ i) ∧ (∀ i, own' i → own i ∨ W.heap.size ≤ i)) ∧ Foot own W w'
set_option maxHeartbeats 2000000 in
theorem new_no (A1 A2 : Option Addr) (c1 c2 : Nat) (t : TB) (salt : Int) (W : World) (ht : TbAt W.heap.size W A1 A2 c1 c2 t) (hr : t.right = false) : Calls Try.prog 14 #[.agg (tbC A1 A2 c1 c2 t), .int .u32 salt] W fun e w' => e = .returned (.tuple #[.pointer none, .int .i64 80]) ∧ Below W.heap.size W w' := by
  have H := Mem.start W
  have T := Lib.hid ht
  have cr := fun w h => right_r A1 A2 c1 c2 t w h
  unfold RightR at cr
  rw [hr] at cr
  clear ht hr
  go_enter Try.func14, Try.ntmps14
  go_upto_region 1 with (first
    | ((with_reducible show wpList _ _ _ _ _ (World.alloc _ (.cells _ _))); refine mem_newb H ?_; intro b w3 hbk H2; try rw [← hbk]; clear hbk H; have H := H2; clear H2; simp only [List.cons_append, List.nil_append, List.set_cons_zero, List.set_cons_succ, List.setIfInBounds_toArray] at H))
  go_wp2_with (first
    | go_skip
    | ((with_reducible show wpList _ _ _ (⟨_, .load 32 _, _, _, _, _⟩ :: _) _ _); refine mem_load (i := 0) H (by first | exact wanted_none rfl | exact wanted_some rfl rfl rfl rfl) (by exact rfl) (by exact rfl) (by exact rfl) Try.underlying32 rfl (by exact tbInfo) ?_)
    | (go_at_call 18; with_reducible refine (cr _ (T.out.mem H)).mono ?_; rintro e w2 ⟨rfl, hb⟩; have H2 := H.call hb; clear H hb; have H := H2; clear H2))
  refine bodyPost_ret (results_two rfl _ _ _) rfl ?_
  exact ⟨rfl, H.below⟩
set_option maxHeartbeats 2000000 in
theorem new_yes (A1 A2 : Option Addr) (c1 c2 : Nat) (t : TB) (salt : Int) (hs : 0 ≤ salt ∧ salt ≤ 4294967295) (W : World) (ht : TbAt W.heap.size W A1 A2 c1 c2 t) (hr : t.right = true) : Calls Try.prog 14 #[.agg (tbC A1 A2 c1 c2 t), .int .u32 salt] W (NewR W A1 A2 t salt) := by
  have H := Mem.start W
  have T := Lib.hid ht
  have cr := fun w h => right_r A1 A2 c1 c2 t w h
  unfold RightR at cr
  rw [hr] at cr
  have HR := Lib.hid hr
  clear ht hr
  go_enter Try.func14, Try.ntmps14
  go_upto_region 1 with (first
    | ((with_reducible show wpList _ _ _ _ _ (World.alloc _ (.cells _ _))); refine mem_newb H ?_; intro b w3 hbk H2; try rw [← hbk]; clear hbk H; have H := H2; clear H2; simp only [List.cons_append, List.nil_append, List.set_cons_zero, List.set_cons_succ, List.setIfInBounds_toArray] at H))
  go_upto_region 4 with (first
    | ((with_reducible show wpList _ _ _ (⟨_, .load 32 _, _, _, _, _⟩ :: _) _ _); refine mem_load (i := 0) H (by first | exact wanted_none rfl | exact wanted_some rfl rfl rfl rfl) (by exact rfl) (by exact rfl) (by exact rfl) Try.underlying32 rfl (by exact tbInfo) ?_)
    | (go_at_call 18; with_reducible refine (cr _ (T.out.mem H)).mono ?_; rintro e w2 ⟨rfl, hb⟩; have H2 := H.call hb; clear H hb; have H := H2; clear H2))
  have hN := RAt.new (T.out.mem H) HR.out hs
  have hz := H.below.size
  have HN := Lib.hid hN
  clear hN
  have hzv : (zeroValue 82).run Try.prog w2 = .ok (.agg #[.int .i64 0, .slice none 0 0, .slice none 0 0, .int .u32 0, .slice none 0 0, .slice none 0 0, .slice none 0 0, .slice none 0 0, .slice none 0 0, .slice none 0 0, .slice none 0 0, .slice none 0 0, .slice none 0 0, .slice none 0 0, .slice none 0 0, .slice none 0 0, .slice none 0 0, .slice none 0 0, .slice none 0 0, .slice none 0 0, .slice none 0 0, .slice none 0 0, .slice none 0 0, .slice none 0 0, .slice none 0 0, .slice none 0 0, .slice none 0 0, .slice none 0 0, .slice none 0 0, .slice none 0 0, .slice none 0 0, .slice none 0 0, .slice none 0 0, .slice none 0 0, .slice none 0 0, .slice none 0 0, .slice none 0 0, .slice none 0 0, .slice none 0 0, .slice none 0 0, .slice none 0 0, .slice none 0 0, .slice none 0 0, .slice none 0 0, .slice none 0 0, .slice none 0 0, .slice none 0 0, .slice none 0 0, .slice none 0 0, .slice none 0 0, .slice none 0 0, .slice none 0 0, .slice none 0 0, .slice none 0 0, .slice none 0 0, .slice none 0 0, .slice none 0 0, .slice none 0 0, .slice none 0 0, .slice none 0 0, .slice none 0 0, .slice none 0 0, .slice none 0 0, .slice none 0 0, .slice none 0 0, .slice none 0 0, .slice none 0 0, .slice none 0 0, .slice none 0 0]) w2 := by kernel_rfl
  go_wp2_with (first
    | ((with_reducible show wpList _ _ _ (⟨_, .load 32 _, _, _, _, _⟩ :: _) _ _); refine mem_load (i := 0) H (by first | exact wanted_none rfl | exact wanted_some rfl rfl rfl rfl) (by exact rfl) (by exact rfl) (by exact rfl) Try.underlying32 rfl (by exact tbInfo) ?_))
  skip
  refine bodyPost_ret (results_two rfl _ _ _) rfl ?_
  refine ⟨w2.heap.size, _, _, _, rfl, HN.out, (H.skip _).below, fun i hi => ?_, fun i hi => ?_⟩
  · have hi' : i = _ := hi
    rw [hi']
    exact hz
  · rcases hi with hi | hi
    · exact .inr (by rw [hi]; exact hz)
    · exact .inl hi
end Go.Proofs.Ytaoaapbbadipfaa
end
/- The document's Table. Conditions: the steer and the table lie where their values say. -/
section
namespace Go.Proofs.Ytaoaapbbadipfaa
set_option linter.unusedSimpArgs false
set_option linter.unusedVariables false
set_option maxRecDepth 100000
open Go.ChangeShapes Go.WideShapes Go.ChangeAt Go.RowKit

theorem held_there {W : World} {b : Nat} {t : TypeId} {cs : Array Value} (h : Held W b t cs) {o n : Nat} (hn : o + n ≤ cs.size) : W.there b o n := fun j hj => by
  constructor
  · rw [h.cell (o + j)]
    simp
    omega
  · exact h.frozen _
/-- the table is changed -/
theorem RAt.tabset {W : World} {rd own : Nat → Prop} {p : Nat} {s : SS} {N : Nat} {x : RParts} (h : RAt W rd own p s N x) {A3 A4 : Option Addr} {c3 c4 : Nat} {t : TB} (ht : TbAt W.heap.size W A3 A4 c3 c4 t) (hr : t.right = true) (hb : ∀ i, tbS A3 A4 i → ¬ own i) :
    RAt (W.setCells p 0 [.int .i64 t.q, .slice A3 t.cl.length c3, .slice A4 t.sp.length c4]) (fun i => rd i ∨ tbS A3 A4 i) own p (s.tabTo t 0) N { x with A1 := A3, A2 := A4, c1 := c3, c2 := c4 } := by
  have hlt := tbS_lt ht hr
  have hz : (W.setCells p 0 [.int .i64 t.q, .slice A3 t.cl.length c3, .slice A4 t.sp.length c4]).heap.size = W.heap.size := by simp [World.setCells, World.setCell]
  have hn0 : ∀ i, i ≠ p → (W.setCells p 0 [.int .i64 t.q, .slice A3 t.cl.length c3, .slice A4 t.sp.length c4]).heap[i]? = W.heap[i]? := fun i hi => by
    simp only [World.setCells]
    rw [block_set _ _ _ _ _ hi, block_set _ _ _ _ _ hi, block_set _ _ _ _ _ hi]
  have hn : ∀ i, ¬ own i → (W.setCells p 0 [.int .i64 t.q, .slice A3 t.cl.length c3, .slice A4 t.sp.length c4]).heap[i]? = W.heap[i]? := fun i hi => hn0 i (fun e => hi (e ▸ h.op))
  refine ⟨?_, ?_, ?_, ?_, h.fl, h.len, h.out, h.salt, hr, ?_, h.op, h.of, ?_, ?_, ?_, ?_⟩
  · have := ((h.box.set 0 (.int .i64 t.q)).set 1 (.slice A3 t.cl.length c3)).set 2 (.slice A4 t.sp.length c4)
    exact this
  · exact ht.on (fun i hi => hn i (hb i hi)) (by omega)
  · exact fun c hc => (h.lists c hc).on (fun i hi => hn i (h.rl c hc i hi).2) (by omega)
  · exact row_same h.row fun i hi => hn0 i (h.of i hi).2
  · exact h.m64
  · exact fun i hi => ⟨.inr hi, hb i hi⟩
  · exact fun c hc i hi => ⟨.inl (h.rl c hc i hi).1, (h.rl c hc i hi).2⟩
  · exact fun i hi => .inl (h.or i hi)
  · rintro i (hi | hi)
    · rw [hz]; exact h.lt i hi
    · rw [hz]; exact hlt i hi
theorem tabTo_next (s : SS) (t : TB) (c : Nat) : s.tabTo t (c + 1) = (s.tabTo t c).mapped (c : Int) ((s.maps c).filter fun q => decide (q < t.q)) := by
  unfold SS.tabTo SS.mapped
  simp only [SS.mk.injEq, true_and, and_true]
  funext k
  rw [Int.toNat_natCast]
  by_cases h : k = c
  · subst h
    rw [if_pos (by omega), if_pos rfl]
  · rw [if_neg h]
    by_cases h2 : k < c
    · rw [if_pos (by omega), if_pos h2]
    · rw [if_neg (by omega), if_neg h2]
set_option maxHeartbeats 2000000 in
theorem table_no (W : World) (rd own : Nat → Prop) (p : Nat) (s : SS) (N : Nat) (x : RParts) (h : RAt W rd own p s N x) (A3 A4 : Option Addr) (c3 c4 : Nat) (t : TB) (ht : TbAt W.heap.size W A3 A4 c3 c4 t) (hr : t.right = false) : Calls Try.prog 32 #[.pointer (some ⟨p, 0, none⟩), .agg (tbC A3 A4 c3 c4 t)] W fun e w' => e = .returned (.int .i64 80) ∧ Below W.heap.size W w' := by
  have H := Mem.start W
  have T := Lib.hid ht
  have cr := fun w h => right_r A3 A4 c3 c4 t w h
  unfold RightR at cr
  rw [hr] at cr
  clear ht hr h
  go_enter Try.func32, Try.ntmps32
  go_upto_region 1 with (first
    | ((with_reducible show wpList _ _ _ _ _ (World.alloc _ (.cells _ _))); refine mem_newb H ?_; intro b w3 hbk H2; try rw [← hbk]; clear hbk H; have H := H2; clear H2; simp only [List.cons_append, List.nil_append, List.set_cons_zero, List.set_cons_succ, List.setIfInBounds_toArray] at H))
  go_wp2_with (first
    | go_skip
    | ((with_reducible show wpList _ _ _ (⟨_, .load 32 _, _, _, _, _⟩ :: _) _ _); refine mem_load (i := 0) H (by first | exact wanted_none rfl | exact wanted_some rfl rfl rfl rfl) (by exact rfl) (by exact rfl) (by exact rfl) Try.underlying32 rfl (by exact tbInfo) ?_)
    | (go_at_call 18; with_reducible refine (cr _ (T.out.mem H)).mono ?_; rintro e w2 ⟨rfl, hb⟩; have H2 := H.call hb; clear H hb; have H := H2; clear H2))
  go_ret
  exact ⟨rfl, H.below⟩
/-- between two processors -/
def TabI (W : World) (rd own : Nat → Prop) (p b : Nat) (s : SS) (N : Nat) (A3 A4 : Option Addr) (c3 c4 : Nat) (t : TB) (c : Nat) (V : World) : Prop :=
  (∃ rd' x', RAt V rd' own p (s.tabTo t c) N x' ∧ ∀ i, rd' i → rd i ∨ tbS A3 A4 i ∨ W.heap.size ≤ i) ∧ Held V b 32 (tbC A3 A4 c3 c4 t) ∧ Foot own W V
set_option maxHeartbeats 2000000 in
theorem table_yes (W : World) (rd own : Nat → Prop) (p : Nat) (s : SS) (N : Nat) (x : RParts) (h : RAt W rd own p s N x) (A3 A4 : Option Addr) (c3 c4 : Nat) (t : TB) (ht : TbAt W.heap.size W A3 A4 c3 c4 t) (hr : t.right = true) (hb0 : ∀ i, tbS A3 A4 i → ¬ own i) : Calls Try.prog 32 #[.pointer (some ⟨p, 0, none⟩), .agg (tbC A3 A4 c3 c4 t)] W (DidR W rd own p (s.tabled t) N (tbS A3 A4) (.int .i64 0)) := by
  have H := Mem.start W
  have T := Lib.hid ht
  have HR := Lib.hid h
  have HT := Lib.hid hr
  have HB0 := Lib.hid hb0
  have hp := h.plt
  have hop := h.op
  have cr := fun w h => right_r A3 A4 c3 c4 t w h
  unfold RightR at cr
  rw [hr] at cr
  have hq := ((TB.right_iff t).1 hr).q
  obtain ⟨i0, hi, hz0, hz1, hz2⟩ := infoInt_parts
  clear ht hr h hb0
  go_enter Try.func32, Try.ntmps32
  go_upto_region 1 with (first
    | ((with_reducible show wpList _ _ _ _ _ (World.alloc _ (.cells _ _))); refine mem_newb H ?_; intro b w3 hbk H2; try rw [← hbk]; clear hbk H; have H := H2; clear H2; simp only [List.cons_append, List.nil_append, List.set_cons_zero, List.set_cons_succ, List.setIfInBounds_toArray] at H))
  go_upto_region 4 with (first
    | ((with_reducible show wpList _ _ _ (⟨_, .load 32 _, _, _, _, _⟩ :: _) _ _); refine mem_load (i := 0) H (by first | exact wanted_none rfl | exact wanted_some rfl rfl rfl rfl) (by exact rfl) (by exact rfl) (by exact rfl) Try.underlying32 rfl (by exact tbInfo) ?_)
    | (go_at_call 18; with_reducible refine (cr _ (T.out.mem H)).mono ?_; rintro e w2 ⟨rfl, hb⟩; have H2 := H.call hb; clear H hb; have H := H2; clear H2))
  have R2 := HR.out.below H.below
  have hth : w2.there p 0 3 := held_there R2.box (by rw [stC_size]; omega)
  obtain ⟨w4, hw4⟩ : ∃ w4, w2.setCells p 0 [.int .i64 t.q, .slice A3 t.cl.length c3, .slice A4 t.sp.length c4] = w4 := ⟨_, rfl⟩
  have R4 := R2.tabset (T.out.mem H) HT.out HB0.out
  have hbp : b ≠ p := fun e => by
    have := (H.held _ (List.mem_of_getElem? (i := 0) rfl)).1
    simp only at this
    omega
  have G4 : Held w4 b 32 (tbC A3 A4 c3 c4 t) := by
    rw [← hw4]
    exact (((H.at 0 rfl).other hbp 0 _).other hbp 1 _).other hbp 2 _
  have F4 : Foot own W w4 := by
    rw [← hw4]
    exact (((Foot.of_below (B := own) H.below).setCell (p := ⟨p, 0, none⟩) (fun _ => hop) _).setCell (p := ⟨p, 1, none⟩) (fun _ => hop) _).setCell (p := ⟨p, 2, none⟩) (fun _ => hop) _
  rw [hw4] at R4
  have J4 : TabI W rd own p b s N A3 A4 c3 c4 t 0 w4 := ⟨⟨_, _, R4, fun i hi => by
    rcases hi with hi | hi
    · exact .inl hi
    · exact .inr (.inl hi)⟩, G4, F4⟩
  have HJ := Lib.hid J4
  have HW4 := Lib.hid hw4
  clear R2 R4 G4 F4 J4 cr
  go_upto_region 5 with (first
    | ((with_reducible show wpList _ _ _ (⟨_, .load 32 _, _, _, _, _⟩ :: _) _ _); refine mem_load (i := 0) H (by first | exact wanted_none rfl | exact wanted_some rfl rfl rfl rfl) (by exact rfl) (by exact rfl) (by exact rfl) Try.underlying32 rfl (by exact tbInfo) ?_)
    | ((with_reducible show wpList _ _ _ (⟨_, .store _ _ _, _, _, _, _⟩ :: _) _ _); refine wpList_store_mid rfl _ _ _ rfl p 0 #[.int .i64 t.q, .slice A3 t.cl.length c3, .slice A4 t.sp.length c4] rfl rfl hth tbInfo (by rw [← Array.all_toList]; rfl) ?_; rw [hw4]))
  clear hw4 hth HW4
  go_wp2
  go_loopw [6] (fun i V => ∃ c : Nat, c ≤ 64 ∧ i = .int .i64 c ∧ Hid (TabI W rd own p b s N A3 A4 c3 c4 t c V)) (fun i _ => 64 - (intOf i).toNat)
  case atStart => exact ⟨0, Nat.zero_le _, rfl, HJ⟩
  case round =>
    clear HJ H
    obtain ⟨c, hc, rfl, HJ⟩ := hrel
    by_cases hlt : c < 64
    · obtain ⟨⟨rd2, x2, R, hrd⟩, G, F0⟩ := HJ.out
      obtain ⟨A, cap, hA, hcap, hcm, hrow⟩ := R.lists c hlt
      have hmc : (s.tabTo t c).maps c = s.maps c := by
        show (if c < c then _ else s.maps c) = _
        rw [if_neg (by omega)]
      rw [hmc] at hA hcap hrow
      have h64 := (R.m64 c hlt).1
      rw [hmc] at h64
      have qL0 := R.cell.2.2.1 c hlt
      rw [hA] at qL0
      have gq0 := G.cell 0
      simp only [List.getElem?_toArray, List.getElem?_cons_zero] at gq0
      have hpw := R.plt
      have hbw := G.lt
      have HS := Lib.hid (And.intro R (And.intro hrd (And.intro G F0)))
      have HRW := Lib.hid hrow
      obtain ⟨l, hl⟩ : ∃ l, s.maps c = l := ⟨_, rfl⟩
      rw [hl] at qL0 hcap h64 HRW
      have HL := Lib.hid hl
      obtain ⟨n, hn⟩ : ∃ n, l.length = n := ⟨_, rfl⟩
      rw [hn] at qL0 hcap h64
      have HN := Lib.hid hn
      unfold maxLen at hcm
      clear HJ R hrd G F0 hrow hA hmc hl hn
      have tc : decide ((c : Int) < 64) = true := decide_eq_true (by omega)
      go_wp2
      obtain ⟨B, hBq⟩ : ∃ B, wr.heap.size = B := ⟨_, rfl⟩
      have R0 : wr.ownsRow B 3 1 (.slice none 0 0) ((l.take 0).filter fun q => decide (q < t.q)).length (ints ((l.take 0).filter fun q => decide (q < t.q))) := World.ownsRow_nil wr B 3 1
      have hB2 : B ≤ wr.heap.size := by omega
      have H := Mem.start wr
      have HBQ := Lib.hid hBq
      clear hBq
      go_loopw [7, 8] (fun v i wr2 => ∃ k : Nat, k ≤ n ∧ i = .int .i64 k ∧ wr2.ownsRow B 3 1 v ((l.take k).filter fun q => decide (q < t.q)).length (ints ((l.take k).filter fun q => decide (q < t.q))) ∧ B ≤ wr2.heap.size ∧ Mem wr wr2 []) (fun _ i _ => n - (intOf i).toNat)
      case atStart => exact ⟨0, Nat.zero_le _, rfl, R0, hB2, H⟩
      case round =>
        clear H R0 hB2
        obtain ⟨k, hk, rfl, R, hB2, H⟩ := hrel
        have qL := (H.old (p := ⟨p, 4 + c, none⟩) hpw).trans qL0
        have gq := (H.old (p := ⟨b, 0, none⟩) hbw).trans gq0
        by_cases hlk : k < n
        · have hLk := filter_len l (fun q => decide (q < t.q)) k
          obtain ⟨y, hy⟩ : ∃ y, l[k]? = some y := ⟨l[k]'(by have := HN.out; omega), List.getElem?_eq_getElem _⟩
          obtain ⟨g, o, rfl, hg, qk0⟩ := HRW.out k y hy
          have qk := (H.old (p := ⟨g, o + k, none⟩) hg).trans qk0
          have HFT := Lib.hid (filter_take hy (fun q => decide (q < t.q)))
          clear hy qk0
          by_cases hin : y < t.q
          · have t1 : decide (y < t.q) = true := decide_eq_true hin
            have HFT2 := Lib.hid (HFT.out.trans (by rw [if_pos t1]))
            clear hin HFT
            go_wp2
            go_quiet (fail)
            go_wp2_with (first
              | (at_builtin; refine wpList_append_own _ rfl _ _ 29 rfl B 3 i0 (.int .i64 0) 1 8 Try.underlying29 hi hz0 hz1 hz2 rfl (by decide) _ _ _ rfl ((row_call R (below_draws wr nq)).alloc _) ⟨wr.heap.size, 0, none⟩ 1 1 [.int .i64 y] rfl rfl (cell_one_new _ _ _) (by simp [Value.oneCell']) (by simp [maxLen]; omega) (by omega) (by simp; omega) ?_; intro v' w1 hown' hgrow _))
            have hrl := row_lt R
            have H4 : Mem _ w1 _ := ((H.drewN _).skip _).grown hgrow (fun r hr => (hrl r hr).1) (fun p hp => by cases hp) (by have := HBQ.out; omega)
            have hB3 : B ≤ w1.heap.size := by have := hgrow.size; simp at this; omega
            go_roundw
            case rel => exact ⟨k + 1, by omega, by go_num, by rw [HFT2.out, List.length_append]; simpa [ints] using hown', hB3, H4⟩
            case measure => simp [intOf]; omega
          · have t1 : decide (y < t.q) = false := decide_eq_false hin
            have HFT2 := Lib.hid (HFT.out.trans (by rw [if_neg (by rw [t1]; simp), List.append_nil]))
            clear hin HFT
            go_wp2
            go_quiet (fail)
            go_wp2
            go_roundw
            case rel => exact ⟨k + 1, by omega, by go_num, by rw [HFT2.out]; exact row_call R (below_draws wr _), hB2, H.drewN _⟩
            case measure => simp [intOf]; omega
        · obtain rfl : k = n := by omega
          have hfl : (l.take k) = l := List.take_of_length_le (by have := HN.out; omega)
          rw [hfl] at R
          obtain ⟨av, cv, rfl⟩ := ownsRow_len R
          have R1 := HS.out.1.below H.below
          have cp := R1.cell.2.2.1 c hlt
          have fz := R1.box.frozen (4 + c)
          have hs := sli_own R
          have hml : (l.filter fun q => decide (q < t.q)).length ≤ 64 ∧ ∀ q, q ∈ (l.filter fun q => decide (q < t.q)) → 0 ≤ q ∧ q < 64 := by
            have hm := HS.out.1.m64 c hlt
            have e : (s.tabTo t c).maps c = l := by
              show (if c < c then _ else s.maps c) = _
              rw [if_neg (by omega), HL.out]
            rw [e] at hm
            refine ⟨Nat.le_trans (List.length_filter_le _ _) hm.1, fun q hq => hm.2 q (List.mem_filter.1 hq).1⟩
          have hnew : ∀ i, blk (.slice av (l.filter fun q => decide (q < t.q)).length cv) i → ¬ own i ∧ i < wr.heap.size := fun i hi => ⟨fun ho => by
            have h1 := (hs.2 i hi).1
            have h2 := HS.out.1.lt i (HS.out.1.or i ho)
            have := HBQ.out
            omega, (hs.2 i hi).2⟩
          have R2 := R1.mapset hlt hs.1 hnew hml
          have hnx := tabTo_next s t c
          rw [HL.out] at hnx
          rw [← hnx] at R2
          have HF := Lib.hid (And.intro R2 (And.intro H hs.2))
          clear R1 R R2 hs hml hnew hnx hfl
          go_wp2
          go_roundw
          case rel =>
            refine ⟨c + 1, by omega, by go_num, Lib.hid ⟨⟨_, _, HF.out.1, fun i hi => ?_⟩, ?_, ?_⟩⟩
            · rcases hi with hi | hi
              · exact HS.out.2.1 i hi
              · have h1 := (HF.out.2.2 i hi).1
                have h2 := HS.out.2.2.2.size
                have := HBQ.out
                exact .inr (.inr (by omega))
            · exact (HS.out.2.2.1.below HF.out.2.1.below hbw).other hbp _ _
            · exact ((HS.out.2.2.2.then_below HF.out.2.1.below)).setCell (p := ⟨p, 4 + c, none⟩) (fun _ => hop) _
          case measure => simp [intOf]; omega
    · obtain rfl : c = 64 := by omega
      go_wp2
      go_ret
      obtain ⟨⟨rd2, x2, R, hrd⟩, G, F0⟩ := HJ.out
      exact ⟨rfl, ⟨rd2, own, x2, R, hrd, fun i hi => .inl hi⟩, F0⟩
end Go.Proofs.Ytaoaapbbadipfaa
end
/- What choosing does to the document's steer in memory. Conditions: those that each theorem names. -/
section
namespace Go.Proofs.Ytaoaapbbadipfaa
set_option linter.unusedSimpArgs false
set_option linter.unusedVariables false
set_option maxRecDepth 100000
open Go.ChangeShapes Go.WideShapes Go.ChangeAt Go.RowKit

theorem infoFl : (Try.prog.info? 89).map (fun i => (i.zero, i.size, i.bytes)) = some (some (.agg #[.int .u32 0, .int .i64 0, .int .i64 0]), 3, 24) := by kernel_rfl
theorem infoFl_parts : ∃ i, Try.prog.info? 89 = some i ∧ i.zero = some (.agg #[.int .u32 0, .int .i64 0, .int .i64 0]) ∧ i.size = 3 ∧ i.bytes = 24 := by
  have h := infoFl
  rcases hi : Try.prog.info? 89 with _ | i
  · rw [hi] at h; cases h
  · rw [hi] at h
    simp at h
    exact ⟨i, rfl, h.1, h.2.1, h.2.2⟩
theorem set_set (s : SS) (n a b c d : Int) : (s.set n a b).set n c d = s.set n c d := by
  unfold SS.set
  simp only [SS.mk.injEq, true_and]
  funext m
  by_cases e : m = n
  · rw [if_pos e, if_pos e]
  · rw [if_neg e, if_neg e, if_neg e]
theorem fat_set {l : List SF} {n : Int} {f f' : SF} (h : l[fat l n]? = some f) (hf : f'.n = n) : fat (l.set (fat l n) f') n = fat l n := by
  have hlt := (List.getElem?_eq_some_iff.1 h).1
  refine fat_hit (f := f') (fun j g hj hg => ?_) (by simp [hlt]) hf
  rw [List.getElem?_set_ne (by omega)] at hg
  exact fat_before j g hj hg
/-- more may be out -/
theorem RAt.mono {W : World} {rd own : Nat → Prop} {p : Nat} {s : SS} {N M : Nat} {x : RParts} (h : RAt W rd own p s N x) (hM : N ≤ M) : RAt W rd own p s M x :=
  { h with
    len := Nat.le_trans h.len hM
    out := fun f hf => by
      have := h.out f hf
      exact ⟨this.1, by omega, this.2.2⟩ }
/-- a flow is new -/
theorem RAt.push {W1 W2 : World} {rd own : Nat → Prop} {p : Nat} {s : SS} {N : Nat} {x : RParts} (h : RAt W1 rd own p s N x) (hg : ∀ k, k < W1.heap.size → some k ≠ x.fv.ownBlock → W2.heap[k]? = W1.heap[k]?) (hz : W1.heap.size ≤ W2.heap.size) {v : Value} {f : SF}
    (hrow : W2.ownsRow 0 89 3 v (x.l.length + 1) (sfCs (x.l ++ [f]))) (hat : v.ownBlock = x.fv.ownBlock ∨ ∃ g, v.ownBlock = some g ∧ W1.heap.size ≤ g) (hn : fat x.l f.n = x.l.length) (hb : 0 ≤ f.o ∧ f.o ≤ N ∧ I64 f.q ∧ 0 ≤ f.n ∧ f.n ≤ 4294967295) :
    RAt (W2.setCell ⟨p, 68, none⟩ v) (fun i => rd i ∨ v.ownBlock = some i) (fun i => own i ∨ v.ownBlock = some i) p (s.set f.n f.q f.o) (N + 1) { x with fv := v, l := x.l ++ [f] } := by
  have hzs : (W2.setCell ⟨p, 68, none⟩ v).heap.size = W2.heap.size := by simp [World.setCell]
  have hp := h.plt
  have hpf : some p ≠ x.fv.ownBlock := fun e => (h.of p e.symm).2 rfl
  have hvp : ∀ i, v.ownBlock = some i → i ≠ p := fun i hi e => by
    subst e
    rcases hat with h1 | ⟨g, h1, h2⟩
    · exact hpf (hi.symm.trans h1)
    · rw [hi] at h1
      cases h1
      omega
  have hk : ∀ i, rd i → ¬ own i → (W2.setCell ⟨p, 68, none⟩ v).heap[i]? = W1.heap[i]? := fun i hi ho => by
    have hne : i ≠ p := fun e => ho (by rw [e]; exact h.op)
    rw [block_set _ _ _ _ _ hne]
    exact hg i (h.lt i hi) (fun e => ho (h.of i e.symm).1)
  have hnv : ∀ i, rd i → ¬ own i → ¬ (own i ∨ v.ownBlock = some i) := fun i hi ho hh => by
    rcases hh with hh | hh
    · exact ho hh
    · rcases hat with h1 | ⟨g, h1, h2⟩
      · exact ho (h.of i (h1.symm.trans hh)).1
      · rw [hh] at h1
        cases h1
        have := h.lt i hi
        omega
  have hrl := row_lt hrow
  refine ⟨?_, ?_, ?_, ?_, ?_, ?_, ?_, h.salt, h.right, h.m64, .inl h.op, fun i hi => ⟨.inr hi, hvp i hi⟩, ?_, ?_, ?_, ?_⟩
  · have hb2 : Held W2 p _ _ := (hg p hp hpf).trans h.box
    have := hb2.set 68 v
    rw [stC_set_fl] at this
    exact this
  · exact h.tab.on (fun i hi => hk i (h.rt i hi).1 (h.rt i hi).2) (by omega)
  · exact fun c hc => (h.lists c hc).on (fun i hi => hk i (h.rl c hc i hi).1 (h.rl c hc i hi).2) (by omega)
  · show World.ownsRow _ _ _ _ v (x.l ++ [f]).length (sfCs (x.l ++ [f]))
    rw [List.length_append]
    exact row_same hrow fun i hi => block_set _ _ _ _ _ (hvp i hi)
  · show (fun m => if m = f.n then some (f.q, f.o) else s.fl m) = flook (x.l ++ [f])
    funext m
    rw [flook_snoc (n := f.n) (fun j g hg => fat_before j g (by rw [hn]; exact (List.getElem?_eq_some_iff.1 hg).1) hg) rfl m, h.fl]
  · show (x.l ++ [f]).length ≤ N + 1
    rw [List.length_append]
    have := h.len
    simp
    exact this
  · intro y hy
    rcases List.mem_append.1 hy with hy | hy
    · have := h.out y hy
      exact ⟨this.1, by omega, this.2.2⟩
    · rw [List.mem_singleton.1 hy]
      exact ⟨hb.1, by omega, hb.2.2⟩
  · exact fun i hi => ⟨.inl (h.rt i hi).1, hnv i (h.rt i hi).1 (h.rt i hi).2⟩
  · exact fun c hc i hi => ⟨.inl (h.rl c hc i hi).1, hnv i (h.rl c hc i hi).1 (h.rl c hc i hi).2⟩
  · rintro i (hi | hi)
    · exact .inl (h.or i hi)
    · exact .inr hi
  · rintro i (hi | hi)
    · rw [hzs]
      have := h.lt i hi
      omega
    · rw [hzs]
      exact (hrl i hi).2
section
variable {F : Fence} {n : Nat} {P : Program} {o : Oper} {a : Act} {w : World} {Q : Exit → Act → World → Prop}
/-- a cell that was there is written, as an operation alone -/
theorem wpIn_store_old {b j : Nat} {ty : TypeId} {x y : Operand} {v v0 : Value} {K : Act → World → Prop} (hc : w.cell? ⟨b, j, none⟩ = some v0) (hf : w.frozen? ⟨b, j, none⟩ = false) (ho : o.op = .store ty x y) (hx : opnd a x = some (.pointer (some ⟨b, j, none⟩))) (hy : opnd a y = some v)
    (hi : (P.info? ty).map (·.size) = some 1) (h1 : v.oneCell' = true) (h : K (a.put o.dst undef) (w.setCell ⟨b, j, none⟩ v)) : o.wpIn F n P a w K Q := by
  refine ⟨by simp [Oper.about, ho], ?_⟩
  rw [Oper.semAt_plain F _ _ (by rw [ho]; intro c hc'; cases hc')]
  have hcs : v.cells = #[v] := by cases v <;> first | rfl | cases h1
  have hst : (storeVar ty ⟨b, j, none⟩ v).run P w = .ok () (w.setCell ⟨b, j, none⟩ v) := by
    cases hq : P.info? ty with
    | none => simp [hq] at hi
    | some i =>
      have hs : i.size = 1 := by simpa [hq] using hi
      simp [storeVar, sizeOf, typeInfo, hq, hcs, hs, storeCells, Addr.add_mid, run_store P w _ v _ h1, hc, hf]
  unfold execOp
  simp only [ho, opnd_eval hx, opnd_eval hy, Instr.storeAt, Instr.sureAddr, Sem.run_bind, Sem.run_pure, Result.andThen_ok, hst]
  exact h
end
end Go.Proofs.Ytaoaapbbadipfaa
end
