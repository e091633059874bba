/-
  The document's reader: its steps. Conditions: the tally and its reader lie where their pointers say. The document's New. The document's calls as steps of a law's state; a state with a reader put into it.
-/
import Derived.Test.YtdhjdkhhhdcjdaaMGf
/- The document's reader: its steps. Conditions: the tally and its reader lie where their pointers say. -/
section
namespace Go.Proofs.Ytdhjdkhhhdcjdaa.Ta
set_option linter.unusedSimpArgs false
set_option linter.unusedVariables false
set_option maxRecDepth 100000
open Go.Joins Go.Deep Go.ChangeShapes Go.WideShapes Go.ChangeAt Go.RowKit

theorem row_cells {W : World} {v : Value} {l : List Int} (hl : l.length = 6) (h : W.ownsRow 0 40 1 v l.length (l.map (Value.int .u64))) : ∃ g cap, v = .slice (some ⟨g, 0, none⟩) 6 cap ∧ g < W.heap.size ∧ ∀ j, j < 6 → W.cell? ⟨g, j, none⟩ = some (.int .u64 ((of6 l).get j)) := by
  rcases h.2 with ⟨-, e⟩ | ⟨g, cap, cur, rfl, -, hg, hle, -, hsz, htk⟩
  · omega
  · refine ⟨g, cap, by rw [hl], (Array.getElem?_eq_some_iff.1 hg).1, fun j hj => ?_⟩
    have e1 : W.cell? ⟨g, j, none⟩ = cur[j]? := by simp [World.cell?, hg]
    have e2 : (cur.toList.take (l.length * 1))[j]? = (l.map (Value.int .u64))[j]? := by rw [htk]
    rw [List.getElem?_take_of_lt (by omega), Array.getElem?_toList, List.getElem?_map, List.getElem?_eq_getElem (by omega)] at e2
    rw [e1, e2, of6, get_mk _ hj, List.getD_eq_getElem?_getD, List.getElem?_eq_getElem (by omega)]
    rfl
set_option maxHeartbeats 4000000 in
theorem step_diff (W : World) (own : Nat → Prop) (p : Nat) (X : TS) (N : Nat) (R : RD) (hR : X.rd = some R) (h : DocAt W own p X N) (h0 : R.at' ≠ 0) (h6 : ¬ R.at' ≤ 6) (hs0 : ¬ sq X R.q = R.s0) : Calls Try.prog 15 #[.pointer (some ⟨R.r, 0, none⟩)] W (DidF DocAt W own p { X with rd := some (stepR X R) } N (.tuple #[cv (stepV X R), .bool (stepOk X R), .int .i64 (stepE X R)])) := by
  obtain ⟨o1, o2, bc, bs, cap, rb, h⟩ := h
  have hfr := h.d.fits.fr R hR
  have hrr : RAt W o2 p R := by have := h.r; rw [hR] at this; exact this
  obtain ⟨n, hn⟩ : ∃ n, X.s.length = n := ⟨_, rfl⟩
  have hqn : R.q < n := by rw [← hn]; exact hfr.q
  have i0 : ¬ ((R.q : Int) < 0) := by omega
  have i1 : ¬ n ≤ R.q := by omega
  have n64 : n ≤ 64 := by rw [← hn]; exact h.d.fits.n64
  have hsq := h.d.fits.sq hfr.q
  have HD := Lib.hid h
  have HFR := Lib.hid hfr
  have HN := Lib.hid hn
  rcases hrr with ⟨ha, -⟩ | ⟨ha, Lv, hrb, hrow, hLr, ho⟩
  case inl => exact absurd ha h0
  have e1 : stepR X R = { R with at' := 0, l := [] } := by rw [stepR, if_neg h0, if_neg h6]
  have e2 : stepE X R = 111 := by rw [stepE, if_neg h0, if_neg h6, if_neg hs0]
  have e3 : stepOk X R = false := by rw [stepOk, decide_eq_false hs0, Bool.and_false]
  have e4 : stepV X R = zero6 := by rw [stepV, e3]; rfl
  have hfit := step_fits HD.out.d.fits HFR.out
  rw [e1] at hfit
  rw [e1, e2, e3, e4]
  have HFIT := Lib.hid hfit
  have H := Mem.start W
  have hat := HFR.out.len h0
  have h7 := HFR.out.at7
  have hl6 : R.l.length = 6 := by omega
  have tq : ((R.at' : Int) == 0) = false := by simp; exact h0
  have tq2 : decide ((R.at' : Int) ≤ 6) = false := decide_eq_false (by omega)
  have tq3 : (sq X (R.q : Int) == R.s0) = false := by simpa using hs0
  clear e1 e2 e3 e4 h hfr hn ha hfit hs0
  go_enter Try.func15, Try.ntmps15
  go_upto_region 1 with (first | ((with_reducible show wpList _ _ _ _ _ (World.alloc _ (.cells _ _))); refine mem_newb (l := []) H ?_; intro bx w3 hbk H2; try rw [← hbk]; clear hbk H; have H := H2; clear H2; simp only [List.cons_append, List.nil_append, List.set_cons_zero, List.set_cons_succ, List.setIfInBounds_toArray] at H))
  have hd := HD.out.d.on (W' := w3) fun i hi => H.below.block i (HD.out.d.lt i hi)
  have hrb3 := hrb.below H.below hrb.lt
  have hrow3 := ownsRow_on hrow (W' := w3) (fun i hi => H.below.block i (ownsRow_lt hrow i hi))
  have r0 : w3.cell? ⟨R.r, 0, none⟩ = some (.pointer (some ⟨p, 0, none⟩)) := hrb3.cell 0
  have r1 : w3.cell? ⟨R.r, 1, none⟩ = some (.int .i64 (R.q : Int)) := hrb3.cell 1
  have r2 : w3.cell? ⟨R.r, 2, none⟩ = some (.int .i64 (R.at' : Int)) := hrb3.cell 2
  have r3 : w3.cell? ⟨R.r, 3, none⟩ = some (.int .i64 R.s0) := hrb3.cell 3
  have r4 : w3.cell? ⟨R.r, 4, none⟩ = some Lv := hrb3.cell 4
  have z2 : w3.frozen? ⟨R.r, 2, none⟩ = false := hrb3.frozen 2
  have lr := hrb3.lt
  have p1 : w3.cell? ⟨p, 1, none⟩ = some (sl bs X.s) := hd.box.cell 1
  have p0 : w3.cell? ⟨p, 0, none⟩ = some (.slice (some ⟨bc, 0, none⟩) X.s.length cap) := hd.box.cell 0
  rw [sl] at p1
  rw [HN.out] at p1 p0
  obtain ⟨ts, hts⟩ := hd.hs
  have gs := Held.num hts (sq_at HFR.out.q)
  have cr := DAt.row w3 o1 p bc bs cap rb X N hd HFR.out.q
  have lp := hd.box.lt
  have lb := hts.lt
  obtain ⟨tc, ccs, htc, -⟩ := hd.hc
  have lc := htc.lt
  clear hts htc
  have hxn : W.heap.size ≤ bx := (H.held _ List.mem_cons_self).1
  have hne : bx ≠ R.r := by have := hrb.lt; omega
  have gx0 := ((H.at 0 rfl).other hne 2 (.int .i64 0)).drew
  have hr5 := (hrb3.set 2 (.int .i64 0)).drew
  have hf5 := ((Foot.of_below H.below : Foot o2 W w3).setCell (p := ⟨R.r, 2, none⟩) (fun _ => (ho _).2 (.inl rfl)) (.int .i64 0)).drew
  have hrow5 := ownsRow_on (W' := (w3.setCell ⟨R.r, 2, none⟩ (.int .i64 0)).drew) hrow3 (fun i hi => Below.heap_setCell _ _ _ _ (fun e => hLr (by rw [hi, e])))
  have HQ := Lib.hid (And.intro gx0 (And.intro hr5 (And.intro hf5 (And.intro ho hrow5))))
  clear hd hrb3 hrb ho gx0 hr5 hf5 H hrow hrow3 hrow5 hLr h7
  generalize sq X (R.q : Int) = s at *
  go_wp2_with fail
  go_region
  go_upto_region 15 with fail
  generalize (w3.setCell ⟨R.r, 2, none⟩ (.int .i64 0)).drew = V at HQ ⊢
  have gx := HQ.out.1
  go_wp2_with (first
    | go_skip
    | ((with_reducible show wpList _ _ _ (⟨_, .store 42 _ _, _, _, _, _⟩ :: _) _ _); refine store_held gx (by first | exact wanted_none rfl | exact wanted_some rfl rfl rfl rfl) (by exact rfl) (by exact rfl) (by exact rfl) (by exact cInfo) (by exact rfl) (by exact rfl) ?_; intro w5 g5 F5))
  refine bodyPost_ret (results_ctt rfl rfl (load_c6 (c := zero6) g5)) rfl ?_
  refine HD.out.rput (R' := { R with at' := 0, l := [] }) (o2' := fun i => i = R.r) (HQ.out.2.2.1.trans F5 (fun i hi (e : i = bx) => by omega)) (.inl ⟨rfl, ⟨_, _, HQ.out.2.1.foot F5 (fun e => hne e.symm)⟩, fun i => Iff.rfl⟩) (fun i hi => .inl ((HQ.out.2.2.2.1 i).2 (.inl hi))) HFIT.out rfl
set_option maxHeartbeats 4000000 in
theorem step_same (W : World) (own : Nat → Prop) (p : Nat) (X : TS) (N : Nat) (R : RD) (hR : X.rd = some R) (h : DocAt W own p X N) (h0 : R.at' ≠ 0) (h6 : ¬ R.at' ≤ 6) (hs0 : sq X R.q = R.s0) : Calls Try.prog 15 #[.pointer (some ⟨R.r, 0, none⟩)] W (DidF DocAt W own p { X with rd := some (stepR X R) } N (.tuple #[cv (stepV X R), .bool (stepOk X R), .int .i64 (stepE X R)])) := by
  obtain ⟨o1, o2, bc, bs, cap, rb, h⟩ := h
  have hfr := h.d.fits.fr R hR
  have hrr : RAt W o2 p R := by have := h.r; rw [hR] at this; exact this
  obtain ⟨n, hn⟩ : ∃ n, X.s.length = n := ⟨_, rfl⟩
  have hqn : R.q < n := by rw [← hn]; exact hfr.q
  have i0 : ¬ ((R.q : Int) < 0) := by omega
  have i1 : ¬ n ≤ R.q := by omega
  have n64 : n ≤ 64 := by rw [← hn]; exact h.d.fits.n64
  have hsq := h.d.fits.sq hfr.q
  have HD := Lib.hid h
  have HFR := Lib.hid hfr
  have HN := Lib.hid hn
  rcases hrr with ⟨ha, -⟩ | ⟨ha, Lv, hrb, hrow, hLr, ho⟩
  case inl => exact absurd ha h0
  have e1 : stepR X R = { R with at' := 0, l := [] } := by rw [stepR, if_neg h0, if_neg h6]
  have e2 : stepE X R = 0 := by rw [stepE, if_neg h0, if_neg h6, if_pos hs0]
  have e3 : stepOk X R = true := by rw [stepOk, decide_eq_true hs0, decide_eq_true (by omega)]; rfl
  have e4 : stepV X R = of6 R.l := by rw [stepV, if_pos e3]
  have hfit := step_fits HD.out.d.fits HFR.out
  rw [e1] at hfit
  rw [e1, e2, e3, e4]
  have HFIT := Lib.hid hfit
  have H := Mem.start W
  have hat := HFR.out.len h0
  have h7 := HFR.out.at7
  have hl6 : R.l.length = 6 := by omega
  have tq : ((R.at' : Int) == 0) = false := by simp; exact h0
  have tq2 : decide ((R.at' : Int) ≤ 6) = false := decide_eq_false (by omega)
  have tq3 : (sq X (R.q : Int) == R.s0) = true := by simpa using hs0
  clear e1 e2 e3 e4 h hfr hn ha hfit hs0
  go_enter Try.func15, Try.ntmps15
  go_upto_region 1 with (first | ((with_reducible show wpList _ _ _ _ _ (World.alloc _ (.cells _ _))); refine mem_newb (l := []) H ?_; intro bx w3 hbk H2; try rw [← hbk]; clear hbk H; have H := H2; clear H2; simp only [List.cons_append, List.nil_append, List.set_cons_zero, List.set_cons_succ, List.setIfInBounds_toArray] at H))
  have hd := HD.out.d.on (W' := w3) fun i hi => H.below.block i (HD.out.d.lt i hi)
  have hrb3 := hrb.below H.below hrb.lt
  have hrow3 := ownsRow_on hrow (W' := w3) (fun i hi => H.below.block i (ownsRow_lt hrow i hi))
  have r0 : w3.cell? ⟨R.r, 0, none⟩ = some (.pointer (some ⟨p, 0, none⟩)) := hrb3.cell 0
  have r1 : w3.cell? ⟨R.r, 1, none⟩ = some (.int .i64 (R.q : Int)) := hrb3.cell 1
  have r2 : w3.cell? ⟨R.r, 2, none⟩ = some (.int .i64 (R.at' : Int)) := hrb3.cell 2
  have r3 : w3.cell? ⟨R.r, 3, none⟩ = some (.int .i64 R.s0) := hrb3.cell 3
  have r4 : w3.cell? ⟨R.r, 4, none⟩ = some Lv := hrb3.cell 4
  have z2 : w3.frozen? ⟨R.r, 2, none⟩ = false := hrb3.frozen 2
  have lr := hrb3.lt
  have p1 : w3.cell? ⟨p, 1, none⟩ = some (sl bs X.s) := hd.box.cell 1
  have p0 : w3.cell? ⟨p, 0, none⟩ = some (.slice (some ⟨bc, 0, none⟩) X.s.length cap) := hd.box.cell 0
  rw [sl] at p1
  rw [HN.out] at p1 p0
  obtain ⟨ts, hts⟩ := hd.hs
  have gs := Held.num hts (sq_at HFR.out.q)
  have cr := DAt.row w3 o1 p bc bs cap rb X N hd HFR.out.q
  have lp := hd.box.lt
  have lb := hts.lt
  obtain ⟨tc, ccs, htc, -⟩ := hd.hc
  have lc := htc.lt
  clear hts htc
  have hxn : W.heap.size ≤ bx := (H.held _ List.mem_cons_self).1
  have hne : bx ≠ R.r := by have := hrb.lt; omega
  have gx0 := ((H.at 0 rfl).other hne 2 (.int .i64 0)).drew
  have hr5 := (hrb3.set 2 (.int .i64 0)).drew
  have hf5 := ((Foot.of_below H.below : Foot o2 W w3).setCell (p := ⟨R.r, 2, none⟩) (fun _ => (ho _).2 (.inl rfl)) (.int .i64 0)).drew
  have hrow5 := ownsRow_on (W' := (w3.setCell ⟨R.r, 2, none⟩ (.int .i64 0)).drew) hrow3 (fun i hi => Below.heap_setCell _ _ _ _ (fun e => hLr (by rw [hi, e])))
  have HQ := Lib.hid (And.intro gx0 (And.intro hr5 (And.intro hf5 (And.intro ho hrow5))))
  clear hd hrb3 hrb ho gx0 hr5 hf5 H hrow hrow3 hrow5 hLr h7
  generalize sq X (R.q : Int) = s at *
  go_wp2_with fail
  go_region
  go_upto_region 16 with fail
  generalize (w3.setCell ⟨R.r, 2, none⟩ (.int .i64 0)).drew = V at HQ ⊢
  obtain ⟨g, gc, rfl, lg, hc6⟩ := row_cells hl6 HQ.out.2.2.2.2
  have gx := HQ.out.1
  have q4 : V.cell? ⟨R.r, 4, none⟩ = some (.slice (some ⟨g, 0, none⟩) 6 gc) := HQ.out.2.1.cell 4
  have lr2 := HQ.out.2.1.lt
  have kc := counts_r g gc (of6 R.l) V lg hc6
  have HH := Mem.start V
  generalize of6 R.l = cc at *
  go_wp2_with (first
    | go_skip
    | (go_at_call 32; refine kc.mono ?_; rintro e w2 ⟨rfl, hb⟩; have hb2 := Lib.hid hb; have g4 := gx.below hb gx.lt)
    | ((with_reducible show wpList _ _ _ (⟨_, .store 42 _ _, _, _, _, _⟩ :: _) _ _); refine store_held g4 (by first | exact wanted_none rfl | exact wanted_some rfl rfl rfl rfl) (by exact rfl) (by exact rfl) (by exact rfl) (by exact cInfo) (by exact rfl) (by exact rfl) ?_; intro w5 g5 F5))
  refine bodyPost_ret (results_ctt rfl rfl (load_c6 (c := cc) g5)) rfl ?_
  refine HD.out.rput (R' := { R with at' := 0, l := [] }) (o2' := fun i => i = R.r) ((HQ.out.2.2.1.trans (Foot.of_below hb2.out : Foot o2 V w2) (fun i _ h => h)).trans F5 (fun i hi (e : i = bx) => by omega)) (.inl ⟨rfl, ⟨_, _, (HQ.out.2.1.below hb2.out lr2).foot F5 (fun e => hne e.symm)⟩, fun i => Iff.rfl⟩) (fun i hi => .inl ((HQ.out.2.2.2.1 i).2 (.inl hi))) HFIT.out rfl
theorem step_r (W : World) (own : Nat → Prop) (p : Nat) (X : TS) (N : Nat) (R : RD) (hR : X.rd = some R) (h : DocAt W own p X N) : Calls Try.prog 15 #[.pointer (some ⟨R.r, 0, none⟩)] W (DidF DocAt W own p { X with rd := some (stepR X R) } N (.tuple #[cv (stepV X R), .bool (stepOk X R), .int .i64 (stepE X R)])) := by
  by_cases h0 : R.at' = 0
  · by_cases ho : sq X R.q % 2 = 1
    · exact step_odd W own p X N R hR h h0 ho
    · exact step_begin W own p X N R hR h h0 ho
  · by_cases h6 : R.at' ≤ 6
    · exact step_load W own p X N R hR h h0 h6
    · by_cases hs : sq X R.q = R.s0
      · exact step_same W own p X N R hR h h0 h6 hs
      · exact step_diff W own p X N R hR h h0 h6 hs
end Go.Proofs.Ytdhjdkhhhdcjdaa.Ta
end
/- The document's New. -/
section
namespace Go.Proofs.Ytdhjdkhhhdcjdaa.Ta
set_option linter.unusedSimpArgs false
set_option linter.unusedVariables false
set_option maxRecDepth 100000
open Go.Joins Go.Deep Go.ChangeShapes Go.WideShapes Go.ChangeAt Go.RowKit Go.Joins Go.Deep

theorem infoI64 : (Try.prog.info? 2).map (fun i => (i.zero, i.size, i.bytes)) = some (some (.int .i64 0), 1, 8) := by kernel_rfl
theorem infoRow : (Try.prog.info? 35).map (fun i => (i.zero, i.size, i.bytes)) = some (some (.slice none 0 0), 1, 24) := by kernel_rfl
theorem infoRows : (Try.prog.info? 69).map (·.size) = some 1 := by kernel_rfl
theorem made_ints (n : Nat) : madeCells (Value.int .i64 0).cells n = ints (List.replicate n 0) := by
  apply Array.ext
  · simp [madeCells, Value.cells, ints]
  · intro i h1 h2
    simp [madeCells, Value.cells, ints, Nat.mod_one]
theorem make_ints (n : Nat) (hn : n ≤ 64) (W : World) : (Instr.makeSlice 68 (.int .i64 (n : Int)) (.int .i64 (n : Int))).run Try.prog W = .ok (.slice (some ⟨W.heap.size, 0, none⟩) n n) (W.alloc (.cells (ints (List.replicate n 0)) 2)) := by
  obtain ⟨i0, hi, hz0, hz1, hz2⟩ := info_parts infoI64
  have h := run_makeSlice (P := Try.prog) W 68 2 i0 _ Try.underlying68 hi hz0 .i64 .i64 n n (by omega) (by omega) (by rw [hz1]; omega) (by rw [hz2]; omega) (by omega)
  rw [hz1] at h
  simp only [Int.toNat_natCast, Nat.mul_one, made_ints] at h
  exact h
/-- i rows are there -/
structure NewI (W wr : World) (n p bs i : Nat) (v : Value) (rb : Nat → Nat) : Prop where
  below : Below W.heap.size W wr
  box : Held wr p 71 #[v, .slice (some ⟨bs, 0, none⟩) n n]
  hs : Held wr bs 2 (ints (List.replicate n 0))
  row : wr.ownsRow 0 35 1 v i ((List.range i).map fun k => rowV (rb k))
  hr : ∀ k, k < i → Held wr (rb k) 40 (row6 zero6)
  inj : ∀ j k, j < i → k < i → rb j = rb k → j = k
  ne : p ≠ bs
  nv : ∀ b, v.ownBlock = some b → b ≠ p ∧ b ≠ bs ∧ W.heap.size ≤ b
  nr : ∀ k, k < i → rb k ≠ p ∧ rb k ≠ bs ∧ v.ownBlock ≠ some (rb k) ∧ W.heap.size ≤ rb k
  lo : W.heap.size ≤ p ∧ W.heap.size ≤ bs
theorem NewI.next {W wr w6 w7 : World} {n p bs i bR : Nat} {v v' : Value} {rb : Nat → Nat} (h : NewI W wr n p bs i v rb) (hb : Below wr.heap.size wr w6) (hR : Held w6 bR 40 (row6 zero6)) (hRn : wr.heap.size ≤ bR)
    (q1 : w7.ownsRow 0 35 1 v' (i + 1) ((List.range i).map (fun k => rowV (rb k)) ++ [rowV bR])) (q2 : w6.grownBy w7 v.ownBlock) (q3 : v'.ownBlock = v.ownBlock ∨ v'.ownBlock = some w6.heap.size) :
    NewI W (w7.setCell ⟨p, 0, none⟩ v') n p bs (i + 1) v' (fun k => if k = i then bR else rb k) := by
  have hvl : ∀ b, v.ownBlock = some b → b < wr.heap.size := ownsRow_lt h.row
  have hpl := h.box.lt
  have hbl := h.hs.lt
  have hRl := hR.lt
  have h67 := q2.size
  have hwr := hb.size
  have hv6 : ∀ b, v'.ownBlock = some b → v.ownBlock = some b ∨ b = w6.heap.size := fun b e => by
    rcases q3 with e2 | e2
    · exact .inl (e2 ▸ e)
    · rw [e2] at e
      exact .inr (by simpa using e.symm)
  -- what stays
  have keep : ∀ b, b < w6.heap.size → some b ≠ v.ownBlock → b ≠ p → (w7.setCell ⟨p, 0, none⟩ v').heap[b]? = w6.heap[b]? := fun b h1 h2 h3 => (Below.heap_setCell w7 ⟨p, 0, none⟩ v' b h3).trans (q2.block b h1 h2)
  have keep0 : ∀ b, b < wr.heap.size → some b ≠ v.ownBlock → b ≠ p → (w7.setCell ⟨p, 0, none⟩ v').heap[b]? = wr.heap[b]? := fun b h1 h2 h3 => (keep b (by omega) h2 h3).trans (hb.block b h1)
  have hp7 : Held w7 p 71 #[v, .slice (some ⟨bs, 0, none⟩) n n] := (q2.block p (by omega) (fun e => (h.nv p e.symm).1 rfl)).trans (h.box.below hb h.box.lt)
  have hF : Foot (fun b => b = p ∨ v.ownBlock = some b) wr (w7.setCell ⟨p, 0, none⟩ v') := ((Foot.of_below hb).grown q2 (fun k e _ => .inr e)).setCell (fun _ => .inl rfl) v'
  refine ⟨?_, hp7.set 0 v', ?_, ?_, fun k hk => ?_, fun j k hj hk e => ?_, h.ne, fun b e => ?_, fun k hk => ?_, h.lo⟩
  · exact h.below.trans (hF.below h.below.size (fun b hb2 => by
      rcases hb2 with e | e
      · rw [e]; exact h.lo.1
      · exact (h.nv b e).2.2))
  · exact (keep0 bs hbl (fun e => (h.nv bs e.symm).2.1 rfl) (fun e => h.ne e.symm)).trans h.hs
  · have e : (List.range (i + 1)).map (fun k => rowV (if k = i then bR else rb k)) = (List.range i).map (fun k => rowV (rb k)) ++ [rowV bR] := by
      rw [List.range_succ, List.map_append, List.map_singleton, if_pos rfl]
      congr 1
      refine List.map_congr_left fun k hk => ?_
      rw [if_neg (by have := List.mem_range.1 hk; omega)]
    rw [e]
    refine ownsRow_on q1 fun b hb2 => Below.heap_setCell _ _ _ _ ?_
    rcases hv6 b hb2 with e2 | e2
    · exact (h.nv b e2).1
    · show b ≠ p
      omega
  · show Held _ (if k = i then bR else rb k) _ _
    by_cases e : k = i
    · rw [if_pos e]
      exact (keep bR hRl (fun e2 => by have := hvl bR e2.symm; omega) (by omega)).trans hR
    · rw [if_neg e]
      have hk2 : k < i := by omega
      have := (h.hr k hk2).lt
      exact (keep0 (rb k) this (fun e2 => (h.nr k hk2).2.2.1 e2.symm) (h.nr k hk2).1).trans (h.hr k hk2)
  · by_cases e1 : j = i
    · by_cases e2 : k = i
      · omega
      · rw [if_pos e1, if_neg e2] at e
        have := (h.hr k (by omega)).lt
        omega
    · by_cases e2 : k = i
      · rw [if_neg e1, if_pos e2] at e
        have := (h.hr j (by omega)).lt
        omega
      · rw [if_neg e1, if_neg e2] at e
        exact h.inj j k (by omega) (by omega) e
  · have hW := h.below.size
    rcases hv6 b e with e2 | e2
    · exact h.nv b e2
    · exact ⟨by omega, by omega, by omega⟩
  · have hW := h.below.size
    by_cases e : k = i
    · rw [if_pos e]
      refine ⟨by omega, by omega, fun e2 => ?_, by omega⟩
      rcases hv6 bR e2 with e3 | e3
      · have := hvl bR e3
        omega
      · omega
    · rw [if_neg e]
      have hk2 : k < i := by omega
      have hlk := (h.hr k hk2).lt
      have h4 := h.nr k hk2
      refine ⟨h4.1, h4.2.1, fun e2 => ?_, h4.2.2.2⟩
      rcases hv6 _ e2 with e3 | e3
      · exact h4.2.2.1 e3
      · omega
theorem NewI.done {W wr : World} {n p bs : Nat} {v : Value} {rb : Nat → Nat} (hq : okQ (n : Int) = true) (h : NewI W wr n p bs n v rb) {e : Ending} (he : e = .returned (.tuple #[.pointer (some ⟨p, 0, none⟩), .int .i64 0])) : NewF DocAt W (zeroT (n : Int)) e wr := by
  have hf := FitsT.zero (n : Int) hq
  have hln : (zeroT (n : Int)).s.length = n := by simp [zeroT]
  have hn1 : 1 ≤ n := by have := hf.n1; rw [hln] at this; exact this
  rcases h.row.2 with ⟨-, e⟩ | ⟨g, cap, cur, rfl, -, hg, hle, -, hsz, htk⟩
  · omega
  have hgl := (Array.getElem?_eq_some_iff.1 hg).1
  have hv := h.nv g rfl
  refine ⟨p, fun i => i = p ∨ i = g ∨ i = bs ∨ ∃ k, k < (zeroT (n : Int)).s.length ∧ i = rb k, he, ⟨fun i => i = p ∨ i = g ∨ i = bs ∨ ∃ k, k < (zeroT (n : Int)).s.length ∧ i = rb k, fun _ => False, g, bs, cap, rb, ⟨⟨?_, ⟨2, ?_⟩, ⟨35, cur, hg, fun k hk => ?_⟩, fun k hk => ⟨40, ?_⟩, ?_, ⟨hv.1.symm, h.ne, hv.2.1⟩, ?_, fun i => Iff.rfl, hf⟩, (fun i hi => hi), fun i _ hi => hi, fun i => ⟨fun hi => .inl hi, fun hi => hi.elim id False.elim⟩⟩⟩, h.below, ?_⟩
  · rw [sl, hln]; exact h.box
  · have e2 : (zeroT (n : Int)).s = List.replicate n 0 := by simp [zeroT]
    rw [e2]; exact h.hs
  · rw [hln] at hk
    have e2 : (cur.toList.take (n * 1))[k]? = ((List.range n).map fun k => rowV (rb k))[k]? := by rw [htk]
    rw [List.getElem?_take_of_lt (by omega), Array.getElem?_toList, List.getElem?_map, List.getElem?_range hk] at e2
    exact e2
  · have hk2 := hk
    rw [hln] at hk2
    have e2 : kq (zeroT (n : Int)) (k : Int) = zero6 := by
      have := kq_at hf hk
      exact (List.mem_replicate.1 (List.mem_of_getElem? this)).2
    rw [e2]; exact h.hr k hk2
  · rw [hln]; exact h.inj
  · rw [hln]
    exact fun k hk => ⟨(h.nr k hk).1, fun e => (h.nr k hk).2.2.1 (by rw [e]; rfl), (h.nr k hk).2.1⟩
  · rw [hln]
    rintro i (e | e | e | ⟨k, hk, e⟩)
    · rw [e]; exact h.lo.1
    · rw [e]; exact hv.2.2
    · rw [e]; exact h.lo.2
    · rw [e]; exact (h.nr k hk).2.2.2
theorem new_no_d (n : Int) (h : okQ n = false) (W : World) : Calls Try.prog 12 #[.int .i64 n] W fun e w' => e = .returned (.tuple #[.pointer none, .int .i64 2]) ∧ Below W.heap.size W w' := by
  have H := Mem.start W
  by_cases h1 : n < 1
  · have t1 : decide (n < 1) = true := decide_eq_true h1
    clear h h1
    go_enter Try.func12, Try.ntmps12
    go_wp2
    refine bodyPost_ret (results_two rfl _ _ _) rfl ?_
    exact ⟨rfl, H.below⟩
  · have t1 : decide (n < 1) = false := decide_eq_false h1
    have h2 : n > 64 := by
      simp only [okQ, Bool.and_eq_false_iff, decide_eq_false_iff_not] at h
      omega
    have t2 : decide (n > 64) = true := decide_eq_true h2
    have t3 : decide (64 < n) = true := decide_eq_true h2
    clear h h1 h2
    go_enter Try.func12, Try.ntmps12
    go_wp2
    refine bodyPost_ret (results_two rfl _ _ _) rfl ?_
    exact ⟨rfl, H.below⟩
set_option maxHeartbeats 4000000 in
theorem new_yes_d (m : Int) (h : okQ m = true) (W : World) : Calls Try.prog 12 #[.int .i64 m] W (NewF DocAt W (zeroT m)) := by
  have hm0 := h
  simp only [okQ, Bool.and_eq_true, decide_eq_true_eq] at hm0
  obtain ⟨n, rfl⟩ : ∃ n : Nat, m = n := ⟨m.toNat, by omega⟩
  have n64 : n ≤ 64 := by omega
  have HO := Lib.hid h
  have t1 : decide ((n : Int) < 1) = false := decide_eq_false (by omega)
  have t2 : decide ((n : Int) > 64) = false := decide_eq_false (by omega)
  have t3 : decide (64 < (n : Int)) = false := decide_eq_false (by omega)
  have hmk := make_ints n n64
  have H := Mem.start W
  clear h hm0
  go_enter Try.func12, Try.ntmps12
  have h0 : NewI W ((W.alloc (.cells (ints (List.replicate n 0)) 2)).alloc (.cells #[.slice none 0 0, .slice (some ⟨W.heap.size, 0, none⟩) n n] 71)) n (W.heap.size + 1) W.heap.size 0 (.slice none 0 0) (fun _ => 0) := by
    have hb1 := Held.new (W.alloc (.cells (ints (List.replicate n 0)) 2)) 71 #[.slice none 0 0, .slice (some ⟨W.heap.size, 0, none⟩) n n]
    rw [World.size_alloc] at hb1
    exact ⟨((H.alloc _ _).alloc _ _).below, hb1, (Held.new W 2 (ints (List.replicate n 0))).alloc _, World.ownsRow_nil _ _ _ _, (fun k hk => by omega), (fun j k hj => by omega), (by omega), (fun b e => by cases e), (fun k hk => by omega), ⟨by omega, by omega⟩⟩
  go_upto_region 4 with fail
  generalize (W.alloc (.cells (ints (List.replicate n 0)) 2)).alloc (.cells #[.slice none 0 0, .slice (some ⟨W.heap.size, 0, none⟩) n n] 71) = W2 at h0 ⊢
  generalize W.heap.size + 1 = p at h0 ⊢
  generalize W.heap.size = bs at h0 ⊢
  clear H hmk t1 t2 t3
  have hm6 := make_six
  go_wp2
  go_loopw [5] (fun iv wr => ∃ (i : Nat) (v : Value) (rb : Nat → Nat), i ≤ n ∧ iv = .int .i64 i ∧ NewI W wr n p bs i v rb) (fun iv _ => n - (intOf iv).toNat)
  case atStart => exact ⟨0, _, _, Nat.zero_le _, rfl, h0⟩
  case round =>
    clear h0
    obtain ⟨i, v, rb, hi, rfl, HI⟩ := hrel
    by_cases hlt : i < n
    · have t1 : decide ((i : Int) < (n : Int)) = true := decide_eq_true (by omega)
      have c0 : wr.cell? ⟨p, 0, none⟩ = some v := HI.box.cell 0
      have lp := HI.box.lt
      have HX := Lib.hid HI
      obtain ⟨u0, hi0, hu0, hu1, hu2⟩ := info_parts infoRow
      have H := Mem.start wr
      clear HI
      go_upto_region 7 with fail
      refine region_memk H 7 11 rfl (by kernel_rfl) (fun wr0 hcl hS => ?_)
      clear H
      refine wpAnyG_pure (i := 0) (v := .pointer (some ⟨p, 0, none⟩)) rfl rfl (by kernel_rfl) (by kernel_rfl) (by kernel_rfl) (fun _ _ _ h => h) (by decide) ⟨by rfl, fun w _ => (by go_simp; try (first | (simp only [IntKind.wrap_u32]; done) | rfl)), fun _ => rfl⟩ (.inr hS) ?_
      have hc1 := hcl.step (i := 0) (by kernel_rfl)
      clear hcl; have hcl := hc1; clear hc1; simp only [List.getElem_toArray, List.getElem_cons_zero, List.getElem_cons_succ, Act.put, List.setIfInBounds_toArray, List.set_cons_zero, List.set_cons_succ]
      refine wpAnyG_pure (i := 1) (v := .pointer (some ⟨p, 0, none⟩)) rfl rfl (by kernel_rfl) (by kernel_rfl) (by kernel_rfl) (fun _ _ _ h => h) (by decide) ⟨by rfl, fun w _ => (by go_simp; try (first | (simp only [IntKind.wrap_u32]; done) | rfl)), fun _ => rfl⟩ (.inr hS) ?_
      have hc1 := hcl.step (i := 1) (by kernel_rfl)
      clear hcl; have hcl := hc1; clear hc1; simp only [List.getElem_toArray, List.getElem_cons_zero, List.getElem_cons_succ, Act.put, List.setIfInBounds_toArray, List.set_cons_zero, List.set_cons_succ]
      refine wpAnyG_pure (i := 2) (v := .pointer (some ⟨p, 0, none⟩)) rfl rfl (by kernel_rfl) (by kernel_rfl) (by kernel_rfl) (fun _ _ _ h => h) (by decide) ⟨by rfl, fun w _ => (by go_simp; try (first | (simp only [IntKind.wrap_u32]; done) | rfl)), fun _ => rfl⟩ (.inr hS) ?_
      have hc1 := hcl.step (i := 2) (by kernel_rfl)
      clear hcl; have hcl := hc1; clear hc1; simp only [List.getElem_toArray, List.getElem_cons_zero, List.getElem_cons_succ, Act.put, List.setIfInBounds_toArray, List.set_cons_zero, List.set_cons_succ]
      refine wpAnyG_pure (i := 3) (v := .pointer (some ⟨p, 0, none⟩)) rfl rfl (by kernel_rfl) (by kernel_rfl) (by kernel_rfl) (fun _ _ _ h => h) (by decide) ⟨by rfl, fun w _ => (by go_simp; try (first | (simp only [IntKind.wrap_u32]; done) | rfl)), fun _ => rfl⟩ (.inr hS) ?_
      have hc1 := hcl.step (i := 3) (by kernel_rfl)
      clear hcl; have hcl := hc1; clear hc1; simp only [List.getElem_toArray, List.getElem_cons_zero, List.getElem_cons_succ, Act.put, List.setIfInBounds_toArray, List.set_cons_zero, List.set_cons_succ]
      refine wpAnyG_take (i := 4) 8 (v := v) rfl rfl (by kernel_rfl) (by kernel_rfl) (by kernel_rfl) (fun _ _ _ h => h) (by kernel_rfl) (by decide) hcl (yields_old c0 lp (by exact rfl) (by exact rfl) (by exact rfl) (by first | exact Try.underlying3 | exact Try.underlying2 | exact Try.underlying40 | exact Try.underlying68 | exact Try.underlying35 | exact Try.underlying69 | exact Try.underlying28) rfl) hS (fun hc1 => ?_)
      clear hcl; have hcl := hc1; clear hc1; simp only [List.getElem_toArray, List.getElem_cons_zero, List.getElem_cons_succ, Act.put, List.setIfInBounds_toArray, List.set_cons_zero, List.set_cons_succ]
      refine wpAnyG_one (i := 5) (by kernel_rfl) rfl (fun K hK => ?_)
      go_simp
      refine hK _ _ (.inr (hS.skip _)) ?_
      clear hK K
      have hc1 := hcl.step (i := 5) (by kernel_rfl)
      clear hcl
      have hcl := hc1
      clear hc1
      try simp only [List.getElem_toArray, List.getElem_cons_zero, List.getElem_cons_succ, Act.put, List.setIfInBounds_toArray, List.set_cons_zero, List.set_cons_succ]
      have hN := hS.alloc 40 (row6 zero6)
      have hS5 := hS.skip (.cells (row6 zero6) 40)
      have hwr := hS.below.size
      clear hS
      generalize hbR : wr0.heap.size = bR at *
      generalize wr0.alloc (.cells (row6 zero6) 40) = w5 at *
      try simp only [List.cons_append, List.nil_append] at hN
      refine wpAnyG_one (i := 6) (by kernel_rfl) rfl (fun K hK => ?_)
      go_simp
      refine hK _ _ (.inr (hS5.skip _)) ?_
      clear hK K
      have hc1 := hcl.step (i := 6) (by kernel_rfl)
      clear hcl
      have hcl := hc1
      clear hc1
      try simp only [List.getElem_toArray, List.getElem_cons_zero, List.getElem_cons_succ, Act.put, List.setIfInBounds_toArray, List.set_cons_zero, List.set_cons_succ]
      have hn2 := hN.skip (.cells #[rowV bR] 35)
      have hnew := cell_one_new w5 (rowV bR) 35
      have hw5 := hN.below.size
      clear hN hS5
      generalize hbN : w5.heap.size = bN at *
      generalize w5.alloc (.cells #[rowV bR] 35) = w6 at *
      have hrow6 := ownsRow_on HX.out.row (W' := w6) (fun b hb => hn2.below.block b (ownsRow_lt HX.out.row b hb))
      refine wpAnyG_one (i := 7) (by kernel_rfl) rfl (fun K hK => ?_)
      rw [if_pos (by exact rfl)]
      refine wpIn_append_own _ _ _ rfl 0 35 u0 (.slice none 0 0) 1 24 Try.underlying69 hi0 hu0 hu1 hu2 rfl (by omega) v i ((List.range i).map fun k => rowV (rb k)) (by exact rfl) hrow6 ⟨bN, 0, none⟩ 1 1 [rowV bR] (by exact rfl) rfl hnew (by simp [Value.oneCell']) (by unfold maxLen; omega) (by omega) (by omega) ?_
      intro v' w7 q1 q2 q3 q4
      refine hK _ _ (.inl (by kernel_rfl)) ?_
      clear hK K
      try simp only [List.getElem_toArray, List.getElem_cons_zero, List.getElem_cons_succ, Act.put, List.setIfInBounds_toArray, List.set_cons_zero, List.set_cons_succ]
      have hnx := NewI.next HX.out hn2.below (hn2.held _ List.mem_cons_self).2 hwr q1 q2 q3
      have hone : v'.oneCell' = true := by
        rcases q1.2 with ⟨e, -⟩ | ⟨g, cap, cur, e, -⟩
        · rw [e]; rfl
        · rw [e]; rfl
      have hp7 : Held w7 p 71 #[v, .slice (some ⟨bs, 0, none⟩) n n] := (q2.block p (Nat.lt_of_lt_of_le lp hn2.below.size) (fun e => (HX.out.nv p e.symm).1 rfl)).trans (HX.out.box.below hn2.below HX.out.box.lt)
      have c4 : w7.cell? ⟨p, 0, none⟩ = some v := hp7.cell 0
      have z4 : w7.frozen? ⟨p, 0, none⟩ = false := hp7.frozen 0
      clear hp7 q1 q2 q3 q4 hrow6 hn2 hnew hcl c0 lp hbR hbN
      refine wpAnyG_one (i := 8) (by kernel_rfl) rfl (fun K hK => ?_)
      go_simp
      refine hK _ _ (.inl (by kernel_rfl)) ?_
      clear hK K
      try simp only [List.getElem_toArray, List.getElem_cons_zero, List.getElem_cons_succ, Act.put, List.setIfInBounds_toArray, List.set_cons_zero, List.set_cons_succ]
      refine wpAnyG_one (i := 9) (by kernel_rfl) rfl (fun K hK => ?_)
      go_simp
      refine hK _ _ (.inl (by kernel_rfl)) ?_
      clear hK K
      try simp only [List.getElem_toArray, List.getElem_cons_zero, List.getElem_cons_succ, Act.put, List.setIfInBounds_toArray, List.set_cons_zero, List.set_cons_succ]
      refine wpAnyG_one (i := 10) (by kernel_rfl) rfl (fun K hK => ?_)
      rw [if_pos (by exact rfl)]
      refine wpIn_store_old c4 z4 rfl (by exact rfl) (by exact rfl) infoRows hone ?_
      refine hK _ _ (.inl (by kernel_rfl)) ?_
      clear hK K
      refine wpAnyG_done (by kernel_rfl) ?_ _
      generalize w7.setCell ⟨p, 0, none⟩ v' = w8 at hnx ⊢
      have HN2 := Lib.hid hnx
      clear hnx c4 z4
      go_wp2
      go_roundw
      case rel => exact ⟨i + 1, _, _, by omega, by go_num, HN2.out⟩
      case measure => simp [intOf]; omega
    · obtain rfl : i = n := by omega
      have t1 : decide ((i : Int) < (i : Int)) = false := decide_eq_false (by omega)
      have HX := Lib.hid HI
      clear HI
      go_wp2
      refine bodyPost_ret (results_two rfl _ _ _) rfl ?_
      exact NewI.done HO.out HX.out rfl
end Go.Proofs.Ytdhjdkhhhdcjdaa.Ta
end
/- The document's calls as steps of a law's state; a state with a reader put into it. -/
section
namespace Go.Proofs.Ytdhjdkhhhdcjdaa.Ta
set_option linter.unusedSimpArgs false
set_option linter.unusedVariables false
set_option maxRecDepth 100000
open Go.Joins Go.Deep Go.ChangeShapes Go.WideShapes Go.ChangeAt Go.RowKit

/-- a tally with this reader -/
def TS.rat (s : TS) (o : Option RD) : TS := { s with rd := o }
theorem rat_rd {s : TS} {o : Option RD} (h : s.rd = o) : s.rat o = s := by rw [← h]; rfl
theorem openS_at (s : TS) (o : Option RD) (q : Int) : openS (s.rat o) q = (openS s q).rat o := by
  unfold openS
  rw [show openE (s.rat o) q = openE s q from rfl]
  split <;> rfl
theorem shutS_at (s : TS) (o : Option RD) (q : Int) : shutS (s.rat o) q = (shutS s q).rat o := by
  unfold shutS
  rw [show shutE (s.rat o) q = shutE s q from rfl]
  split <;> rfl
theorem addS_at (s : TS) (o : Option RD) (q f v : Int) : addS (s.rat o) q f v = (addS s q f v).rat o := by
  unfold addS
  rw [show addE (s.rat o) q f = addE s q f from rfl]
  split <;> rfl
theorem noteS_at (s : TS) (o : Option RD) (q : Int) (c : C6) : noteS (s.rat o) q c = (noteS s q c).rat o := by
  unfold noteS
  rw [show openE (s.rat o) q = openE s q from rfl]
  split <;> rfl
/-- the same reader in another block -/
def RD.to (R : RD) (b : Nat) : RD := { R with r := b }
theorem stepR_to (s : TS) (o : Option RD) (R : RD) (b : Nat) : stepR (s.rat o) (R.to b) = (stepR s R).to b := by
  unfold stepR
  rw [show (R.to b).at' = R.at' from rfl, show sq (s.rat o) (R.to b).q = sq s R.q from rfl]
  split
  · split <;> rfl
  · split <;> rfl
section
variable {P1 : PT} (o1 : PtOk P1) {W0 W : World} {T : Nat → Prop} {K : World → Prop} (hk : Kept T K) {p1 N1 p2 N2 : Nat} {s1 s2 : TS}
include o1 hk
theorem newR (h : St P1 NoT W0 W T K p1 s1 N1 p2 s2 N2) (n : Int) (ho : okQ n = true) : Calls Try.prog 12 #[.int .i64 n] W fun e w' => ∃ p, e = .returned (.tuple #[.pointer (some ⟨p, 0, none⟩), .int .i64 0]) ∧ St P1 DocAt W0 w' T K p1 s1 N1 p (zeroT n) 0 :=
  (h.symm.made o1 hk (new_yes_d n ho W)).mono fun e w' ⟨p, h1, h2⟩ => ⟨p, h1, h2.symm⟩
/-- the document's reader is laid -/
theorem readerR (h : St P1 DocAt W0 W T K p1 s1 N1 p2 s2 N2) (hr : s2.rd = none) {W' : World} {b : Nat} (hn : 0 < s2.s.length) (H : Mem W W' [(b, 37, #[.pointer (some ⟨p2, 0, none⟩), .int .i64 0, .int .i64 0, .int .i64 0, .slice none 0 0])]) : St P1 DocAt W0 W' T K p1 s1 N1 p2 (s2.rat (some ⟨b, 0, 0, 0, []⟩)) N2 := by
  obtain ⟨own, own2, h⟩ := h.symm
  have hh := H.held _ List.mem_cons_self
  have hd : DidF DocAt W own p2 (s2.rat (some ⟨b, 0, 0, 0, []⟩)) N2 (.bool true) (.returned (.bool true)) W' := by
    obtain ⟨q1, q2, bc, bs, cap, rb, hs⟩ := h.a1
    have hR : FitsR s2.s.length N2 ⟨b, 0, 0, 0, []⟩ := start_fits b 0 hn
    have hd := hs.d.on (W' := W') fun i hi => H.below.block i (hs.d.lt i hi)
    refine ⟨rfl, ⟨fun i => q1 i ∨ i = b, ⟨q1, fun i => i = b, bc, bs, cap, rb, ⟨⟨hd.box, hd.hs, hd.hc, hd.hr, hd.inj, hd.ne, hd.nr, hd.own, hs.d.fits.read hR⟩, .inl ⟨rfl, ⟨_, _, hh.2⟩, fun i => Iff.rfl⟩, fun i h1 h2 => ?_, fun i => Iff.rfl⟩⟩, fun i hi => ?_⟩, Foot.of_below H.below⟩
    · have := hs.d.lt i h1
      have := hh.1
      omega
    · rcases hi with hi | hi
      · exact .inl ((hs.own i).2 (.inl hi))
      · rw [hi]
        exact .inr hh.1
  exact (St.stepD DocAt.pt o1 hk h hd).2.symm
theorem stepRR (h : St P1 DocAt W0 W T K p1 s1 N1 p2 s2 N2) (R : RD) (hR : s2.rd = some R) : Calls Try.prog 15 #[.pointer (some ⟨R.r, 0, none⟩)] W fun e w' => e = .returned (.tuple #[cv (stepV s2 R), .bool (stepOk s2 R), .int .i64 (stepE s2 R)]) ∧ St P1 DocAt W0 w' T K p1 s1 N1 p2 { s2 with rd := some (stepR s2 R) } N2 :=
  (h.symm.step DocAt.pt o1 hk fun own a2 => step_r W own p2 s2 N2 R hR a2).mono fun e w' hh => ⟨hh.1, hh.2.symm⟩
theorem openR (h : St P1 DocAt W0 W T K p1 s1 N1 p2 s2 N2) (hN : N2 ≤ 1000000) (q : Int) : Calls Try.prog 33 #[.pointer (some ⟨p2, 0, none⟩), .int .i64 q] W fun e w' => e = .returned (.int .i64 (openE s2 q)) ∧ St P1 DocAt W0 w' T K p1 s1 N1 p2 (openS s2 q) (N2 + 2) :=
  (h.symm.step DocAt.pt o1 hk fun own a2 => open_r W own p2 s2 N2 q hN a2).mono fun e w' hh => ⟨hh.1, hh.2.symm⟩
theorem shutR (h : St P1 DocAt W0 W T K p1 s1 N1 p2 s2 N2) (hN : N2 ≤ 1000000) (q : Int) : Calls Try.prog 35 #[.pointer (some ⟨p2, 0, none⟩), .int .i64 q] W fun e w' => e = .returned (.int .i64 (shutE s2 q)) ∧ St P1 DocAt W0 w' T K p1 s1 N1 p2 (shutS s2 q) (N2 + 2) :=
  (h.symm.step DocAt.pt o1 hk fun own a2 => shut_r W own p2 s2 N2 q hN a2).mono fun e w' hh => ⟨hh.1, hh.2.symm⟩
theorem addR (h : St P1 DocAt W0 W T K p1 s1 N1 p2 s2 N2) (hN : N2 ≤ 1000000) (q f v : Int) (hv : 0 ≤ v ∧ v ≤ 4294967295) : Calls Try.prog 34 #[.pointer (some ⟨p2, 0, none⟩), .int .i64 q, .int .i64 f, .int .u32 v] W fun e w' => e = .returned (.int .i64 (addE s2 q f)) ∧ St P1 DocAt W0 w' T K p1 s1 N1 p2 (addS s2 q f v) N2 :=
  (h.symm.step DocAt.pt o1 hk fun own a2 => add_r W own p2 s2 N2 q f v hv hN a2).mono fun e w' hh => ⟨hh.1, hh.2.symm⟩
theorem noteR (h : St P1 DocAt W0 W T K p1 s1 N1 p2 s2 N2) (hN : N2 ≤ 1000000) (q : Int) (c : C6) (hc : c.Fits) : Calls Try.prog 36 #[.pointer (some ⟨p2, 0, none⟩), .int .i64 q, cv c] W fun e w' => e = .returned (.int .i64 (openE s2 q)) ∧ St P1 DocAt W0 w' T K p1 s1 N1 p2 (noteS s2 q c) (N2 + 2) :=
  (h.symm.step DocAt.pt o1 hk fun own a2 => note_r W own p2 s2 N2 q c hc hN a2).mono fun e w' hh => ⟨hh.1, hh.2.symm⟩
theorem readR (h : St P1 DocAt W0 W T K p1 s1 N1 p2 s2 N2) (hN : N2 ≤ 1000000) (q : Int) : Calls Try.prog 37 #[.pointer (some ⟨p2, 0, none⟩), .int .i64 q] W fun e w' => e = .returned (.tuple #[cv (readV s2 q), .int .i64 (openE s2 q)]) ∧ St P1 DocAt W0 w' T K p1 s1 N1 p2 s2 N2 :=
  (h.symm.step DocAt.pt o1 hk fun own a2 => read_r W own p2 s2 N2 q hN a2).mono fun e w' hh => ⟨hh.1, hh.2.symm⟩
theorem sumR (h : St P1 DocAt W0 W T K p1 s1 N1 p2 s2 N2) (hN : N2 ≤ 1000000) : Calls Try.prog 38 #[.pointer (some ⟨p2, 0, none⟩)] W fun e w' => e = .returned (.tuple #[cv (sumV s2), .int .i64 (sumE s2)]) ∧ St P1 DocAt W0 w' T K p1 s1 N1 p2 s2 N2 :=
  (h.symm.step DocAt.pt o1 hk fun own a2 => sum_r W own p2 s2 N2 hN a2).mono fun e w' hh => ⟨hh.1, hh.2.symm⟩
end
end Go.Proofs.Ytdhjdkhhhdcjdaa.Ta
end
