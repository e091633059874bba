/-
  The program's Step in all cases, Read. Conditions: the tally lies where its pointer says. The program's Read, of a tally without a reader. Conditions: the tally lies where its pointer says. The program's Read, add. Conditions: the tally lies where its pointer says. The program's visit of readings. Conditions: the tally lies where its pointer says.
-/
import Derived.Test.YtdhjdkhhhdcjdaaMGu
import Derived.Test.YtdhjdkhhhdcjdaaMGa
/- The program's Step in all cases, Read. Conditions: the tally lies where its pointer says. -/
section
namespace Go.Proofs.Ytdhjdkhhhdcjdaa.Ta
set_option linter.unusedSimpArgs false
set_option linter.unusedVariables false
set_option maxRecDepth 100000
open Go.ChangeShapes Go.WideShapes Go.ChangeAt Go.RowKit

theorem stepP (W : World) (own : Nat → Prop) (p : Nat) (X : TS) (N : Nat) (R : RD) (hR : X.rd = some R) (hN : N ≤ 2000000) (h : PAt12 W own p X N) : Calls Try.prog 14 #[.pointer (some ⟨R.r, 0, none⟩)] W (DidF PAt12 W own p { X with rd := some (stepR X R) } N (.tuple #[cv (stepV X R), .bool (stepOk X R), .int .i64 (stepE X R)])) := by
  by_cases h0 : R.at' = 0
  · have e3 : stepOk X R = false := by rw [stepOk, h0]; rfl
    have e4 : stepV X R = zero6 := by rw [stepV, e3]; rfl
    by_cases ho : sq X R.q % 2 = 1
    · have e1 : stepR X R = R := by rw [stepR, if_pos h0, if_pos ho]
      have e2 : stepE X R = 111 := by rw [stepE, if_pos h0, if_pos ho]
      rw [e1, e2, e3, e4, rd_sameP hR]
      exact step_oddP W own p X N R hR hN h h0 ho
    · have e1 : stepR X R = { R with at' := 1, s0 := sq X R.q, l := [] } := by rw [stepR, if_pos h0, if_neg ho]
      have e2 : stepE X R = 0 := by rw [stepE, if_pos h0, if_neg ho]
      rw [e1, e2, e3, e4]
      exact step_evenP W own p X N R hR hN h h0 ho
  · by_cases h6 : R.at' ≤ 6
    · have e3 : stepOk X R = false := by rw [stepOk, decide_eq_false (by omega)]; rfl
      have e4 : stepV X R = zero6 := by rw [stepV, e3]; rfl
      have e1 : stepR X R = { R with at' := R.at' + 1, l := R.l ++ [(kq X R.q).get (R.at' - 1)] } := by rw [stepR, if_neg h0, if_pos h6]
      have e2 : stepE X R = 0 := by rw [stepE, if_neg h0, if_pos h6]
      rw [e1, e2, e3, e4]
      exact step_loadP W own p X N R hR hN h h0 h6
    · have e1 : stepR X R = { R with at' := 0, l := [] } := by rw [stepR, if_neg h0, if_neg h6]
      by_cases hs : sq X R.q = R.s0
      · have e3 : stepOk X R = true := by rw [stepOk, decide_eq_true (by omega), decide_eq_true hs]; rfl
        have e4 : stepV X R = of6 R.l := by rw [stepV, if_pos e3]
        have e2 : stepE X R = 0 := by rw [stepE, if_neg h0, if_neg h6, if_pos hs]
        rw [e1, e2, e3, e4]
        exact step_endP W own p X N R hR hN h h0 h6 hs
      · have e3 : stepOk X R = false := by rw [stepOk, decide_eq_false hs, Bool.and_false]
        have e4 : stepV X R = zero6 := by rw [stepV, e3]; rfl
        have e2 : stepE X R = 111 := by rw [stepE, if_neg h0, if_neg h6, if_neg hs]
        rw [e1, e2, e3, e4]
        exact step_lateP W own p X N R hR hN h h0 h6 hs
/-- a reader behind so many steps -/
def rdr (X : TS) (r q : Nat) : Nat → RD
  | 0 => ⟨r, q, 0, 0, []⟩
  | j + 1 => stepR X (rdr X r q j)
theorem stepR_begin {X : TS} {R : RD} (h0 : R.at' = 0) (he : ¬ sq X (R.q : Int) % 2 = 1) : stepR X R = { R with at' := 1, s0 := sq X R.q, l := [] } := by rw [stepR, if_pos h0, if_neg he]
theorem rdr_at {X : TS} {r q : Nat} (hev : ¬ sq X (q : Int) % 2 = 1) : ∀ j, j ≤ 7 → (rdr X r q j).at' = j ∧ (rdr X r q j).q = q ∧ (rdr X r q j).r = r ∧ (1 ≤ j → (rdr X r q j).s0 = sq X (q : Int) ∧ (rdr X r q j).l = (List.range (j - 1)).map (fun i => (kq X (q : Int)).get i)) := by
  intro j
  induction j with
  | zero => exact fun _ => ⟨rfl, rfl, rfl, fun h => by omega⟩
  | succ j ih =>
    intro hj
    obtain ⟨h1, h2, h3, h4⟩ := ih (by omega)
    by_cases h0 : j = 0
    · have e := stepR_begin (X := X) (R := rdr X r q j) (by omega) (by rw [h2]; exact hev)
      show (stepR X (rdr X r q j)).at' = _ ∧ (stepR X (rdr X r q j)).q = _ ∧ (stepR X (rdr X r q j)).r = _ ∧ (_ → (stepR X (rdr X r q j)).s0 = _ ∧ (stepR X (rdr X r q j)).l = _)
      rw [e]
      subst h0
      exact ⟨rfl, h2, h3, fun _ => ⟨by show sq X ((rdr X r q 0).q : Int) = _; rw [h2], rfl⟩⟩
    · have e : rdr X r q (j + 1) = { rdr X r q j with at' := (rdr X r q j).at' + 1, l := (rdr X r q j).l ++ [(kq X (rdr X r q j).q).get ((rdr X r q j).at' - 1)] } := by
        show stepR X (rdr X r q j) = _
        rw [stepR, if_neg (by omega), if_pos (by omega)]
      rw [e]
      obtain ⟨h5, h6⟩ := h4 (by omega)
      refine ⟨by show (rdr X r q j).at' + 1 = j + 1; omega, h2, h3, fun _ => ⟨h5, ?_⟩⟩
      show (rdr X r q j).l ++ [(kq X (rdr X r q j).q).get ((rdr X r q j).at' - 1)] = _
      rw [h1, h2, h6, show j + 1 - 1 = (j - 1) + 1 by omega, List.range_succ, List.map_append]
      rfl
theorem stepR_r (X : TS) (R : RD) : (stepR X R).r = R.r := by unfold stepR; split <;> split <;> rfl
theorem rdr_r (X : TS) (r q : Nat) : ∀ j, (rdr X r q j).r = r
  | 0 => rfl
  | j + 1 => (stepR_r X _).trans (rdr_r X r q j)
theorem rdr_ok {X : TS} {r q : Nat} (hev : ¬ sq X (q : Int) % 2 = 1) {j : Nat} (hj : j < 7) : stepOk X (rdr X r q j) = false ∧ stepE X (rdr X r q j) = 0 ∧ stepV X (rdr X r q j) = zero6 := by
  obtain ⟨h1, h2, h3, h4⟩ := rdr_at (r := r) hev j (by omega)
  have e3 : stepOk X (rdr X r q j) = false := by rw [stepOk, h1, decide_eq_false (by omega)]; rfl
  refine ⟨e3, ?_, by rw [stepV, e3]; rfl⟩
  rw [stepE, h1, h2]
  by_cases h0 : j = 0
  · rw [if_pos h0, if_neg hev]
  · rw [if_neg h0, if_pos (by omega)]
theorem rdr_end {X : TS} {r q : Nat} (hev : ¬ sq X (q : Int) % 2 = 1) : stepOk X (rdr X r q 7) = true ∧ stepE X (rdr X r q 7) = 0 ∧ stepV X (rdr X r q 7) = kq X (q : Int) := by
  obtain ⟨h1, h2, h3, h4⟩ := rdr_at (r := r) hev 7 (by omega)
  obtain ⟨h5, h6⟩ := h4 (by omega)
  have e3 : stepOk X (rdr X r q 7) = true := by rw [stepOk, h1, h2, h5, decide_eq_true rfl, decide_eq_true (by omega)]; rfl
  refine ⟨e3, ?_, ?_⟩
  · rw [stepE, h1, h2, h5, if_neg (by omega), if_neg (by omega), if_pos rfl]
  · rw [stepV, if_pos e3, h6]
    exact C6.ext' fun i hi => by
      rw [of6, get_mk _ hi, List.getD_eq_getElem?_getD, List.getElem?_map, List.getElem?_range (by omega)]
      rfl
theorem results_ct {fn : Func} {p u : Tmp} {ty : TypeId} (h : fn.results = #[.cell p ty, .tmp u]) {tmps : Array Value} {P : Program} {w : World} {a : Addr} {v : Value} (hp : tmps.getD p undef = .pointer (some a)) (hu : (loadVar ty a).run P w = .ok v w) : (results fn tmps).run P w = .ok (.tuple #[v, tmps.getD u undef]) w := by
  have hp' := hp
  simp only [Array.getD_eq_getD_getElem?] at hp'
  simp only [results, h]
  simp [Sem.run_bind, Result.andThen, asAddr, hp', hu]
/-- the reader that was made is forgotten -/
theorem TAt.norec {W : World} {own oc : Nat → Prop} {p b N : Nat} {X : TS} {o : Option RD} (h : TAt W own oc p b { X with rd := o } N) : TAt W (fun i => i = p ∨ oc i) oc p b { X with rd := none } N :=
  ⟨h.box, h.cells, { h.fits with fr := fun R e => by cases e }, h.po, (fun R e => by cases e), fun i => ⟨fun e => e.elim .inl fun e => .inr (.inl e), fun e => e.elim .inl fun e => e.elim .inr fun ⟨R, e, _⟩ => by cases e⟩⟩
theorem none_self {X : TS} (h : X.rd = none) : ({ X with rd := none } : TS) = X := by rw [← h]
theorem DidF.norec {W w : World} {own : Nat → Prop} {p N : Nat} {X : TS} {R : RD} (hX : X.rd = none) {v : Value} {e : Ending} (h : DidF PAt12 W own p { X with rd := some R } N v e w) : DidF PAt12 W own p X N v e w := by
  obtain ⟨he, ⟨own', ⟨oc, b, h1⟩, h2⟩, hf⟩ := h
  have h3 := h1.norec
  rw [none_self hX] at h3
  exact ⟨he, ⟨_, ⟨oc, b, h3⟩, fun i hi => h2 i ((h1.own i).2 (hi.elim .inl fun e => .inr (.inl e)))⟩, hf⟩
/-- the reader that was there is there again -/
theorem DidF.rec {W w : World} {own oc : Nat → Prop} {p b N : Nat} {X : TS} {R : RD} (h : TAt W own oc p b X N) (hX : X.rd = some R) {v : Value} {e : Ending} (hd : DidF PAt12 W (fun i => i = p ∨ oc i) p { X with rd := none } N v e w) : DidF PAt12 W own p X N v e w := by
  obtain ⟨he, ⟨own', ⟨oc', b', h1⟩, h2⟩, hf⟩ := hd
  obtain ⟨⟨c, hc⟩, q1, q2⟩ := h.rd R hX
  have lr := hc.box.lt
  have hsub : ∀ i, (i = p ∨ oc i) → own i := fun i hi => (h.own i).2 (hi.elim .inl fun e => .inr (.inl e))
  refine ⟨he, ⟨fun i => own' i ∨ i = R.r, ⟨oc', b', ⟨h1.box, h1.cells, { h1.fits with fr := h.fits.fr }, h1.po, fun R2 e => ?_, fun i => ?_⟩⟩, fun i hi => ?_⟩, hf.mono fun i _ hi => hsub i hi⟩
  · rw [hX] at e
    obtain rfl : R = R2 := by simpa using e
    refine ⟨⟨c, { hc with box := hc.box.foot hf (fun e => e.elim q1 q2) }⟩, q1, fun e => ?_⟩
    rcases h2 _ ((h1.own _).2 (.inr (.inl e))) with (e | e) | e
    · exact q1 e
    · exact q2 e
    · omega
  · rw [h1.own i]
    constructor
    · rintro ((e | e | ⟨R2, e, _⟩) | e)
      · exact .inl e
      · exact .inr (.inl e)
      · cases e
      · exact .inr (.inr ⟨R, hX, e⟩)
    · rintro (e | e | ⟨R2, e, e2⟩)
      · exact .inl (.inl e)
      · exact .inl (.inr (.inl e))
      · rw [hX] at e
        obtain rfl : R = R2 := by simpa using e
        exact .inr e2
  · rcases hi with hi | rfl
    · exact (h2 i hi).imp (hsub i) id
    · exact .inl (h.rd' hX)
theorem Now.at_ {W w : World} {own : Nat → Prop} {bx p N : Nat} {t : TypeId} {cs : Array Value} {X : TS} {R : RD} (h : Now W own bx t cs p { X with rd := some R } N w) : w.cell? ⟨R.r, 2, none⟩ = some (.int .i64 (R.at' : Int)) := by
  obtain ⟨own', ⟨oc, b, h1⟩, _⟩ := h.at'
  obtain ⟨⟨c, hc⟩, _⟩ := h1.rd R rfl
  exact hc.box.cell 2
theorem stepPr (W : World) (own : Nat → Prop) (p r : Nat) (X : TS) (N : Nat) (R : RD) (hr : R.r = r) (hN : N ≤ 2000000) (h : PAt12 W own p { X with rd := some R } N) : Calls Try.prog 14 #[.pointer (some ⟨r, 0, none⟩)] W (DidF PAt12 W own p { X with rd := some (stepR X R) } N (.tuple #[cv (stepV X R), .bool (stepOk X R), .int .i64 (stepE X R)])) := by
  subst hr
  exact stepP W own p { X with rd := some R } N R rfl hN h
theorem read_now {W W1 w : World} {own : Nat → Prop} {bx p N q r : Nat} {t : TypeId} {cs : Array Value} {X : TS} {e : Ending} (h : PAt12 W own p X N) (hb : Below W.heap.size W W1) (hn : W.heap.size ≤ bx) (hx : Held W1 bx t cs) (hd : DidF PAt12 W1 own p { X with rd := some ⟨r, q, 0, 0, []⟩ } N (.tuple #[.pointer (some ⟨r, 0, none⟩), .int .i64 0]) e w) : Now W own bx t cs p { X with rd := some (rdr X r q 0) } N w :=
  ((Now.start h hb hn hx).step (fun i hi => .inl hi) (fun e => by have := PAt12.pt.lt h _ e; omega) hd).2
end Go.Proofs.Ytdhjdkhhhdcjdaa.Ta
end
/- The program's Read, of a tally without a reader. Conditions: the tally lies where its pointer says. -/
section
namespace Go.Proofs.Ytdhjdkhhhdcjdaa.Ta
set_option linter.unusedSimpArgs false
set_option linter.unusedVariables false
set_option maxRecDepth 100000
open Go.ChangeShapes Go.WideShapes Go.ChangeAt Go.RowKit

set_option maxHeartbeats 4000000 in
theorem read_none (W : World) (own : Nat → Prop) (p : Nat) (X : TS) (N k : Nat) (hk : k < X.s.length) (hX : X.rd = none) (hN : N ≤ 2000000) (h : PAt12 W own p X N) : Calls Try.prog 17 #[.pointer (some ⟨p, 0, none⟩), .int .i64 (k : Int)] W (DidF PAt12 W own p X N (.tuple #[cv (readV X k), .int .i64 (openE X k)])) := by
  have hop : openE X k = if sq X k % 2 = 1 then 111 else 0 := by rw [openE, has_of hk, if_neg (by simp)]
  have HX := Lib.hid (And.intro hX hk)
  have H := Mem.start W
  go_enter Try.func17, Try.ntmps17
  go_upto_region 1 with (first
    | ((with_reducible show wpList _ _ _ _ _ (World.alloc _ (.cells _ _))); refine mem_newb (l := []) H ?_; intro bx w3 hbk H2; try rw [← hbk]; clear hbk H; have H := H2; clear H2; simp only [List.cons_append, List.nil_append, List.set_cons_zero, List.set_cons_succ, List.setIfInBounds_toArray] at H))
  go_upto_region 4 with (first
    | (go_at_call 13; refine (reader_yes _ own p X N k hk hX (PAt12.pt.on h (fun i hi => H.below.block i (PAt12.pt.lt h i hi)) H.below.size)).mono ?_; rintro e w4 ⟨r, rfl, hd⟩; have HD := Lib.hid (read_now h H.below (H.held _ List.mem_cons_self).1 (H.at 0 rfl) ⟨rfl, hd⟩); clear hd H h))
  clear hk hX
  go_loopw [9] (fun _ wr => ∃ j : Nat, j ≤ 7 ∧ (sq X k % 2 = 1 → j = 0) ∧ Hid (Now W own bx 42 (row6 zero6) p { X with rd := some (rdr X r k j) } N wr)) (fun _ wr => 7 - (intOf ((wr.cell? ⟨r, 2, none⟩).getD undef)).toNat)
  case atStart => exact ⟨0, Nat.zero_le _, fun _ => rfl, HD⟩
  case round =>
    clear HD
    obtain ⟨j, hj, hjo, HW⟩ := hrel
    by_cases ho : sq X k % 2 = 1
    · obtain rfl := hjo ho
      have HE := Lib.hid (show stepV X (rdr X r k 0) = zero6 ∧ stepOk X (rdr X r k 0) = false ∧ stepE X (rdr X r k 0) = 111 from ⟨rfl, rfl, by
        show (if (0 : Nat) = 0 then (if sq X k % 2 = 1 then 111 else 0) else _) = _
        rw [if_pos rfl, if_pos ho]⟩)
      have er : readV X k = zero6 := by rw [readV, hop, if_pos ho]; rfl
      rw [if_pos ho] at hop
      rw [er, hop]
      clear ho hjo er hop
      go_wp2_with (first
    | go_skip
    | (go_at_call 14; refine (HW.out.call (fun own' h => stepPr _ own' p r X N (rdr X r k 0) (rdr_r X r k _) hN h)).mono ?_; rintro e w5 ⟨he, hn⟩; rw [HE.out.1, HE.out.2.1, HE.out.2.2] at he; subst he; have HW5 := Lib.hid hn; clear hn; have H := Mem.start w5)
    | ((with_reducible show wpList _ _ _ _ _ (World.alloc _ (.cells _ _))); refine mem_newb (l := []) H ?_; intro b8 w3 hbk H2; try rw [← hbk]; clear hbk H; have H := H2; clear H2; simp only [List.cons_append, List.nil_append, List.set_cons_zero, List.set_cons_succ, List.setIfInBounds_toArray] at H)
    | ((with_reducible show wpList _ _ _ (⟨_, .store 42 _ _, _, _, _, _⟩ :: _) _ _); refine mem_store (i := 0) H (by first | exact wanted_none rfl | exact wanted_some rfl rfl rfl rfl) (by exact rfl) (by exact rfl) (by exact rfl) (by exact rfl) (by exact cInfo) (by exact rfl) (by exact rfl) ?_; intro w2 H2; clear H; have H := H2; clear H2; simp only [List.cons_append, List.nil_append, List.set_cons_zero, List.set_cons_succ, List.setIfInBounds_toArray] at H)
    | ((with_reducible show wpList _ _ _ (⟨_, .load 42 _, _, _, _, _⟩ :: _) _ _); refine mem_load (i := 0) H (by first | exact wanted_none rfl | exact wanted_some rfl rfl rfl rfl) (by exact rfl) (by exact rfl) (by exact rfl) Try.underlying42 rfl (by exact cInfo) ?_)
    | ((with_reducible show wpList _ _ _ (⟨_, .store 42 _ _, _, _, _, _⟩ :: _) _ _); refine store_held (HW5.out.below H.below).box (by first | exact wanted_none rfl | exact wanted_some rfl rfl rfl rfl) (by exact rfl) (by exact rfl) (by exact rfl) (by exact cInfo) (by exact rfl) (by exact rfl) ?_; intro w7 g7 F7))
      refine bodyPost_ret (results_ct rfl rfl (load_c6 (c := zero6) g7)) rfl ?_
      exact (((HW5.out.below H.below).put F7 g7).did rfl).norec HX.out.1
    · by_cases hj7 : j = 7
      · subst hj7
        have hee := rdr_end (X := X) (r := r) ho
        have HE := Lib.hid (show stepV X (rdr X r k 7) = kq X k ∧ stepOk X (rdr X r k 7) = true ∧ stepE X (rdr X r k 7) = 0 from ⟨hee.2.2, hee.1, hee.2.1⟩)
        rw [if_neg ho] at hop
        have er : readV X k = kq X k := by rw [readV, hop]; rfl
        rw [er, hop]
        clear ho hjo er hop hee
        generalize hc : kq X (k : Int) = c at *
        go_wp2_with (first
    | go_skip
    | (go_at_call 14; refine (HW.out.call (fun own' h => stepPr _ own' p r X N (rdr X r k 7) (rdr_r X r k _) hN h)).mono ?_; rintro e w5 ⟨he, hn⟩; rw [HE.out.1, HE.out.2.1, HE.out.2.2] at he; subst he; have HW5 := Lib.hid hn; clear hn; have H := Mem.start w5)
    | ((with_reducible show wpList _ _ _ _ _ (World.alloc _ (.cells _ _))); refine mem_newb (l := []) H ?_; intro b8 w3 hbk H2; try rw [← hbk]; clear hbk H; have H := H2; clear H2; simp only [List.cons_append, List.nil_append, List.set_cons_zero, List.set_cons_succ, List.setIfInBounds_toArray] at H)
    | ((with_reducible show wpList _ _ _ (⟨_, .store 42 _ _, _, _, _, _⟩ :: _) _ _); refine mem_store (i := 0) H (by first | exact wanted_none rfl | exact wanted_some rfl rfl rfl rfl) (by exact rfl) (by exact rfl) (by exact rfl) (by exact rfl) (by exact cInfo) (by exact rfl) (by exact rfl) ?_; intro w2 H2; clear H; have H := H2; clear H2; simp only [List.cons_append, List.nil_append, List.set_cons_zero, List.set_cons_succ, List.setIfInBounds_toArray] at H)
    | ((with_reducible show wpList _ _ _ (⟨_, .load 42 _, _, _, _, _⟩ :: _) _ _); refine mem_load (i := 0) H (by first | exact wanted_none rfl | exact wanted_some rfl rfl rfl rfl) (by exact rfl) (by exact rfl) (by exact rfl) Try.underlying42 rfl (by exact cInfo) ?_)
    | ((with_reducible show wpList _ _ _ (⟨_, .store 42 _ _, _, _, _, _⟩ :: _) _ _); refine store_held (HW5.out.below H.below).box (by first | exact wanted_none rfl | exact wanted_some rfl rfl rfl rfl) (by exact rfl) (by exact rfl) (by exact rfl) (by exact cInfo) (by exact rfl) (by exact rfl) ?_; intro w7 g7 F7))
        refine bodyPost_ret (results_ct rfl rfl (load_c6 (c := c) g7)) rfl ?_
        exact (((HW5.out.below H.below).put F7 g7).did rfl).norec HX.out.1
      · have hj6 : j < 7 := by omega
        have hee := rdr_ok (X := X) (r := r) ho hj6
        have HE := Lib.hid (show stepV X (rdr X r k j) = zero6 ∧ stepOk X (rdr X r k j) = false ∧ stepE X (rdr X r k j) = 0 from ⟨hee.2.2, hee.1, hee.2.1⟩)
        have ha := (rdr_at (r := r) ho j hj).1
        have ha2 := (rdr_at (r := r) ho (j + 1) (by omega)).1
        have hr2 := (rdr_at (r := r) ho j hj).2.2.1
        have hr3 := (rdr_at (r := r) ho (j + 1) (by omega)).2.2.1
        have HA := Lib.hid (And.intro ha (And.intro ha2 (And.intro hr2 (And.intro hr3 ho))))
        clear hee ha ha2 hr2 hr3 ho hop
        go_wp2_with (first
    | go_skip
    | (go_at_call 14; refine (HW.out.call (fun own' h => stepPr _ own' p r X N (rdr X r k j) (rdr_r X r k _) hN h)).mono ?_; rintro e w5 ⟨he, hn⟩; rw [HE.out.1, HE.out.2.1, HE.out.2.2] at he; subst he; have HW5 := Lib.hid hn; clear hn; have H := Mem.start w5)
    | ((with_reducible show wpList _ _ _ _ _ (World.alloc _ (.cells _ _))); refine mem_newb (l := []) H ?_; intro b8 w3 hbk H2; try rw [← hbk]; clear hbk H; have H := H2; clear H2; simp only [List.cons_append, List.nil_append, List.set_cons_zero, List.set_cons_succ, List.setIfInBounds_toArray] at H)
    | ((with_reducible show wpList _ _ _ (⟨_, .store 42 _ _, _, _, _, _⟩ :: _) _ _); refine mem_store (i := 0) H (by first | exact wanted_none rfl | exact wanted_some rfl rfl rfl rfl) (by exact rfl) (by exact rfl) (by exact rfl) (by exact rfl) (by exact cInfo) (by exact rfl) (by exact rfl) ?_; intro w2 H2; clear H; have H := H2; clear H2; simp only [List.cons_append, List.nil_append, List.set_cons_zero, List.set_cons_succ, List.setIfInBounds_toArray] at H)
    | ((with_reducible show wpList _ _ _ (⟨_, .load 42 _, _, _, _, _⟩ :: _) _ _); refine mem_load (i := 0) H (by first | exact wanted_none rfl | exact wanted_some rfl rfl rfl rfl) (by exact rfl) (by exact rfl) (by exact rfl) Try.underlying42 rfl (by exact cInfo) ?_))
        have hn6 := HW5.out.below H.below
        have hn7 : Now W own bx 42 (row6 zero6) p { X with rd := some (rdr X r k (j + 1)) } N _ := hn6
        have HN := Lib.hid hn7
        clear hn6 hn7
        go_roundw
        case rel => exact ⟨j + 1, by omega, fun e => absurd e HA.out.2.2.2.2, HN⟩
        case measure =>
          have m1 := HW.out.at_
          have m2 := HN.out.at_
          rw [HA.out.2.2.1, HA.out.1] at m1
          rw [HA.out.2.2.2.1, HA.out.2.1] at m2
          rw [m1, m2]
          simp [intOf]
          omega
end Go.Proofs.Ytdhjdkhhhdcjdaa.Ta
end
/- The program's Read, add. Conditions: the tally lies where its pointer says. -/
section
namespace Go.Proofs.Ytdhjdkhhhdcjdaa.Ta
set_option linter.unusedSimpArgs false
set_option linter.unusedVariables false
set_option maxRecDepth 100000
open Go.ChangeShapes Go.WideShapes Go.ChangeAt Go.RowKit

theorem reader_none {W W1 w : World} {own : Nat → Prop} {bx p N : Nat} {t : TypeId} {cs : Array Value} {X : TS} {v : Value} {e : Ending} (h : PAt12 W own p X N) (hb : Below W.heap.size W W1) (hn : W.heap.size ≤ bx) (hx : Held W1 bx t cs) (hd : DidF PAt12 W1 own p X N v e w) : Now W own bx t cs p X N w :=
  ((Now.start h hb hn hx).step (fun i hi => .inl hi) (fun e => by have := PAt12.pt.lt h _ e; omega) hd).2
set_option maxHeartbeats 1000000 in
theorem readP (W : World) (own : Nat → Prop) (p : Nat) (X : TS) (N : Nat) (q : Int) (hi : I64 q) (hN : N ≤ 2000000) (h : PAt12 W own p X N) : Calls Try.prog 17 #[.pointer (some ⟨p, 0, none⟩), .int .i64 q] W (DidF PAt12 W own p X N (.tuple #[cv (readV X q), .int .i64 (openE X q)])) := by
  cases hh : hasQ X q with
  | false =>
    have e1 : openE X q = 2 := by rw [openE, if_pos hh]
    have e2 : readV X q = zero6 := by rw [readV, e1]; rfl
    rw [e1, e2]
    clear e1 e2
    have H := Mem.start W
    go_enter Try.func17, Try.ntmps17
    go_upto_region 1 with (first
    | ((with_reducible show wpList _ _ _ _ _ (World.alloc _ (.cells _ _))); refine mem_newb (l := []) H ?_; intro bx w3 hbk H2; try rw [← hbk]; clear hbk H; have H := H2; clear H2; simp only [List.cons_append, List.nil_append, List.set_cons_zero, List.set_cons_succ, List.setIfInBounds_toArray] at H))
    go_wp2_with (first
    | go_skip
    | (go_at_call 13; refine (reader_no _ own p X N q hh (PAt12.pt.on h (fun i hi => H.below.block i (PAt12.pt.lt h i hi)) H.below.size)).mono ?_; rintro e w5 hd; have HW5 := Lib.hid (reader_none h H.below (H.held _ List.mem_cons_self).1 (H.at 0 rfl) hd); obtain ⟨rfl, hd2⟩ := hd; clear hd2 H h; have H := Mem.start w5)
    | ((with_reducible show wpList _ _ _ (⟨_, .store 42 _ _, _, _, _, _⟩ :: _) _ _); refine store_held HW5.out.box (by first | exact wanted_none rfl | exact wanted_some rfl rfl rfl rfl) (by exact rfl) (by exact rfl) (by exact rfl) (by exact cInfo) (by exact rfl) (by exact rfl) ?_; intro w7 g7 F7))
    refine bodyPost_ret (results_ct rfl rfl (load_c6 (c := zero6) g7)) rfl ?_
    exact (HW5.out.put F7 g7).did rfl
  | true =>
    obtain ⟨k, rfl, hk⟩ := has_at hh
    cases hX : X.rd with
    | none => exact read_none W own p X N k hk hX hN h
    | some R =>
      obtain ⟨oc, b, h⟩ := h
      have h2 : TAt W (fun i => i = p ∨ oc i) oc p b { X with rd := none } N := by
        have e : X = { X with rd := some R } := by rw [← hX]
        rw [e] at h
        exact h.norec
      exact (read_none W _ p { X with rd := none } N k hk rfl hN ⟨oc, b, h2⟩).mono fun e w' hd => hd.rec h hX
theorem uInfo : (Try.prog.info? 40).map (·.size) = some 1 := by kernel_rfl
theorem add_next {W w : World} {b j : Nat} {t : TypeId} {a d : C6} {z : Int} (f : Foot (· = b) W w) (h : Held w b t (row6 (a.upto d j))) (hj : j < 6) (hz : w64 (a.get j + d.get j) = z) : Foot (· = b) W (w.setCell ⟨b, j, none⟩ (.int .u64 z)) ∧ Held (w.setCell ⟨b, j, none⟩ (.int .u64 z)) b t (row6 (a.upto d (j + 1))) := by
  refine ⟨f.trans' (foot_one w b j _), ?_⟩
  have e := h.set j (.int .u64 z)
  rwa [row6_set _ hj, ← hz, upto_next, hz] at e
set_option maxHeartbeats 1000000 in
theorem add_p (W : World) (b bv : Nat) (t tv : TypeId) (a d : C6) (hne : b ≠ bv) (h : Held W b t (row6 a)) (hv : Held W bv tv (row6 d)) : Calls Try.prog 41 #[.pointer (some ⟨b, 0, none⟩), rowS bv] W fun e w' => e = .returned (.tuple #[]) ∧ Foot (· = b) W w' ∧ Held w' b t (row6 (a.add d)) := by
  have HV := Lib.hid (And.intro hv hne)
  have h0 : Held W b t (row6 (a.upto d 0)) := by rw [upto_zero]; exact h
  have HW := Lib.hid (And.intro (Foot.refl (· = b) W) h0)
  clear h hv hne h0
  go_enter Try.func41, Try.ntmps41
  go_wp2
  go_loopw [8] (fun iv wr => ∃ j : Nat, j ≤ 6 ∧ iv = .int .i64 j ∧ Hid (Foot (· = b) W wr ∧ Held wr b t (row6 (a.upto d j)))) (fun iv _ => 6 - (intOf iv).toNat)
  case atStart => exact ⟨0, Nat.zero_le _, rfl, HW⟩
  case round =>
    clear HW
    obtain ⟨j, hj, rfl, HW⟩ := hrel
    have t0 : ¬ ((j : Int) < 0) := by omega
    by_cases hlt : (j : Int) < 6
    · have hj6 : j < 6 := by omega
      have hv2 := HV.out.1.foot HW.out.1 (fun e => HV.out.2 e.symm)
      have g0 : wr.cell? ⟨bv, j, none⟩ = some (.int .u64 (d.get j)) := (hv2.cell j).trans (row6_get d hj6)
      have g1 : wr.cell? ⟨b, j, none⟩ = some (.int .u64 (a.get j)) := by rw [HW.out.2.cell j, row6_get _ hj6, upto_get _ _ _ hj6]
      have lb := HW.out.2.lt
      have t2 : ¬ 6 ≤ j := by omega
      have tl : decide ((j : Int) < 6) = true := decide_eq_true hlt
      obtain ⟨dj, hdj⟩ : ∃ dj, d.get j = dj := ⟨_, rfl⟩
      obtain ⟨aj, haj⟩ : ∃ aj, a.get j = aj := ⟨_, rfl⟩
      obtain ⟨z, hz⟩ : ∃ z, IntKind.u64.wrap (aj + dj) = z := ⟨_, rfl⟩
      rw [hdj] at g0
      rw [haj] at g1
      have HZ := Lib.hid (show w64 (a.get j + d.get j) = z by rw [hdj, haj]; exact hz)
      have H := Mem.start wr
      clear hdj haj
      go_upto_region 3 with fail
      refine region_memk H 9 10 rfl (by kernel_rfl) (fun wr0 hcl hS => ?_)
      clear H
      refine wpAnyG_pure (i := 0) (v := .pointer (some ⟨b, 0, none⟩)) rfl rfl (by kernel_rfl) (by kernel_rfl) (by kernel_rfl) (fun _ _ _ h => h) (by decide) ⟨by rfl, fun w _ => (by go_simp; try (first | (simp only [IntKind.wrap_u32]; done) | rfl)), fun _ => rfl⟩ (.inr hS) ?_
      have hc1 := hcl.step (i := 0) (by kernel_rfl)
      clear hcl; have hcl := hc1; clear hc1; simp only [List.getElem_toArray, List.getElem_cons_zero, List.getElem_cons_succ, Act.put, List.setIfInBounds_toArray, List.set_cons_zero, List.set_cons_succ]
      refine wpAnyG_pure (i := 1) (v := .int .i64 (j : Int)) rfl rfl (by kernel_rfl) (by kernel_rfl) (by kernel_rfl) (fun _ _ _ h => h) (by decide) ⟨by rfl, fun w _ => (by go_simp; try (first | (simp only [IntKind.wrap_u32]; done) | rfl)), fun _ => rfl⟩ (.inr hS) ?_
      have hc1 := hcl.step (i := 1) (by kernel_rfl)
      clear hcl; have hcl := hc1; clear hc1; simp only [List.getElem_toArray, List.getElem_cons_zero, List.getElem_cons_succ, Act.put, List.setIfInBounds_toArray, List.set_cons_zero, List.set_cons_succ]
      refine wpAnyG_pure (i := 2) (v := .pointer (some ⟨b, 0, none⟩)) rfl rfl (by kernel_rfl) (by kernel_rfl) (by kernel_rfl) (fun _ _ _ h => h) (by decide) ⟨by rfl, fun w _ => (by go_simp; try (first | (simp only [IntKind.wrap_u32]; done) | rfl)), fun _ => rfl⟩ (.inr hS) ?_
      have hc1 := hcl.step (i := 2) (by kernel_rfl)
      clear hcl; have hcl := hc1; clear hc1; simp only [List.getElem_toArray, List.getElem_cons_zero, List.getElem_cons_succ, Act.put, List.setIfInBounds_toArray, List.set_cons_zero, List.set_cons_succ]
      refine wpAnyG_pure (i := 3) (v := .pointer (some ⟨b, j, none⟩)) rfl rfl (by kernel_rfl) (by kernel_rfl) (by kernel_rfl) (fun _ _ _ h => h) (by decide) ⟨by rfl, fun w _ => (by go_simp; try (first | (simp only [IntKind.wrap_u32]; done) | rfl)), fun _ => rfl⟩ (.inr hS) ?_
      have hc1 := hcl.step (i := 3) (by kernel_rfl)
      clear hcl; have hcl := hc1; clear hc1; simp only [List.getElem_toArray, List.getElem_cons_zero, List.getElem_cons_succ, Act.put, List.setIfInBounds_toArray, List.set_cons_zero, List.set_cons_succ]
      refine wpAnyG_take (i := 4) 24 (v := .int .u64 aj) rfl rfl (by kernel_rfl) (by kernel_rfl) (by kernel_rfl) (fun _ _ _ h => h) (by kernel_rfl) (by decide) hcl (yields_old g1 lb (by exact rfl) (by exact rfl) (by exact rfl) (by first | exact Try.underlying63 | exact Try.underlying24 | exact Try.underlying3 | exact Try.underlying2 | exact Try.underlying40) rfl) hS (fun hc1 => ?_)
      clear hcl; have hcl := hc1; clear hc1; simp only [List.getElem_toArray, List.getElem_cons_zero, List.getElem_cons_succ, Act.put, List.setIfInBounds_toArray, List.set_cons_zero, List.set_cons_succ]
      refine wpAnyG_pure (i := 5) (v := .int .u64 dj) rfl rfl (by kernel_rfl) (by kernel_rfl) (by kernel_rfl) (fun _ _ _ h => h) (by decide) ⟨by rfl, fun w _ => (by go_simp; try (first | (simp only [IntKind.wrap_u32]; done) | rfl)), fun _ => rfl⟩ (.inr hS) ?_
      have hc1 := hcl.step (i := 5) (by kernel_rfl)
      clear hcl; have hcl := hc1; clear hc1; simp only [List.getElem_toArray, List.getElem_cons_zero, List.getElem_cons_succ, Act.put, List.setIfInBounds_toArray, List.set_cons_zero, List.set_cons_succ]
      refine wpAnyG_pure (i := 6) (v := .int .u64 z) rfl rfl (by kernel_rfl) (by kernel_rfl) (by kernel_rfl) (fun _ _ _ h => h) (by decide) ⟨by rfl, fun w _ => (by go_simp; try (first | (simp only [IntKind.wrap_u32]; done) | rfl)), fun _ => rfl⟩ (.inr hS) ?_
      have hc1 := hcl.step (i := 6) (by kernel_rfl)
      clear hcl; have hcl := hc1; clear hc1; simp only [List.getElem_toArray, List.getElem_cons_zero, List.getElem_cons_succ, Act.put, List.setIfInBounds_toArray, List.set_cons_zero, List.set_cons_succ]
      refine wpAnyG_pure (i := 7) (v := .pointer (some ⟨b, 0, none⟩)) rfl rfl (by kernel_rfl) (by kernel_rfl) (by kernel_rfl) (fun _ _ _ h => h) (by decide) ⟨by rfl, fun w _ => (by go_simp; try (first | (simp only [IntKind.wrap_u32]; done) | rfl)), fun _ => rfl⟩ (.inr hS) ?_
      have hc1 := hcl.step (i := 7) (by kernel_rfl)
      clear hcl; have hcl := hc1; clear hc1; simp only [List.getElem_toArray, List.getElem_cons_zero, List.getElem_cons_succ, Act.put, List.setIfInBounds_toArray, List.set_cons_zero, List.set_cons_succ]
      refine wpAnyG_pure (i := 8) (v := .pointer (some ⟨b, j, none⟩)) rfl rfl (by kernel_rfl) (by kernel_rfl) (by kernel_rfl) (fun _ _ _ h => h) (by decide) ⟨by rfl, fun w _ => (by go_simp; try (first | (simp only [IntKind.wrap_u32]; done) | rfl)), fun _ => rfl⟩ (.inr hS) ?_
      have hc1 := hcl.step (i := 8) (by kernel_rfl)
      clear hcl; have hcl := hc1; clear hc1; simp only [List.getElem_toArray, List.getElem_cons_zero, List.getElem_cons_succ, Act.put, List.setIfInBounds_toArray, List.set_cons_zero, List.set_cons_succ]
      have hw0 := HW.out.2.below hS.below HW.out.2.lt
      have f0 := HW.out.1.then_below hS.below
      have c4 : wr0.cell? ⟨b, j, none⟩ = some (.int .u64 aj) := (hS.below.cell lb).trans g1
      have z4 : wr0.frozen? ⟨b, j, none⟩ = false := hw0.frozen j
      have HW0 := Lib.hid (And.intro f0 hw0)
      clear hS hw0 f0
      refine wpAnyG_one (i := 9) (by kernel_rfl) rfl (fun K hK => ?_)
      rw [if_pos (by exact rfl)]
      refine wpIn_store_old c4 z4 rfl (by exact rfl) (by exact rfl) uInfo rfl ?_
      refine hK _ _ (.inl (by kernel_rfl)) ?_
      clear hK K hcl
      refine wpAnyG_done (by kernel_rfl) ?_ _
      have hn := add_next HW0.out.1 HW0.out.2 hj6 HZ.out
      have HN := Lib.hid hn
      clear hn HW0 c4 z4
      go_wp2
      go_roundw
      case rel => exact ⟨j + 1, by omega, by go_num, HN⟩
      case measure => simp [intOf]; omega
    · obtain rfl : j = 6 := by omega
      have h6 := HW.out.2
      rw [upto_six] at h6
      have HE := Lib.hid (And.intro HW.out.1 h6)
      clear h6 HW
      go_wp2
      go_end0
      exact ⟨rfl, HE.out⟩
end Go.Proofs.Ytdhjdkhhhdcjdaa.Ta
end
/- The program's visit of readings. Conditions: the tally lies where its pointer says. -/
section
namespace Go.Proofs.Ytdhjdkhhhdcjdaa.Ta
set_option linter.unusedSimpArgs false
set_option linter.unusedVariables false
set_option maxRecDepth 100000
attribute [local go_sem] Oper.semAt_some
open Go.ChangeShapes Go.WideShapes Go.ChangeAt Go.RowKit Go.Maps Go.Shelf

/-- the tally lies there, whatever was made since -/
def GT (w : World) (own : Nat → Prop) (p : Nat) (X : TS) (N : Nat) (V : World) : Prop := ∃ own', PAt12 V own' p X N ∧ ∀ i, own' i → own i ∨ w.heap.size + 2 ≤ i
/-- what the visit may change between its rounds -/
def RelT (w : World) (own : Nat → Prop) (p : Nat) (X : TS) (N : Nat) (Y Z : World) : Prop := Foot (fun i => own i ∨ w.heap.size + 2 ≤ i) Y Z ∧ (GT w own p X N Y → GT w own p X N Z)
section
variable {w Y Z : World} {own B : Nat → Prop} {p N : Nat} {X : TS}
theorem GT.below (h : GT w own p X N Y) (hb : Below Y.heap.size Y Z) : GT w own p X N Z := by
  obtain ⟨own', h1, h2⟩ := h
  exact ⟨own', PAt12.pt.on h1 (fun i hi => hb.block i (PAt12.pt.lt h1 i hi)) hb.size, h2⟩
theorem GT.foot (h : GT w own p X N Y) (hf : Foot B Y Z) (hb : ∀ i, B i → ¬ own i ∧ i < w.heap.size + 2) : GT w own p X N Z := by
  obtain ⟨own', h1, h2⟩ := h
  refine ⟨own', PAt12.pt.on h1 (fun i hi => hf.block i (PAt12.pt.lt h1 i hi) fun e => ?_) hf.size, h2⟩
  have := hb i e
  rcases h2 i hi with h3 | h3
  · exact this.1 h3
  · omega
theorem RelT.below (Y Z : World) (hb : Below Y.heap.size Y Z) : RelT w own p X N Y Z := ⟨Foot.of_below hb, fun h => h.below hb⟩
/-- a call of the tally, in between -/
theorem GT.call (h : GT w own p X N Y) (hz : w.heap.size + 2 ≤ Y.heap.size) {f : Nat} {args : Array Value} {v : Value} (hc : ∀ own', PAt12 Y own' p X N → Calls Try.prog f args Y (DidF PAt12 Y own' p X N v)) : Calls Try.prog f args Y fun e Z => e = .returned v ∧ RelT w own p X N Y Z ∧ GT w own p X N Z ∧ Y.heap.size ≤ Z.heap.size := by
  obtain ⟨own', h1, h2⟩ := h
  refine (hc own' h1).mono ?_
  rintro e Z ⟨he, ⟨o2, q1, q2⟩, q3⟩
  have hg : GT w own p X N Z := ⟨o2, q1, fun i hi => (q2 i hi).elim (h2 i) fun e => .inr (by omega)⟩
  exact ⟨he, ⟨q3.mono fun i _ hi => h2 i hi, fun _ => hg⟩, hg, q3.size⟩
end
abbrev encT (X : TS) (k : Nat) : Array Value := #[cv (readV X (k : Int)), .int .i64 (openE X (k : Int))]
def AnsweredT (U : Nat → Prop) (l : Nat) (J Jx : Nat → World → Prop) (k : Nat) (W : World) (y : Bool) (W' : World) : Prop := (y = true → J (k + 1) W' ∧ Foot (fun i => i = l ∨ U i) W W') ∧ (y = false → Jx k W')
theorem answeredT (U : Nat → Prop) (l : Nat) (J Jx : Nat → World → Prop) (k : Nat) (W : World) : ∀ (e : Ending) (W' : World), ((e = .returned (.bool true) ∧ J (k + 1) W' ∧ Foot (fun i => i = l ∨ U i) W W') ∨ (e = .returned (.bool false) ∧ Jx k W')) → ∃ y, e = .returned (.bool y) ∧ AnsweredT U l J Jx k W y W' := by
  rintro e W' (⟨rfl, h1⟩ | ⟨rfl, h1⟩)
  · exact ⟨true, rfl, fun _ => h1, (fun h => by cases h)⟩
  · exact ⟨false, rfl, (fun h => by cases h), fun _ => h1⟩
theorem results_none {fn : Func} (h : fn.results = #[]) (tmps : Array Value) (P : Program) (w : World) : (results fn tmps).run P w = .ok (.tuple #[]) w := by
  simp [results, h, go_sem]
set_option maxHeartbeats 2000000 in
theorem readings_seq (n : Nat) (hn : 2 ≤ n) (own U : Nat → Prop) (p : Nat) (X : TS) (N : Nat) (w : World) (hN : N ≤ 2000000) (h : PAt12 w own p X N) (hU : ∀ i, U i → ¬ own i ∧ i < w.heap.size) :
    SeqRelU U (RelT w own p X N) Fence.wide n Try.prog 40 #[.pointer (some ⟨p, 0, none⟩)] (encT X) X.s.length w := by
  intro l J Jx W hW hl hsz hJ hY h0
  have hg0 : GT w own p X N W := ⟨own, PAt12.pt.on h (fun i hi => hW.block i (PAt12.pt.lt h i hi)) hW.size, fun i hi => .inl hi⟩
  obtain ⟨oc, b, h⟩ := h
  have hown := h.lt
  have n64 := h.fits.n64
  have hD := h.on (fun i hi => hW.block i (h.lt i hi)) hW.size
  obtain ⟨M, hM⟩ : ∃ M, X.s.length = M := ⟨_, rfl⟩
  have c0 : W.cell? ⟨p, 0, none⟩ = some (.int .i64 (M : Int)) := by rw [← hM]; exact hD.box.cell 0
  have HL := Lib.hid (And.intro hl (And.intro hsz (And.intro hown hU)))
  rw [hM] at hY n64 ⊢
  have HH := Lib.hid (And.intro hJ (And.intro hY (And.intro hg0 h0)))
  clear hM hJ hY h0 hl hsz h hD hW hg0 hown hU
  refine callsIn_of_wp Try.func40 rfl trivial ?_ rfl
  simp only [Try.ntmps40, List.size_toArray, List.length_cons, List.length_nil, Nat.reduceAdd, Nat.reduceSub, Array.replicate_succ, Array.replicate_zero, List.push_toArray, List.append_toArray, List.nil_append, List.cons_append]
  gi_wp2
  gi_loopw [9] (fun i wr => ∃ k : Nat, k ≤ M ∧ i = .int .i64 k ∧ W.heap.size ≤ wr.heap.size ∧ Hid (J k wr ∧ GT w own p X N wr)) (fun i _ => M - (intOf i).toNat)
  case atStart => exact ⟨0, Nat.zero_le _, rfl, Nat.le_refl _, Lib.hid ⟨HH.out.2.2.2, HH.out.2.2.1⟩⟩
  case round =>
    obtain ⟨k, hk, rfl, hsz2, HJ⟩ := hrel
    clear c0
    by_cases hlt : (k : Int) < (M : Int)
    · have hkM : k < M := by omega
      have k1 := GT.call HJ.out.2 (by have := HL.out.2.1; omega) (fun own' h => readP wr own' p X N (k : Int) ⟨by omega, by omega⟩ hN h)
      gi_wp2_with (first
        | (refine ⟨trivial, fun _ => by omega, ?_⟩; gi_at_call 17; refine (callsIn_wide.2 (k1)).mono ?_; rintro e w2 ⟨rfl, hr, hg, hz⟩; obtain ⟨fn, tmps, assign, body, hyy, hR0⟩ := HH.out.2.1 k w2 hkM (HH.out.1 _ _ _ HJ.out.1 hr) (by omega); have hR := hR0.mono (answeredT U l J Jx k w2); have HG := Lib.hid hg; clear hR0 hr hg k1))
      refine ⟨fun _ => by omega, hR.mono ?_⟩
      rintro e W3 ⟨v, rfl, hA⟩
      clear hR hyy
      cases v
      · have hJx3 := hA.2 rfl
        gi_wp2
        refine bodyPost_ret (results_none rfl _ _ _) rfl ?_
        exact ⟨⟨_, rfl⟩, .inr ⟨k, hkM, hJx3⟩⟩
      · obtain ⟨hJ3, hk3⟩ := hA.1 rfl
        have hg3 := HG.out.foot hk3 (fun i hi => by
          have h1 := HL.out
          rcases hi with e | e
          · exact ⟨fun e2 => by have := h1.2.2.1 i e2; omega, by omega⟩
          · exact ⟨(h1.2.2.2 i e).1, by have := (h1.2.2.2 i e).2; omega⟩)
        have hs3 := hk3.size
        have HJ3 := Lib.hid (And.intro hJ3 hg3)
        clear hJ3 hk3 hA hg3
        gi_wp2
        go_roundw
        case rel => exact ⟨k + 1, by omega, by go_num, by omega, HJ3⟩
        case measure => simp [intOf]; omega
    · obtain rfl : k = M := by omega
      gi_wp2
      go_end0
      exact ⟨⟨_, rfl⟩, .inl HJ.out.1⟩
end Go.Proofs.Ytdhjdkhhhdcjdaa.Ta
end
