/-
  The document's reader: what a step leaves. Conditions: the tally and its reader lie where their pointers say. The document's reader: its steps. Conditions: the tally and its reader lie where their pointers say.
-/
import Derived.Test.YtdhjdkhhhdcjdaaMGe
/- The document's reader: what a step leaves. Conditions: the tally and its reader lie where their pointers say. -/
section
namespace Go.Proofs.Ytdhjdkhhhdcjdaa.Ta
set_option linter.unusedSimpArgs false
set_option linter.unusedVariables false
set_option maxRecDepth 100000
open Go.Joins Go.Deep Go.ChangeShapes Go.WideShapes Go.ChangeAt Go.RowKit

section
variable {F : Fence} {n : Nat} {P : Program} {o : Oper} {a : Act} {w : World} {Q : Exit → Act → World → Prop}
/-- a cell that was there is written, as an operation alone -/
theorem wpIn_store_old {b j : Nat} {ty : TypeId} {x y : Operand} {v v0 : Value} {K : Act → World → Prop} (hc : w.cell? ⟨b, j, none⟩ = some v0) (hf : w.frozen? ⟨b, j, none⟩ = false) (ho : o.op = .store ty x y) (hx : opnd a x = some (.pointer (some ⟨b, j, none⟩))) (hy : opnd a y = some v)
    (hi : (P.info? ty).map (·.size) = some 1) (h1 : v.oneCell' = true) (h : K (a.put o.dst undef) (w.setCell ⟨b, j, none⟩ v)) : o.wpIn F n P a w K Q := by
  refine ⟨by simp [Oper.about, ho], ?_⟩
  rw [Oper.semAt_plain F _ _ (by rw [ho]; intro c hc'; cases hc')]
  have hcs : v.cells = #[v] := by cases v <;> first | rfl | cases h1
  have hst : (storeVar ty ⟨b, j, none⟩ v).run P w = .ok () (w.setCell ⟨b, j, none⟩ v) := by
    cases hq : P.info? ty with
    | none => simp [hq] at hi
    | some i =>
      have hs : i.size = 1 := by simpa [hq] using hi
      simp [storeVar, sizeOf, typeInfo, hq, hcs, hs, storeCells, Addr.add_mid, run_store P w _ v _ h1, hc, hf]
  unfold execOp
  simp only [ho, opnd_eval hx, opnd_eval hy, Instr.storeAt, Instr.sureAddr, Sem.run_bind, Sem.run_pure, Result.andThen_ok, hst]
  exact h
end
section
variable {F : Fence} {n : Nat} {P : Program} {o : Oper} {a : Act} {w : World} {Q : Exit → Act → World → Prop}
/-- one number is appended, as an operation alone -/
theorem wpIn_append_own {K : Act → World → Prop} (s x : Operand) (t : TypeId) (hop : o.op = Op.call { callee := Callee.builtin Builtin.append, args := #[s, x], argTypes := #[t, t] })
    (base : Nat) (e : TypeId) (i : TypeInfo) (z : Value) (size bytes : Nat) (h1 : P.underlying t = some (.slice e)) (h2 : P.info? e = some i) (h3 : i.zero = some z) (h4 : i.size = size) (h5 : i.bytes = bytes) (h6 : z.cells.size = size) (h7 : 0 < size)
    (v : Value) (k : Nat) (xs : List Value) (hs : opnd a s = some v) (hown : w.ownsRow base e size v k xs) (ad : Addr) (m c : Nat) (news : List Value) (hx : opnd a x = some (.slice (some ad) m c)) (hn : news.length = m * size)
    (hc : ∀ j u, news[j]? = some u → w.cell? (ad.add j) = some u) (h1c : ∀ u ∈ news, u.oneCell' = true) (b1 : k + m ≤ maxLen) (b2 : (k + m) * bytes ≤ 140737488355328) (b3 : base ≤ w.heap.size)
    (hK : ∀ v' w', w'.ownsRow base e size v' (k + m) (xs ++ news) → w.grownBy w' v.ownBlock → (v'.ownBlock = v.ownBlock ∨ v'.ownBlock = some w.heap.size) → (v' = .slice none 0 0 ↔ v = .slice none 0 0 ∧ m = 0) → K (a.put o.dst v') w') : o.wpIn F n P a w K Q := by
  obtain ⟨v', w', hrun, r1, r2, r3, r4⟩ := run_append_own_at (P := P) w base t o.type e i z size bytes h1 h2 h3 h4 h5 h6 h7 v k xs hown ad m c news hn hc h1c b1 b2 b3
  have hs' := opnd_eval hs
  have hx' := opnd_eval hx
  unfold Oper.wpIn
  refine ⟨?_, ?_⟩
  · simp [Oper.about, hop, resolve, Target.leads, Sem.run_pure]
  · rw [Oper.semAt_plain F _ _ (by rw [hop]; intro c hc'; cases hc')]
    simp [execOp, hop, resolve, invoke, builtin, hs', hx', hrun, Result.andThen]
    exact hK v' w' r1 r2 r4 r3
end
theorem results_ctt {fn : Func} {p u u2 : Tmp} {ty : TypeId} (h : fn.results = #[.cell p ty, .tmp u, .tmp u2]) {tmps : Array Value} {P : Program} {w : World} {a : Addr} {v : Value} (hp : tmps.getD p undef = .pointer (some a)) (hu : (loadVar ty a).run P w = .ok v w) : (results fn tmps).run P w = .ok (.tuple #[v, tmps.getD u undef, tmps.getD u2 undef]) w := by
  have hp' := hp
  simp only [Array.getD_eq_getD_getElem?] at hp'
  simp only [results, h]
  simp [Sem.run_bind, Result.andThen, asAddr, hp', hu]
theorem load_c6 {w : World} {b : Nat} {t : TypeId} {c : C6} (h : Held w b t (row6 c)) : (loadVar 42 ⟨b, 0, none⟩).run Try.prog w = .ok (cv c) w :=
  run_loadVar_row w b t 42 (row6 c) (0, 0) _ h Try.underlying42 rfl cInfo
/-- the reader is changed in its own blocks -/
theorem DocS.rput {W w' : World} {own o1 o2 o2' : Nat → Prop} {p bc bs cap N : Nat} {rb : Nat → Nat} {X : TS} (h : DocS W own o1 o2 p bc bs cap rb X N) {R' : RD} (hf : Foot o2 W w') (hr : RAt w' o2' p R') (ho : ∀ i, o2' i → o2 i ∨ W.heap.size ≤ i) (hR : FitsR X.s.length N R') {v : Value} {e : Ending} (he : e = .returned v) : DidF DocAt W own p { X with rd := some R' } N v e w' := by
  have hd := h.d.on (W' := w') fun i hi => hf.block i (h.d.lt i hi) (h.sep i hi)
  refine ⟨he, ⟨fun i => o1 i ∨ o2' i, ⟨o1, o2', bc, bs, cap, rb, ⟨hd.box, hd.hs, hd.hc, hd.hr, hd.inj, hd.ne, hd.nr, hd.own, h.d.fits.read hR⟩, hr, fun i h1 h2 => ?_, fun i => Iff.rfl⟩, fun i hi => ?_⟩, hf.mono fun i _ hi => (h.own i).2 (.inr hi)⟩
  · rcases ho i h2 with h3 | h3
    · exact h.sep i h1 h3
    · have := h.d.lt i h1
      omega
  · rcases hi with hi | hi
    · exact .inl ((h.own i).2 (.inl hi))
    · exact (ho i hi).imp (fun h1 => (h.own i).2 (.inr h1)) id
end Go.Proofs.Ytdhjdkhhhdcjdaa.Ta
end
/- The document's reader: its steps. Conditions: the tally and its reader lie where their pointers say. -/
section
namespace Go.Proofs.Ytdhjdkhhhdcjdaa.Ta
set_option linter.unusedSimpArgs false
set_option linter.unusedVariables false
set_option maxRecDepth 100000
open Go.Joins Go.Deep Go.ChangeShapes Go.WideShapes Go.ChangeAt Go.RowKit

theorem rd_same {X : TS} {R : RD} (h : X.rd = some R) : ({ X with rd := some R } : TS) = X := by rw [← h]
set_option maxHeartbeats 4000000 in
theorem step_odd (W : World) (own : Nat → Prop) (p : Nat) (X : TS) (N : Nat) (R : RD) (hR : X.rd = some R) (h : DocAt W own p X N) (h0 : R.at' = 0) (ho1 : sq X R.q % 2 = 1) : Calls Try.prog 15 #[.pointer (some ⟨R.r, 0, none⟩)] W (DidF DocAt W own p { X with rd := some (stepR X R) } N (.tuple #[cv (stepV X R), .bool (stepOk X R), .int .i64 (stepE X R)])) := by
  obtain ⟨o1, o2, bc, bs, cap, rb, h⟩ := h
  have hfr := h.d.fits.fr R hR
  have hrr : RAt W o2 p R := by have := h.r; rw [hR] at this; exact this
  obtain ⟨n, hn⟩ : ∃ n, X.s.length = n := ⟨_, rfl⟩
  have hqn : R.q < n := by rw [← hn]; exact hfr.q
  have i0 : ¬ ((R.q : Int) < 0) := by omega
  have i1 : ¬ n ≤ R.q := by omega
  have n64 : n ≤ 64 := by rw [← hn]; exact h.d.fits.n64
  have hsq := h.d.fits.sq hfr.q
  have HD := Lib.hid h
  have HFR := Lib.hid hfr
  have HN := Lib.hid hn
  rcases hrr with ⟨ha, ⟨x3, x4, hrb⟩, ho⟩ | ⟨ha, -⟩
  case inr => exact absurd h0 ha
  have e1 : stepR X R = R := by rw [stepR, if_pos h0, if_pos ho1]
  have e2 : stepE X R = 111 := by rw [stepE, if_pos h0, if_pos ho1]
  have e3 : stepOk X R = false := by rw [stepOk, h0]; rfl
  have e4 : stepV X R = zero6 := by rw [stepV, e3]; rfl
  rw [e1, e2, e3, e4]
  have H := Mem.start W
  have tq : ((sq X (R.q : Int)).tmod 2 == 1) = true := by rw [Int.tmod_eq_emod_of_nonneg hsq.1]; simpa using ho1
  have tq2 : (sq X (R.q : Int) % 2 == 1) = true := by simpa using ho1
  clear e1 e2 e3 e4 h hfr hn ha
  go_enter Try.func15, Try.ntmps15
  go_upto_region 1 with (first | ((with_reducible show wpList _ _ _ _ _ (World.alloc _ (.cells _ _))); refine mem_newb (l := []) H ?_; intro bx w3 hbk H2; try rw [← hbk]; clear hbk H; have H := H2; clear H2; simp only [List.cons_append, List.nil_append, List.set_cons_zero, List.set_cons_succ, List.setIfInBounds_toArray] at H))
  have hd := HD.out.d.on (W' := w3) fun i hi => H.below.block i (HD.out.d.lt i hi)
  have hrb3 := hrb.below H.below hrb.lt
  have r0 : w3.cell? ⟨R.r, 0, none⟩ = some (.pointer (some ⟨p, 0, none⟩)) := hrb3.cell 0
  have r1 : w3.cell? ⟨R.r, 1, none⟩ = some (.int .i64 (R.q : Int)) := hrb3.cell 1
  have r2 : w3.cell? ⟨R.r, 2, none⟩ = some (.int .i64 0) := hrb3.cell 2
  have lr := hrb3.lt
  have p1 : w3.cell? ⟨p, 1, none⟩ = some (sl bs X.s) := hd.box.cell 1
  have p0 : w3.cell? ⟨p, 0, none⟩ = some (.slice (some ⟨bc, 0, none⟩) X.s.length cap) := hd.box.cell 0
  rw [sl] at p1
  rw [HN.out] at p1 p0
  obtain ⟨ts, hts⟩ := hd.hs
  have gs := Held.num hts (sq_at HFR.out.q)
  have cr := DAt.row w3 o1 p bc bs cap rb X N hd HFR.out.q
  have lp := hd.box.lt
  have lb := hts.lt
  obtain ⟨tc, ccs, htc, -⟩ := hd.hc
  have lc := htc.lt
  clear hts htc
  clear hd hrb3 hrb ho
  generalize sq X (R.q : Int) = s at *
  go_wp2_with fail
  go_region
  have H2 := H.drew
  clear H
  have H := H2
  clear H2
  go_wp2_with (first
    | go_skip
    | ((with_reducible show wpList _ _ _ (⟨_, .store 42 _ _, _, _, _, _⟩ :: _) _ _); refine mem_store (i := 0) H (by first | exact wanted_none rfl | exact wanted_some rfl rfl rfl rfl) (by exact rfl) (by exact rfl) (by exact rfl) (by exact rfl) (by exact cInfo) (by exact rfl) (by exact rfl) ?_; intro w2 H2; clear H; have H := H2; clear H2; simp only [List.cons_append, List.nil_append, List.set_cons_zero, List.set_cons_succ, List.setIfInBounds_toArray] at H))
  refine bodyPost_ret (results_ctt rfl rfl (load_c6 (c := zero6) (H.at 0 rfl))) rfl ?_
  rw [rd_same hR]
  exact HD.out.same (Nat.le_refl _) rfl H.below
set_option maxHeartbeats 4000000 in
theorem step_begin (W : World) (own : Nat → Prop) (p : Nat) (X : TS) (N : Nat) (R : RD) (hR : X.rd = some R) (h : DocAt W own p X N) (h0 : R.at' = 0) (ho1 : ¬ sq X R.q % 2 = 1) : Calls Try.prog 15 #[.pointer (some ⟨R.r, 0, none⟩)] W (DidF DocAt W own p { X with rd := some (stepR X R) } N (.tuple #[cv (stepV X R), .bool (stepOk X R), .int .i64 (stepE X R)])) := by
  obtain ⟨o1, o2, bc, bs, cap, rb, h⟩ := h
  have hfr := h.d.fits.fr R hR
  have hrr : RAt W o2 p R := by have := h.r; rw [hR] at this; exact this
  obtain ⟨n, hn⟩ : ∃ n, X.s.length = n := ⟨_, rfl⟩
  have hqn : R.q < n := by rw [← hn]; exact hfr.q
  have i0 : ¬ ((R.q : Int) < 0) := by omega
  have i1 : ¬ n ≤ R.q := by omega
  have n64 : n ≤ 64 := by rw [← hn]; exact h.d.fits.n64
  have hsq := h.d.fits.sq hfr.q
  have HD := Lib.hid h
  have HFR := Lib.hid hfr
  have HN := Lib.hid hn
  rcases hrr with ⟨ha, ⟨x3, x4, hrb⟩, ho⟩ | ⟨ha, -⟩
  case inr => exact absurd h0 ha
  have e1 : stepR X R = { R with at' := 1, s0 := sq X R.q, l := [] } := by rw [stepR, if_pos h0, if_neg ho1]
  have e2 : stepE X R = 0 := by rw [stepE, if_pos h0, if_neg ho1]
  have e3 : stepOk X R = false := by rw [stepOk, h0]; rfl
  have e4 : stepV X R = zero6 := by rw [stepV, e3]; rfl
  have hfit := step_fits HD.out.d.fits HFR.out
  rw [e1] at hfit
  rw [e1, e2, e3, e4]
  have HFIT := Lib.hid hfit
  have H := Mem.start W
  have tq : ((sq X (R.q : Int)).tmod 2 == 1) = false := by rw [Int.tmod_eq_emod_of_nonneg hsq.1]; simpa using ho1
  have tq2 : (sq X (R.q : Int) % 2 == 1) = false := by simpa using ho1
  clear e1 e2 e3 e4 h hfr hn ha hfit
  go_enter Try.func15, Try.ntmps15
  go_upto_region 1 with (first | ((with_reducible show wpList _ _ _ _ _ (World.alloc _ (.cells _ _))); refine mem_newb (l := []) H ?_; intro bx w3 hbk H2; try rw [← hbk]; clear hbk H; have H := H2; clear H2; simp only [List.cons_append, List.nil_append, List.set_cons_zero, List.set_cons_succ, List.setIfInBounds_toArray] at H))
  have hd := HD.out.d.on (W' := w3) fun i hi => H.below.block i (HD.out.d.lt i hi)
  have hrb3 := hrb.below H.below hrb.lt
  have r0 : w3.cell? ⟨R.r, 0, none⟩ = some (.pointer (some ⟨p, 0, none⟩)) := hrb3.cell 0
  have r1 : w3.cell? ⟨R.r, 1, none⟩ = some (.int .i64 (R.q : Int)) := hrb3.cell 1
  have r2 : w3.cell? ⟨R.r, 2, none⟩ = some (.int .i64 0) := hrb3.cell 2
  have r3 : w3.cell? ⟨R.r, 3, none⟩ = some x3 := hrb3.cell 3
  have r4 : w3.cell? ⟨R.r, 4, none⟩ = some x4 := hrb3.cell 4
  have z2 : w3.frozen? ⟨R.r, 2, none⟩ = false := hrb3.frozen 2
  have z3 : w3.frozen? ⟨R.r, 3, none⟩ = false := hrb3.frozen 3
  have z4 : w3.frozen? ⟨R.r, 4, none⟩ = false := hrb3.frozen 4
  have lr := hrb3.lt
  have p1 : w3.cell? ⟨p, 1, none⟩ = some (sl bs X.s) := hd.box.cell 1
  have p0 : w3.cell? ⟨p, 0, none⟩ = some (.slice (some ⟨bc, 0, none⟩) X.s.length cap) := hd.box.cell 0
  rw [sl] at p1
  rw [HN.out] at p1 p0
  obtain ⟨ts, hts⟩ := hd.hs
  have gs := Held.num hts (sq_at HFR.out.q)
  have cr := DAt.row w3 o1 p bc bs cap rb X N hd HFR.out.q
  have lp := hd.box.lt
  have lb := hts.lt
  obtain ⟨tc, ccs, htc, -⟩ := hd.hc
  have lc := htc.lt
  clear hts htc
  have hxn : W.heap.size ≤ bx := (H.held _ List.mem_cons_self).1
  have hne : bx ≠ R.r := by have := hrb.lt; omega
  have gx0 := ((((H.at 0 rfl).other hne 3 (.int .i64 (sq X R.q))).other hne 4 (.slice none 0 0)).other hne 2 (.int .i64 1)).drew
  have hr5 := (((hrb3.set 3 (.int .i64 (sq X R.q))).set 4 (.slice none 0 0)).set 2 (.int .i64 1)).drew
  have hf5 := (((((Foot.of_below H.below : Foot o2 W w3).setCell (p := ⟨R.r, 3, none⟩) (fun _ => (ho _).2 rfl) (.int .i64 (sq X R.q))).setCell (p := ⟨R.r, 4, none⟩) (fun _ => (ho _).2 rfl) (.slice none 0 0))).setCell (p := ⟨R.r, 2, none⟩) (fun _ => (ho _).2 rfl) (.int .i64 1)).drew
  have HQ := Lib.hid (And.intro gx0 (And.intro hr5 (And.intro hf5 ho)))
  clear hd hrb3 hrb ho gx0 hr5 hf5 H
  generalize sq X (R.q : Int) = s at *
  go_wp2_with fail
  go_region
  go_upto_region 8 with fail
  generalize (((w3.setCell ⟨R.r, 3, none⟩ (.int .i64 s)).setCell ⟨R.r, 4, none⟩ (.slice none 0 0)).setCell ⟨R.r, 2, none⟩ (.int .i64 1)).drew = V at HQ ⊢
  have gx := HQ.out.1
  go_wp2_with (first
    | go_skip
    | ((with_reducible show wpList _ _ _ (⟨_, .store 42 _ _, _, _, _, _⟩ :: _) _ _); refine store_held gx (by first | exact wanted_none rfl | exact wanted_some rfl rfl rfl rfl) (by exact rfl) (by exact rfl) (by exact rfl) (by exact cInfo) (by exact rfl) (by exact rfl) ?_; intro w5 g5 F5))
  refine bodyPost_ret (results_ctt rfl rfl (load_c6 (c := zero6) g5)) rfl ?_
  refine HD.out.rput (R' := { R with at' := 1, s0 := s, l := [] }) (o2' := fun i => i = R.r) (HQ.out.2.2.1.trans F5 (fun i hi (e : i = bx) => by omega)) (.inr ⟨by simp, .slice none 0 0, HQ.out.2.1.foot F5 (fun e => hne e.symm), World.ownsRow_nil _ _ _ _, by simp [Value.ownBlock], fun i => ⟨.inl, fun h => h.elim id (fun h => by cases h)⟩⟩) (fun i hi => .inl ((HQ.out.2.2.2 i).2 hi)) HFIT.out rfl
theorem infoSl : (Try.prog.info? 35).map (·.size) = some 1 := by kernel_rfl
set_option maxHeartbeats 4000000 in
theorem step_load (W : World) (own : Nat → Prop) (p : Nat) (X : TS) (N : Nat) (R : RD) (hR : X.rd = some R) (h : DocAt W own p X N) (h0 : R.at' ≠ 0) (h6 : R.at' ≤ 6) : Calls Try.prog 15 #[.pointer (some ⟨R.r, 0, none⟩)] W (DidF DocAt W own p { X with rd := some (stepR X R) } N (.tuple #[cv (stepV X R), .bool (stepOk X R), .int .i64 (stepE X R)])) := by
  obtain ⟨o1, o2, bc, bs, cap, rb, h⟩ := h
  have hfr := h.d.fits.fr R hR
  have hrr : RAt W o2 p R := by have := h.r; rw [hR] at this; exact this
  obtain ⟨n, hn⟩ : ∃ n, X.s.length = n := ⟨_, rfl⟩
  have hqn : R.q < n := by rw [← hn]; exact hfr.q
  have i0 : ¬ ((R.q : Int) < 0) := by omega
  have i1 : ¬ n ≤ R.q := by omega
  have n64 : n ≤ 64 := by rw [← hn]; exact h.d.fits.n64
  have hsq := h.d.fits.sq hfr.q
  have HD := Lib.hid h
  have HFR := Lib.hid hfr
  have HN := Lib.hid hn
  rcases hrr with ⟨ha, -⟩ | ⟨ha, Lv, hrb, hrow, hLr, ho⟩
  case inl => exact absurd ha h0
  have e1 : stepR X R = { R with at' := R.at' + 1, l := R.l ++ [(kq X R.q).get (R.at' - 1)] } := by rw [stepR, if_neg h0, if_pos h6]
  have e2 : stepE X R = 0 := by rw [stepE, if_neg h0, if_pos h6]
  have e3 : stepOk X R = false := by rw [stepOk, decide_eq_false (by omega)]; rfl
  have e4 : stepV X R = zero6 := by rw [stepV, e3]; rfl
  have hfit := step_fits HD.out.d.fits HFR.out
  rw [e1] at hfit
  rw [e1, e2, e3, e4]
  have HFIT := Lib.hid hfit
  have H := Mem.start W
  clear e1 e2 e3 e4 h hfr hn ha hfit
  have r0 : W.cell? ⟨R.r, 0, none⟩ = some (.pointer (some ⟨p, 0, none⟩)) := hrb.cell 0
  have r1 : W.cell? ⟨R.r, 1, none⟩ = some (.int .i64 (R.q : Int)) := hrb.cell 1
  have r2 : W.cell? ⟨R.r, 2, none⟩ = some (.int .i64 (R.at' : Int)) := hrb.cell 2
  have r3 : W.cell? ⟨R.r, 3, none⟩ = some (.int .i64 R.s0) := hrb.cell 3
  have r4 : W.cell? ⟨R.r, 4, none⟩ = some Lv := hrb.cell 4
  have lr := hrb.lt
  have hd := HD.out.d
  have p1 : W.cell? ⟨p, 1, none⟩ = some (sl bs X.s) := hd.box.cell 1
  have p0 : W.cell? ⟨p, 0, none⟩ = some (.slice (some ⟨bc, 0, none⟩) X.s.length cap) := hd.box.cell 0
  rw [sl] at p1
  rw [HN.out] at p1 p0
  obtain ⟨ts, hts⟩ := hd.hs
  have gs := Held.num hts (sq_at HFR.out.q)
  have cr := DAt.row W o1 p bc bs cap rb X N hd HFR.out.q
  have lp := hd.box.lt
  have lb := hts.lt
  obtain ⟨tc, ccs, htc, -⟩ := hd.hc
  have lc := htc.lt
  clear hts htc
  obtain ⟨tr, htr⟩ := HD.out.d.hr R.q HFR.out.q
  have hat := HFR.out.len h0
  have ha1 : R.at' - 1 < 6 := by omega
  have cg := Held.six htr ha1
  obtain ⟨m, hm⟩ : ∃ m, R.at' - 1 = m := ⟨_, rfl⟩
  have lrb := htr.lt
  have HX := Lib.hid (And.intro hrb (And.intro hrow (And.intro hLr (And.intro ho hat))))
  clear hd hrb hrow hLr ho htr
  generalize hg : (kq X (R.q : Int)).get (R.at' - 1) = g at *
  rw [hm] at cg ha1
  generalize sq X (R.q : Int) = s at *
  obtain ⟨u0, hi, hu0, hu1, hu2⟩ := info_parts infoU
  have w1 : IntKind.i64.wrap ((R.at' : Int) - 1) = (m : Int) := by rw [wrap_id (by omega) (by omega)]; omega
  have j0 : ¬ ((m : Int) < 0) := by omega
  have j6 : ¬ (6 : Int) ≤ (m : Int) := by omega
  have j1 : ¬ (6 : Nat) ≤ m := by omega
  have HM := Lib.hid hm
  clear hm
  have tq : ((R.at' : Int) == 0) = false := by simp; exact h0
  have tq2 : decide ((R.at' : Int) ≤ 6) = true := decide_eq_true (by omega)
  go_enter Try.func15, Try.ntmps15
  go_upto_region 1 with (first | ((with_reducible show wpList _ _ _ _ _ (World.alloc _ (.cells _ _))); refine mem_newb (l := []) H ?_; intro bx w3 hbk H2; try rw [← hbk]; clear hbk H; have H := H2; clear H2; simp only [List.cons_append, List.nil_append, List.set_cons_zero, List.set_cons_succ, List.setIfInBounds_toArray] at H))
  go_wp2_with fail
  refine region_mem H 14 rfl (by kernel_rfl) (fun wr hS => ?_)
  clear H
  refine wpAnyR_take (i := 0) (v := .pointer (some ⟨R.r, 0, none⟩)) rfl rfl (by kernel_rfl) (by kernel_rfl) (by kernel_rfl) (fun _ _ _ h => h) (Nat.le_refl _) ⟨by rfl, fun w _ => (by go_simp; try (first | (simp only [IntKind.wrap_u32]; done) | rfl)), fun _ => rfl⟩ hS ?_
  simp only [List.getElem_toArray, List.getElem_cons_zero, List.getElem_cons_succ, Act.put, List.setIfInBounds_toArray, List.set_cons_zero, List.set_cons_succ]
  refine wpAnyR_take (i := 1) (v := .pointer (some ⟨R.r, 0, none⟩)) rfl rfl (by kernel_rfl) (by kernel_rfl) (by kernel_rfl) (fun _ _ _ h => h) (Nat.le_refl _) ⟨by rfl, fun w _ => (by go_simp; try (first | (simp only [IntKind.wrap_u32]; done) | rfl)), fun _ => rfl⟩ hS ?_
  simp only [List.getElem_toArray, List.getElem_cons_zero, List.getElem_cons_succ, Act.put, List.setIfInBounds_toArray, List.set_cons_zero, List.set_cons_succ]
  refine wpAnyR_take (i := 2) (v := .pointer (some ⟨R.r, 0, none⟩)) rfl rfl (by kernel_rfl) (by kernel_rfl) (by kernel_rfl) (fun _ _ _ h => h) (Nat.le_refl _) ⟨by rfl, fun w _ => (by go_simp; try (first | (simp only [IntKind.wrap_u32]; done) | rfl)), fun _ => rfl⟩ hS ?_
  simp only [List.getElem_toArray, List.getElem_cons_zero, List.getElem_cons_succ, Act.put, List.setIfInBounds_toArray, List.set_cons_zero, List.set_cons_succ]
  refine wpAnyR_take (i := 3) (v := .pointer (some ⟨p, 0, none⟩)) rfl rfl (by kernel_rfl) (by kernel_rfl) (by kernel_rfl) (fun _ _ _ h => h) (Nat.le_refl _) (yields_old r0 lr (by exact rfl) (by exact rfl) (by exact rfl) (by first | exact Try.underlying3 | exact Try.underlying2 | exact Try.underlying40 | exact Try.underlying68 | exact Try.underlying35 | exact Try.underlying69 | exact Try.underlying28) rfl) hS ?_
  simp only [List.getElem_toArray, List.getElem_cons_zero, List.getElem_cons_succ, Act.put, List.setIfInBounds_toArray, List.set_cons_zero, List.set_cons_succ]
  refine wpAnyR_take (i := 4) (v := .pointer (some ⟨p, 0, none⟩)) rfl rfl (by kernel_rfl) (by kernel_rfl) (by kernel_rfl) (fun _ _ _ h => h) (Nat.le_refl _) ⟨by rfl, fun w _ => (by go_simp; try (first | (simp only [IntKind.wrap_u32]; done) | rfl)), fun _ => rfl⟩ hS ?_
  simp only [List.getElem_toArray, List.getElem_cons_zero, List.getElem_cons_succ, Act.put, List.setIfInBounds_toArray, List.set_cons_zero, List.set_cons_succ]
  refine wpAnyR_take (i := 5) (v := .pointer (some ⟨p, 1, none⟩)) rfl rfl (by kernel_rfl) (by kernel_rfl) (by kernel_rfl) (fun _ _ _ h => h) (Nat.le_refl _) ⟨by rfl, fun w _ => (by go_simp; try (first | (simp only [IntKind.wrap_u32]; done) | rfl)), fun _ => rfl⟩ hS ?_
  simp only [List.getElem_toArray, List.getElem_cons_zero, List.getElem_cons_succ, Act.put, List.setIfInBounds_toArray, List.set_cons_zero, List.set_cons_succ]
  refine wpAnyR_take (i := 6) (v := .slice (some ⟨bs, 0, none⟩) n n) rfl rfl (by kernel_rfl) (by kernel_rfl) (by kernel_rfl) (fun _ _ _ h => h) (Nat.le_refl _) (yields_old p1 lp (by exact rfl) (by exact rfl) (by exact rfl) (by first | exact Try.underlying3 | exact Try.underlying2 | exact Try.underlying40 | exact Try.underlying68 | exact Try.underlying35 | exact Try.underlying69 | exact Try.underlying28) rfl) hS ?_
  simp only [List.getElem_toArray, List.getElem_cons_zero, List.getElem_cons_succ, Act.put, List.setIfInBounds_toArray, List.set_cons_zero, List.set_cons_succ]
  refine wpAnyR_take (i := 7) (v := .pointer (some ⟨R.r, 0, none⟩)) rfl rfl (by kernel_rfl) (by kernel_rfl) (by kernel_rfl) (fun _ _ _ h => h) (Nat.le_refl _) ⟨by rfl, fun w _ => (by go_simp; try (first | (simp only [IntKind.wrap_u32]; done) | rfl)), fun _ => rfl⟩ hS ?_
  simp only [List.getElem_toArray, List.getElem_cons_zero, List.getElem_cons_succ, Act.put, List.setIfInBounds_toArray, List.set_cons_zero, List.set_cons_succ]
  refine wpAnyR_take (i := 8) (v := .pointer (some ⟨R.r, 0, none⟩)) rfl rfl (by kernel_rfl) (by kernel_rfl) (by kernel_rfl) (fun _ _ _ h => h) (Nat.le_refl _) ⟨by rfl, fun w _ => (by go_simp; try (first | (simp only [IntKind.wrap_u32]; done) | rfl)), fun _ => rfl⟩ hS ?_
  simp only [List.getElem_toArray, List.getElem_cons_zero, List.getElem_cons_succ, Act.put, List.setIfInBounds_toArray, List.set_cons_zero, List.set_cons_succ]
  refine wpAnyR_take (i := 9) (v := .pointer (some ⟨R.r, 1, none⟩)) rfl rfl (by kernel_rfl) (by kernel_rfl) (by kernel_rfl) (fun _ _ _ h => h) (Nat.le_refl _) ⟨by rfl, fun w _ => (by go_simp; try (first | (simp only [IntKind.wrap_u32]; done) | rfl)), fun _ => rfl⟩ hS ?_
  simp only [List.getElem_toArray, List.getElem_cons_zero, List.getElem_cons_succ, Act.put, List.setIfInBounds_toArray, List.set_cons_zero, List.set_cons_succ]
  refine wpAnyR_take (i := 10) (v := .int .i64 R.q) rfl rfl (by kernel_rfl) (by kernel_rfl) (by kernel_rfl) (fun _ _ _ h => h) (Nat.le_refl _) (yields_old r1 lr (by exact rfl) (by exact rfl) (by exact rfl) (by first | exact Try.underlying3 | exact Try.underlying2 | exact Try.underlying40 | exact Try.underlying68 | exact Try.underlying35 | exact Try.underlying69 | exact Try.underlying28) rfl) hS ?_
  simp only [List.getElem_toArray, List.getElem_cons_zero, List.getElem_cons_succ, Act.put, List.setIfInBounds_toArray, List.set_cons_zero, List.set_cons_succ]
  refine wpAnyR_take (i := 11) (v := .pointer (some ⟨bs, R.q, none⟩)) rfl rfl (by kernel_rfl) (by kernel_rfl) (by kernel_rfl) (fun _ _ _ h => h) (Nat.le_refl _) ⟨by rfl, fun w _ => (by go_simp; try (first | (simp only [IntKind.wrap_u32]; done) | rfl)), fun _ => rfl⟩ hS ?_
  simp only [List.getElem_toArray, List.getElem_cons_zero, List.getElem_cons_succ, Act.put, List.setIfInBounds_toArray, List.set_cons_zero, List.set_cons_succ]
  refine wpAnyR_take (i := 12) (v := .int .i64 s) rfl rfl (by kernel_rfl) (by kernel_rfl) (by kernel_rfl) (fun _ _ _ h => h) (Nat.le_refl _) (yields_old gs lb (by exact rfl) (by exact rfl) (by exact rfl) (by first | exact Try.underlying3 | exact Try.underlying2 | exact Try.underlying40 | exact Try.underlying68 | exact Try.underlying35 | exact Try.underlying69 | exact Try.underlying28) rfl) hS ?_
  simp only [List.getElem_toArray, List.getElem_cons_zero, List.getElem_cons_succ, Act.put, List.setIfInBounds_toArray, List.set_cons_zero, List.set_cons_succ]
  refine wpAnyG_one (i := 13) (by kernel_rfl) rfl (fun K hK => ?_)
  go_simp
  refine hK _ _ (.inr hS) ?_
  clear hK K
  refine wpAnyG_done (by kernel_rfl) ?_ _
  have H := hS
  clear hS
  go_upto_region 10 with (first
    | ((with_reducible show wpList _ _ _ (⟨_, .load _ _, _, _, _, _⟩ :: _) _ _); refine mem_loado H r2 lr (by first | exact wanted_none rfl | exact wanted_some rfl rfl rfl rfl) (by exact rfl) (by exact rfl) (by first | exact Try.underlying3 | exact Try.underlying2 | exact Try.underlying40 | exact Try.underlying68 | exact Try.underlying35 | exact Try.underlying69 | exact Try.underlying28) rfl ?_))
  refine region_memk H 26 30 rfl (by kernel_rfl) (fun wr0 hcl hS => ?_)
  clear H
  refine wpAnyG_pure (i := 0) (v := .pointer (some ⟨R.r, 0, none⟩)) rfl rfl (by kernel_rfl) (by kernel_rfl) (by kernel_rfl) (fun _ _ _ h => h) (by decide) ⟨by rfl, fun w _ => (by go_simp; try (first | (simp only [IntKind.wrap_u32]; done) | rfl)), fun _ => rfl⟩ (.inr hS) ?_
  have hc1 := hcl.step (i := 0) (by kernel_rfl)
  clear hcl; have hcl := hc1; clear hc1; simp only [List.getElem_toArray, List.getElem_cons_zero, List.getElem_cons_succ, Act.put, List.setIfInBounds_toArray, List.set_cons_zero, List.set_cons_succ]
  refine wpAnyG_pure (i := 1) (v := .pointer (some ⟨R.r, 0, none⟩)) rfl rfl (by kernel_rfl) (by kernel_rfl) (by kernel_rfl) (fun _ _ _ h => h) (by decide) ⟨by rfl, fun w _ => (by go_simp; try (first | (simp only [IntKind.wrap_u32]; done) | rfl)), fun _ => rfl⟩ (.inr hS) ?_
  have hc1 := hcl.step (i := 1) (by kernel_rfl)
  clear hcl; have hcl := hc1; clear hc1; simp only [List.getElem_toArray, List.getElem_cons_zero, List.getElem_cons_succ, Act.put, List.setIfInBounds_toArray, List.set_cons_zero, List.set_cons_succ]
  refine wpAnyG_pure (i := 2) (v := .pointer (some ⟨R.r, 0, none⟩)) rfl rfl (by kernel_rfl) (by kernel_rfl) (by kernel_rfl) (fun _ _ _ h => h) (by decide) ⟨by rfl, fun w _ => (by go_simp; try (first | (simp only [IntKind.wrap_u32]; done) | rfl)), fun _ => rfl⟩ (.inr hS) ?_
  have hc1 := hcl.step (i := 2) (by kernel_rfl)
  clear hcl; have hcl := hc1; clear hc1; simp only [List.getElem_toArray, List.getElem_cons_zero, List.getElem_cons_succ, Act.put, List.setIfInBounds_toArray, List.set_cons_zero, List.set_cons_succ]
  refine wpAnyG_pure (i := 3) (v := .pointer (some ⟨R.r, 4, none⟩)) rfl rfl (by kernel_rfl) (by kernel_rfl) (by kernel_rfl) (fun _ _ _ h => h) (by decide) ⟨by rfl, fun w _ => (by go_simp; try (first | (simp only [IntKind.wrap_u32]; done) | rfl)), fun _ => rfl⟩ (.inr hS) ?_
  have hc1 := hcl.step (i := 3) (by kernel_rfl)
  clear hcl; have hcl := hc1; clear hc1; simp only [List.getElem_toArray, List.getElem_cons_zero, List.getElem_cons_succ, Act.put, List.setIfInBounds_toArray, List.set_cons_zero, List.set_cons_succ]
  refine wpAnyG_take (i := 4) 16 (v := Lv) rfl rfl (by kernel_rfl) (by kernel_rfl) (by kernel_rfl) (fun _ _ _ h => h) (by kernel_rfl) (by decide) hcl (yields_old r4 lr (by exact rfl) (by exact rfl) (by exact rfl) (by first | exact Try.underlying3 | exact Try.underlying2 | exact Try.underlying40 | exact Try.underlying68 | exact Try.underlying35 | exact Try.underlying69 | exact Try.underlying28) rfl) hS (fun hc1 => ?_)
  clear hcl; have hcl := hc1; clear hc1; simp only [List.getElem_toArray, List.getElem_cons_zero, List.getElem_cons_succ, Act.put, List.setIfInBounds_toArray, List.set_cons_zero, List.set_cons_succ]
  refine wpAnyG_pure (i := 5) (v := .pointer (some ⟨R.r, 0, none⟩)) rfl rfl (by kernel_rfl) (by kernel_rfl) (by kernel_rfl) (fun _ _ _ h => h) (by decide) ⟨by rfl, fun w _ => (by go_simp; try (first | (simp only [IntKind.wrap_u32]; done) | rfl)), fun _ => rfl⟩ (.inr hS) ?_
  have hc1 := hcl.step (i := 5) (by kernel_rfl)
  clear hcl; have hcl := hc1; clear hc1; simp only [List.getElem_toArray, List.getElem_cons_zero, List.getElem_cons_succ, Act.put, List.setIfInBounds_toArray, List.set_cons_zero, List.set_cons_succ]
  refine wpAnyG_pure (i := 6) (v := .pointer (some ⟨R.r, 0, none⟩)) rfl rfl (by kernel_rfl) (by kernel_rfl) (by kernel_rfl) (fun _ _ _ h => h) (by decide) ⟨by rfl, fun w _ => (by go_simp; try (first | (simp only [IntKind.wrap_u32]; done) | rfl)), fun _ => rfl⟩ (.inr hS) ?_
  have hc1 := hcl.step (i := 6) (by kernel_rfl)
  clear hcl; have hcl := hc1; clear hc1; simp only [List.getElem_toArray, List.getElem_cons_zero, List.getElem_cons_succ, Act.put, List.setIfInBounds_toArray, List.set_cons_zero, List.set_cons_succ]
  refine wpAnyG_pure (i := 7) (v := .pointer (some ⟨R.r, 0, none⟩)) rfl rfl (by kernel_rfl) (by kernel_rfl) (by kernel_rfl) (fun _ _ _ h => h) (by decide) ⟨by rfl, fun w _ => (by go_simp; try (first | (simp only [IntKind.wrap_u32]; done) | rfl)), fun _ => rfl⟩ (.inr hS) ?_
  have hc1 := hcl.step (i := 7) (by kernel_rfl)
  clear hcl; have hcl := hc1; clear hc1; simp only [List.getElem_toArray, List.getElem_cons_zero, List.getElem_cons_succ, Act.put, List.setIfInBounds_toArray, List.set_cons_zero, List.set_cons_succ]
  refine wpAnyG_take (i := 8) 16 (v := .pointer (some ⟨p, 0, none⟩)) rfl rfl (by kernel_rfl) (by kernel_rfl) (by kernel_rfl) (fun _ _ _ h => h) (by kernel_rfl) (by decide) hcl (yields_old r0 lr (by exact rfl) (by exact rfl) (by exact rfl) (by first | exact Try.underlying3 | exact Try.underlying2 | exact Try.underlying40 | exact Try.underlying68 | exact Try.underlying35 | exact Try.underlying69 | exact Try.underlying28) rfl) hS (fun hc1 => ?_)
  clear hcl; have hcl := hc1; clear hc1; simp only [List.getElem_toArray, List.getElem_cons_zero, List.getElem_cons_succ, Act.put, List.setIfInBounds_toArray, List.set_cons_zero, List.set_cons_succ]
  refine wpAnyG_pure (i := 9) (v := .pointer (some ⟨p, 0, none⟩)) rfl rfl (by kernel_rfl) (by kernel_rfl) (by kernel_rfl) (fun _ _ _ h => h) (by decide) ⟨by rfl, fun w _ => (by go_simp; try (first | (simp only [IntKind.wrap_u32]; done) | rfl)), fun _ => rfl⟩ (.inr hS) ?_
  have hc1 := hcl.step (i := 9) (by kernel_rfl)
  clear hcl; have hcl := hc1; clear hc1; simp only [List.getElem_toArray, List.getElem_cons_zero, List.getElem_cons_succ, Act.put, List.setIfInBounds_toArray, List.set_cons_zero, List.set_cons_succ]
  refine wpAnyG_pure (i := 10) (v := .pointer (some ⟨p, 0, none⟩)) rfl rfl (by kernel_rfl) (by kernel_rfl) (by kernel_rfl) (fun _ _ _ h => h) (by decide) ⟨by rfl, fun w _ => (by go_simp; try (first | (simp only [IntKind.wrap_u32]; done) | rfl)), fun _ => rfl⟩ (.inr hS) ?_
  have hc1 := hcl.step (i := 10) (by kernel_rfl)
  clear hcl; have hcl := hc1; clear hc1; simp only [List.getElem_toArray, List.getElem_cons_zero, List.getElem_cons_succ, Act.put, List.setIfInBounds_toArray, List.set_cons_zero, List.set_cons_succ]
  refine wpAnyG_take (i := 11) 16 (v := .slice (some ⟨bc, 0, none⟩) n cap) rfl rfl (by kernel_rfl) (by kernel_rfl) (by kernel_rfl) (fun _ _ _ h => h) (by kernel_rfl) (by decide) hcl (yields_old p0 lp (by exact rfl) (by exact rfl) (by exact rfl) (by first | exact Try.underlying3 | exact Try.underlying2 | exact Try.underlying40 | exact Try.underlying68 | exact Try.underlying35 | exact Try.underlying69 | exact Try.underlying28) rfl) hS (fun hc1 => ?_)
  clear hcl; have hcl := hc1; clear hc1; simp only [List.getElem_toArray, List.getElem_cons_zero, List.getElem_cons_succ, Act.put, List.setIfInBounds_toArray, List.set_cons_zero, List.set_cons_succ]
  refine wpAnyG_pure (i := 12) (v := .pointer (some ⟨R.r, 0, none⟩)) rfl rfl (by kernel_rfl) (by kernel_rfl) (by kernel_rfl) (fun _ _ _ h => h) (by decide) ⟨by rfl, fun w _ => (by go_simp; try (first | (simp only [IntKind.wrap_u32]; done) | rfl)), fun _ => rfl⟩ (.inr hS) ?_
  have hc1 := hcl.step (i := 12) (by kernel_rfl)
  clear hcl; have hcl := hc1; clear hc1; simp only [List.getElem_toArray, List.getElem_cons_zero, List.getElem_cons_succ, Act.put, List.setIfInBounds_toArray, List.set_cons_zero, List.set_cons_succ]
  refine wpAnyG_pure (i := 13) (v := .pointer (some ⟨R.r, 0, none⟩)) rfl rfl (by kernel_rfl) (by kernel_rfl) (by kernel_rfl) (fun _ _ _ h => h) (by decide) ⟨by rfl, fun w _ => (by go_simp; try (first | (simp only [IntKind.wrap_u32]; done) | rfl)), fun _ => rfl⟩ (.inr hS) ?_
  have hc1 := hcl.step (i := 13) (by kernel_rfl)
  clear hcl; have hcl := hc1; clear hc1; simp only [List.getElem_toArray, List.getElem_cons_zero, List.getElem_cons_succ, Act.put, List.setIfInBounds_toArray, List.set_cons_zero, List.set_cons_succ]
  refine wpAnyG_pure (i := 14) (v := .pointer (some ⟨R.r, 1, none⟩)) rfl rfl (by kernel_rfl) (by kernel_rfl) (by kernel_rfl) (fun _ _ _ h => h) (by decide) ⟨by rfl, fun w _ => (by go_simp; try (first | (simp only [IntKind.wrap_u32]; done) | rfl)), fun _ => rfl⟩ (.inr hS) ?_
  have hc1 := hcl.step (i := 14) (by kernel_rfl)
  clear hcl; have hcl := hc1; clear hc1; simp only [List.getElem_toArray, List.getElem_cons_zero, List.getElem_cons_succ, Act.put, List.setIfInBounds_toArray, List.set_cons_zero, List.set_cons_succ]
  refine wpAnyG_take (i := 15) 16 (v := .int .i64 R.q) rfl rfl (by kernel_rfl) (by kernel_rfl) (by kernel_rfl) (fun _ _ _ h => h) (by kernel_rfl) (by decide) hcl (yields_old r1 lr (by exact rfl) (by exact rfl) (by exact rfl) (by first | exact Try.underlying3 | exact Try.underlying2 | exact Try.underlying40 | exact Try.underlying68 | exact Try.underlying35 | exact Try.underlying69 | exact Try.underlying28) rfl) hS (fun hc1 => ?_)
  clear hcl; have hcl := hc1; clear hc1; simp only [List.getElem_toArray, List.getElem_cons_zero, List.getElem_cons_succ, Act.put, List.setIfInBounds_toArray, List.set_cons_zero, List.set_cons_succ]
  refine wpAnyG_pure (i := 16) (v := .pointer (some ⟨bc, R.q, none⟩)) rfl rfl (by kernel_rfl) (by kernel_rfl) (by kernel_rfl) (fun _ _ _ h => h) (by decide) ⟨by rfl, fun w _ => (by go_simp; try (first | (simp only [IntKind.wrap_u32]; done) | rfl)), fun _ => rfl⟩ (.inr hS) ?_
  have hc1 := hcl.step (i := 16) (by kernel_rfl)
  clear hcl; have hcl := hc1; clear hc1; simp only [List.getElem_toArray, List.getElem_cons_zero, List.getElem_cons_succ, Act.put, List.setIfInBounds_toArray, List.set_cons_zero, List.set_cons_succ]
  refine wpAnyG_take (i := 17) 16 (v := rowV (rb R.q)) rfl rfl (by kernel_rfl) (by kernel_rfl) (by kernel_rfl) (fun _ _ _ h => h) (by kernel_rfl) (by decide) hcl (yields_old cr lc (by exact rfl) (by exact rfl) (by exact rfl) (by first | exact Try.underlying3 | exact Try.underlying2 | exact Try.underlying40 | exact Try.underlying68 | exact Try.underlying35 | exact Try.underlying69 | exact Try.underlying28) rfl) hS (fun hc1 => ?_)
  clear hcl; have hcl := hc1; clear hc1; simp only [List.getElem_toArray, List.getElem_cons_zero, List.getElem_cons_succ, Act.put, List.setIfInBounds_toArray, List.set_cons_zero, List.set_cons_succ]
  refine wpAnyG_pure (i := 18) (v := .pointer (some ⟨R.r, 0, none⟩)) rfl rfl (by kernel_rfl) (by kernel_rfl) (by kernel_rfl) (fun _ _ _ h => h) (by decide) ⟨by rfl, fun w _ => (by go_simp; try (first | (simp only [IntKind.wrap_u32]; done) | rfl)), fun _ => rfl⟩ (.inr hS) ?_
  have hc1 := hcl.step (i := 18) (by kernel_rfl)
  clear hcl; have hcl := hc1; clear hc1; simp only [List.getElem_toArray, List.getElem_cons_zero, List.getElem_cons_succ, Act.put, List.setIfInBounds_toArray, List.set_cons_zero, List.set_cons_succ]
  refine wpAnyG_pure (i := 19) (v := .pointer (some ⟨R.r, 0, none⟩)) rfl rfl (by kernel_rfl) (by kernel_rfl) (by kernel_rfl) (fun _ _ _ h => h) (by decide) ⟨by rfl, fun w _ => (by go_simp; try (first | (simp only [IntKind.wrap_u32]; done) | rfl)), fun _ => rfl⟩ (.inr hS) ?_
  have hc1 := hcl.step (i := 19) (by kernel_rfl)
  clear hcl; have hcl := hc1; clear hc1; simp only [List.getElem_toArray, List.getElem_cons_zero, List.getElem_cons_succ, Act.put, List.setIfInBounds_toArray, List.set_cons_zero, List.set_cons_succ]
  refine wpAnyG_pure (i := 20) (v := .pointer (some ⟨R.r, 2, none⟩)) rfl rfl (by kernel_rfl) (by kernel_rfl) (by kernel_rfl) (fun _ _ _ h => h) (by decide) ⟨by rfl, fun w _ => (by go_simp; try (first | (simp only [IntKind.wrap_u32]; done) | rfl)), fun _ => rfl⟩ (.inr hS) ?_
  have hc1 := hcl.step (i := 20) (by kernel_rfl)
  clear hcl; have hcl := hc1; clear hc1; simp only [List.getElem_toArray, List.getElem_cons_zero, List.getElem_cons_succ, Act.put, List.setIfInBounds_toArray, List.set_cons_zero, List.set_cons_succ]
  refine wpAnyG_take (i := 21) 16 (v := .int .i64 (R.at' : Int)) rfl rfl (by kernel_rfl) (by kernel_rfl) (by kernel_rfl) (fun _ _ _ h => h) (by kernel_rfl) (by decide) hcl (yields_old r2 lr (by exact rfl) (by exact rfl) (by exact rfl) (by first | exact Try.underlying3 | exact Try.underlying2 | exact Try.underlying40 | exact Try.underlying68 | exact Try.underlying35 | exact Try.underlying69 | exact Try.underlying28) rfl) hS (fun hc1 => ?_)
  clear hcl; have hcl := hc1; clear hc1; simp only [List.getElem_toArray, List.getElem_cons_zero, List.getElem_cons_succ, Act.put, List.setIfInBounds_toArray, List.set_cons_zero, List.set_cons_succ]
  refine wpAnyG_pure (i := 22) (v := .int .i64 (m : Int)) rfl rfl (by kernel_rfl) (by kernel_rfl) (by kernel_rfl) (fun _ _ _ h => h) (by decide) ⟨by rfl, fun w _ => (by go_simp; try (first | (simp only [IntKind.wrap_u32]; done) | rfl)), fun _ => rfl⟩ (.inr hS) ?_
  have hc1 := hcl.step (i := 22) (by kernel_rfl)
  clear hcl; have hcl := hc1; clear hc1; simp only [List.getElem_toArray, List.getElem_cons_zero, List.getElem_cons_succ, Act.put, List.setIfInBounds_toArray, List.set_cons_zero, List.set_cons_succ]
  refine wpAnyG_pure (i := 23) (v := .pointer (some ⟨rb R.q, m, none⟩)) rfl rfl (by kernel_rfl) (by kernel_rfl) (by kernel_rfl) (fun _ _ _ h => h) (by decide) ⟨by rfl, fun w _ => (by go_simp; try (first | (simp only [IntKind.wrap_u32]; done) | rfl)), fun _ => rfl⟩ (.inr hS) ?_
  have hc1 := hcl.step (i := 23) (by kernel_rfl)
  clear hcl; have hcl := hc1; clear hc1; simp only [List.getElem_toArray, List.getElem_cons_zero, List.getElem_cons_succ, Act.put, List.setIfInBounds_toArray, List.set_cons_zero, List.set_cons_succ]
  refine wpAnyG_take (i := 24) 16 (v := .int .u64 g) rfl rfl (by kernel_rfl) (by kernel_rfl) (by kernel_rfl) (fun _ _ _ h => h) (by kernel_rfl) (by decide) hcl (yields_old cg lrb (by exact rfl) (by exact rfl) (by exact rfl) (by first | exact Try.underlying3 | exact Try.underlying2 | exact Try.underlying40 | exact Try.underlying68 | exact Try.underlying35 | exact Try.underlying69 | exact Try.underlying28) rfl) hS (fun hc1 => ?_)
  clear hcl; have hcl := hc1; clear hc1; simp only [List.getElem_toArray, List.getElem_cons_zero, List.getElem_cons_succ, Act.put, List.setIfInBounds_toArray, List.set_cons_zero, List.set_cons_succ]
  refine wpAnyG_one (i := 25) (by kernel_rfl) rfl (fun K hK => ?_)
  go_simp
  refine hK _ _ (.inr (hS.skip _)) ?_
  clear hK K
  have hc1 := hcl.step (i := 25) (by kernel_rfl)
  clear hcl
  have hcl := hc1
  clear hc1
  have hN := hS.alloc 40 #[.int .u64 g]
  have hnew := cell_one_new wr0 (.int .u64 g) 40
  have hxb := (hS.held _ List.mem_cons_self).1
  have hxl := (hS.at 0 rfl).lt
  have hsz : (wr0.alloc (.cells #[.int .u64 g] 40)).heap.size = wr0.heap.size + 1 := World.size_alloc _ _
  clear hS
  generalize hbN : wr0.heap.size = bN at *
  generalize wr0.alloc (.cells #[.int .u64 g] 40) = w6 at *
  simp only [List.cons_append, List.nil_append] at hN
  have hrow6 := ownsRow_on HX.out.2.1 (W' := w6) (fun i hi => hN.below.block i (ownsRow_lt HX.out.2.1 i hi))
  have hlen6 : R.l.length ≤ 6 := by have := HX.out.2.2.2.2; omega
  refine wpAnyG_one (i := 26) (by kernel_rfl) rfl (fun K hK => ?_)
  rw [if_pos (by exact rfl)]
  refine wpIn_append_own _ _ _ rfl 0 40 u0 (.int .u64 0) 1 8 Try.underlying35 hi hu0 hu1 hu2 rfl (by omega) Lv R.l.length (R.l.map (Value.int .u64)) (by exact rfl) hrow6 ⟨bN, 0, none⟩ 1 1 [.int .u64 g] (by exact rfl) rfl hnew (by simp [Value.oneCell']) (by unfold maxLen; omega) (by omega) (by omega) ?_
  intro v' w7 q1 q2 q3 q4
  refine hK _ _ (.inl (by kernel_rfl)) ?_
  clear hK K
  simp only [List.getElem_toArray, List.getElem_cons_zero, List.getElem_cons_succ, Act.put, List.setIfInBounds_toArray, List.set_cons_zero, List.set_cons_succ]
  have hr6 : Held w6 R.r 37 #[.pointer (some ⟨p, 0, none⟩), .int .i64 (R.q : Int), .int .i64 (R.at' : Int), .int .i64 R.s0, Lv] := HX.out.1.below hN.below HX.out.1.lt
  have hLb : ∀ i, Lv.ownBlock = some i → i < W.heap.size := fun i hi => ownsRow_lt HX.out.2.1 i hi
  have hr7 : Held w7 R.r 37 #[.pointer (some ⟨p, 0, none⟩), .int .i64 (R.q : Int), .int .i64 (R.at' : Int), .int .i64 R.s0, Lv] := (q2.block R.r hr6.lt (fun e => HX.out.2.2.1 e.symm)).trans hr6
  have hx6 := hN.at 0 rfl
  have hx7 : Held w7 bx 42 #[.int .u64 0, .int .u64 0, .int .u64 0, .int .u64 0, .int .u64 0, .int .u64 0] := (q2.block bx hx6.lt (fun e => by have := hLb bx e.symm; omega)).trans hx6
  have hf7 : Foot o2 W w7 := (Foot.of_below hN.below).grown q2 (fun i hi _ => (HX.out.2.2.2.1 i).2 (.inr hi))
  have hone : v'.oneCell' = true := by
    rcases q1.2 with ⟨e, -⟩ | ⟨g, cap, cur, e, -⟩
    · rw [e]; rfl
    · rw [e]; rfl
  have hvb : ∀ i, v'.ownBlock = some i → i ≠ R.r ∧ i ≠ bx := fun i hi => by
    rcases q3 with e | e
    · rw [e] at hi
      have := hLb i hi
      exact ⟨fun e2 => HX.out.2.2.1 (e2 ▸ hi), by omega⟩
    · rw [e] at hi
      have : w6.heap.size = i := by simpa using hi
      have := hr6.lt
      have := hx6.lt
      exact ⟨by omega, by omega⟩
  have hvo : ∀ i, v'.ownBlock = some i → o2 i ∨ W.heap.size ≤ i := fun i hi => by
    rcases q3 with e | e
    · rw [e] at hi
      exact .inl ((HX.out.2.2.2.1 i).2 (.inr hi))
    · rw [e] at hi
      have : w6.heap.size = i := by simpa using hi
      have := hN.below.size
      exact .inr (by omega)
  have hne : bx ≠ R.r := by have := HX.out.1.lt; omega
  have c4 : w7.cell? ⟨R.r, 4, none⟩ = some Lv := hr7.cell 4
  have z4 : w7.frozen? ⟨R.r, 4, none⟩ = false := hr7.frozen 4
  refine wpAnyG_one (i := 27) (by kernel_rfl) rfl (fun K hK => ?_)
  go_simp
  refine hK _ _ (.inl (by kernel_rfl)) ?_
  clear hK K
  try simp only [List.getElem_toArray, List.getElem_cons_zero, List.getElem_cons_succ, Act.put, List.setIfInBounds_toArray, List.set_cons_zero, List.set_cons_succ]
  refine wpAnyG_one (i := 28) (by kernel_rfl) rfl (fun K hK => ?_)
  go_simp
  refine hK _ _ (.inl (by kernel_rfl)) ?_
  clear hK K
  try simp only [List.getElem_toArray, List.getElem_cons_zero, List.getElem_cons_succ, Act.put, List.setIfInBounds_toArray, List.set_cons_zero, List.set_cons_succ]
  refine wpAnyG_one (i := 29) (by kernel_rfl) rfl (fun K hK => ?_)
  rw [if_pos (by exact rfl)]
  refine wpIn_store_old c4 z4 rfl (by exact rfl) (by exact rfl) infoSl hone ?_
  refine hK _ _ (.inl (by kernel_rfl)) ?_
  clear hK K
  refine wpAnyG_done (by kernel_rfl) ?_ _
  have hr8 := hr7.set 4 v'
  have hx8 := hx7.other hne 4 v'
  have hf8 := hf7.setCell (p := ⟨R.r, 4, none⟩) (fun _ => (HX.out.2.2.2.1 _).2 (.inl rfl)) v'
  have hrow8 := ownsRow_on (W' := w7.setCell ⟨R.r, 4, none⟩ v') q1 (fun i hi => Below.heap_setCell _ _ _ _ (hvb i hi).1)
  generalize w7.setCell ⟨R.r, 4, none⟩ v' = w8 at hr8 hx8 hf8 hrow8 ⊢
  clear q1 q2 q4 c4 z4 hr7 hx7 hf7 hr6 hx6 hN hnew hrow6 hcl
  have c2 : w8.cell? ⟨R.r, 2, none⟩ = some (.int .i64 (R.at' : Int)) := hr8.cell 2
  have z2 : w8.frozen? ⟨R.r, 2, none⟩ = false := hr8.frozen 2
  have w2 : IntKind.i64.wrap ((R.at' : Int) + 1) = ((R.at' : Int) + 1) := by rw [wrap_id (by omega) (by omega)]
  have hr9 := hr8.set 2 (.int .i64 ((R.at' : Int) + 1))
  have gx := hx8.other hne 2 (.int .i64 ((R.at' : Int) + 1))
  have hf9 := hf8.setCell (p := ⟨R.r, 2, none⟩) (fun _ => (HX.out.2.2.2.1 _).2 (.inl rfl)) (.int .i64 ((R.at' : Int) + 1))
  have hrow9 := ownsRow_on (W' := w8.setCell ⟨R.r, 2, none⟩ (.int .i64 ((R.at' : Int) + 1))) hrow8 (fun i hi => Below.heap_setCell _ _ _ _ (hvb i hi).1)
  have HQ := Lib.hid (And.intro hr9 (And.intro hf9 (And.intro hrow9 (And.intro hvb (And.intro hvo hone)))))
  clear hr8 hx8 hf8 hrow8 hr9 hf9 hrow9 hvb hvo hone hLb
  clear r0 r1 r2 r3 r4 p0 p1 gs cr cg lp lb lc lr lrb w1
  go_upto_region 12 with fail
  generalize w8.setCell ⟨R.r, 2, none⟩ (.int .i64 ((R.at' : Int) + 1)) = V at HQ gx ⊢
  go_wp2_with (first
    | go_skip
    | ((with_reducible show wpList _ _ _ (⟨_, .store 42 _ _, _, _, _, _⟩ :: _) _ _); refine store_held gx (by first | exact wanted_none rfl | exact wanted_some rfl rfl rfl rfl) (by exact rfl) (by exact rfl) (by exact rfl) (by exact cInfo) (by exact rfl) (by exact rfl) ?_; intro w5 g5 F5))
  refine bodyPost_ret (results_ctt rfl rfl (load_c6 (c := zero6) g5)) rfl ?_
  have ez : ((R.at' + 1 : Nat) : Int) = (R.at' : Int) + 1 := by omega
  refine HD.out.rput (R' := { R with at' := R.at' + 1, l := R.l ++ [g] }) (o2' := fun i => i = R.r ∨ v'.ownBlock = some i) (HQ.out.2.1.trans F5 (fun i hi (e : i = bx) => by omega)) (.inr ⟨by simp, v', ?_, ?_, fun e => (HQ.out.2.2.2.1 _ e).1 rfl, fun i => Iff.rfl⟩) (fun i hi => hi.elim (fun e => .inl ((HX.out.2.2.2.1 i).2 (.inl e))) (HQ.out.2.2.2.2.1 i)) HFIT.out rfl
  · show Held w5 R.r 37 #[.pointer (some ⟨p, 0, none⟩), .int .i64 (R.q : Int), .int .i64 ((R.at' + 1 : Nat) : Int), .int .i64 R.s0, v']
    rw [ez]
    exact HQ.out.1.foot F5 (fun e => hne e.symm)
  · show World.ownsRow w5 0 40 1 v' (R.l ++ [g]).length ((R.l ++ [g]).map (Value.int .u64))
    rw [List.length_append, List.map_append]
    exact ownsRow_on HQ.out.2.2.1 (fun i hi => F5.block i (ownsRow_lt HQ.out.2.2.1 i hi) (HQ.out.2.2.2.1 i hi).2)
end Go.Proofs.Ytdhjdkhhhdcjdaa.Ta
end
