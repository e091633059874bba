/-
  The program's Sum. Conditions: the tally lies where its pointer says. The program's Sum. Conditions: the tally lies where its pointer says. The program's calls of nil; all that the program's tallies do. Conditions: those of the interface.
-/
import Derived.Test.YtdhjdkhhhdcjdaaMGv
/- The program's Sum. Conditions: the tally lies where its pointer says. -/
section
namespace Go.Proofs.Ytdhjdkhhhdcjdaa.Ta
set_option linter.unusedSimpArgs false
set_option linter.unusedVariables false
set_option maxRecDepth 100000
attribute [local go_sem] Oper.semAt_some
open Go.ChangeShapes Go.WideShapes Go.ChangeAt Go.RowKit Go.Maps Go.Shelf

theorem eInfo : (Try.prog.info? 25).map (·.size) = some 1 := by kernel_rfl
theorem ctrInfo : (Try.prog.info? 74).map (·.size) = some 6 := by kernel_rfl
theorem keepsFrom_footT {D : Nat} {B : Nat → Prop} {W W' : World} (h : Foot B W W') (hb : ∀ i, B i → i < D) : KeepsFrom D W W' := ⟨h.size, fun k o hB hk _ => (h.block k (Array.getElem?_eq_some_iff.1 hk).1 (fun e => by have := hb k e; omega)).trans hk⟩
/-- the visit, as Sum sees it: the sum so far, the error -/
structure SI (W : World) (own : Nat → Prop) (p : Nat) (X : TS) (N : Nat) (w : World) (bx bs be : Nat) (a : C6) (x : Int) (V : World) : Prop where
  gt : GT w own p X N V
  sz : w.heap.size ≤ V.heap.size
  f : Foot own W V
  gx : Held V bx 42 (row6 zero6)
  gs : Held V bs 74 (row6 a)
  ge : Held V be 25 #[.int .i64 x]
/-- how the boxes lie -/
structure SB (W : World) (own : Nat → Prop) (w : World) (bx bs be : Nat) : Prop where
  hW : W.heap.size ≤ w.heap.size
  ho : ∀ i, own i → i < W.heap.size
  x0 : W.heap.size ≤ bx
  s0 : W.heap.size ≤ bs
  e0 : W.heap.size ≤ be
  x1 : bx < w.heap.size
  s1 : bs < w.heap.size
  e1 : be < w.heap.size
  xs : bx ≠ bs
  xe : bx ≠ be
  se : bs ≠ be
section
variable {W w : World} {own B : Nat → Prop} {p N bx bs be : Nat} {X : TS} {a c : C6} {x y : Int} {Y Z : World}
theorem SI.rel (h : SI W own p X N w bx bs be a x Y) (o : SB W own w bx bs be) (r : RelT w own p X N Y Z) : SI W own p X N w bx bs be a x Z := by
  have n1 : ∀ i, W.heap.size ≤ i → i < w.heap.size → ¬ (own i ∨ w.heap.size + 2 ≤ i) := fun i h1 h2 e => e.elim (fun e => by have := o.ho i e; omega) (fun e => by omega)
  have := o.hW
  exact ⟨r.2 h.gt, Nat.le_trans h.sz r.1.size, h.f.trans r.1 (fun i hi e => e.elim id fun e => by omega), h.gx.foot r.1 (n1 _ o.x0 o.x1), h.gs.foot r.1 (n1 _ o.s0 o.s1), h.ge.foot r.1 (n1 _ o.e0 o.e1)⟩
theorem SI.foot (h : SI W own p X N w bx bs be a x Y) (o : SB W own w bx bs be) {b : Nat} (hb : w.heap.size ≤ b) (hb2 : b < w.heap.size + 2) (hf : Foot (· = b) Y Z) : SI W own p X N w bx bs be a x Z := by
  have h1 := o.x1
  have h2 := o.s1
  have h3 := o.e1
  have h4 := o.hW
  exact ⟨h.gt.foot hf (fun i e => by have e : i = b := e; exact ⟨fun e2 => by have := o.ho i e2; omega, by omega⟩), Nat.le_trans h.sz hf.size, h.f.trans hf (fun i hi e => by have : i = b := e; omega), h.gx.foot hf (fun e => by have : bx = b := e; omega), h.gs.foot hf (fun e => by have : bs = b := e; omega), h.ge.foot hf (fun e => by have : be = b := e; omega)⟩
theorem SI.below (h : SI W own p X N w bx bs be a x Y) (hb : Below Y.heap.size Y Z) : SI W own p X N w bx bs be a x Z :=
  ⟨h.gt.below hb, Nat.le_trans h.sz hb.size, h.f.then_below hb, h.gx.below hb h.gx.lt, h.gs.below hb h.gs.lt, h.ge.below hb h.ge.lt⟩
/-- the sum is another one -/
theorem SI.sum (h : SI W own p X N w bx bs be a x Y) (o : SB W own w bx bs be) (hf : Foot (· = bs) Y Z) (hx : Held Z bs 74 (row6 c)) : SI W own p X N w bx bs be c x Z := by
  have h1 := o.s1
  have h2 := o.s0
  exact ⟨h.gt.foot hf (fun i e => by have e : i = bs := e; exact ⟨fun e2 => by have := o.ho i e2; omega, by omega⟩), Nat.le_trans h.sz hf.size, h.f.trans hf (fun i hi e => by have : i = bs := e; omega), h.gx.foot hf (fun e => o.xs e), hx, h.ge.foot hf (fun e => o.se e.symm)⟩
/-- the error is another one -/
theorem SI.err (h : SI W own p X N w bx bs be a x Y) (o : SB W own w bx bs be) : SI W own p X N w bx bs be a y (Y.setCell ⟨be, 0, none⟩ (.int .i64 y)) := by
  have h1 := o.e1
  have h2 := o.e0
  have hf := foot_one Y be 0 (.int .i64 y)
  exact ⟨h.gt.foot hf (fun i e => by have e : i = be := e; exact ⟨fun e2 => by have := o.ho i e2; omega, by omega⟩), Nat.le_trans h.sz hf.size, h.f.trans hf (fun i hi e => by have : i = be := e; omega), h.gx.foot hf (fun e => o.xe e), h.gs.foot hf (fun e => o.se e), h.ge.set 0 _⟩
theorem SI.did (h : SI W own p X N w bx bs be a x Y) (o : SB W own w bx bs be) (hf : Foot (fun i => i = bx ∨ i = w.heap.size) Y Z) {v : Value} {e : Ending} (he : e = .returned v) : DidF PAt12 W own p X N v e Z := by
  obtain ⟨own', h1, h2⟩ := h.gt
  have h3 := o.x0
  have h4 := o.x1
  have h5 := o.hW
  refine ⟨he, ⟨own', PAt12.pt.on h1 (fun i hi => hf.block i (PAt12.pt.lt h1 i hi) fun e => ?_) hf.size, fun i hi => (h2 i hi).imp id fun h => by omega⟩, h.f.trans hf fun i hi e => by have e : i = bx ∨ i = w.heap.size := e; omega⟩
  have e : i = bx ∨ i = w.heap.size := e
  rcases h2 _ hi with h6 | h6
  · have := o.ho _ h6
    omega
  · omega
end
theorem SI.drew {W w V : World} {own : Nat → Prop} {p N bx bs be : Nat} {X : TS} {a : C6} {x : Int} (h : SI W own p X N w bx bs be a x V) : SI W own p X N w bx bs be a x V.drew := by
  obtain ⟨own', h1, h2⟩ := h.gt
  exact ⟨⟨own', PAt12.pt.on h1 (fun _ _ => rfl) (Nat.le_refl _), h2⟩, h.sz, h.f.drew, h.gx.drew, h.gs.drew, h.ge.drew⟩
theorem region_R {P : Program} {ops : Array Oper} {Q : Exit → Act → World → Prop} {id : Nat} {a : Act} {w : World} (R : World → Prop) (m : Nat) (hsz : ops.size = m) (hm : P.follows .mixedOrders = true)
    (h : wpAnyG Fence.wide 6 P .any ops Q R m m (Array.replicate m false) a w.drew) : (Code.region id ops true).wp P Q a w :=
  (wpIn_wide (n := 6)).1 (wpIn_region_G R m m hsz hm fun _ => h)
/-- a number is read, as an operation alone -/
theorem wpIn_load_cell {F : Fence} {n b j : Nat} {P : Program} {o : Oper} {a : Act} {w : World} {Q : Exit → Act → World → Prop} {ty : TypeId} {x : Operand} {d : TypeDesc} {v : Value} {K : Act → World → Prop} (hc : w.cell? ⟨b, j, none⟩ = some v) (ho : o.op = .load ty x) (hx : opnd a x = some (.pointer (some ⟨b, j, none⟩)))
    (hu : P.underlying ty = some d) (hd : (match d with | .struct _ | .array _ _ => true | _ => false) = false) (h : K (a.put o.dst v) w) : o.wpIn F n P a w K Q := by
  refine ⟨by simp [Oper.about, ho], ?_⟩
  rw [Oper.semAt_plain F _ _ (by rw [ho]; intro c hc'; cases hc')]
  have hagg : (isAgg ty).run P w = .ok false w := by
    unfold isAgg
    rw [Sem.run_bind, run_underlying hu w]
    cases d <;> simp_all
  unfold execOp
  simp only [ho, opnd_eval hx, Instr.loadAt, Instr.sureAddr, Sem.run_bind, Sem.run_pure, Result.andThen_ok, loadVar, hagg]
  simp [go_sem, hc]
  exact h
/-- a whole struct is written, as an operation alone -/
theorem wpIn_store_row {F : Fence} {n b : Nat} {P : Program} {o : Oper} {a : Act} {w : World} {Q : Exit → Act → World → Prop} {t ty : TypeId} {cs vs : Array Value} {x y : Operand} {K : Act → World → Prop} (g : Held w b t cs) (ho : o.op = .store ty x y) (hx : opnd a x = some (.pointer (some ⟨b, 0, none⟩))) (hy : opnd a y = some (.agg vs))
    (hi : (P.info? ty).map (·.size) = some vs.size) (hs : cs.size = vs.size) (h1' : vs.toList.all (·.oneCell') = true)
    (h : ∀ w', Foot (· = b) w w' → Held w' b t vs → K (a.put o.dst undef) w') : o.wpIn F n P a w K Q := by
  refine ⟨by simp [Oper.about, ho], ?_⟩
  rw [Oper.semAt_plain F _ _ (by rw [ho]; intro c hc'; cases hc')]
  have h0 : o.wp P a w (fun a' w' => K a' w' ∧ a' = a.put o.dst undef) Q := wp_store_row ty x y ho b vs (opnd_eval hx) (opnd_eval hy) t cs g hi hs (by rw [← Array.all_toList]; exact h1') ⟨h _ (Foot.setRow w b vs) (g.setRow vs), rfl⟩
  unfold Oper.wp at h0
  unfold execOp at h0 ⊢
  simp only [ho, opnd_eval hx, opnd_eval hy, Instr.storeAt, Instr.sureAddr, Sem.run_bind, Sem.run_pure, Result.andThen_ok] at h0 ⊢
  rcases hr : (storeVar ty ⟨b, 0, none⟩ (.agg vs)).run P w with ⟨_, w'⟩ | ⟨hlt, w'⟩
  · rw [hr] at h0
    exact h0.1
  · rw [hr] at h0
    cases hlt <;> first | exact h0 | exact h0.elim
/-- the sum of the first of them -/
def sumTo (X : TS) (k : Nat) : C6 := (X.k.take k).foldl C6.add zero6
theorem sumTo_next {X : TS} {N k : Nat} (hf : FitsT X N) (hk : k < X.s.length) : sumTo X (k + 1) = (sumTo X k).add (kq X (k : Int)) := by
  rw [sumTo, List.take_add_one, kq_at hf hk, List.foldl_append]
  rfl
/-- no change is open of the first of them -/
def Shut (X : TS) (k : Nat) : Prop := ∀ j : Nat, j < k → sq X (j : Int) % 2 = 0
theorem shut_next {X : TS} {k : Nat} (h : Shut X k) (hk : sq X (k : Int) % 2 = 0) : Shut X (k + 1) := fun j hj => by
  by_cases e : j = k
  · rw [e]
    exact hk
  · exact h j (by omega)
theorem sum_shut {X : TS} {N : Nat} (hf : FitsT X N) (h : Shut X X.s.length) : sumE X = 0 ∧ sumV X = sumTo X X.s.length := by
  have e : anyOdd X = false := List.any_eq_false.2 fun v hv => by
    obtain ⟨j, hj, rfl⟩ := List.getElem_of_mem hv
    have h1 := h j hj
    have h2 := sq_at hj
    rw [List.getElem?_eq_getElem hj] at h2
    have h3 : X.s[j] = sq X (j : Int) := by simpa using h2
    rw [h3]
    simp
    omega
  refine ⟨by rw [sumE, e]; rfl, ?_⟩
  rw [sumV, e, sumTo, List.take_of_length_le (by rw [hf.len]; exact Nat.le_refl _)]
  rfl
theorem sum_odd {X : TS} {k : Nat} (hk : k < X.s.length) (h : sq X (k : Int) % 2 = 1) : sumE X = 111 ∧ sumV X = zero6 := by
  have e : anyOdd X = true := List.any_eq_true.2 ⟨sq X (k : Int), List.mem_of_getElem? (sq_at hk), decide_eq_true h⟩
  exact ⟨by rw [sumE, if_pos e], by rw [sumV, if_pos e]⟩
end Go.Proofs.Ytdhjdkhhhdcjdaa.Ta
end
/- The program's Sum. Conditions: the tally lies where its pointer says. -/
section
namespace Go.Proofs.Ytdhjdkhhhdcjdaa.Ta
set_option linter.unusedSimpArgs false
set_option linter.unusedVariables false
set_option maxRecDepth 100000
attribute [local go_sem] Oper.semAt_some
open Go.ChangeShapes Go.WideShapes Go.ChangeAt Go.RowKit Go.Maps Go.Shelf

set_option maxHeartbeats 4000000 in
theorem sumP (W : World) (own : Nat → Prop) (p : Nat) (X : TS) (N : Nat) (hN : N ≤ 2000000) (h : PAt12 W own p X N) : Calls Try.prog 18 #[.pointer (some ⟨p, 0, none⟩)] W (DidF PAt12 W own p X N (.tuple #[cv (sumV X), .int .i64 (sumE X)])) := by
  have HO := Lib.hid (PAt12.pt.lt h)
  have HS := Lib.hid (fun w U (hb : Below W.heap.size W w) hU => readings_seq 5 (by omega) own U p X N w hN (PAt12.pt.on h (fun i hi => hb.block i (PAt12.pt.lt h i hi)) hb.size) hU)
  have HP := Lib.hid h
  have hfit : FitsT X N := by obtain ⟨oc, b, h⟩ := h; exact h.fits
  have HF := Lib.hid hfit
  obtain ⟨oc, b, h⟩ := h
  have HD := Lib.hid h
  have H := Mem.start W
  clear h hfit
  refine (callsIn_wide (n := 6)).1 ?_
  refine callsIn_of_wp_marks Try.func18 rfl trivial ?_ rfl
  simp only [Try.ntmps18, List.size_toArray, List.length_cons, List.length_nil, Nat.reduceAdd, Nat.reduceSub, Array.replicate_succ, Array.replicate_zero, List.push_toArray, List.append_toArray, List.nil_append, List.cons_append]
  refine wpIn_wide.2 ?_
  go_upto_region 1 with (first
    | ((with_reducible show wpList _ _ _ _ _ (World.alloc _ (.cells _ _))); refine mem_newb (l := []) H ?_; intro bx w3 hbk H2; try rw [← hbk]; clear hbk H; have H := H2; clear H2; simp only [List.cons_append, List.nil_append, List.set_cons_zero, List.set_cons_succ, List.setIfInBounds_toArray] at H))
  have m1 : w3.cell? ⟨p, 1, none⟩ = some (.pointer (some ⟨b, 0, none⟩)) := (HD.out.below H.below).box.cell 1
  refine wp_scope_straight ?_
  go_wp2_with (first
    | go_skip
    | (go_at_call 39; refine (missing_no p b w3 m1).mono ?_; rintro e w4 ⟨rfl, hw⟩; rw [hw]; clear hw w4)
    | ((with_reducible show wpList _ _ _ _ _ (World.alloc _ (.cells _ _))); refine mem_newb (l := [_]) H ?_; intro bs w3 hbk H2; try rw [← hbk]; clear hbk H; have H := H2; clear H2; simp only [List.cons_append, List.nil_append, List.set_cons_zero, List.set_cons_succ, List.setIfInBounds_toArray] at H)
    | ((with_reducible show wpList _ _ _ _ _ (World.alloc _ (.cells _ _))); refine mem_newb (l := [_, _]) H ?_; intro be w3 hbk H2; try rw [← hbk]; clear hbk H; have H := H2; clear H2; simp only [List.cons_append, List.nil_append, List.set_cons_zero, List.set_cons_succ, List.setIfInBounds_toArray] at H)
    | ((with_reducible show wpList _ _ _ (⟨_, .store _ _ _, _, _, _, _⟩ :: _) _ _); refine mem_storef (i := 2) H (by first | exact wanted_none rfl | exact wanted_some rfl rfl rfl rfl) (by exact rfl) (by exact rfl) (by exact rfl) (by exact rfl) eInfo (by exact rfl) (by exact rfl) ?_; intro w2 H2; clear H; have H := H2; clear H2; simp only [List.cons_append, List.nil_append, List.set_cons_zero, List.set_cons_succ, List.setIfInBounds_toArray] at H))
  refine wp_label ?_
  go_wp2_with fail
  clear m1 HD
  have HB := Lib.hid H.below
  have g1 := H.at 0 rfl
  have g2 := H.at 1 rfl
  have g3 := H.at 2 rfl
  have hge1 := (H.held _ (List.mem_of_getElem? (i := 0) rfl)).1
  have hge2 := (H.held _ (List.mem_of_getElem? (i := 1) rfl)).1
  have hge3 := (H.held _ (List.mem_of_getElem? (i := 2) rfl)).1
  have hinc := H.inc
  simp at hinc
  have sb : SB W own w2 bx bs be := ⟨H.below.size, HO.out, hge1, hge2, hge3, g1.lt, g2.lt, g3.lt, by omega, by omega, by omega⟩
  have hi0 : SI W own p X N w2 bx bs be (sumTo X 0) 0 w2 := ⟨⟨own, PAt12.pt.on HP.out (fun i hi => HB.out.block i (HO.out i hi)) HB.out.size, fun i hi => .inl hi⟩, Nat.le_refl _, Foot.of_below HB.out, g1, g2, g3⟩
  have hsq := HS.out w2 (fun i => i = bs ∨ i = be) HB.out (fun i hi => ⟨fun e => by have := HO.out i e; rcases hi with rfl | rfl <;> omega, by rcases hi with rfl | rfl; exact g2.lt; exact g3.lt⟩)
  have HSB := Lib.hid (And.intro sb (And.intro hsq hi0))
  clear H g1 g2 g3 hge1 hge2 hge3 hinc sb hi0 hsq HS
  refine (wpIn_wide (n := 6)).1 ?_
  refine wpIn_rangeRelU (n := 6) (F := Fence.wide) rfl (by omega) (gf := 40) (ra := #[.pointer (some ⟨p, 0, none⟩)]) rfl trivial (enters_of Try.func40 (by kernel_rfl) rfl)
    HSB.out.2.1 (fun _ => rfl) (B := fun i => own i ∨ w2.heap.size + 2 ≤ i) (fun X Y r => r.1) (fun e => e.elim (fun e => by have := HO.out _ e; have := HSB.out.1.hW; omega) (fun e => by omega)) (fun e => e.elim (fun e => by have := HO.out _ e; have := HSB.out.1.hW; omega) (fun e => by omega)) (fun X Y hb => RelT.below X Y hb)
    (fun k V => Shut X k ∧ SI W own p X N w2 bx bs be (sumTo X k) 0 V)
    (fun c k V => c = .exit 0 ∧ sq X (k : Int) % 2 = 1 ∧ SI W own p X N w2 bx bs be zero6 111 V)
    (fun k Y Z h r => ⟨h.1, h.2.rel HSB.out.1 r⟩)
    (fun k Y Z h hf => ⟨h.1, h.2.foot HSB.out.1 (by omega) (by omega) hf⟩)
    (fun c k Y Z h hf => ⟨h.1, h.2.1, h.2.2.foot HSB.out.1 (by omega) (by omega) hf⟩)
    ⟨(fun j hj => by omega), HSB.out.2.2⟩
    (fun k y => { tmps := #[.pointer (some ⟨p, 0, none⟩), undef, .pointer (some ⟨bx, 0, none⟩), .int .i64 0, .pointer (some ⟨bs, 0, none⟩), .pointer (some ⟨be, 0, none⟩), .pointer (some ⟨y, 0, none⟩), .int .i64 (openE X (k : Int)), .pointer (some ⟨p, 0, none⟩), .bool false, undef, .pointer (some ⟨p, 0, none⟩), .func (.func 40) #[.pointer (some ⟨p, 0, none⟩)] #[], cv (readV X (k : Int)), .int .i64 (openE X (k : Int)), undef, undef, undef, undef, undef, undef, undef, undef, undef], defers := [] })
    (fun k y V => w2.heap.size + 2 ≤ y ∧ Held V y 42 (row6 (readV X (k : Int)))) (fun k y Y Z h hf => ⟨h.1, h.2.foot hf (fun e => by have h1 := h.1; have : y = w2.heap.size + 1 := e; omega)⟩)
    ?assign ?body ?done ?stop
  case assign =>
    intro l x V K hx hsz hK
    gi_wp2_with (first | ((with_reducible show wpListIn _ _ _ _ _ (⟨_, .store 42 _ _, _, _, _, _⟩ :: _) _ _); refine store_heldI (Held.new V _ _) (by first | exact wanted_none rfl | exact wanted_some rfl rfl rfl rfl) (by exact rfl) (by exact rfl) (by exact rfl) (by exact cInfo) (by exact rfl) (by exact rfl) ?_; intro w5 g5 F5))
    exact hK _ _ (Nat.le_refl _) ⟨hsz, g5⟩ (Foot.after ((Below.refl V.heap.size V).alloc (Nat.le_refl _) _) F5 (fun i e => by rw [show i = V.heap.size from e]; exact Nat.le_refl _))
  case body =>
    rintro l k y V hk hsz2 hy ⟨hy2, hB⟩ ⟨hs, hI⟩
    have hop : openE X k = if sq X k % 2 = 1 then 111 else 0 := by rw [openE, has_of hk, if_neg (by simp)]
    have n1 := HSB.out.1.s1
    have n2 := HSB.out.1.e1
    by_cases ho : sq X k % 2 = 1
    · rw [if_pos ho] at hop
      have er : readV X k = zero6 := by rw [readV, hop]; rfl
      rw [er] at hB
      rw [hop, er]
      have HQ := Lib.hid (And.intro hI ho)
      clear hI ho hop er hs
      gi_wp2_with (first | ((with_reducible show wpListIn _ _ _ _ _ (⟨_, .store 74 _ _, _, _, _, _⟩ :: _) _ _); refine store_heldI HQ.out.1.gs (by first | exact wanted_none rfl | exact wanted_some rfl rfl rfl rfl) (by exact rfl) (by exact rfl) (by exact rfl) (by exact ctrInfo) (by exact rfl) (by exact rfl) ?_; intro w7 g7 F7; have ge7 := HQ.out.1.ge.foot F7 (fun e => HSB.out.1.se e.symm); have ce : w7.cell? ⟨be, 0, none⟩ = some (.int .i64 0) := ge7.cell 0; have ze : w7.frozen? ⟨be, 0, none⟩ = false := ge7.frozen 0))
      refine ⟨keepsFrom_footT (B := fun i => i = bs ∨ i = be) ((F7.mono fun i _ e => .inl e).trans' ((foot_one w7 be 0 _).mono fun i _ e => .inr e)) (fun i e => by rcases e with rfl | rfl <;> omega), rfl, HQ.out.2, ?_⟩
      exact (HQ.out.1.sum HSB.out.1 F7 g7).err HSB.out.1
    · rw [if_neg ho] at hop
      have er : readV X k = kq X k := by rw [readV, hop]; rfl
      rw [er] at hB
      rw [hop, er]
      have hev : sq X k % 2 = 0 := by omega
      have hnext := sumTo_next HF.out hk
      have HQ := Lib.hid (And.intro hI (And.intro (shut_next hs hev) (And.intro hnext hB)))
      clear hI ho hop er hs hev hnext hB
      generalize hc : kq X (k : Int) = c at *
      have HC := Lib.hid hc
      clear hc
      gi_wp2_with (first
        | ((with_reducible show wpListIn _ _ _ _ _ (⟨_, .load 42 _, _, _, _, _⟩ :: _) _ _); refine load_heldI HQ.out.2.2.2 (by first | exact wanted_none rfl | exact wanted_some rfl rfl rfl rfl) (by exact rfl) (by exact rfl) Try.underlying42 rfl cInfo ?_)
        | (refine ⟨trivial, ?_⟩; gi_at_call 42; refine (CallsIn.inRound l (callsIn_wide.2 (valuesOf_p c _))).mono ?_; rintro e w5 ⟨bv, tv, rfl, hv, hbv, hb⟩; have HV := Lib.hid (And.intro hv (And.intro hbv hb)); clear hv hbv hb)
        | (refine ⟨trivial, ?_⟩; gi_at_call 41; refine (CallsIn.inRound l (callsIn_wide.2 (add_p w5 bs bv _ tv (sumTo X k) c (fun e => by have := HV.out.2.1; omega) (HQ.out.1.below HV.out.2.2).gs HV.out.1))).mono ?_; rintro e w6 ⟨rfl, hf, hg⟩))
      have hI6 := (HQ.out.1.below HV.out.2.2).sum HSB.out.1 hf hg
      have hff : Foot (fun i => i = w2.heap.size + 1 ∨ (i = bs ∨ i = be)) V w6 := (Foot.of_below HV.out.2.2).trans' (hf.mono fun i _ e => .inr (.inl e))
      refine ⟨keepsFrom_footT (B := fun i => i = bs) ((Foot.of_below HV.out.2.2).trans' hf) (fun i e => by have : i = bs := e; omega), hff, HQ.out.2.1, ?_⟩
      rw [HQ.out.2.2.1]
      exact hI6
  case done =>
    rintro D V hD ⟨hp, hI⟩ hdef
    have hss := sum_shut HF.out hp
    go_wp2_with fail
    subst hD
    have hI2 := hI.drew
    refine region_R (fun wx => True) 4 rfl (by kernel_rfl) ?_
    have hx1 := HSB.out.1.x1
    have hdD : w2.heap.size < V.heap.size := (Array.getElem?_eq_some_iff.1 hdef).1
    refine wpAnyG_two (i := 0) (j := 1) (by kernel_rfl) rfl rfl (fun K hK => ?_) (fun K hK => ?_)
    · have lbs := hI2.gs.lt
      have hcs : ∀ j, j < 6 → V.drew.cell? ⟨bs, 0 + j, none⟩ = some (.int .u64 ((sumTo X X.s.length).get j)) := fun j hj => by rw [Nat.zero_add]; exact Held.six hI2.gs hj
      go_simp
      refine ⟨trivial, (callsIn_wide.2 (counts0_p bs (sumTo X X.s.length) V.drew lbs hcs)).mono ?_⟩
      rintro e w5 ⟨rfl, hb⟩
      have hI5 := hI2.below hb
      refine hK _ _ (.inr trivial) ?_
      clear hK K hcs lbs
      try simp only [List.getElem_toArray, List.getElem_cons_zero, List.getElem_cons_succ, Act.put, List.setIfInBounds_toArray, List.set_cons_zero, List.set_cons_succ]
      refine wpAnyG_two (i := 1) (j := 2) (by kernel_rfl) rfl rfl (fun K hK => ?_) (fun K hK => ?_)
      · rw [if_pos (by exact rfl)]
        refine wpIn_load_cell (hI5.ge.cell 0) (by exact rfl) (by exact rfl) Try.underlying25 rfl ?_
        refine hK _ _ (.inr trivial) ?_
        clear hK K
        try simp only [List.getElem_toArray, List.getElem_cons_zero, List.getElem_cons_succ, Act.put, List.setIfInBounds_toArray, List.set_cons_zero, List.set_cons_succ]
        refine wpAnyG_one (i := 2) (by kernel_rfl) rfl (fun K hK => ?_)
        rw [if_pos (by exact rfl)]
        refine wpIn_store_row hI5.gx (by exact rfl) (by exact rfl) (by exact rfl) (by exact cInfo) (by exact rfl) (by exact rfl) ?_
        intro w7 F7 g7
        have ge7 := hI5.ge.foot F7 (fun e => HSB.out.1.xe e.symm)
        refine hK _ _ (.inr trivial) ?_
        clear hK K
        try simp only [List.getElem_toArray, List.getElem_cons_zero, List.getElem_cons_succ, Act.put, List.setIfInBounds_toArray, List.set_cons_zero, List.set_cons_succ]
        refine wpAnyG_one (i := 3) (by kernel_rfl) rfl (fun K hK => ?_)
        go_simp
        refine hK _ _ (.inr trivial) ?_
        clear hK K
        refine wpAnyG_done (by kernel_rfl) ?_ _
        have hdef2 : w7.heap[w2.heap.size]? = some (.deferred (some [])) := ((F7.block w2.heap.size (Nat.lt_of_lt_of_le hdD hb.size) (fun e => by have : w2.heap.size = bx := e; omega)).trans (hb.block w2.heap.size hdD)).trans hdef
        have HQ := Lib.hid (And.intro hI5 (And.intro F7 (And.intro g7 hdef2)))
        clear hI hI2 hI5 hdef hdef2 F7 g7 ge7 hb
        go_wp2
        refine ⟨by simp, .inl ⟨_, _, rfl, run_takeDeferred HQ.out.2.2.2, ?_⟩⟩
        have h3 := fun o => HQ.out.2.2.1.foot (foot_putG w7 w2.heap.size o) (fun e => by have : bx = w2.heap.size := e; omega)
        have h4 := fun o => (HQ.out.2.1.mono (B' := fun i => i = bx ∨ i = w2.heap.size) (fun i _ e => .inl e)).trans' ((foot_putG w7 w2.heap.size o).mono (B' := fun i => i = bx ∨ i = w2.heap.size) (fun i _ e => .inr e))
        exact ⟨_, results_ct rfl rfl (load_c6 (c := sumTo X X.s.length) (h3 _)), HQ.out.1.did HSB.out.1 (h4 _) (by rw [hss.1, hss.2]; rfl)⟩
      · rw [if_pos (by exact rfl)]
        refine wpIn_store_row hI5.gx (by exact rfl) (by exact rfl) (by exact rfl) (by exact cInfo) (by exact rfl) (by exact rfl) ?_
        intro w7 F7 g7
        have ge7 := hI5.ge.foot F7 (fun e => HSB.out.1.xe e.symm)
        refine hK _ _ (.inr trivial) ?_
        clear hK K
        try simp only [List.getElem_toArray, List.getElem_cons_zero, List.getElem_cons_succ, Act.put, List.setIfInBounds_toArray, List.set_cons_zero, List.set_cons_succ]
        refine wpAnyG_one (i := 1) (by kernel_rfl) rfl (fun K hK => ?_)
        rw [if_pos (by exact rfl)]
        refine wpIn_load_cell (ge7.cell 0) (by exact rfl) (by exact rfl) Try.underlying25 rfl ?_
        refine hK _ _ (.inr trivial) ?_
        clear hK K
        try simp only [List.getElem_toArray, List.getElem_cons_zero, List.getElem_cons_succ, Act.put, List.setIfInBounds_toArray, List.set_cons_zero, List.set_cons_succ]
        refine wpAnyG_one (i := 3) (by kernel_rfl) rfl (fun K hK => ?_)
        go_simp
        refine hK _ _ (.inr trivial) ?_
        clear hK K
        refine wpAnyG_done (by kernel_rfl) ?_ _
        have hdef2 : w7.heap[w2.heap.size]? = some (.deferred (some [])) := ((F7.block w2.heap.size (Nat.lt_of_lt_of_le hdD hb.size) (fun e => by have : w2.heap.size = bx := e; omega)).trans (hb.block w2.heap.size hdD)).trans hdef
        have HQ := Lib.hid (And.intro hI5 (And.intro F7 (And.intro g7 hdef2)))
        clear hI hI2 hI5 hdef hdef2 F7 g7 ge7 hb
        go_wp2
        refine ⟨by simp, .inl ⟨_, _, rfl, run_takeDeferred HQ.out.2.2.2, ?_⟩⟩
        have h3 := fun o => HQ.out.2.2.1.foot (foot_putG w7 w2.heap.size o) (fun e => by have : bx = w2.heap.size := e; omega)
        have h4 := fun o => (HQ.out.2.1.mono (B' := fun i => i = bx ∨ i = w2.heap.size) (fun i _ e => .inl e)).trans' ((foot_putG w7 w2.heap.size o).mono (B' := fun i => i = bx ∨ i = w2.heap.size) (fun i _ e => .inr e))
        exact ⟨_, results_ct rfl rfl (load_c6 (c := sumTo X X.s.length) (h3 _)), HQ.out.1.did HSB.out.1 (h4 _) (by rw [hss.1, hss.2]; rfl)⟩
    · rw [if_pos (by exact rfl)]
      refine wpIn_load_cell (hI2.ge.cell 0) (by exact rfl) (by exact rfl) Try.underlying25 rfl ?_
      refine hK _ _ (.inr trivial) ?_
      clear hK K
      try simp only [List.getElem_toArray, List.getElem_cons_zero, List.getElem_cons_succ, Act.put, List.setIfInBounds_toArray, List.set_cons_zero, List.set_cons_succ]
      refine wpAnyG_one (i := 0) (by kernel_rfl) rfl (fun K hK => ?_)
      have lbs := hI2.gs.lt
      have hcs : ∀ j, j < 6 → V.drew.cell? ⟨bs, 0 + j, none⟩ = some (.int .u64 ((sumTo X X.s.length).get j)) := fun j hj => by rw [Nat.zero_add]; exact Held.six hI2.gs hj
      go_simp
      refine ⟨trivial, (callsIn_wide.2 (counts0_p bs (sumTo X X.s.length) V.drew lbs hcs)).mono ?_⟩
      rintro e w5 ⟨rfl, hb⟩
      have hI5 := hI2.below hb
      refine hK _ _ (.inr trivial) ?_
      clear hK K hcs lbs
      try simp only [List.getElem_toArray, List.getElem_cons_zero, List.getElem_cons_succ, Act.put, List.setIfInBounds_toArray, List.set_cons_zero, List.set_cons_succ]
      refine wpAnyG_one (i := 2) (by kernel_rfl) rfl (fun K hK => ?_)
      rw [if_pos (by exact rfl)]
      refine wpIn_store_row hI5.gx (by exact rfl) (by exact rfl) (by exact rfl) (by exact cInfo) (by exact rfl) (by exact rfl) ?_
      intro w7 F7 g7
      have ge7 := hI5.ge.foot F7 (fun e => HSB.out.1.xe e.symm)
      refine hK _ _ (.inr trivial) ?_
      clear hK K
      try simp only [List.getElem_toArray, List.getElem_cons_zero, List.getElem_cons_succ, Act.put, List.setIfInBounds_toArray, List.set_cons_zero, List.set_cons_succ]
      refine wpAnyG_one (i := 3) (by kernel_rfl) rfl (fun K hK => ?_)
      go_simp
      refine hK _ _ (.inr trivial) ?_
      clear hK K
      refine wpAnyG_done (by kernel_rfl) ?_ _
      have hdef2 : w7.heap[w2.heap.size]? = some (.deferred (some [])) := ((F7.block w2.heap.size (Nat.lt_of_lt_of_le hdD hb.size) (fun e => by have : w2.heap.size = bx := e; omega)).trans (hb.block w2.heap.size hdD)).trans hdef
      have HQ := Lib.hid (And.intro hI5 (And.intro F7 (And.intro g7 hdef2)))
      clear hI hI2 hI5 hdef hdef2 F7 g7 ge7 hb
      go_wp2
      refine ⟨by simp, .inl ⟨_, _, rfl, run_takeDeferred HQ.out.2.2.2, ?_⟩⟩
      have h3 := fun o => HQ.out.2.2.1.foot (foot_putG w7 w2.heap.size o) (fun e => by have : bx = w2.heap.size := e; omega)
      have h4 := fun o => (HQ.out.2.1.mono (B' := fun i => i = bx ∨ i = w2.heap.size) (fun i _ e => .inl e)).trans' ((foot_putG w7 w2.heap.size o).mono (B' := fun i => i = bx ∨ i = w2.heap.size) (fun i _ e => .inr e))
      exact ⟨_, results_ct rfl rfl (load_c6 (c := sumTo X X.s.length) (h3 _)), HQ.out.1.did HSB.out.1 (h4 _) (by rw [hss.1, hss.2]; rfl)⟩
  case stop =>
    rintro D c k V hD hk ⟨rfl, ho, hI⟩ hdef
    have hss := sum_odd hk ho
    gi_wp2
    go_wp2_with fail
    subst hD
    have hI2 := hI.drew
    refine region_R (fun wx => True) 4 rfl (by kernel_rfl) ?_
    have hx1 := HSB.out.1.x1
    have hdD : w2.heap.size < V.heap.size := (Array.getElem?_eq_some_iff.1 hdef).1
    refine wpAnyG_two (i := 0) (j := 1) (by kernel_rfl) rfl rfl (fun K hK => ?_) (fun K hK => ?_)
    · have lbs := hI2.gs.lt
      have hcs : ∀ j, j < 6 → V.drew.cell? ⟨bs, 0 + j, none⟩ = some (.int .u64 ((zero6).get j)) := fun j hj => by rw [Nat.zero_add]; exact Held.six hI2.gs hj
      go_simp
      refine ⟨trivial, (callsIn_wide.2 (counts0_p bs (zero6) V.drew lbs hcs)).mono ?_⟩
      rintro e w5 ⟨rfl, hb⟩
      have hI5 := hI2.below hb
      refine hK _ _ (.inr trivial) ?_
      clear hK K hcs lbs
      try simp only [List.getElem_toArray, List.getElem_cons_zero, List.getElem_cons_succ, Act.put, List.setIfInBounds_toArray, List.set_cons_zero, List.set_cons_succ]
      refine wpAnyG_two (i := 1) (j := 2) (by kernel_rfl) rfl rfl (fun K hK => ?_) (fun K hK => ?_)
      · rw [if_pos (by exact rfl)]
        refine wpIn_load_cell (hI5.ge.cell 0) (by exact rfl) (by exact rfl) Try.underlying25 rfl ?_
        refine hK _ _ (.inr trivial) ?_
        clear hK K
        try simp only [List.getElem_toArray, List.getElem_cons_zero, List.getElem_cons_succ, Act.put, List.setIfInBounds_toArray, List.set_cons_zero, List.set_cons_succ]
        refine wpAnyG_one (i := 2) (by kernel_rfl) rfl (fun K hK => ?_)
        rw [if_pos (by exact rfl)]
        refine wpIn_store_row hI5.gx (by exact rfl) (by exact rfl) (by exact rfl) (by exact cInfo) (by exact rfl) (by exact rfl) ?_
        intro w7 F7 g7
        have ge7 := hI5.ge.foot F7 (fun e => HSB.out.1.xe e.symm)
        refine hK _ _ (.inr trivial) ?_
        clear hK K
        try simp only [List.getElem_toArray, List.getElem_cons_zero, List.getElem_cons_succ, Act.put, List.setIfInBounds_toArray, List.set_cons_zero, List.set_cons_succ]
        refine wpAnyG_one (i := 3) (by kernel_rfl) rfl (fun K hK => ?_)
        go_simp
        refine hK _ _ (.inr trivial) ?_
        clear hK K
        refine wpAnyG_done (by kernel_rfl) ?_ _
        have hdef2 : w7.heap[w2.heap.size]? = some (.deferred (some [])) := ((F7.block w2.heap.size (Nat.lt_of_lt_of_le hdD hb.size) (fun e => by have : w2.heap.size = bx := e; omega)).trans (hb.block w2.heap.size hdD)).trans hdef
        have HQ := Lib.hid (And.intro hI5 (And.intro F7 (And.intro g7 hdef2)))
        clear hI hI2 hI5 hdef hdef2 F7 g7 ge7 hb
        go_wp2
        refine ⟨by simp, .inl ⟨_, _, rfl, run_takeDeferred HQ.out.2.2.2, ?_⟩⟩
        have h3 := fun o => HQ.out.2.2.1.foot (foot_putG w7 w2.heap.size o) (fun e => by have : bx = w2.heap.size := e; omega)
        have h4 := fun o => (HQ.out.2.1.mono (B' := fun i => i = bx ∨ i = w2.heap.size) (fun i _ e => .inl e)).trans' ((foot_putG w7 w2.heap.size o).mono (B' := fun i => i = bx ∨ i = w2.heap.size) (fun i _ e => .inr e))
        exact ⟨_, results_ct rfl rfl (load_c6 (c := zero6) (h3 _)), HQ.out.1.did HSB.out.1 (h4 _) (by rw [hss.1, hss.2]; rfl)⟩
      · rw [if_pos (by exact rfl)]
        refine wpIn_store_row hI5.gx (by exact rfl) (by exact rfl) (by exact rfl) (by exact cInfo) (by exact rfl) (by exact rfl) ?_
        intro w7 F7 g7
        have ge7 := hI5.ge.foot F7 (fun e => HSB.out.1.xe e.symm)
        refine hK _ _ (.inr trivial) ?_
        clear hK K
        try simp only [List.getElem_toArray, List.getElem_cons_zero, List.getElem_cons_succ, Act.put, List.setIfInBounds_toArray, List.set_cons_zero, List.set_cons_succ]
        refine wpAnyG_one (i := 1) (by kernel_rfl) rfl (fun K hK => ?_)
        rw [if_pos (by exact rfl)]
        refine wpIn_load_cell (ge7.cell 0) (by exact rfl) (by exact rfl) Try.underlying25 rfl ?_
        refine hK _ _ (.inr trivial) ?_
        clear hK K
        try simp only [List.getElem_toArray, List.getElem_cons_zero, List.getElem_cons_succ, Act.put, List.setIfInBounds_toArray, List.set_cons_zero, List.set_cons_succ]
        refine wpAnyG_one (i := 3) (by kernel_rfl) rfl (fun K hK => ?_)
        go_simp
        refine hK _ _ (.inr trivial) ?_
        clear hK K
        refine wpAnyG_done (by kernel_rfl) ?_ _
        have hdef2 : w7.heap[w2.heap.size]? = some (.deferred (some [])) := ((F7.block w2.heap.size (Nat.lt_of_lt_of_le hdD hb.size) (fun e => by have : w2.heap.size = bx := e; omega)).trans (hb.block w2.heap.size hdD)).trans hdef
        have HQ := Lib.hid (And.intro hI5 (And.intro F7 (And.intro g7 hdef2)))
        clear hI hI2 hI5 hdef hdef2 F7 g7 ge7 hb
        go_wp2
        refine ⟨by simp, .inl ⟨_, _, rfl, run_takeDeferred HQ.out.2.2.2, ?_⟩⟩
        have h3 := fun o => HQ.out.2.2.1.foot (foot_putG w7 w2.heap.size o) (fun e => by have : bx = w2.heap.size := e; omega)
        have h4 := fun o => (HQ.out.2.1.mono (B' := fun i => i = bx ∨ i = w2.heap.size) (fun i _ e => .inl e)).trans' ((foot_putG w7 w2.heap.size o).mono (B' := fun i => i = bx ∨ i = w2.heap.size) (fun i _ e => .inr e))
        exact ⟨_, results_ct rfl rfl (load_c6 (c := zero6) (h3 _)), HQ.out.1.did HSB.out.1 (h4 _) (by rw [hss.1, hss.2]; rfl)⟩
    · rw [if_pos (by exact rfl)]
      refine wpIn_load_cell (hI2.ge.cell 0) (by exact rfl) (by exact rfl) Try.underlying25 rfl ?_
      refine hK _ _ (.inr trivial) ?_
      clear hK K
      try simp only [List.getElem_toArray, List.getElem_cons_zero, List.getElem_cons_succ, Act.put, List.setIfInBounds_toArray, List.set_cons_zero, List.set_cons_succ]
      refine wpAnyG_one (i := 0) (by kernel_rfl) rfl (fun K hK => ?_)
      have lbs := hI2.gs.lt
      have hcs : ∀ j, j < 6 → V.drew.cell? ⟨bs, 0 + j, none⟩ = some (.int .u64 ((zero6).get j)) := fun j hj => by rw [Nat.zero_add]; exact Held.six hI2.gs hj
      go_simp
      refine ⟨trivial, (callsIn_wide.2 (counts0_p bs (zero6) V.drew lbs hcs)).mono ?_⟩
      rintro e w5 ⟨rfl, hb⟩
      have hI5 := hI2.below hb
      refine hK _ _ (.inr trivial) ?_
      clear hK K hcs lbs
      try simp only [List.getElem_toArray, List.getElem_cons_zero, List.getElem_cons_succ, Act.put, List.setIfInBounds_toArray, List.set_cons_zero, List.set_cons_succ]
      refine wpAnyG_one (i := 2) (by kernel_rfl) rfl (fun K hK => ?_)
      rw [if_pos (by exact rfl)]
      refine wpIn_store_row hI5.gx (by exact rfl) (by exact rfl) (by exact rfl) (by exact cInfo) (by exact rfl) (by exact rfl) ?_
      intro w7 F7 g7
      have ge7 := hI5.ge.foot F7 (fun e => HSB.out.1.xe e.symm)
      refine hK _ _ (.inr trivial) ?_
      clear hK K
      try simp only [List.getElem_toArray, List.getElem_cons_zero, List.getElem_cons_succ, Act.put, List.setIfInBounds_toArray, List.set_cons_zero, List.set_cons_succ]
      refine wpAnyG_one (i := 3) (by kernel_rfl) rfl (fun K hK => ?_)
      go_simp
      refine hK _ _ (.inr trivial) ?_
      clear hK K
      refine wpAnyG_done (by kernel_rfl) ?_ _
      have hdef2 : w7.heap[w2.heap.size]? = some (.deferred (some [])) := ((F7.block w2.heap.size (Nat.lt_of_lt_of_le hdD hb.size) (fun e => by have : w2.heap.size = bx := e; omega)).trans (hb.block w2.heap.size hdD)).trans hdef
      have HQ := Lib.hid (And.intro hI5 (And.intro F7 (And.intro g7 hdef2)))
      clear hI hI2 hI5 hdef hdef2 F7 g7 ge7 hb
      go_wp2
      refine ⟨by simp, .inl ⟨_, _, rfl, run_takeDeferred HQ.out.2.2.2, ?_⟩⟩
      have h3 := fun o => HQ.out.2.2.1.foot (foot_putG w7 w2.heap.size o) (fun e => by have : bx = w2.heap.size := e; omega)
      have h4 := fun o => (HQ.out.2.1.mono (B' := fun i => i = bx ∨ i = w2.heap.size) (fun i _ e => .inl e)).trans' ((foot_putG w7 w2.heap.size o).mono (B' := fun i => i = bx ∨ i = w2.heap.size) (fun i _ e => .inr e))
      exact ⟨_, results_ct rfl rfl (load_c6 (c := zero6) (h3 _)), HQ.out.1.did HSB.out.1 (h4 _) (by rw [hss.1, hss.2]; rfl)⟩
end Go.Proofs.Ytdhjdkhhhdcjdaa.Ta
end
/- The program's calls of nil; all that the program's tallies do. Conditions: those of the interface. -/
section
namespace Go.Proofs.Ytdhjdkhhhdcjdaa.Ta
set_option linter.unusedSimpArgs false
set_option linter.unusedVariables false
set_option maxRecDepth 100000
open Go.ChangeShapes Go.WideShapes Go.ChangeAt Go.RowKit

theorem opnN (W : World) (q : Int) : Calls Try.prog 19 #[.pointer none, .int .i64 q] W fun e w' => e = .returned (.int .i64 1) ∧ Below W.heap.size W w' := by
  have HB := Lib.hid (Below.refl W.heap.size W)
  go_enter Try.func19, Try.ntmps19
  go_wp2_with (first
    | go_skip
    | (go_at_call 26; refine (lacks_nil _ _ _).mono ?_; rintro e w2 ⟨rfl, hw⟩; rw [hw]; clear hw w2))
  go_ret
  exact ⟨rfl, HB.out⟩
theorem shutN (W : World) (q : Int) : Calls Try.prog 21 #[.pointer none, .int .i64 q] W fun e w' => e = .returned (.int .i64 1) ∧ Below W.heap.size W w' := by
  have HB := Lib.hid (Below.refl W.heap.size W)
  go_enter Try.func21, Try.ntmps21
  go_wp2_with (first
    | go_skip
    | (go_at_call 26; refine (lacks_nil _ _ _).mono ?_; rintro e w2 ⟨rfl, hw⟩; rw [hw]; clear hw w2))
  go_ret
  exact ⟨rfl, HB.out⟩
theorem addN (W : World) (q f v : Int) : Calls Try.prog 20 #[.pointer none, .int .i64 q, .int .i64 f, .int .u32 v] W fun e w' => e = .returned (.int .i64 1) ∧ Below W.heap.size W w' := by
  have HB := Lib.hid (Below.refl W.heap.size W)
  go_enter Try.func20, Try.ntmps20
  go_wp2_with (first
    | go_skip
    | (go_at_call 26; refine (lacks_nil _ _ _).mono ?_; rintro e w2 ⟨rfl, hw⟩; rw [hw]; clear hw w2))
  go_ret
  exact ⟨rfl, HB.out.alloc (Nat.le_refl _) _⟩
theorem readerN (W : World) (q : Int) : Calls Try.prog 13 #[.pointer none, .int .i64 q] W fun e w' => e = .returned (.tuple #[.pointer none, .int .i64 1]) ∧ Below W.heap.size W w' := by
  have HB := Lib.hid (Below.refl W.heap.size W)
  go_enter Try.func13, Try.ntmps13
  go_wp2_with (first
    | go_skip
    | (go_at_call 26; refine (lacks_nil _ _ _).mono ?_; rintro e w2 ⟨rfl, hw⟩; rw [hw]; clear hw w2))
  refine bodyPost_ret (results_two rfl _ _ _) rfl ?_
  exact ⟨rfl, HB.out⟩
theorem noteN (W : World) (q : Int) (c : C6) : Calls Try.prog 22 #[.pointer none, .int .i64 q, cv c] W fun e w' => e = .returned (.int .i64 1) ∧ Below W.heap.size W w' := by
  have H := Mem.start W
  go_enter Try.func22, Try.ntmps22
  go_upto_region 1 with (first
    | ((with_reducible show wpList _ _ _ _ _ (World.alloc _ (.cells _ _))); refine mem_newb (l := []) H ?_; intro bx w3 hbk H2; try rw [← hbk]; clear hbk H; have H := H2; clear H2; simp only [List.cons_append, List.nil_append, List.set_cons_zero, List.set_cons_succ, List.setIfInBounds_toArray] at H))
  go_wp2_with (first
    | go_skip
    | (go_at_call 19; refine (opnN _ _).mono ?_; rintro e w2 ⟨rfl, hb⟩; have H2 := H.call hb; clear H hb; have H := H2; clear H2))
  go_ret
  exact ⟨rfl, H.below⟩
theorem readN (W : World) (q : Int) : Calls Try.prog 17 #[.pointer none, .int .i64 q] W fun e w' => e = .returned (.tuple #[cv zero6, .int .i64 1]) ∧ Below W.heap.size W w' := by
  have H := Mem.start W
  go_enter Try.func17, Try.ntmps17
  go_upto_region 1 with (first
    | ((with_reducible show wpList _ _ _ _ _ (World.alloc _ (.cells _ _))); refine mem_newb (l := []) H ?_; intro bx w3 hbk H2; try rw [← hbk]; clear hbk H; have H := H2; clear H2; simp only [List.cons_append, List.nil_append, List.set_cons_zero, List.set_cons_succ, List.setIfInBounds_toArray] at H))
  go_wp2_with (first
    | go_skip
    | (go_at_call 13; refine (readerN _ _).mono ?_; rintro e w2 ⟨rfl, hb⟩; have H2 := H.call hb; clear H hb; have H := H2; clear H2)
    | ((with_reducible show wpList _ _ _ (⟨_, .store 42 _ _, _, _, _, _⟩ :: _) _ _); refine mem_store (i := 0) H (by first | exact wanted_none rfl | exact wanted_some rfl rfl rfl rfl) (by exact rfl) (by exact rfl) (by exact rfl) (by exact rfl) (by exact cInfo) (by exact rfl) (by exact rfl) ?_; intro w2 H2; clear H; have H := H2; clear H2; simp only [List.cons_append, List.nil_append, List.set_cons_zero, List.set_cons_succ, List.setIfInBounds_toArray] at H))
  refine bodyPost_ret (results_ct rfl rfl (load_c6 (c := zero6) (H.at 0 rfl))) rfl ?_
  exact ⟨rfl, H.below⟩
theorem stepN (W : World) : Calls Try.prog 14 #[.pointer none] W fun e w' => e = .returned (.tuple #[cv zero6, .bool false, .int .i64 1]) ∧ Below W.heap.size W w' := by
  have H := Mem.start W
  go_enter Try.func14, Try.ntmps14
  go_upto_region 1 with (first
    | ((with_reducible show wpList _ _ _ _ _ (World.alloc _ (.cells _ _))); refine mem_newb (l := []) H ?_; intro bx w3 hbk H2; try rw [← hbk]; clear hbk H; have H := H2; clear H2; simp only [List.cons_append, List.nil_append, List.set_cons_zero, List.set_cons_succ, List.setIfInBounds_toArray] at H))
  go_wp2_with (first
    | go_skip
    | (go_at_call 27; refine (rmissing_nil _).mono ?_; rintro e w2 ⟨rfl, hw⟩; rw [hw]; clear hw w2)
    | ((with_reducible show wpList _ _ _ (⟨_, .store 42 _ _, _, _, _, _⟩ :: _) _ _); refine mem_store (i := 0) H (by first | exact wanted_none rfl | exact wanted_some rfl rfl rfl rfl) (by exact rfl) (by exact rfl) (by exact rfl) (by exact rfl) (by exact cInfo) (by exact rfl) (by exact rfl) ?_; intro w2 H2; clear H; have H := H2; clear H2; simp only [List.cons_append, List.nil_append, List.set_cons_zero, List.set_cons_succ, List.setIfInBounds_toArray] at H))
  refine bodyPost_ret (results_ctt rfl rfl (load_c6 (c := zero6) (H.at 0 rfl))) rfl ?_
  exact ⟨rfl, H.below⟩
theorem sumN (W : World) : Calls Try.prog 18 #[.pointer none] W fun e w' => e = .returned (.tuple #[cv zero6, .int .i64 1]) ∧ Below W.heap.size W w' := by
  have H := Mem.start W
  refine (callsIn_wide (n := 6)).1 ?_
  refine callsIn_of_wp_marks Try.func18 rfl trivial ?_ rfl
  simp only [Try.ntmps18, List.size_toArray, List.length_cons, List.length_nil, Nat.reduceAdd, Nat.reduceSub, Array.replicate_succ, Array.replicate_zero, List.push_toArray, List.append_toArray, List.nil_append, List.cons_append]
  refine wpIn_wide.2 ?_
  go_upto_region 1 with (first
    | ((with_reducible show wpList _ _ _ _ _ (World.alloc _ (.cells _ _))); refine mem_newb (l := []) H ?_; intro bx w3 hbk H2; try rw [← hbk]; clear hbk H; have H := H2; clear H2; simp only [List.cons_append, List.nil_append, List.set_cons_zero, List.set_cons_succ, List.setIfInBounds_toArray] at H))
  refine wp_scope_straight ?_
  go_wp2_with (first
    | go_skip
    | (go_at_call 39; refine (missing_nil _).mono ?_; rintro e w2 ⟨rfl, hw⟩; rw [hw]; clear hw w2)
    | ((with_reducible show wpList _ _ _ (⟨_, .store 42 _ _, _, _, _, _⟩ :: _) _ _); refine mem_store (i := 0) H (by first | exact wanted_none rfl | exact wanted_some rfl rfl rfl rfl) (by exact rfl) (by exact rfl) (by exact rfl) (by exact rfl) (by exact cInfo) (by exact rfl) (by exact rfl) ?_; intro w2 H2; clear H; have H := H2; clear H2; simp only [List.cons_append, List.nil_append, List.set_cons_zero, List.set_cons_succ, List.setIfInBounds_toArray] at H))
  exact ⟨_, results_ct rfl rfl (load_c6 (c := zero6) (H.at 0 rfl)), rfl, H.below⟩
/-- all that the program's tallies do -/
theorem ptally : PTally PAt12 where
  pt := PAt12.pt
  ok := fun ⟨_, _, h⟩ => h.fits
  new_no := fun n hi ho W => new_no n hi ho W
  new_yes := fun n ho W => new_yes n ho W
  opn := fun W own p X N q hi hN h => (openP W own p X N q hi (by omega) h).mono fun _ _ hd => hd.up (by omega)
  add := fun W own p X N q f v hi hf hv hN h => addP W own p X N q f v hi hf hv (by omega) h
  shut := fun W own p X N q hi hN h => (shutP W own p X N q hi (by omega) h).mono fun _ _ hd => hd.up (by omega)
  note := fun W own p X N q c hi hc hN h => noteP W own p X N q c hi hc hN h
  read := fun W own p X N q hi hN h => readP W own p X N q hi (by omega) h
  sum := fun W own p X N hN h => sumP W own p X N (by omega) h
  reader_no := fun W own p X N q _ hh _ h => reader_no W own p X N q hh h
  reader_yes := fun W own p X N k hk hX _ h => reader_yes W own p X N k hk hX h
  step := fun W own p X N R hR hN h => stepP W own p X N R hR (by omega) h
  nopn := opnN
  nadd := addN
  nshut := shutN
  nnote := noteN
  nread := readN
  nsum := sumN
  nreader := readerN
  nstep := stepN
end Go.Proofs.Ytdhjdkhhhdcjdaa.Ta
end
