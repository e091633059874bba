/-
  The program's visit as a value, and First of fifos. Conditions: the fifo lies where its pointer says, two thousand packets at most. The program's All of fifos. Conditions: the fifo lies where its pointer says, two thousand packets at most.
-/
import Derived.Test.YtlnlkodpndjimaaMGh
/- The program's visit as a value, and First of fifos. Conditions: the fifo lies where its pointer says, two thousand packets at most. -/
section
namespace Go.Proofs.Ytlnlkodpndjimaa.Fi
set_option linter.unusedSimpArgs false
set_option linter.unusedVariables false
set_option maxRecDepth 100000
attribute [local go_sem] Oper.semAt_some
open Go.ChangeShapes Go.WideShapes Go.ChangeAt Go.RowKit Go.Maps Go.Shelf

/-- two boxes are two -/
theorem mem_neF {w0 W : World} {l : List (Nat × TypeId × Array Value)} (h : Mem w0 W l) {i j : Nat} (hij : i < j) {b b' : Nat} {t t' : TypeId} {cs cs' : Array Value} (hi : l[i]? = some (b, t, cs)) (hj : l[j]? = some (b', t', cs')) : b ≠ b' := by
  have hp := h.inc
  obtain ⟨hi1, hi2⟩ := List.getElem?_eq_some_iff.1 hi
  obtain ⟨hj1, hj2⟩ := List.getElem?_eq_some_iff.1 hj
  have := List.pairwise_iff_getElem.1 hp i j hi1 hj1 hij
  rw [hi2, hj2] at this
  exact this
/-- what visit gives -/
def GivesVis (W : World) (A1 : Option Addr) (n1 a1 : Nat) (A2 : Option Addr) (n2 a2 : Nat) (e : Ending) (w' : World) : Prop :=
  ∃ b1 b2, e = .returned (.func (.func 44) #[] #[.pointer (some ⟨b1, 0, none⟩), .pointer (some ⟨b2, 0, none⟩)]) ∧ b1 ≠ b2 ∧ W.heap.size ≤ b1 ∧ W.heap.size ≤ b2 ∧ Held w' b1 41 #[.slice A1 n1 a1] ∧ Held w' b2 41 #[.slice A2 n2 a2] ∧ Below W.heap.size W w'
theorem visit_p (A1 : Option Addr) (n1 a1 : Nat) (A2 : Option Addr) (n2 a2 : Nat) (W : World) : Calls Try.prog 34 #[.slice A1 n1 a1, .slice A2 n2 a2] W (GivesVis W A1 n1 a1 A2 n2 a2) := by
  have H := Mem.start W
  go_enter Try.func34, Try.ntmps34
  go_upto_region 1 with (first | ((with_reducible show wpList _ _ _ _ _ (World.alloc _ (.cells _ _))); refine mem_new H ?_; intro w2 H2; clear H; have H := H2; clear H2; simp only [List.cons_append, List.nil_append, List.set_cons_zero, List.set_cons_succ, List.setIfInBounds_toArray] at H))
  go_wp2
  go_ret
  have h1 := H.held _ List.mem_cons_self
  have h2 := H.held _ (List.mem_cons_of_mem _ List.mem_cons_self)
  have hne := mem_neF H (i := 0) (j := 1) (by omega) rfl rfl
  exact ⟨_, _, rfl, hne, h1.1, h2.1, h1.2, h2.2, H.below⟩
/-- both results are returned out of their boxes -/
theorem results_cc {fn : Func} {p q : Tmp} {ty ty2 : TypeId} (h : fn.results = #[.cell p ty, .cell q ty2]) {tmps : Array Value} {P : Program} {w : World} {a a2 : Addr} (hp : tmps.getD p undef = .pointer (some a)) (hq : tmps.getD q undef = .pointer (some a2)) {u u2 : Value} (hu : (loadVar ty a).run P w = .ok u w) (hu2 : (loadVar ty2 a2).run P w = .ok u2 w) :
    (results fn tmps).run P w = .ok (.tuple #[u, u2]) w := by
  simp only [results, h]
  have hp' := hp
  have hq' := hq
  simp only [Array.getD_eq_getD_getElem?] at hp' hq'
  simp [Sem.run_bind, Result.andThen, asAddr, hp', hq', hu, hu2]
theorem errInfo : (Try.prog.info? 25).map (·.size) = some 1 := by kernel_rfl
theorem load_err {w : World} {b : Nat} {e : Int} (h : Held w b 25 #[.int .i64 e]) : (loadVar 25 ⟨b, 0, none⟩).run Try.prog w = .ok (.int .i64 e) w := by
  have hc : w.cell? ⟨b, 0, none⟩ = some (.int .i64 e) := h.cell 0
  have hagg : (isAgg 25).run Try.prog w = .ok false w := by
    unfold isAgg
    rw [Sem.run_bind, run_underlying Try.underlying25 w]
    rfl
  simp only [loadVar, Sem.run_bind, hagg, Result.andThen_ok]
  simp [go_sem, hc]
/-- what First tells lies in its boxes -/
theorem ret_pe {fn : Func} (h : fn.results = #[.cell 2 37, .cell 3 25]) {tmps : Array Value} {w : World} {b b' : Nat} {q : PV} {e : Int} (g : Held w b 37 (pvCs q).toArray) (g' : Held w b' 25 #[.int .i64 e])
    (hp : tmps.getD 2 undef = .pointer (some ⟨b, 0, none⟩)) (hp' : tmps.getD 3 undef = .pointer (some ⟨b', 0, none⟩)) : (results fn tmps).run Try.prog w = .ok (.tuple #[pv q, .int .i64 e]) w :=
  results_cc h hp hp' (run_loadVar_row w b 37 37 (pvCs q).toArray (0, 0) _ g Try.underlying37 rfl pkInfo) (load_err g')
theorem firstP_nil (W : World) : Calls Try.prog 18 #[.pointer none] W fun e w' => e = .returned (.tuple #[pv pv0, .int .i64 1]) ∧ Below W.heap.size W w' := by
  have H := Mem.start W
  go_enter Try.func18, Try.ntmps18
  go_wp2_with (first
    | go_skip
    | go_skip
    | ((with_reducible show wpList _ _ _ _ _ (World.alloc _ (.cells _ _))); refine mem_new H ?_; intro w2 H2; clear H; have H := H2; clear H2; simp only [List.cons_append, List.nil_append, List.set_cons_zero, List.set_cons_succ, List.setIfInBounds_toArray] at H)
    | (go_at_call 33; refine (miss_yes _).mono ?_; rintro e w2 ⟨rfl, hb⟩; have H2 := H.call hb; clear H hb; have H := H2; clear H2)
    | ((with_reducible show wpList _ _ _ (⟨_, .store 37 _ _, _, _, _, _⟩ :: _) _ _); refine mem_store (i := 0) H (by first | exact wanted_none rfl | exact wanted_some rfl rfl rfl rfl) (by exact rfl) (by exact rfl) (by exact rfl) (by exact rfl) (by exact pkInfo) (by exact rfl) (by exact rfl) ?_; intro w2 H2; clear H; have H := H2; clear H2; simp only [List.cons_append, List.nil_append, List.set_cons_zero, List.set_cons_succ, List.setIfInBounds_toArray] at H)
    | ((with_reducible show wpList _ _ _ (⟨_, .store _ _ _, _, _, _, _⟩ :: _) _ _); refine mem_storef (i := 1) H (by first | exact wanted_none rfl | exact wanted_some rfl rfl rfl rfl) (by exact rfl) (by exact rfl) (by exact rfl) (by exact rfl) errInfo (by exact rfl) (by exact rfl) ?_; intro w2 H2; clear H; have H := H2; clear H2; simp only [List.cons_append, List.nil_append, List.set_cons_zero, List.set_cons_succ, List.setIfInBounds_toArray] at H))
  refine bodyPost_ret (ret_pe rfl (q := pv0) (H.at 0 rfl) (H.at 1 rfl) rfl rfl) rfl ?_
  exact ⟨rfl, H.below⟩
theorem mem_foot {w V V' : World} {l : List (Nat × TypeId × Array Value)} {b : Nat} (H : Mem w V l) (hf : Foot (· = b) V V') (hb : w.heap.size ≤ b) (hn : ∀ q, q ∈ l → q.1 ≠ b) : Mem w V' l :=
  ⟨H.below.trans (hf.below H.below.size (fun i hi => by rw [hi]; exact hb)), fun q hq => ⟨(H.held q hq).1, (H.held q hq).2.foot hf (hn q hq)⟩, H.inc⟩
theorem mem_foot2 {w V V' : World} {x1 x2 : Nat} {t1 t2 : TypeId} {z1 z2 : Array Value} {b : Nat} (H : Mem w V [(x1, t1, z1), (x2, t2, z2)]) (hf : Foot (· = b) V V') (hb : w.heap.size ≤ b) (h1 : x1 ≠ b) (h2 : x2 ≠ b) : Mem w V' [(x1, t1, z1), (x2, t2, z2)] :=
  mem_foot H hf hb fun q hq => by
    rcases List.mem_cons.1 hq with rfl | hq
    · exact h1
    · rcases List.mem_singleton.1 hq with rfl
      exact h2
theorem keepsFrom_footB {D : Nat} {B : Nat → Prop} {W W' : World} (h : Foot B W W') (hb : ∀ i, B i → i < D) : KeepsFrom D W W' := ⟨h.size, fun k o hB hk _ => (h.block k (Array.getElem?_eq_some_iff.1 hk).1 (fun e => by have := hb k e; omega)).trans hk⟩
theorem pAt_zero (l : List PV) : pAt l 0 = l.headD pv0 := by cases l <;> rfl
/-- between two rounds -/
def FI (w : World) (D bp be : Nat) (k : Nat) (V : World) : Prop := k = 0 ∧ D ≤ V.heap.size ∧ be < D ∧ bp < D ∧ Mem w V [(bp, 37, (pvCs pv0).toArray), (be, 25, #[.int .i64 0])]
/-- a round has left -/
def FX (w : World) (D bp be : Nat) (q : PV) (c : Code) (k : Nat) (V : World) : Prop := c = .ret ∧ k = 0 ∧ D ≤ V.heap.size ∧ be < D ∧ bp < D ∧ Mem w V [(bp, 37, (pvCs q).toArray), (be, 25, #[.int .i64 0])]
set_option maxHeartbeats 4000000 in
theorem firstP_d (W : World) (own : Nat → Prop) (p : Nat) (s : FF) (N : Nat) (h : PAt10 W own p s N) (hN : N ≤ 2000) : Calls Try.prog 18 #[.pointer (some ⟨p, 0, none⟩)] W fun e w' => e = .returned (.tuple #[pv (firstV s), .int .i64 (firstE s)]) ∧ Below W.heap.size W w' := by
  have H := Mem.start W
  obtain ⟨x, h⟩ := h
  have HD := Lib.hid h
  have hp := h.box.lt
  have hnn := h.nn
  obtain ⟨A1, a1, A2, a2, hv1, hv2, hl1, hm1, hl2, hm2, c0, c1, cb, cu, ch⟩ := h.cells
  obtain ⟨n1, hn1⟩ : ∃ n, x.B.length = n := ⟨_, rfl⟩
  obtain ⟨n2, hn2⟩ : ∃ n, x.U.length = n := ⟨_, rfl⟩
  have hlen := h.len2
  have hN2 := h.len
  rw [hn1, hn2] at hlen
  rw [hn1] at hv1 hl1 cb
  rw [hn2] at hv2 hl2 cu
  have HV1 := Lib.hid hv1
  have HV2 := Lib.hid hv2
  have HN1 := Lib.hid hn1
  have HN2 := Lib.hid hn2
  have HL := Lib.hid hlen
  have h12 : n1 + n2 ≤ 2000 := by omega
  have km := fun w (hb : Below W.heap.size W w) => miss_no p s.n hnn.1 w ((h.below hb).box.cell 0)
  have HC := Lib.hid h.eq
  have hseq := fun b1 b2 w6 (hb : Below W.heap.size W w6) g1 g2 => visit_num 5 (by omega) b1 b2 W.heap.size A1 n1 a1 A2 n2 a2 x.B x.U w6 hb.size ⟨g1, g2, by rw [← HV1.out]; exact (h.below hb).rb, by rw [← HV2.out]; exact (h.below hb).ru⟩ hn1 hn2 (by omega) (by omega) hl1 hl2 hm1 hm2 (by rw [← hv1]; exact fun i hi => h.rb.lt hi) (by rw [← hv2]; exact fun i hi => h.ru.lt hi)
  rw [← h.eq] at hseq
  have HS := Lib.hid hseq
  clear hseq
  have kv := fun w => visit_p A1 n1 a1 A2 n2 a2 w
  clear h hv1 hv2 hn1 hn2 hlen hN2
  refine (callsIn_wide (n := 6)).1 ?_
  refine callsIn_of_wp_marks Try.func18 rfl trivial ?_ rfl
  simp only [Try.ntmps18, List.size_toArray, List.length_cons, List.length_nil, Nat.reduceAdd, Nat.reduceSub, Array.replicate_succ, Array.replicate_zero, List.push_toArray, List.append_toArray, List.nil_append, List.cons_append]
  refine wpIn_wide.2 ?_
  go_upto_region 1 with (first | ((with_reducible show wpList _ _ _ _ _ (World.alloc _ (.cells _ _))); refine mem_newb (l := []) H ?_; intro bp w3 hbk H2; try rw [← hbk]; clear hbk H; have H := H2; clear H2; simp only [List.cons_append, List.nil_append, List.set_cons_zero, List.set_cons_succ, List.setIfInBounds_toArray] at H) | ((with_reducible show wpList _ _ _ _ _ (World.alloc _ (.cells _ _))); refine mem_newb (l := [_]) H ?_; intro be w3 hbk H2; try rw [← hbk]; clear hbk H; have H := H2; clear H2; simp only [List.cons_append, List.nil_append, List.set_cons_zero, List.set_cons_succ, List.setIfInBounds_toArray] at H))
  go_upto_region 3 with (first
    | go_skip
    | (go_at_call 33; refine (km _ H.below).mono ?_; rintro e w2 ⟨rfl, hb⟩; have H2 := H.call hb; clear H hb; have H := H2; clear H2))
  refine (wpIn_wide (n := 6)).1 (wpIn_mono (Q := fun e a w6 => e = .normal ∧ ∃ b1 b2, a = ({ tmps := #[.pointer (some ⟨p, 0, none⟩), undef, .pointer (some ⟨bp, 0, none⟩), .pointer (some ⟨be, 0, none⟩), undef, .pointer (some ⟨p, 0, none⟩), .bool false, undef, .pointer (some ⟨p, 0, none⟩), .pointer (some ⟨p, 0, none⟩), .pointer (some ⟨p, 2, none⟩), .slice A1 n1 a1, .pointer (some ⟨p, 0, none⟩), .pointer (some ⟨p, 0, none⟩), .pointer (some ⟨p, 3, none⟩), .slice A2 n2 a2, .func (.func 44) #[] #[.pointer (some ⟨b1, 0, none⟩), .pointer (some ⟨b2, 0, none⟩)], undef, undef, undef], defers := [] } : Act) ∧ b1 ≠ b2 ∧ Held w6 b1 41 #[.slice A1 n1 a1] ∧ Held w6 b2 41 #[.slice A2 n2 a2] ∧ Mem W w6 [(bp, 37, (pvCs pv0).toArray), (be, 25, #[.int .i64 0])]) ((wpIn_wide (n := 6)).2 ?_) ?_)
  case refine_1 =>
    refine region_mem H 9 rfl (by kernel_rfl) (fun wr hS => ?_)
    clear H
    refine wpAnyR_take (i := 0) (v := .pointer (some ⟨p, 0, none⟩)) rfl rfl (by kernel_rfl) (by kernel_rfl) (by kernel_rfl) (fun _ _ _ h => by cases h.1) (Nat.le_refl _) ⟨by rfl, fun w _ => (by go_simp; try (first | (simp only [IntKind.wrap_u32]; done) | rfl)), fun _ => rfl⟩ hS ?_
    simp only [List.getElem_toArray, List.getElem_cons_zero, List.getElem_cons_succ, Act.put, List.setIfInBounds_toArray, List.set_cons_zero, List.set_cons_succ]
    refine wpAnyR_take (i := 1) (v := .pointer (some ⟨p, 0, none⟩)) rfl rfl (by kernel_rfl) (by kernel_rfl) (by kernel_rfl) (fun _ _ _ h => by cases h.1) (Nat.le_refl _) ⟨by rfl, fun w _ => (by go_simp; try (first | (simp only [IntKind.wrap_u32]; done) | rfl)), fun _ => rfl⟩ hS ?_
    simp only [List.getElem_toArray, List.getElem_cons_zero, List.getElem_cons_succ, Act.put, List.setIfInBounds_toArray, List.set_cons_zero, List.set_cons_succ]
    refine wpAnyR_take (i := 2) (v := .pointer (some ⟨p, 2, none⟩)) rfl rfl (by kernel_rfl) (by kernel_rfl) (by kernel_rfl) (fun _ _ _ h => by cases h.1) (Nat.le_refl _) ⟨by rfl, fun w _ => (by go_simp; try (first | (simp only [IntKind.wrap_u32]; done) | rfl)), fun _ => rfl⟩ hS ?_
    simp only [List.getElem_toArray, List.getElem_cons_zero, List.getElem_cons_succ, Act.put, List.setIfInBounds_toArray, List.set_cons_zero, List.set_cons_succ]
    refine wpAnyR_take (i := 3) (v := .slice A1 n1 a1) rfl rfl (by kernel_rfl) (by kernel_rfl) (by kernel_rfl) (fun _ _ _ h => by cases h.1) (Nat.le_refl _) (yields_old cb hp (by exact rfl) (by exact rfl) (by exact rfl) (by first | exact Try.underlying32 | exact Try.underlying3 | exact Try.underlying41) rfl) hS ?_
    simp only [List.getElem_toArray, List.getElem_cons_zero, List.getElem_cons_succ, Act.put, List.setIfInBounds_toArray, List.set_cons_zero, List.set_cons_succ]
    refine wpAnyR_take (i := 4) (v := .pointer (some ⟨p, 0, none⟩)) rfl rfl (by kernel_rfl) (by kernel_rfl) (by kernel_rfl) (fun _ _ _ h => by cases h.1) (Nat.le_refl _) ⟨by rfl, fun w _ => (by go_simp; try (first | (simp only [IntKind.wrap_u32]; done) | rfl)), fun _ => rfl⟩ hS ?_
    simp only [List.getElem_toArray, List.getElem_cons_zero, List.getElem_cons_succ, Act.put, List.setIfInBounds_toArray, List.set_cons_zero, List.set_cons_succ]
    refine wpAnyR_take (i := 5) (v := .pointer (some ⟨p, 0, none⟩)) rfl rfl (by kernel_rfl) (by kernel_rfl) (by kernel_rfl) (fun _ _ _ h => by cases h.1) (Nat.le_refl _) ⟨by rfl, fun w _ => (by go_simp; try (first | (simp only [IntKind.wrap_u32]; done) | rfl)), fun _ => rfl⟩ hS ?_
    simp only [List.getElem_toArray, List.getElem_cons_zero, List.getElem_cons_succ, Act.put, List.setIfInBounds_toArray, List.set_cons_zero, List.set_cons_succ]
    refine wpAnyR_take (i := 6) (v := .pointer (some ⟨p, 3, none⟩)) rfl rfl (by kernel_rfl) (by kernel_rfl) (by kernel_rfl) (fun _ _ _ h => by cases h.1) (Nat.le_refl _) ⟨by rfl, fun w _ => (by go_simp; try (first | (simp only [IntKind.wrap_u32]; done) | rfl)), fun _ => rfl⟩ hS ?_
    simp only [List.getElem_toArray, List.getElem_cons_zero, List.getElem_cons_succ, Act.put, List.setIfInBounds_toArray, List.set_cons_zero, List.set_cons_succ]
    refine wpAnyR_take (i := 7) (v := .slice A2 n2 a2) rfl rfl (by kernel_rfl) (by kernel_rfl) (by kernel_rfl) (fun _ _ _ h => by cases h.1) (Nat.le_refl _) (yields_old cu hp (by exact rfl) (by exact rfl) (by exact rfl) (by first | exact Try.underlying32 | exact Try.underlying3 | exact Try.underlying41) rfl) hS ?_
    simp only [List.getElem_toArray, List.getElem_cons_zero, List.getElem_cons_succ, Act.put, List.setIfInBounds_toArray, List.set_cons_zero, List.set_cons_succ]
    refine wpAnyG_one (i := 8) (by kernel_rfl) rfl (fun K hK => ?_)
    go_simp
    refine ⟨trivial, (callsIn_wide.2 (kv _)).mono ?_⟩
    rintro e w6 ⟨b1, b2, rfl, hne, hs1, hs2, g1, g2, hb⟩
    have hS5 := hS.call hb
    clear hb hS
    have hS := hS5
    clear hS5
    refine hK _ _ (.inr hS) ?_
    clear hK K
    refine wpAnyG_done (by kernel_rfl) ?_ _
    have H := hS
    clear hS
    exact ⟨rfl, b1, b2, rfl, hne, g1, g2, H⟩
  rintro e a w6 ⟨rfl, b1, b2, rfl, hne, g1, g2, H⟩
  have hbe := (H.at 1 rfl).lt
  have hbp := (H.at 0 rfl).lt
  have hsW := H.below.size
  have hb1 := g1.lt
  have hb2 := g2.lt
  have hsq := Lib.hid (HS.out b1 b2 w6 H.below g1 g2)
  clear HS
  go_wp2_with fail
  refine (wpIn_wide (n := 6)).1 ?_
  refine wpIn_rangeGrow (n := 6) (F := Fence.wide) rfl (by omega) (gf := 44) (lb := #[.pointer (some ⟨b1, 0, none⟩), .pointer (some ⟨b2, 0, none⟩)]) rfl trivial (enters_of Try.func44 (by kernel_rfl) rfl)
    hsq.out (fun _ => rfl) (fun h k => h.trans k) (fun U V hz hb => KeepsTwo.below hb hsW hb1 hb2)
    (FI W w6.heap.size bp be) (FX W w6.heap.size bp be (firstV s)) (fun k U V h hb => ⟨h.1, Nat.le_trans h.2.1 hb.size, h.2.2.1, h.2.2.2.1, h.2.2.2.2.call hb⟩) (fun k U V h hf => ?_) (fun c k U V h hb => ⟨h.1, h.2.1, Nat.le_trans h.2.2.1 hb.size, h.2.2.2.1, h.2.2.2.2.1, h.2.2.2.2.2.call hb⟩) (fun c k U V h hf => ?_)
    ⟨rfl, Nat.le_refl _, hbe, hbp, H⟩
    (fun k y => { tmps := #[.pointer (some ⟨p, 0, none⟩), undef, .pointer (some ⟨bp, 0, none⟩), .pointer (some ⟨be, 0, none⟩), .pointer (some ⟨y, 0, none⟩), .pointer (some ⟨p, 0, none⟩), .bool false, undef, .pointer (some ⟨p, 0, none⟩), .pointer (some ⟨p, 0, none⟩), .pointer (some ⟨p, 2, none⟩), .slice A1 n1 a1, .pointer (some ⟨p, 0, none⟩), .pointer (some ⟨p, 0, none⟩), .pointer (some ⟨p, 3, none⟩), .slice A2 n2 a2, .func (.func 44) #[] #[.pointer (some ⟨b1, 0, none⟩), .pointer (some ⟨b2, 0, none⟩)], pv (pAt s.l k), undef, undef], defers := [] })
    (fun k y X => w6.heap.size + 2 ≤ y ∧ Held X y 37 (pvCs (pAt s.l k)).toArray) (fun k y X Y h hf => ⟨h.1, h.2.foot hf (by omega)⟩) ?assign ?body ?done ?stop
  case refine_1 =>
    obtain ⟨h1, h2, h3, h4, h5⟩ := h
    exact ⟨h1, Nat.le_trans h2 hf.size, h3, h4, mem_foot2 h5 hf (by omega) (by omega) (by omega)⟩
  case refine_2 =>
    obtain ⟨h0, h1, h2, h3, h4, h5⟩ := h
    exact ⟨h0, h1, Nat.le_trans h2 hf.size, h3, h4, mem_foot2 h5 hf (by omega) (by omega) (by omega)⟩
  case assign =>
    intro l x V K hx hsz hK
    gi_wp2
    exact hK _ _ ⟨hsz, Held.new V _ _⟩ ((Below.refl _ _).alloc (Nat.le_refl _) _)
  case body =>
    rintro l k y V hk hsz2 ⟨hy1, hy2⟩ ⟨rfl, hDV, _, _, K⟩
    rw [pAt_zero] at hy2
    have HE := Lib.hid (show pAt s.l 0 = firstV s from pAt_zero _)
    generalize pAt s.l 0 = z at HE ⊢
    generalize hq : s.l.headD pv0 = q at hy2
    have HQ := Lib.hid (show firstV s = q from hq)
    clear hq H g1 g2 hsq
    gi_wp2_with (first | ((with_reducible show wpListIn _ _ _ _ _ (⟨_, .load 37 _, _, _, _, _⟩ :: _) _ _); refine load_heldI hy2 (by first | exact wanted_none rfl | exact wanted_some rfl rfl rfl rfl) (by exact rfl) (by exact rfl) Try.underlying37 rfl (by exact pkInfo) ?_) | ((with_reducible show wpListIn _ _ _ _ _ (⟨_, .store 37 _ _, _, _, _, _⟩ :: _) _ _); refine store_heldI (K.at 0 rfl) (by first | exact wanted_none rfl | exact wanted_some rfl rfl rfl rfl) (by exact rfl) (by exact rfl) (by exact rfl) (by exact pkInfo) (by exact rfl) (by exact rfl) ?_; intro V2 h2 F2; have K2 := K.set 0 rfl F2 h2; clear K h2; have K := K2; clear K2; simp only [List.cons_append, List.nil_append, List.set_cons_zero, List.set_cons_succ, List.setIfInBounds_toArray] at K; have d8 := (K.at 1 rfl).cell 0; have f8 := (K.at 1 rfl).frozen 0; simp only [List.getElem?_toArray, List.getElem?_cons_zero] at d8))
    have F3 : Foot (· = be) V2 (V2.setCell ⟨be, 0, none⟩ (.int .i64 0)) := Foot.cell V2 ⟨be, 0, none⟩ _
    have K3 := K.set 1 rfl F3 ((K.at 1 rfl).set 0 (.int .i64 0))
    refine ⟨keepsFrom_footB ((F2.mono (fun i _ h => Or.inl h)).trans' (F3.mono (fun i _ h => Or.inr h)) : Foot (fun i => i = bp ∨ i = be) V _) (fun i hi => by omega), rfl, rfl, by have := F2.size; have := F3.size; omega, hbe, hbp, ?_⟩
    rw [HQ.out]
    exact K3
  case done =>
    rintro D V hD ⟨hN0, hDV, _, _, K⟩ hdef
    have e1 : s.l = [] := List.eq_nil_of_length_eq_zero hN0
    have e2 : firstV s = pv0 := by rw [firstV, e1]; rfl
    have e3 : firstE s = 31 := by rw [firstE, if_pos e1]
    have HE := Lib.hid (And.intro e2 e3)
    have hDlt : D < V.heap.size := (Array.getElem?_eq_some_iff.1 hdef).1
    have hdp : D ≠ bp ∧ D ≠ be := by omega
    have HW := Lib.hid hDV
    clear H g1 g2 hsq e1 e2 e3 hN0 HD HC
    go_wp2_with (first | go_skip | ((with_reducible show wpList _ _ _ (⟨_, .store 37 _ _, _, _, _, _⟩ :: _) _ _); refine store_held (K.at 0 rfl) (by first | exact wanted_none rfl | exact wanted_some rfl rfl rfl rfl) (by exact rfl) (by exact rfl) (by exact rfl) (by exact pkInfo) (by exact rfl) (by exact rfl) ?_; intro V2 h2 F2; have hd2 := (F2.block D hDlt hdp.1).trans hdef; have hl2 := Nat.lt_of_lt_of_le hDlt F2.size; clear hdef hDlt; have hdef := hd2; have hDlt := hl2; clear hd2 hl2; have K2 := K.set 0 rfl F2 h2; clear K h2; have K := K2; clear K2; simp only [List.cons_append, List.nil_append, List.set_cons_zero, List.set_cons_succ, List.setIfInBounds_toArray] at K) | ((with_reducible show wpList _ _ _ (⟨_, .store 25 _ _, _, _, _, _⟩ :: _) _ _); refine store_fld (K.at 1 rfl) (by first | exact wanted_none rfl | exact wanted_some rfl rfl rfl rfl) (by exact rfl) (by exact rfl) (by exact rfl) errInfo (by exact rfl) (by exact rfl) ?_; intro V3 h3 F3; have hd2 := (F3.block D hDlt hdp.2).trans hdef; have hl2 := Nat.lt_of_lt_of_le hDlt F3.size; clear hdef hDlt; have hdef := hd2; have hDlt := hl2; clear hd2 hl2; have K2 := K.set 1 rfl F3 h3; clear K h3; have K := K2; clear K2; simp only [List.cons_append, List.nil_append, List.set_cons_zero, List.set_cons_succ, List.setIfInBounds_toArray] at K))
    refine ⟨by simp, .inl ⟨_, _, rfl, run_takeDeferred hdef, ?_⟩⟩
    exact ⟨_, ret_pe rfl (q := pv0) ((World.putObj_heap_other hdp.1.symm).trans (K.at 0 rfl)) ((World.putObj_heap_other hdp.2.symm).trans (K.at 1 rfl)) rfl rfl, by rw [HE.out.1, HE.out.2], K.below.trans (below_put (by omega) _ _)⟩
  case stop =>
    rintro D c k V hD hk ⟨rfl, rfl, hDV, _, _, K⟩ hdef
    have e3 : firstE s = 0 := by rw [firstE, if_neg (fun e => by rw [e] at hk; cases hk)]
    have HE := Lib.hid e3
    have hdp : D ≠ bp ∧ D ≠ be := by omega
    clear H g1 g2 hsq e3
    gi_wp2
    refine ⟨by simp, .inl ⟨_, _, rfl, run_takeDeferred hdef, ?_⟩⟩
    exact ⟨_, ret_pe rfl ((World.putObj_heap_other hdp.1.symm).trans (K.at 0 rfl)) ((World.putObj_heap_other hdp.2.symm).trans (K.at 1 rfl)) rfl rfl, by rw [HE.out], K.below.trans (below_put (by omega) _ _)⟩
end Go.Proofs.Ytlnlkodpndjimaa.Fi
end
/- The program's All of fifos. Conditions: the fifo lies where its pointer says, two thousand packets at most. -/
section
namespace Go.Proofs.Ytlnlkodpndjimaa.Fi
set_option linter.unusedSimpArgs false
set_option linter.unusedVariables false
set_option maxRecDepth 100000
attribute [local go_sem] Oper.semAt_some
open Go.ChangeShapes Go.WideShapes Go.ChangeAt Go.RowKit Go.Maps Go.Shelf

theorem Que.cells {W : World} {v : Value} {l : List PV} (h : Que W v l) {i : Nat} (hi : qb v i) : ∃ cs, Held W i 37 cs := by
  rcases h with ⟨rfl, _⟩ | ⟨g, off, cap, cs, rfl, h1, _⟩
  · obtain ⟨_, _, _, _, e⟩ := hi
    cases e
  · obtain ⟨_, _, _, _, e⟩ := hi
    cases e
    exact ⟨cs, h1⟩
/-- what is collected -/
structure AccQ (W : World) (D bq : Nat) (L : List PV) (k : Nat) (X : World) : Prop where
  lt : bq < D
  ge : W.heap.size ≤ bq
  sz : D ≤ X.heap.size
  row : ∃ v, Held X bq 41 #[v] ∧ Que X v (L.take k) ∧ ∀ i, qb v i → D + 2 ≤ i
  bel : Below W.heap.size W X
theorem AccQ.grows {W : World} {D bq : Nat} {L : List PV} {k : Nat} {X Y : World} (h : AccQ W D bq L k X) (hb : Below X.heap.size X Y) : AccQ W D bq L k Y := by
  obtain ⟨v, h1, h2, h3⟩ := h.row
  exact ⟨h.lt, h.ge, Nat.le_trans h.sz hb.size, ⟨v, h1.below hb h1.lt, h2.on fun i hi => hb.block i (h2.lt hi), h3⟩, h.bel.trans (hb.mono h.bel.size)⟩
theorem AccQ.foot {W : World} {D bq : Nat} {L : List PV} {k b : Nat} {X Y : World} (h : AccQ W D bq L k X) (hf : Foot (· = b) X Y) (h1 : b ≠ bq) (h2 : b < D + 2) (h3 : W.heap.size ≤ b) : AccQ W D bq L k Y := by
  obtain ⟨v, g1, g2, g3⟩ := h.row
  exact ⟨h.lt, h.ge, Nat.le_trans h.sz hf.size, ⟨v, g1.foot hf h1.symm, g2.on fun i hi => hf.block i (g2.lt hi) (fun e => by have := g3 i hi; omega), g3⟩, h.bel.trans (hf.below h.bel.size (fun i hi => by rw [hi]; exact h3))⟩
/-- one more is collected -/
theorem acc_stepQ {W V w8 : World} {D bq k : Nat} {L : List PV} {q : PV} {v v' : Value} {o : Obj} (lt : bq < D) (ge : W.heap.size ≤ bq) (sz : D + 2 ≤ V.heap.size) (bel : Below W.heap.size W V) (hv1 : Held V bq 41 #[v]) (hv2 : Que V v (L.take k)) (hv3 : ∀ i, qb v i → D + 2 ≤ i)
    (htk : L.take (k + 1) = L.take k ++ [q]) (hq : Que w8 v' (L.take k ++ [q])) (hF : Foot (qb v) (V.alloc o) w8) (hb : ∀ i, qb v' i → qb v i ∨ (V.alloc o).heap.size ≤ i) :
    KeepsFrom D V (w8.setCell ⟨bq, 0, none⟩ v') ∧ Foot (fun b => b = bq ∨ D + 2 ≤ b) V (w8.setCell ⟨bq, 0, none⟩ v') ∧ AccQ W D bq L (k + 1) (w8.setCell ⟨bq, 0, none⟩ v') := by
  have hs := hF.size
  rw [World.size_alloc] at hs
  have hsz := size_setCell w8 ⟨bq, 0, none⟩ v'
  have keep : ∀ j, j < V.heap.size → j ≠ bq → ¬ qb v j → (w8.setCell ⟨bq, 0, none⟩ v').heap[j]? = V.heap[j]? := fun j hj h1 h2 =>
    ((Below.heap_setCell _ _ _ _ h1).trans (hF.block j (by rw [World.size_alloc]; omega) h2)).trans (Below.heap_alloc _ _ _ hj)
  have hv8 : Held w8 bq 41 #[v] := (hF.block bq (by have := hv1.lt; rw [World.size_alloc]; omega) (fun e => by have := hv3 bq e; omega)).trans (hv1.alloc o)
  have hft : Foot (fun b => b = bq ∨ D + 2 ≤ b) V (w8.setCell ⟨bq, 0, none⟩ v') := ⟨hF.os, hF.tape, hF.output, by omega, fun j hj hn => keep j hj (fun e => hn (.inl e)) (fun e => hn (.inr (hv3 j e)))⟩
  have h3' : ∀ i, qb v' i → D + 2 ≤ i := fun i hi => by
    rcases hb i hi with e | e
    · exact hv3 i e
    · rw [World.size_alloc] at e
      omega
  refine ⟨⟨by omega, fun j o' hj hjo hc => ?_⟩, hft, lt, ge, by omega, ⟨v', hv8.set 0 v', ?_, h3'⟩, bel.trans (hft.below bel.size (fun i hi => by have := bel.size; rcases hi with rfl | hi <;> omega))⟩
  · refine (keep j (Array.getElem?_eq_some_iff.1 hjo).1 (by omega) (fun e => ?_)).trans hjo
    obtain ⟨cs, hcs⟩ := hv2.cells e
    have h9 : V.heap[j]? = some (.cells cs 37) := hcs
    rw [h9] at hjo
    cases hjo
    cases hc
  · rw [htk]
    exact hq.on fun i hi => Below.heap_setCell _ _ _ _ (by have := h3' i hi; show i ≠ bq; omega)
theorem takeP_at {L : List PV} {k : Nat} (h : k < L.length) : L.take (k + 1) = L.take k ++ [pAt L k] := by
  rw [pAt, List.take_add_one, List.getElem?_eq_getElem h, List.getD_eq_getElem?_getD, List.getElem?_eq_getElem h]
  rfl
theorem que_put {W : World} {v : Value} {l : List PV} {D : Nat} {o o' : Obj} (h : Que W v l) (hD : W.heap[D]? = some o) (ho : o.isCells = false) : Que (W.putObj D o') v l :=
  h.on fun i hi => World.putObj_heap_other (fun e => by
    subst e
    obtain ⟨cs, hcs⟩ := h.cells hi
    have h9 : W.heap[i]? = some (.cells cs 37) := hcs
    rw [h9] at hD
    cases hD
    cases ho)
theorem allP_nil (W : World) : Calls Try.prog 15 #[.pointer none] W fun e w' => e = .returned (.slice none 0 0) ∧ Below W.heap.size W w' := by
  have H := Mem.start W
  go_enter Try.func15, Try.ntmps15
  go_wp2_with (first
    | go_skip
    | go_skip
    | (go_at_call 33; refine (miss_yes _).mono ?_; rintro e w2 ⟨rfl, hb⟩; have H2 := H.call hb; clear H hb; have H := H2; clear H2))
  go_ret
  exact ⟨rfl, H.below⟩
set_option maxHeartbeats 4000000 in
theorem allP_q (W : World) (own : Nat → Prop) (p : Nat) (s : FF) (N : Nat) (h : PAt10 W own p s N) (hN : N ≤ 2000) : Calls Try.prog 15 #[.pointer (some ⟨p, 0, none⟩)] W (GivesQ W s.l) := by
  have H := Mem.start W
  obtain ⟨x, h⟩ := h
  have HD := Lib.hid h
  have hp := h.box.lt
  have hnn := h.nn
  obtain ⟨A1, a1, A2, a2, hv1, hv2, hl1, hm1, hl2, hm2, c0, c1, cb, cu, ch⟩ := h.cells
  obtain ⟨n1, hn1⟩ : ∃ n, x.B.length = n := ⟨_, rfl⟩
  obtain ⟨n2, hn2⟩ : ∃ n, x.U.length = n := ⟨_, rfl⟩
  have hlen := h.len2
  have hN2 := h.len
  rw [hn1, hn2] at hlen
  rw [hn1] at hv1 hl1 cb
  rw [hn2] at hv2 hl2 cu
  have HV1 := Lib.hid hv1
  have HV2 := Lib.hid hv2
  have HN1 := Lib.hid hn1
  have HN2 := Lib.hid hn2
  have HL := Lib.hid hlen
  have h12 : n1 + n2 ≤ 2000 := by omega
  have km := fun w (hb : Below W.heap.size W w) => miss_no p s.n hnn.1 w ((h.below hb).box.cell 0)
  have HC := Lib.hid h.eq
  have hseq := fun b1 b2 w6 (hb : Below W.heap.size W w6) g1 g2 => visit_num 5 (by omega) b1 b2 W.heap.size A1 n1 a1 A2 n2 a2 x.B x.U w6 hb.size ⟨g1, g2, by rw [← HV1.out]; exact (h.below hb).rb, by rw [← HV2.out]; exact (h.below hb).ru⟩ hn1 hn2 (by omega) (by omega) hl1 hl2 hm1 hm2 (by rw [← hv1]; exact fun i hi => h.rb.lt hi) (by rw [← hv2]; exact fun i hi => h.ru.lt hi)
  rw [← h.eq] at hseq
  have HS := Lib.hid hseq
  clear hseq
  have kv := fun w => visit_p A1 n1 a1 A2 n2 a2 w
  have hL5 : s.l.length ≤ 2000 := by omega
  clear h hv1 hv2 hn1 hn2 hlen hN2
  refine (callsIn_wide (n := 6)).1 ?_
  refine callsIn_of_wp_marks Try.func15 rfl trivial ?_ rfl
  simp only [Try.ntmps15, List.size_toArray, List.length_cons, List.length_nil, Nat.reduceAdd, Nat.reduceSub, Array.replicate_succ, Array.replicate_zero, List.push_toArray, List.append_toArray, List.nil_append, List.cons_append]
  refine wpIn_wide.2 ?_
  go_upto_region 4 with (first
    | go_skip
    | (go_at_call 33; refine (km _ H.below).mono ?_; rintro e w2 ⟨rfl, hb⟩; have H2 := H.call hb; clear H hb; have H := H2; clear H2)
    | ((with_reducible show wpList _ _ _ _ _ (World.alloc _ (.cells _ _))); refine mem_newb (l := []) H ?_; intro bq w3 hbk H2; try rw [← hbk]; clear hbk H; have H := H2; clear H2; simp only [List.cons_append, List.nil_append, List.set_cons_zero, List.set_cons_succ, List.setIfInBounds_toArray] at H))
  refine (wpIn_wide (n := 6)).1 (wpIn_mono (Q := fun e a w6 => e = .normal ∧ ∃ b1 b2, a = ({ tmps := #[.pointer (some ⟨p, 0, none⟩), undef, .slice none 0 0, .pointer (some ⟨bq, 0, none⟩), undef, .pointer (some ⟨p, 0, none⟩), .bool false, .pointer (some ⟨p, 0, none⟩), .pointer (some ⟨p, 0, none⟩), .pointer (some ⟨p, 2, none⟩), .slice A1 n1 a1, .pointer (some ⟨p, 0, none⟩), .pointer (some ⟨p, 0, none⟩), .pointer (some ⟨p, 3, none⟩), .slice A2 n2 a2, .func (.func 44) #[] #[.pointer (some ⟨b1, 0, none⟩), .pointer (some ⟨b2, 0, none⟩)], undef, undef, undef, undef, undef, undef], defers := [] } : Act) ∧ b1 ≠ b2 ∧ bq < b1 ∧ bq < b2 ∧ Held w6 b1 41 #[.slice A1 n1 a1] ∧ Held w6 b2 41 #[.slice A2 n2 a2] ∧ Mem W w6 [(bq, 41, #[.slice none 0 0])]) ((wpIn_wide (n := 6)).2 ?_) ?_)
  case refine_1 =>
    have hbq0 := (H.at 0 rfl).lt
    refine region_mem H 9 rfl (by kernel_rfl) (fun wr hS => ?_)
    clear H
    refine wpAnyR_take (i := 0) (v := .pointer (some ⟨p, 0, none⟩)) rfl rfl (by kernel_rfl) (by kernel_rfl) (by kernel_rfl) (fun _ _ _ h => by cases h.1) (Nat.le_refl _) ⟨by rfl, fun w _ => (by go_simp; try (first | (simp only [IntKind.wrap_u32]; done) | rfl)), fun _ => rfl⟩ hS ?_
    simp only [List.getElem_toArray, List.getElem_cons_zero, List.getElem_cons_succ, Act.put, List.setIfInBounds_toArray, List.set_cons_zero, List.set_cons_succ]
    refine wpAnyR_take (i := 1) (v := .pointer (some ⟨p, 0, none⟩)) rfl rfl (by kernel_rfl) (by kernel_rfl) (by kernel_rfl) (fun _ _ _ h => by cases h.1) (Nat.le_refl _) ⟨by rfl, fun w _ => (by go_simp; try (first | (simp only [IntKind.wrap_u32]; done) | rfl)), fun _ => rfl⟩ hS ?_
    simp only [List.getElem_toArray, List.getElem_cons_zero, List.getElem_cons_succ, Act.put, List.setIfInBounds_toArray, List.set_cons_zero, List.set_cons_succ]
    refine wpAnyR_take (i := 2) (v := .pointer (some ⟨p, 2, none⟩)) rfl rfl (by kernel_rfl) (by kernel_rfl) (by kernel_rfl) (fun _ _ _ h => by cases h.1) (Nat.le_refl _) ⟨by rfl, fun w _ => (by go_simp; try (first | (simp only [IntKind.wrap_u32]; done) | rfl)), fun _ => rfl⟩ hS ?_
    simp only [List.getElem_toArray, List.getElem_cons_zero, List.getElem_cons_succ, Act.put, List.setIfInBounds_toArray, List.set_cons_zero, List.set_cons_succ]
    refine wpAnyR_take (i := 3) (v := .slice A1 n1 a1) rfl rfl (by kernel_rfl) (by kernel_rfl) (by kernel_rfl) (fun _ _ _ h => by cases h.1) (Nat.le_refl _) (yields_old cb hp (by exact rfl) (by exact rfl) (by exact rfl) (by first | exact Try.underlying32 | exact Try.underlying3 | exact Try.underlying41) rfl) hS ?_
    simp only [List.getElem_toArray, List.getElem_cons_zero, List.getElem_cons_succ, Act.put, List.setIfInBounds_toArray, List.set_cons_zero, List.set_cons_succ]
    refine wpAnyR_take (i := 4) (v := .pointer (some ⟨p, 0, none⟩)) rfl rfl (by kernel_rfl) (by kernel_rfl) (by kernel_rfl) (fun _ _ _ h => by cases h.1) (Nat.le_refl _) ⟨by rfl, fun w _ => (by go_simp; try (first | (simp only [IntKind.wrap_u32]; done) | rfl)), fun _ => rfl⟩ hS ?_
    simp only [List.getElem_toArray, List.getElem_cons_zero, List.getElem_cons_succ, Act.put, List.setIfInBounds_toArray, List.set_cons_zero, List.set_cons_succ]
    refine wpAnyR_take (i := 5) (v := .pointer (some ⟨p, 0, none⟩)) rfl rfl (by kernel_rfl) (by kernel_rfl) (by kernel_rfl) (fun _ _ _ h => by cases h.1) (Nat.le_refl _) ⟨by rfl, fun w _ => (by go_simp; try (first | (simp only [IntKind.wrap_u32]; done) | rfl)), fun _ => rfl⟩ hS ?_
    simp only [List.getElem_toArray, List.getElem_cons_zero, List.getElem_cons_succ, Act.put, List.setIfInBounds_toArray, List.set_cons_zero, List.set_cons_succ]
    refine wpAnyR_take (i := 6) (v := .pointer (some ⟨p, 3, none⟩)) rfl rfl (by kernel_rfl) (by kernel_rfl) (by kernel_rfl) (fun _ _ _ h => by cases h.1) (Nat.le_refl _) ⟨by rfl, fun w _ => (by go_simp; try (first | (simp only [IntKind.wrap_u32]; done) | rfl)), fun _ => rfl⟩ hS ?_
    simp only [List.getElem_toArray, List.getElem_cons_zero, List.getElem_cons_succ, Act.put, List.setIfInBounds_toArray, List.set_cons_zero, List.set_cons_succ]
    refine wpAnyR_take (i := 7) (v := .slice A2 n2 a2) rfl rfl (by kernel_rfl) (by kernel_rfl) (by kernel_rfl) (fun _ _ _ h => by cases h.1) (Nat.le_refl _) (yields_old cu hp (by exact rfl) (by exact rfl) (by exact rfl) (by first | exact Try.underlying32 | exact Try.underlying3 | exact Try.underlying41) rfl) hS ?_
    simp only [List.getElem_toArray, List.getElem_cons_zero, List.getElem_cons_succ, Act.put, List.setIfInBounds_toArray, List.set_cons_zero, List.set_cons_succ]
    have hbqr := (hS.at 0 rfl).lt
    refine wpAnyG_one (i := 8) (by kernel_rfl) rfl (fun K hK => ?_)
    go_simp
    refine ⟨trivial, (callsIn_wide.2 (kv _)).mono ?_⟩
    rintro e w6 ⟨b1, b2, rfl, hne, hs1, hs2, g1, g2, hb⟩
    have hS5 := hS.call hb
    clear hb hS
    have hS := hS5
    clear hS5
    refine hK _ _ (.inr hS) ?_
    clear hK K
    refine wpAnyG_done (by kernel_rfl) ?_ _
    have H := hS
    clear hS
    exact ⟨rfl, b1, b2, rfl, hne, Nat.lt_of_lt_of_le hbqr hs1, Nat.lt_of_lt_of_le hbqr hs2, g1, g2, H⟩
  rintro e a w6 ⟨rfl, b1, b2, rfl, hne, hq1, hq2, g1, g2, H⟩
  have hbq := (H.at 0 rfl).lt
  have hge := (H.held _ List.mem_cons_self).1
  have hsW := H.below.size
  have hb1 := g1.lt
  have hb2 := g2.lt
  have hsq := Lib.hid (HS.out b1 b2 w6 H.below g1 g2)
  clear HS
  go_wp2_with fail
  refine (wpIn_wide (n := 6)).1 ?_
  refine wpIn_rangeGrow (n := 6) (F := Fence.wide) rfl (by omega) (gf := 44) (lb := #[.pointer (some ⟨b1, 0, none⟩), .pointer (some ⟨b2, 0, none⟩)]) rfl trivial (enters_of Try.func44 (by kernel_rfl) rfl)
    hsq.out (fun _ => rfl) (fun h k => h.trans k) (fun U V hz hb => KeepsTwo.below hb hsW hb1 hb2)
    (AccQ W w6.heap.size bq s.l) (fun _ _ _ => False) (fun k U V h hb => h.grows hb) (fun k U V h hf => h.foot hf (by omega) (by omega) (by omega)) (fun c k U V h _ => h.elim) (fun c k U V h _ => h.elim)
    ⟨hbq, hge, Nat.le_refl _, ⟨_, H.at 0 rfl, .inl ⟨rfl, rfl⟩, (fun i hi => by obtain ⟨_, _, _, _, e⟩ := hi; cases e)⟩, H.below⟩
    (fun k y => { tmps := #[.pointer (some ⟨p, 0, none⟩), undef, .slice none 0 0, .pointer (some ⟨bq, 0, none⟩), .pointer (some ⟨y, 0, none⟩), .pointer (some ⟨p, 0, none⟩), .bool false, .pointer (some ⟨p, 0, none⟩), .pointer (some ⟨p, 0, none⟩), .pointer (some ⟨p, 2, none⟩), .slice A1 n1 a1, .pointer (some ⟨p, 0, none⟩), .pointer (some ⟨p, 0, none⟩), .pointer (some ⟨p, 3, none⟩), .slice A2 n2 a2, .func (.func 44) #[] #[.pointer (some ⟨b1, 0, none⟩), .pointer (some ⟨b2, 0, none⟩)], pv (pAt s.l k), undef, undef, undef, undef, undef], defers := [] })
    (fun k y X => w6.heap.size + 2 ≤ y ∧ Held X y 37 (pvCs (pAt s.l k)).toArray) (fun k y X Y h hf => ⟨h.1, h.2.foot hf (by omega)⟩) ?assign ?body ?done ?stop
  case assign =>
    intro l x V K hx hsz hK
    gi_wp2
    exact hK _ _ ⟨hsz, Held.new V _ _⟩ ((Below.refl _ _).alloc (Nat.le_refl _) _)
  case body =>
    rintro l k y V hk hsz2 ⟨hy1, hy2⟩ hAcc
    obtain ⟨v, hv1, hv2, hv3⟩ := hAcc.row
    obtain ⟨a0, c0', hvv, _, _⟩ := hv2.shape
    have htk := takeP_at hk
    have hlk : (s.l.take k).length = k := by rw [List.length_take]; omega
    rw [hlk] at hvv
    subst hvv
    have d0 := hv1.cell 0
    have f0 := hv1.frozen 0
    simp only [List.getElem?_toArray, List.getElem?_cons_zero] at d0
    generalize pAt s.l k = q at htk hy2 ⊢
    have lt := hAcc.lt
    have HV := Lib.hid (And.intro hAcc (And.intro hv1 (And.intro hv3 (And.intro htk hv2))))
    have HE8 := Lib.hid (show ∀ q : PV, (s.l.take k ++ [q]).length = k + 1 from fun q => by rw [List.length_append, hlk]; rfl)
    clear hlk
    have HK5 := Lib.hid (show k + 1 ≤ 100000 by omega)
    have hgr : ∀ (o : Obj) (w8 : World), Foot (qb (.slice a0 k c0')) (V.alloc o) w8 → Held w8 bq 41 #[.slice a0 k c0'] := fun o w8 hg => (hg.block bq (by have := hv1.lt; rw [World.size_alloc]; omega) (fun e => by have := hv3 bq e; omega)).trans (hv1.alloc o)
    clear hAcc hv1 hv2 hv3 htk H g1 g2 hsq
    gi_wp2_with (first | ((with_reducible show wpListIn _ _ _ _ _ (⟨_, .load 37 _, _, _, _, _⟩ :: _) _ _); refine load_heldI hy2 (by first | exact wanted_none rfl | exact wanted_some rfl rfl rfl rfl) (by exact rfl) (by exact rfl) Try.underlying37 rfl (by exact pkInfo) ?_) | (gi_at_builtin; refine wpListIn_append_que rfl _ _ rfl rfl (.slice a0 k c0') (s.l.take k) [q] ⟨V.heap.size, 0, none⟩ 1 1 rfl rfl (HV.out.2.2.2.2.on (fun i hi => Below.heap_alloc _ _ _ (HV.out.2.2.2.2.lt hi))) rfl (fun j u hj => by rw [Addr.add_mid, Nat.zero_add]; rw [pvs_one] at hj; exact ((Held.new V 37 (pvCs q).toArray).cell j).trans (by simpa using hj)) (by rw [List.length_take]; have := HK5.out; omega) ?_; intro v' w8 hq7 hF7 hb7; obtain ⟨a8, c8, hv8, _, _⟩ := hq7.shape; rw [HE8.out] at hv8; subst hv8; have h8 := hgr _ _ hF7; have d8 := h8.cell 0; have f8 := h8.frozen 0; simp only [List.getElem?_toArray, List.getElem?_cons_zero] at d8))
    obtain ⟨q1, q2, q3⟩ := acc_stepQ (W := W) lt hge hsz2 HV.out.1.bel HV.out.2.1 HV.out.2.2.2.2 HV.out.2.2.1 HV.out.2.2.2.1 hq7 hF7 hb7
    exact ⟨q1, KeepsTwo.foot q2 (fun i hi => by rcases hi with rfl | hi <;> omega) (by omega) (by omega) (by omega), q3⟩
  case done =>
    intro D V hD hAcc hdef
    obtain ⟨v, hv1, hv2, hv3⟩ := hAcc.row
    rw [List.take_length] at hv2
    obtain ⟨a0, c0', hvv, _, _⟩ := hv2.shape
    subst hvv
    have d0 := hv1.cell 0
    simp only [List.getElem?_toArray, List.getElem?_cons_zero] at d0
    have hb := hAcc.bel
    clear H hv1 g1 g2 hsq hAcc
    go_wp2
    refine ⟨by simp, .inl ⟨_, _, rfl, run_takeDeferred hdef, ?_⟩⟩
    exact ⟨_, results_tmp (t := 2) rfl _ _ _, _, rfl, que_put hv2 hdef rfl, (fun i hi => by have := hv3 i hi; omega), hb.trans (below_put (by omega) V _)⟩
  case stop => exact fun _ _ _ _ _ _ h => h.elim
theorem allP_d (W : World) (own : Nat → Prop) (p : Nat) (s : FF) (N : Nat) (h : PAt10 W own p s N) (hN : N ≤ 2000) : Calls Try.prog 15 #[.pointer (some ⟨p, 0, none⟩)] W (TellsF PAt10 W own p s N s.l (fun x => x)) := by
  refine (allP_q W own p s N h hN).mono ?_
  rintro e w' ⟨v, rfl, hq, hn, hb⟩
  obtain ⟨x, h⟩ := h
  exact ⟨v, rfl, hq, ⟨own, ⟨x, h.below hb⟩, fun i hi => .inl hi, fun i hi => ⟨fun e => by have := h.lt i e; have := hn i hi; omega, .inr (hn i hi)⟩⟩, Foot.of_below hb⟩
end Go.Proofs.Ytlnlkodpndjimaa.Fi
end
