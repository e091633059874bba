/-
  What putting, draining and asking for the first does to the document's fifo in memory. Conditions: the fifo lies where its pointer says, two thousand packets at most. What taking does to the document's fifo in memory. Conditions: the fifo lies where its pointer says, five thousand packets at most. What putting back does to the document's fifo in memory. Conditions: the fifo lies where its pointer says, two thousand packets at most.
-/
import Derived.Test.YtlnlkodpndjimaaMGb
/- What putting, draining and asking for the first does to the document's fifo in memory. Conditions: the fifo lies where its pointer says, two thousand packets at most. -/
section
namespace Go.Proofs.Ytlnlkodpndjimaa.Fi
set_option linter.unusedSimpArgs false
set_option linter.unusedVariables false
set_option maxRecDepth 100000
open Go.ChangeShapes Go.WideShapes Go.ChangeAt Go.RowKit

theorem put_d (W : World) (own : Nat → Prop) (p : Nat) (s : FF) (N : Nat) (v : Value) (h : DAt W own p s N v) (hN : N ≤ 2000) (q : PV) (hq : q.Fits) : Calls Try.prog 27 #[.pointer (some ⟨p, 0, none⟩), pv q] W (DidF DocAt W own p (putS s q) (N + 1) (.int .i64 (putE s q))) := by
  have same : ∀ {E : Int} {e : Ending} {w' : World}, putE s q = E → E ≠ 0 → e = .returned (.int .i64 E) ∧ Below W.heap.size W w' → DidF DocAt W own p (putS s q) (N + 1) (.int .i64 (putE s q)) e w' := fun hE h0 ⟨he, hb⟩ => by
    rw [putS, hE, if_neg h0]
    exact ⟨he, ⟨own, ⟨v, (h.below hb).mono (by omega)⟩, fun i hi => .inl hi⟩, Foot.of_below hb⟩
  cases hz : okP q with
  | false => exact (put_arg W own p s N v h q hz).mono fun e w' hh => same (E := 2) (by rw [putE, if_pos hz]) (by decide) hh
  | true =>
    by_cases h1 : s.n ≤ s.l.length
    · exact (put_many W own p s N v h hN q hq hz h1).mono fun e w' hh => same (E := 100) (by rw [putE, if_neg (by rw [hz]; decide), if_pos h1]) (by decide) hh
    · by_cases h2 : s.b < bytes s.l + q.len
      · exact (put_bytes W own p s N v h hN q hq hz h1 h2).mono fun e w' hh => same (E := 101) (by rw [putE, if_neg (by rw [hz]; decide), if_neg h1, if_pos h2]) (by decide) hh
      · have hE : putE s q = 0 := by rw [putE, if_neg (by rw [hz]; decide), if_neg h1, if_neg h2]
        rw [putS, hE, if_pos rfl]
        exact put_yes W own p s N v h hN q hq hz h1 h2
/-- what a method that tells packets does -/
def TellsF (PAt : PT) (W : World) (own : Nat → Prop) (p : Nat) (s' : FF) (N : Nat) (l : List PV) (wrap : Value → Value) (e : Ending) (w' : World) : Prop :=
  ∃ v, e = .returned (wrap v) ∧ Que w' v l ∧ (∃ own', PAt w' own' p s' N ∧ (∀ i, own' i → own i ∨ W.heap.size ≤ i) ∧ ∀ i, qb v i → ¬ own' i ∧ (own i ∨ W.heap.size ≤ i)) ∧ Foot own W w'
theorem DAt.empty {W : World} {own : Nat → Prop} {p : Nat} {s : FF} {N : Nat} {v : Value} (h : DAt W own p s N v) : DAt (W.setCell ⟨p, 0, .none⟩ (.slice .none 0 0)) (fun i => own i ∧ ¬ qb v i) p (drainS s) N (.slice .none 0 0) ∧ Foot own W (W.setCell ⟨p, 0, .none⟩ (.slice .none 0 0)) ∧ Que (W.setCell ⟨p, 0, .none⟩ (.slice .none 0 0)) v s.l := by
  refine ⟨⟨?_, .inl ⟨rfl, rfl⟩, ⟨h.op, fun e => (h.oq p e).2 rfl⟩, (fun i hi => by obtain ⟨_, _, _, _, e⟩ := hi; cases e), fun i hi => ?_, Nat.zero_le _, h.ok, (fun q hq => by cases hq), (fun q hq => by cases hq)⟩, (Foot.refl own W).setCell (fun _ => h.op) _, h.row.on fun i hi => block_set _ _ _ _ _ (h.oq i hi).2⟩
  · have := h.box.set 0 (.slice .none 0 0)
    simpa [drainS] using this
  · have : (W.setCell ⟨p, 0, .none⟩ (.slice .none 0 0)).heap.size = W.heap.size := by simp [World.setCell]
    rw [this]
    exact h.lt i hi.1
set_option maxHeartbeats 2000000 in
theorem drain_d (W : World) (own : Nat → Prop) (p : Nat) (s : FF) (N : Nat) (v : Value) (h : DAt W own p s N v) : Calls Try.prog 32 #[.pointer (some ⟨p, 0, none⟩)] W (TellsF DocAt W own p (drainS s) N s.l (fun x => x)) := by
  have HD := Lib.hid h
  obtain ⟨A, c, hv, hlc, hcm⟩ := h.row.shape
  have c0 : W.cell? ⟨p, 0, none⟩ = some v := h.box.cell 0
  have f0 : W.frozen? ⟨p, 0, none⟩ = false := h.box.frozen 0
  obtain ⟨n, hn⟩ : ∃ n, s.l.length = n := ⟨_, rfl⟩
  rw [hn] at hv hlc
  rw [hv] at c0
  have HV := Lib.hid hv
  clear h hv hn
  go_enter Try.func32, Try.ntmps32
  go_wp2
  go_ret
  obtain ⟨h1, h2, h3⟩ := HD.out.empty
  refine ⟨v, by rw [HV.out]; rfl, h3, ⟨_, ⟨_, h1⟩, fun i hi => .inl hi.1, fun i hi => ⟨fun hh => hh.2 hi, .inl (HD.out.oq i hi).1⟩⟩, h2⟩
theorem results_ct {fn : Func} {p q : Tmp} {ty : TypeId} (h : fn.results = #[.cell p ty, .tmp q]) {tmps : Array Value} {P : Program} {w : World} {a : Addr} (hp : tmps.getD p undef = .pointer (some a)) {u : Value} (hu : (loadVar ty a).run P w = .ok u w) :
    (results fn tmps).run P w = .ok (.tuple #[u, tmps.getD q undef]) w := by
  simp only [results, h]
  have hp' := hp
  simp only [Array.getD_eq_getD_getElem?] at hp'
  simp [Sem.run_bind, Result.andThen, asAddr, hp', hu]
set_option maxHeartbeats 2000000 in
theorem first_d (W : World) (own : Nat → Prop) (p : Nat) (s : FF) (N : Nat) (v : Value) (h : DAt W own p s N v) (hN : N ≤ 5000) : Calls Try.prog 29 #[.pointer (some ⟨p, 0, none⟩)] W fun e w' => e = .returned (.tuple #[pv (firstV s), .int .i64 (firstE s)]) ∧ Below W.heap.size W w' := by
  have H := Mem.start W
  have HD := Lib.hid h
  have hp := h.box.lt
  obtain ⟨A, c, hv, hlc, hcm⟩ := h.row.shape
  have c0 : W.cell? ⟨p, 0, none⟩ = some v := h.box.cell 0
  obtain ⟨n, hn⟩ : ∃ n, s.l.length = n := ⟨_, rfl⟩
  rw [hn] at hv hlc
  rw [hv] at c0
  have HV := Lib.hid hv
  have HN := Lib.hid hn
  have hl5 : n ≤ 5000 := by have := h.len; omega
  clear h hv hn
  by_cases h0 : n = 0
  · have e1 : s.l = [] := List.eq_nil_of_length_eq_zero (by have := HN.out; omega)
    have e2 : firstV s = pv0 := by rw [firstV, e1]; rfl
    have e3 : firstE s = 31 := by rw [firstE, if_pos e1]
    rw [e2, e3]
    clear e1 e2 e3
    subst h0
    go_enter Try.func29, Try.ntmps29
    go_wp2_with (first
    | go_skip
    | ((with_reducible show wpList _ _ _ _ _ (World.alloc _ (.cells _ _))); refine mem_newb H ?_; intro bq w3 hbk H2; try rw [← hbk]; clear hbk H; have H := H2; clear H2; simp only [List.cons_append, List.nil_append, List.set_cons_zero, List.set_cons_succ, List.setIfInBounds_toArray] at H)
    | ((with_reducible show wpList _ _ _ (⟨_, .load _ _, _, _, _, _⟩ :: _) _ _); refine mem_loado H c0 hp (by first | exact wanted_none rfl | exact wanted_some rfl rfl rfl rfl) (by exact rfl) (by exact rfl) (by first | exact Try.underlying32 | exact Try.underlying3 | exact Try.underlying41) rfl ?_)
    | ((with_reducible show wpList _ _ _ (⟨_, .store 37 _ _, _, _, _, _⟩ :: _) _ _); refine mem_store (i := 0) H (by first | exact wanted_none rfl | exact wanted_some rfl rfl rfl rfl) (by exact rfl) (by exact rfl) (by exact rfl) (by exact rfl) (by exact pkInfo) (by exact rfl) (by exact rfl) ?_; intro w2 H2; clear H; have H := H2; clear H2; simp only [List.cons_append, List.nil_append, List.set_cons_zero, List.set_cons_succ, List.setIfInBounds_toArray] at H))
    refine bodyPost_ret (results_ct rfl rfl (run_loadVar_row _ _ _ _ _ (0, 0) _ (H.at 0 rfl) Try.underlying37 rfl pkInfo)) rfl ?_
    exact ⟨rfl, H.below⟩
  · obtain ⟨q, hq⟩ : ∃ q, s.l[0]? = some q := ⟨s.l[0]'(by have := HN.out; omega), List.getElem?_eq_getElem _⟩
    have hQ := HD.out.row
    rw [HV.out] at hQ
    obtain ⟨g, off, hA, hg, hc⟩ := hQ.at hq
    have e2 : firstV s = q := by
      rw [firstV]
      cases hs : s.l with
      | nil => rw [hs] at hq; cases hq
      | cons a t => rw [hs] at hq; simpa using hq
    have e3 : firstE s = 0 := by
      rw [firstE, if_neg]
      intro e
      rw [e] at hq
      cases hq
    rw [e2, e3]
    have r1 := range9 hc
    rw [Nat.zero_mul, Nat.add_zero] at r1
    subst hA
    have t0 : ((n : Int) == 0) = false := by simpa using (show (n : Int) ≠ 0 by omega)
    have t1 : (0 : Int) < n := by omega
    clear e2 e3 hc hq hQ
    go_enter Try.func29, Try.ntmps29
    go_wp2_with (first
    | go_skip
    | ((with_reducible show wpList _ _ _ _ _ (World.alloc _ (.cells _ _))); refine mem_newb H ?_; intro bq w3 hbk H2; try rw [← hbk]; clear hbk H; have H := H2; clear H2; simp only [List.cons_append, List.nil_append, List.set_cons_zero, List.set_cons_succ, List.setIfInBounds_toArray] at H)
    | ((with_reducible show wpList _ _ _ (⟨_, .load 41 _, _, _, _, _⟩ :: _) _ _); refine mem_loado H c0 hp (by first | exact wanted_none rfl | exact wanted_some rfl rfl rfl rfl) (by exact rfl) (by exact rfl) (by first | exact Try.underlying32 | exact Try.underlying3 | exact Try.underlying41) rfl ?_)
    | ((with_reducible show wpList _ _ _ (⟨_, .load 37 _, _, _, _, _⟩ :: _) _ _); refine wpList_load_mid rfl 37 (.tmp 15) rfl g off rfl (pvCs q) _ (fun k u hk => (H.old (p := ⟨g, off + k, none⟩) hg).trans (r1 k u hk)) Try.underlying37 rfl pkInfo ?_)
    | ((with_reducible show wpList _ _ _ (⟨_, .store 37 _ _, _, _, _, _⟩ :: _) _ _); refine mem_store (i := 0) H (by first | exact wanted_none rfl | exact wanted_some rfl rfl rfl rfl) (by exact rfl) (by exact rfl) (by exact rfl) (by exact rfl) (by exact pkInfo) (by exact rfl) (by exact rfl) ?_; intro w2 H2; clear H; have H := H2; clear H2; simp only [List.cons_append, List.nil_append, List.set_cons_zero, List.set_cons_succ, List.setIfInBounds_toArray] at H))
    refine bodyPost_ret (results_ct rfl rfl (run_loadVar_row _ _ _ _ _ (0, 0) _ (H.at 0 rfl) Try.underlying37 rfl pkInfo)) rfl ?_
    exact ⟨rfl, H.below⟩
end Go.Proofs.Ytlnlkodpndjimaa.Fi
end
/- What taking does to the document's fifo in memory. Conditions: the fifo lies where its pointer says, five thousand packets at most. -/
section
namespace Go.Proofs.Ytlnlkodpndjimaa.Fi
set_option linter.unusedSimpArgs false
set_option linter.unusedVariables false
set_option maxRecDepth 100000
open Go.ChangeShapes Go.WideShapes Go.ChangeAt Go.RowKit

set_option maxHeartbeats 2000000 in
theorem take_none (W : World) (own : Nat → Prop) (p : Nat) (s : FF) (N : Nat) (v : Value) (h : DAt W own p s N v) (hN : N ≤ 5000) (h0 : s.l = []) : Calls Try.prog 30 #[.pointer (some ⟨p, 0, none⟩)] W fun e w' => e = .returned (.tuple #[pv pv0, .int .i64 31]) ∧ Below W.heap.size W w' := by
  have H := Mem.start W
  have kf := fun w (hb : Below W.heap.size W w) => first_d w own p s N v (h.below hb) hN
  rw [show firstV s = pv0 by rw [firstV, h0]; rfl, show firstE s = 31 by rw [firstE, if_pos h0]] at kf
  clear h h0
  go_enter Try.func30, Try.ntmps30
  go_wp2_with (first
    | go_skip
    | ((with_reducible show wpList _ _ _ _ _ (World.alloc _ (.cells _ _))); refine mem_new H ?_; intro w2 H2; clear H; have H := H2; clear H2; simp only [List.cons_append, List.nil_append, List.set_cons_zero, List.set_cons_succ, List.setIfInBounds_toArray] at H)
    | (go_at_call 29; refine (kf _ H.below).mono ?_; rintro e w2 ⟨rfl, hb⟩; have H2 := H.call hb; clear H hb; have H := H2; clear H2)
    | ((with_reducible show wpList _ _ _ (⟨_, .store 37 _ _, _, _, _, _⟩ :: _) _ _); refine mem_store (i := 1) H (by first | exact wanted_none rfl | exact wanted_some rfl rfl rfl rfl) (by exact rfl) (by exact rfl) (by exact rfl) (by exact rfl) (by exact pkInfo) (by exact rfl) (by exact rfl) ?_; intro w2 H2; clear H; have H := H2; clear H2; simp only [List.cons_append, List.nil_append, List.set_cons_zero, List.set_cons_succ, List.setIfInBounds_toArray] at H)
    | ((with_reducible show wpList _ _ _ (⟨_, .load 37 _, _, _, _, _⟩ :: _) _ _); refine mem_load (i := 1) H (by first | exact wanted_none rfl | exact wanted_some rfl rfl rfl rfl) (by exact rfl) (by exact rfl) (by exact rfl) Try.underlying37 rfl (by exact pkInfo) ?_)
    | ((with_reducible show wpList _ _ _ (⟨_, .store 37 _ _, _, _, _, _⟩ :: _) _ _); refine mem_store (i := 0) H (by first | exact wanted_none rfl | exact wanted_some rfl rfl rfl rfl) (by exact rfl) (by exact rfl) (by exact rfl) (by exact rfl) (by exact pkInfo) (by exact rfl) (by exact rfl) ?_; intro w2 H2; clear H; have H := H2; clear H2; simp only [List.cons_append, List.nil_append, List.set_cons_zero, List.set_cons_succ, List.setIfInBounds_toArray] at H))
  refine bodyPost_ret (results_ct rfl rfl (run_loadVar_row _ _ _ _ _ (0, 0) _ (H.at 0 rfl) Try.underlying37 rfl pkInfo)) rfl ?_
  exact ⟨rfl, H.below⟩
theorem takeW {W W8 W9 : World} {own : Nat → Prop} {p b2 : Nat} {q : PV} {l : List PV} {n b : Int} {N : Nat} {v V : Value} (h : DAt W own p ⟨q :: l, n, b⟩ N v) (hb : Below W.heap.size W W8) (hq : Que W8 V l) (hV : ∀ i, qb V i → qb v i) (h2 : W.heap.size ≤ b2) (hF : Foot (· = b2) (W8.setCell ⟨p, 0, none⟩ V) W9) :
    (∃ own', DocAt W9 own' p ⟨l, n, b⟩ N ∧ ∀ i, own' i → own i ∨ W.heap.size ≤ i) ∧ Foot own W W9 := by
  have h8 := h.below hb
  have hU := h8.upd (M := N) (Foot.refl _ W8) hq (fun i hi => .inl (hV i hi)) (by have := h.len; simp at this; omega) (fun y hy => h.fits y (by simp [hy])) (fun y hy => h.sz y (by simp [hy]))
  obtain ⟨X, hX⟩ := hU
  have hlt : ∀ i, own i ∨ qb V i → i < W.heap.size := fun i hi => hi.elim (h.lt i) fun e => h.row.lt (hV i e)
  refine ⟨⟨_, ⟨V, X.on (fun i hi => ?_) hF.size⟩, fun i hi => .inl (hi.elim id fun e => (h.oq i (hV i e)).1)⟩, ?_⟩
  · refine hF.block i (X.lt i hi) fun e => ?_
    have := hlt i hi
    omega
  · have h1 := (Foot.of_below (B := own) hb).trans' hX
    refine h1.trans hF fun i hi e => ?_
    omega
set_option maxHeartbeats 2000000 in
theorem take_one (W : World) (own : Nat → Prop) (p : Nat) (q : PV) (l : List PV) (sn sb : Int) (N : Nat) (v : Value) (h : DAt W own p ⟨q :: l, sn, sb⟩ N v) (hN : N ≤ 5000) (g off n c : Nat) (hv : v = .slice (some ⟨g, off, none⟩) n c) (hn : l.length + 1 = n) (hnc : n ≤ c) (hc : c = 1) (hcm : c ≤ maxLen) : Calls Try.prog 30 #[.pointer (some ⟨p, 0, none⟩)] W (DidF DocAt W own p ⟨l, sn, sb⟩ N (.tuple #[pv q, .int .i64 0])) := by
  have H := Mem.start W
  have HD := Lib.hid h
  have hp := h.box.lt
  have kf := fun w (hb : Below W.heap.size W w) => first_d w own p _ N v (h.below hb) hN
  rw [show firstV ⟨q :: l, sn, sb⟩ = q from rfl, show firstE ⟨q :: l, sn, sb⟩ = 0 by simp [firstE]] at kf
  have HV := Lib.hid hv
  have HN := Lib.hid hn
  have hlen := h.len
  simp at hlen
  unfold maxLen at hcm
  clear h hv
  go_enter Try.func30, Try.ntmps30
  go_upto_region 1 with (first
    | ((with_reducible show wpList _ _ _ _ _ (World.alloc _ (.cells _ _))); refine mem_newb H ?_; intro b2 w3 hbk H2; try rw [← hbk]; clear hbk H; have H := H2; clear H2; simp only [List.cons_append, List.nil_append, List.set_cons_zero, List.set_cons_succ, List.setIfInBounds_toArray] at H))
  go_upto_region 2 with (first
    | go_skip
    | (go_at_call 29; refine (kf _ H.below).mono ?_; rintro e w2 ⟨rfl, hb⟩; have H2 := H.call hb; clear H hb; have H := H2; clear H2)
    | ((with_reducible show wpList _ _ _ _ _ (World.alloc _ (.cells _ _))); refine mem_newb H ?_; intro b4 w3 hbk H2; try rw [← hbk]; clear hbk H; have H := H2; clear H2; simp only [List.cons_append, List.nil_append, List.set_cons_zero, List.set_cons_succ, List.setIfInBounds_toArray] at H)
    | ((with_reducible show wpList _ _ _ (⟨_, .store 37 _ _, _, _, _, _⟩ :: _) _ _); refine mem_store (i := 1) H (by first | exact wanted_none rfl | exact wanted_some rfl rfl rfl rfl) (by exact rfl) (by exact rfl) (by exact rfl) (by exact rfl) (by exact pkInfo) (by exact rfl) (by exact rfl) ?_; intro w2 H2; clear H; have H := H2; clear H2; simp only [List.cons_append, List.nil_append, List.set_cons_zero, List.set_cons_succ, List.setIfInBounds_toArray] at H))
  clear kf
  go_upto_region 3 with (fail)
  have hb2 : W.heap.size ≤ b2 := (H.held _ List.mem_cons_self).1
  have D3 := HD.out.below H.below
  have Q3 := D3.row
  have B3 := D3.box
  rw [HV.out] at Q3 B3
  have c0w := B3.cell 0
  have f0w := B3.frozen 0
  have h2 := H.at 0 rfl
  have h4 := H.at 1 rfl
  have hb4 := (H.held _ (List.mem_cons_of_mem _ List.mem_cons_self)).1
  have Q4 : Que w2 (.slice (some ⟨g, off, none⟩) (n - 1) 0) l := (by rw [show n - 1 = 0 by omega]; exact Q3.tail.2 hc)
  have HB := Lib.hid H.below
  have hc1 : (1 : Int) ≤ n := by omega
  have h2' := h2.other (b' := p) (by omega) 0 (.slice (some ⟨g, off, none⟩) (n - 1) 0)
  have h4' := h4.other (b' := p) (by omega) 0 (.slice (some ⟨g, off, none⟩) (n - 1) 0)
  have HQ := Lib.hid Q4
  clear D3 Q3 B3 Q4 h2 h4 H hlen
  simp only [List.getElem?_toArray, List.getElem?_cons_zero] at c0w
  go_upto_region 4 with (fail)
  go_wp2_with (first
    | go_skip
    | ((with_reducible show wpList _ _ _ (⟨_, .load 37 _, _, _, _, _⟩ :: _) _ _); refine load_held h4' (by first | exact wanted_none rfl | exact wanted_some rfl rfl rfl rfl) (by exact rfl) (by exact rfl) Try.underlying37 rfl (by exact pkInfo) ?_)
    | ((with_reducible show wpList _ _ _ (⟨_, .store 37 _ _, _, _, _, _⟩ :: _) _ _); refine store_held h2' (by first | exact wanted_none rfl | exact wanted_some rfl rfl rfl rfl) (by exact rfl) (by exact rfl) (by exact rfl) (by exact pkInfo) (by exact rfl) (by exact rfl) ?_; intro w9 h9 F9))
  refine bodyPost_ret (results_ct rfl rfl (run_loadVar_row _ _ _ _ _ (0, 0) _ h9 Try.underlying37 rfl pkInfo)) rfl ?_
  obtain ⟨X1, X2⟩ := takeW HD.out HB.out HQ.out (fun i hi => by rw [HV.out]; obtain ⟨_, _, _, _, e⟩ := hi; cases e; exact ⟨_, _, _, _, rfl⟩) hb2 F9
  exact ⟨rfl, X1, X2⟩
set_option maxHeartbeats 2000000 in
theorem take_more (W : World) (own : Nat → Prop) (p : Nat) (q : PV) (l : List PV) (sn sb : Int) (N : Nat) (v : Value) (h : DAt W own p ⟨q :: l, sn, sb⟩ N v) (hN : N ≤ 5000) (g off n c : Nat) (hv : v = .slice (some ⟨g, off, none⟩) n c) (hn : l.length + 1 = n) (hnc : n ≤ c) (hc : 1 < c) (hcm : c ≤ maxLen) : Calls Try.prog 30 #[.pointer (some ⟨p, 0, none⟩)] W (DidF DocAt W own p ⟨l, sn, sb⟩ N (.tuple #[pv q, .int .i64 0])) := by
  have H := Mem.start W
  have HD := Lib.hid h
  have hp := h.box.lt
  have kf := fun w (hb : Below W.heap.size W w) => first_d w own p _ N v (h.below hb) hN
  rw [show firstV ⟨q :: l, sn, sb⟩ = q from rfl, show firstE ⟨q :: l, sn, sb⟩ = 0 by simp [firstE]] at kf
  have HV := Lib.hid hv
  have HN := Lib.hid hn
  have hlen := h.len
  simp at hlen
  unfold maxLen at hcm
  clear h hv
  go_enter Try.func30, Try.ntmps30
  go_upto_region 1 with (first
    | ((with_reducible show wpList _ _ _ _ _ (World.alloc _ (.cells _ _))); refine mem_newb H ?_; intro b2 w3 hbk H2; try rw [← hbk]; clear hbk H; have H := H2; clear H2; simp only [List.cons_append, List.nil_append, List.set_cons_zero, List.set_cons_succ, List.setIfInBounds_toArray] at H))
  go_upto_region 2 with (first
    | go_skip
    | (go_at_call 29; refine (kf _ H.below).mono ?_; rintro e w2 ⟨rfl, hb⟩; have H2 := H.call hb; clear H hb; have H := H2; clear H2)
    | ((with_reducible show wpList _ _ _ _ _ (World.alloc _ (.cells _ _))); refine mem_newb H ?_; intro b4 w3 hbk H2; try rw [← hbk]; clear hbk H; have H := H2; clear H2; simp only [List.cons_append, List.nil_append, List.set_cons_zero, List.set_cons_succ, List.setIfInBounds_toArray] at H)
    | ((with_reducible show wpList _ _ _ (⟨_, .store 37 _ _, _, _, _, _⟩ :: _) _ _); refine mem_store (i := 1) H (by first | exact wanted_none rfl | exact wanted_some rfl rfl rfl rfl) (by exact rfl) (by exact rfl) (by exact rfl) (by exact rfl) (by exact pkInfo) (by exact rfl) (by exact rfl) ?_; intro w2 H2; clear H; have H := H2; clear H2; simp only [List.cons_append, List.nil_append, List.set_cons_zero, List.set_cons_succ, List.setIfInBounds_toArray] at H))
  clear kf
  go_upto_region 3 with (fail)
  have hb2 : W.heap.size ≤ b2 := (H.held _ List.mem_cons_self).1
  have D3 := HD.out.below H.below
  have Q3 := D3.row
  have B3 := D3.box
  rw [HV.out] at Q3 B3
  have c0w := B3.cell 0
  have f0w := B3.frozen 0
  have h2 := H.at 0 rfl
  have h4 := H.at 1 rfl
  have hb4 := (H.held _ (List.mem_cons_of_mem _ List.mem_cons_self)).1
  have Q4 : Que w2 (.slice (some ⟨g, off + 9, none⟩) (n - 1) (c - 1)) l := Q3.tail.1
  have HB := Lib.hid H.below
  have hc1 : (1 : Int) ≤ n := by omega
  have h2' := h2.other (b' := p) (by omega) 0 (.slice (some ⟨g, off + 9, none⟩) (n - 1) (c - 1))
  have h4' := h4.other (b' := p) (by omega) 0 (.slice (some ⟨g, off + 9, none⟩) (n - 1) (c - 1))
  have HQ := Lib.hid Q4
  clear D3 Q3 B3 Q4 h2 h4 H hlen
  simp only [List.getElem?_toArray, List.getElem?_cons_zero] at c0w
  go_upto_region 4 with (fail)
  go_wp2_with (first
    | go_skip
    | ((with_reducible show wpList _ _ _ (⟨_, .load 37 _, _, _, _, _⟩ :: _) _ _); refine load_held h4' (by first | exact wanted_none rfl | exact wanted_some rfl rfl rfl rfl) (by exact rfl) (by exact rfl) Try.underlying37 rfl (by exact pkInfo) ?_)
    | ((with_reducible show wpList _ _ _ (⟨_, .store 37 _ _, _, _, _, _⟩ :: _) _ _); refine store_held h2' (by first | exact wanted_none rfl | exact wanted_some rfl rfl rfl rfl) (by exact rfl) (by exact rfl) (by exact rfl) (by exact pkInfo) (by exact rfl) (by exact rfl) ?_; intro w9 h9 F9))
  refine bodyPost_ret (results_ct rfl rfl (run_loadVar_row _ _ _ _ _ (0, 0) _ h9 Try.underlying37 rfl pkInfo)) rfl ?_
  obtain ⟨X1, X2⟩ := takeW HD.out HB.out HQ.out (fun i hi => by rw [HV.out]; obtain ⟨_, _, _, _, e⟩ := hi; cases e; exact ⟨_, _, _, _, rfl⟩) hb2 F9
  exact ⟨rfl, X1, X2⟩
end Go.Proofs.Ytlnlkodpndjimaa.Fi
end
/- What putting back does to the document's fifo in memory. Conditions: the fifo lies where its pointer says, two thousand packets at most. -/
section
namespace Go.Proofs.Ytlnlkodpndjimaa.Fi
set_option linter.unusedSimpArgs false
set_option linter.unusedVariables false
set_option maxRecDepth 100000
open Go.ChangeShapes Go.WideShapes Go.ChangeAt Go.RowKit

theorem run_append_que2 (w : World) (v v2 : Value) (l l2 : List PV) (hq : Que w v l) (hq2 : Que w v2 l2) (h5 : l.length + l2.length ≤ 100000) :
    ∃ v' w', (Builtin.append_ #[41, 41] 41 #[v, v2]).run Try.prog w = .ok v' w' ∧ Que w' v' (l ++ l2) ∧ Foot (qb v) w w' ∧ ∀ i, qb v' i → qb v i ∨ w.heap.size ≤ i := by
  rcases hq2 with ⟨rfl, rfl⟩ | ⟨g, off, cap, cs, rfl, h1, h2, h3, h4, h6⟩
  · obtain ⟨A, c, rfl, hlc, _⟩ := hq.shape
    obtain ⟨i0, hi, hz0, hz1, hz2⟩ := infoPk_parts
    refine ⟨_, _, run_append_nothing w 41 41 41 37 i0 Try.underlying41 hi A l.length c hlc _ (Src.ofNil w Try.underlying41 0), by rw [List.append_nil]; exact hq, Foot.refl _ _, fun i hi => .inl hi⟩
  · exact run_append_que w v l l2 ⟨g, off, none⟩ l2.length cap hq rfl (fun j u hj => by rw [Addr.add_mid, h1.cell]; exact h6 j u hj) h5
section
variable {F : Fence} {n : Nat} {o : Oper} {a : Act} {w : World} {Q : Exit → Act → World → Prop} {K : Act → World → Prop}
theorem wpIn_append_que2 (s x : Operand) (hop : o.op = Op.call { callee := Callee.builtin Builtin.append, args := #[s, x], argTypes := #[41, 41] }) (hty : o.type = 41) (v v2 : Value) (l l2 : List PV) (hs : opnd a s = some v) (hx : opnd a x = some v2) (hq : Que w v l) (hq2 : Que w v2 l2) (h5 : l.length + l2.length ≤ 100000)
    (hK : ∀ v' w', Que w' v' (l ++ l2) → Foot (qb v) w w' → (∀ i, qb v' i → qb v i ∨ w.heap.size ≤ i) → K (a.put o.dst v') w') : o.wpIn F n Try.prog a w K Q := by
  obtain ⟨v', w', hrun, r1, r2, r3⟩ := run_append_que2 w v v2 l l2 hq hq2 h5
  have hs' := opnd_eval hs
  have hx' := opnd_eval hx
  unfold Oper.wpIn
  refine ⟨?_, ?_⟩
  · simp [Oper.about, hop, resolve, Target.leads, Sem.run_pure]
  · rw [Oper.semAt_plain F _ _ (by rw [hop]; intro c hc'; cases hc')]
    simp [execOp, hop, hty, resolve, invoke, builtin, hs', hx', hrun, Result.andThen]
    exact hK v' w' r1 r2 r3
end
set_option maxHeartbeats 2000000 in
theorem back_arg (W : World) (own : Nat → Prop) (p : Nat) (s : FF) (N : Nat) (v : Value) (h : DAt W own p s N v) (q : PV) (hz : okP q = false) : Calls Try.prog 28 #[.pointer (some ⟨p, 0, none⟩), pv q] W fun e w' => e = .returned (.int .i64 2) ∧ Below W.heap.size W w' := by
  have H := Mem.start W
  have kz := fun w => sized_r q w
  rw [hz] at kz
  clear hz h
  go_enter Try.func28, Try.ntmps28
  go_wp2_with (first
    | go_skip
    | ((with_reducible show wpList _ _ _ _ _ (World.alloc _ (.cells _ _))); refine mem_new H ?_; intro w2 H2; clear H; have H := H2; clear H2; simp only [List.cons_append, List.nil_append, List.set_cons_zero, List.set_cons_succ, List.setIfInBounds_toArray] at H)
    | ((with_reducible show wpList _ _ _ (⟨_, .load 37 _, _, _, _, _⟩ :: _) _ _); refine mem_load (i := 0) H (by first | exact wanted_none rfl | exact wanted_some rfl rfl rfl rfl) (by exact rfl) (by exact rfl) (by exact rfl) Try.underlying37 rfl (by exact pkInfo) ?_)
    | (go_at_call 43; refine (kz _).mono ?_; rintro e w2 ⟨rfl, hb⟩; have H2 := H.call hb; clear H hb; have H := H2; clear H2))
  go_ret
  exact ⟨rfl, H.below⟩
/-- its row is another, of new blocks -/
theorem DAt.fresh {W W2 : World} {own : Nat → Prop} {p : Nat} {s : FF} {N M : Nat} {v v2 : Value} {l2 : List PV} (h : DAt W own p s N v) (hF : Below W.heap.size W W2) (hq : Que W2 v2 l2) (hb : ∀ i, qb v2 i → W.heap.size ≤ i) (hlen : l2.length ≤ M) (hf : ∀ q, q ∈ l2 → q.Fits) (hz : Sz l2) :
    DAt (W2.setCell ⟨p, 0, none⟩ v2) (fun i => own i ∨ qb v2 i) p ⟨l2, s.n, s.b⟩ M v2 ∧ Foot own W (W2.setCell ⟨p, 0, none⟩ v2) :=
  h.upd (Foot.of_below hF) hq (fun i hi => .inr (hb i hi)) hlen hf hz
set_option maxHeartbeats 2000000 in
theorem back_yes (W : World) (own : Nat → Prop) (p : Nat) (s : FF) (N : Nat) (v : Value) (h : DAt W own p s N v) (hN : N ≤ 2000) (q : PV) (hq : q.Fits) (hz : okP q = true) : Calls Try.prog 28 #[.pointer (some ⟨p, 0, none⟩), pv q] W (DidF DocAt W own p ⟨q :: s.l, s.n, s.b⟩ (N + 1) (.int .i64 0)) := by
  have H := Mem.start W
  have HD := Lib.hid h
  have hp := h.box.lt
  obtain ⟨A, c, hv, hlc, hcm⟩ := h.row.shape
  have c0 : W.cell? ⟨p, 0, none⟩ = some v := h.box.cell 0
  have c1 : W.cell? ⟨p, 1, none⟩ = some (.int .i64 s.n) := h.box.cell 1
  have c2 : W.cell? ⟨p, 2, none⟩ = some (.int .i64 s.b) := h.box.cell 2
  obtain ⟨n, hn⟩ : ∃ n, s.l.length = n := ⟨_, rfl⟩
  rw [hn] at hv hlc
  rw [hv] at c0
  have HV := Lib.hid hv
  have HN := Lib.hid hn
  have hqb := hq.len
  have hl5 : n ≤ 2000 := by have := h.len; omega
  have kz := fun w => sized_r q w
  have HZ := Lib.hid hz
  have HQ := Lib.hid hq
  rw [hz] at kz
  clear hz h hv hn hq
  go_enter Try.func28, Try.ntmps28
  go_upto_region 4 with (first
    | go_skip
    | ((with_reducible show wpList _ _ _ _ _ (World.alloc _ (.cells _ _))); refine mem_newb H ?_; intro bq w3 hbk H2; try rw [← hbk]; clear hbk H; have H := H2; clear H2; simp only [List.cons_append, List.nil_append, List.set_cons_zero, List.set_cons_succ, List.setIfInBounds_toArray] at H)
    | ((with_reducible show wpList _ _ _ (⟨_, .load 37 _, _, _, _, _⟩ :: _) _ _); refine mem_load (i := 0) H (by first | exact wanted_none rfl | exact wanted_some rfl rfl rfl rfl) (by exact rfl) (by exact rfl) (by exact rfl) Try.underlying37 rfl (by exact pkInfo) ?_)
    | (go_at_call 43; refine (kz _).mono ?_; rintro e w2 ⟨rfl, hb⟩; have H2 := H.call hb; clear H hb; have H := H2; clear H2))
  clear kz
  refine region_memk H 7 11 rfl (by kernel_rfl) (fun wr0 hcl hS => ?_)
  clear H
  refine wpAnyG_pure (i := 0) (v := .pointer (some ⟨p, 0, none⟩)) rfl rfl (by kernel_rfl) (by kernel_rfl) (by kernel_rfl) (fun _ _ _ h => h) (by decide) ⟨by rfl, fun w _ => (by go_simp; try (first | (simp only [IntKind.wrap_u32]; done) | rfl)), fun _ => rfl⟩ (.inr hS) ?_
  have hc1 := hcl.step (i := 0) (by kernel_rfl)
  clear hcl; have hcl := hc1; clear hc1; simp only [List.getElem_toArray, List.getElem_cons_zero, List.getElem_cons_succ, Act.put, List.setIfInBounds_toArray, List.set_cons_zero, List.set_cons_succ]
  refine wpAnyG_take (i := 1) 6 (v := pv q) rfl rfl (by kernel_rfl) (by kernel_rfl) (by kernel_rfl) (fun _ _ _ h => h) (by kernel_rfl) (by decide) hcl (yields_held (fun w h => h.at 0 rfl) (by exact rfl) (by exact rfl) (by exact rfl) Try.underlying37 rfl pkInfo) hS (fun hc1 => ?_)
  clear hcl; have hcl := hc1; clear hc1; simp only [List.getElem_toArray, List.getElem_cons_zero, List.getElem_cons_succ, Act.put, List.setIfInBounds_toArray, List.set_cons_zero, List.set_cons_succ]
  refine wpAnyG_pure (i := 3) (v := .pointer (some ⟨p, 0, none⟩)) rfl rfl (by kernel_rfl) (by kernel_rfl) (by kernel_rfl) (fun _ _ _ h => h) (by decide) ⟨by rfl, fun w _ => (by go_simp; try (first | (simp only [IntKind.wrap_u32]; done) | rfl)), fun _ => rfl⟩ (.inr hS) ?_
  have hc1 := hcl.step (i := 3) (by kernel_rfl)
  clear hcl; have hcl := hc1; clear hc1; simp only [List.getElem_toArray, List.getElem_cons_zero, List.getElem_cons_succ, Act.put, List.setIfInBounds_toArray, List.set_cons_zero, List.set_cons_succ]
  refine wpAnyG_pure (i := 4) (v := .pointer (some ⟨p, 0, none⟩)) rfl rfl (by kernel_rfl) (by kernel_rfl) (by kernel_rfl) (fun _ _ _ h => h) (by decide) ⟨by rfl, fun w _ => (by go_simp; try (first | (simp only [IntKind.wrap_u32]; done) | rfl)), fun _ => rfl⟩ (.inr hS) ?_
  have hc1 := hcl.step (i := 4) (by kernel_rfl)
  clear hcl; have hcl := hc1; clear hc1; simp only [List.getElem_toArray, List.getElem_cons_zero, List.getElem_cons_succ, Act.put, List.setIfInBounds_toArray, List.set_cons_zero, List.set_cons_succ]
  refine wpAnyG_pure (i := 5) (v := .pointer (some ⟨p, 0, none⟩)) rfl rfl (by kernel_rfl) (by kernel_rfl) (by kernel_rfl) (fun _ _ _ h => h) (by decide) ⟨by rfl, fun w _ => (by go_simp; try (first | (simp only [IntKind.wrap_u32]; done) | rfl)), fun _ => rfl⟩ (.inr hS) ?_
  have hc1 := hcl.step (i := 5) (by kernel_rfl)
  clear hcl; have hcl := hc1; clear hc1; simp only [List.getElem_toArray, List.getElem_cons_zero, List.getElem_cons_succ, Act.put, List.setIfInBounds_toArray, List.set_cons_zero, List.set_cons_succ]
  refine wpAnyG_take (i := 6) 1 (v := .slice A n c) rfl rfl (by kernel_rfl) (by kernel_rfl) (by kernel_rfl) (fun _ _ _ h => h) (by kernel_rfl) (by decide) hcl (yields_old c0 hp (by exact rfl) (by exact rfl) (by exact rfl) (by first | exact Try.underlying32 | exact Try.underlying3 | exact Try.underlying41) rfl) hS (fun hc1 => ?_)
  clear hcl; have hcl := hc1; clear hc1; simp only [List.getElem_toArray, List.getElem_cons_zero, List.getElem_cons_succ, Act.put, List.setIfInBounds_toArray, List.set_cons_zero, List.set_cons_succ]
  have hsz8 := hS.below.size
  refine wpAnyG_one (i := 2) (by kernel_rfl) rfl (fun K hK => ?_)
  go_simp
  refine hK _ _ (.inr (hS.skip _)) ?_
  clear hK K
  have hc1 := hcl.step (i := 2) (by kernel_rfl)
  clear hcl; have hcl := hc1; clear hc1
  refine wpAnyG_one (i := 7) (by kernel_rfl) rfl (fun K hK => ?_)
  have D8 := HD.out.below (hS.skip (.cells #[.int .u32 q.id, .int .u32 q.len, .int .i64 q.prio, .int .i64 q.cpu, .int .u32 q.a, .int .u32 q.b, .int .u16 q.sp, .int .u16 q.dp, .int .u8 q.q] 37)).below
  have Q1 : Que (wr0.alloc (.cells #[.int .u32 q.id, .int .u32 q.len, .int .i64 q.prio, .int .i64 q.cpu, .int .u32 q.a, .int .u32 q.b, .int .u16 q.sp, .int .u16 q.dp, .int .u8 q.q] 37)) (.slice (some ⟨wr0.heap.size, 0, none⟩) 1 1) [q] := .inr ⟨wr0.heap.size, 0, 1, #[.int .u32 q.id, .int .u32 q.len, .int .i64 q.prio, .int .i64 q.cpu, .int .u32 q.a, .int .u32 q.b, .int .u16 q.sp, .int .u16 q.dp, .int .u8 q.q], rfl, Held.new wr0 _ _, Nat.le_refl _, by simp [maxLen], by simp, fun j u hj => by rw [pvs_one] at hj; simpa using hj⟩
  refine wpIn_append_que2 (.tmp 12) (.tmp 16) rfl rfl _ (.slice A n c) [q] s.l (by exact rfl) (by exact rfl) Q1 (by rw [← HV.out]; exact D8.row) (by rw [HN.out]; simp; omega) ?_
  intro v' w7 hq7 hF7 hb7
  refine hK _ _ (.inl (by kernel_rfl)) ?_
  clear hK K
  have hB0 := hS.below
  have hB8 : Below wr0.heap.size wr0 w7 := by
    have hz0 : wr0.heap.size ≤ (wr0.alloc (.cells #[.int .u32 q.id, .int .u32 q.len, .int .i64 q.prio, .int .i64 q.cpu, .int .u32 q.a, .int .u32 q.b, .int .u16 q.sp, .int .u16 q.dp, .int .u8 q.q] 37)).heap.size := by simp
    refine ((Below.refl wr0.heap.size wr0).alloc (Nat.le_refl _) (.cells #[.int .u32 q.id, .int .u32 q.len, .int .i64 q.prio, .int .i64 q.cpu, .int .u32 q.a, .int .u32 q.b, .int .u16 q.sp, .int .u16 q.dp, .int .u8 q.q] 37)).trans (hF7.below hz0 fun i hi => ?_)
    obtain ⟨_, _, _, _, e⟩ := hi
    cases e
    exact Nat.le_refl _
  have hb8 : ∀ i, qb v' i → wr0.heap.size ≤ i := fun i hi => (hb7 i hi).elim (fun h2 => by obtain ⟨_, _, _, _, e⟩ := h2; cases e; exact Nat.le_refl _) (fun h2 => by simp at h2; omega)
  have hB7 : Below W.heap.size W w7 := hB0.trans (hB8.mono hB0.size)
  have hbW : ∀ i, qb v' i → W.heap.size ≤ i := fun i hi => Nat.le_trans hB0.size (hb8 i hi)
  have b7 : Held w7 p 44 #[.slice A n c, .int .i64 s.n, .int .i64 s.b] := by
    have := HD.out.box.below hB7 hp
    rw [HV.out] at this
    exact this
  have hX := HD.out.fresh (M := N + 1) hB7 hq7 hbW (by have := HD.out.len; simp; omega) (fun y hy => by
    rcases List.mem_append.1 hy with hy | hy
    · rw [List.mem_singleton.1 hy]; exact HQ.out
    · exact HD.out.fits y hy) (fun y hy => by
    rcases List.mem_append.1 hy with hy | hy
    · rw [List.mem_singleton.1 hy]
      have := HZ.out
      simpa [okP] using this
    · exact HD.out.sz y hy)
  obtain ⟨X, hX⟩ := hX
  obtain ⟨A', c', hve, _, _⟩ := hq7.shape
  have hone : v'.oneCell' = true := by rw [hve]; rfl
  have HX := Lib.hid X
  have HFX := Lib.hid hX
  have HOW := Lib.hid hbW
  clear X hX hve hb7 hF7 hq7 D8 hB7 hS Q1 hB0 hB8 hb8 hbW
  refine wpAnyG_one (i := 8) (by kernel_rfl) rfl (fun K hK => ?_)
  go_simp
  refine hK _ _ (.inl (by kernel_rfl)) ?_
  clear hK K
  refine wpAnyG_one (i := 9) (by kernel_rfl) rfl (fun K hK => ?_)
  go_simp
  refine hK _ _ (.inl (by kernel_rfl)) ?_
  clear hK K
  refine wpAnyG_one (i := 10) (by kernel_rfl) rfl (fun K hK => ?_)
  refine wpIn_store_old (b := p) (j := 0) (v := v') (v0 := .slice A n c) (b7.cell 0) (b7.frozen 0) rfl (by exact rfl) (by exact rfl) (by exact pslInfo) hone ?_
  refine hK _ _ (.inl (by kernel_rfl)) ?_
  clear hK K
  refine wpAnyG_done (by kernel_rfl) ?_ _
  clear b7
  go_wp2
  go_ret
  exact ⟨rfl, ⟨_, ⟨_, HX.out⟩, fun i hi => hi.elim (fun h1 => .inl h1) (fun h1 => .inr (HOW.out i h1))⟩, HFX.out⟩
theorem back_d (W : World) (own : Nat → Prop) (p : Nat) (s : FF) (N : Nat) (v : Value) (h : DAt W own p s N v) (hN : N ≤ 2000) (q : PV) (hq : q.Fits) : Calls Try.prog 28 #[.pointer (some ⟨p, 0, none⟩), pv q] W (DidF DocAt W own p (backS s q) (N + 1) (.int .i64 (backE q))) := by
  cases hz : okP q with
  | false =>
    refine (back_arg W own p s N v h q hz).mono ?_
    rintro e w' ⟨rfl, hb⟩
    have hE : backE q = 2 := by rw [backE, if_pos hz]
    rw [backS, hE, if_neg (by decide)]
    exact ⟨rfl, ⟨own, ⟨v, (h.below hb).mono (by omega)⟩, fun i hi => .inl hi⟩, Foot.of_below hb⟩
  | true =>
    have hE : backE q = 0 := by rw [backE, if_neg (by rw [hz]; decide)]
    rw [backS, hE, if_pos rfl]
    exact back_yes W own p s N v h hN q hq hz
end Go.Proofs.Ytlnlkodpndjimaa.Fi
end
