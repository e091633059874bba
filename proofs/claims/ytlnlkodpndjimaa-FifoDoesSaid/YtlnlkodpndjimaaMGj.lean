/-
  The program's Bytes and Take of fifos. Conditions: the fifo lies where its pointer says, two thousand packets at most. The program's Drain of fifos. Conditions: the fifo lies where its pointer says, two thousand packets at most.
-/
import Derived.Test.YtlnlkodpndjimaaMGi
/- The program's Bytes and Take of fifos. Conditions: the fifo lies where its pointer says, two thousand packets at most. -/
section
namespace Go.Proofs.Ytlnlkodpndjimaa.Fi
set_option linter.unusedSimpArgs false
set_option linter.unusedVariables false
set_option maxRecDepth 100000
open Go.ChangeShapes Go.WideShapes Go.ChangeAt Go.RowKit

/-- both rows are others, that lie in blocks of the fifo's own -/
theorem mkBU {w : World} {own : Nat → Prop} {p : Nat} {n b hd : Int} {u1 u2 v1 v2 : Value} {L1 L2 : List PV} (box : Held w p 62 #[.int .i64 n, .int .i64 b, u1, u2, .int .i64 hd]) (op : own p) (lt : ∀ i, own i → i < w.heap.size) (q1 : Que w v1 L1) (q2 : Que w v2 L2) (o1 : ∀ i, qb v1 i → own i ∧ i ≠ p) (o2 : ∀ i, qb v2 i → own i ∧ i ≠ p) (sep : ∀ i, qb v1 i → ¬ qb v2 i) :
    QL ((w.setCell ⟨p, 2, none⟩ v1).setCell ⟨p, 3, none⟩ v2) own p n b ⟨v1, v2, L1, L2⟩ hd ∧ Foot own w ((w.setCell ⟨p, 2, none⟩ v1).setCell ⟨p, 3, none⟩ v2) := by
  refine ⟨⟨?_, q1.on fun i hi => (block_set _ _ _ _ _ (o1 i hi).2).trans (block_set _ _ _ _ _ (o1 i hi).2), q2.on fun i hi => (block_set _ _ _ _ _ (o2 i hi).2).trans (block_set _ _ _ _ _ (o2 i hi).2), op, o1, o2, sep, fun i hi => ?_⟩, ((Foot.refl own w).setCell (fun _ => op) _).setCell (fun _ => op) _⟩
  · have := (box.set 2 v1).set 3 v2
    simpa using this
  · rw [size_setCell, size_setCell]
    exact lt i hi
theorem mkUB {w : World} {own : Nat → Prop} {p : Nat} {n b hd : Int} {u1 u2 v1 v2 : Value} {L1 L2 : List PV} (box : Held w p 62 #[.int .i64 n, .int .i64 b, u1, u2, .int .i64 hd]) (op : own p) (lt : ∀ i, own i → i < w.heap.size) (q1 : Que w v1 L1) (q2 : Que w v2 L2) (o1 : ∀ i, qb v1 i → own i ∧ i ≠ p) (o2 : ∀ i, qb v2 i → own i ∧ i ≠ p) (sep : ∀ i, qb v1 i → ¬ qb v2 i) :
    QL ((w.setCell ⟨p, 3, none⟩ v2).setCell ⟨p, 2, none⟩ v1) own p n b ⟨v1, v2, L1, L2⟩ hd ∧ Foot own w ((w.setCell ⟨p, 3, none⟩ v2).setCell ⟨p, 2, none⟩ v1) := by
  refine ⟨⟨?_, q1.on fun i hi => (block_set _ _ _ _ _ (o1 i hi).2).trans (block_set _ _ _ _ _ (o1 i hi).2), q2.on fun i hi => (block_set _ _ _ _ _ (o2 i hi).2).trans (block_set _ _ _ _ _ (o2 i hi).2), op, o1, o2, sep, fun i hi => ?_⟩, ((Foot.refl own w).setCell (fun _ => op) _).setCell (fun _ => op) _⟩
  · have := (box.set 3 v2).set 2 v1
    simpa using this
  · rw [size_setCell, size_setCell]
    exact lt i hi
theorem bytesP_nil (W : World) : Calls Try.prog 16 #[.pointer none] W fun e w' => e = .returned (.int .i64 0) ∧ Below W.heap.size W w' := by
  have H := Mem.start W
  go_enter Try.func16, Try.ntmps16
  go_wp2_with (first
    | go_skip
    | go_skip
    | (go_at_call 33; refine (miss_yes _).mono ?_; rintro e w2 ⟨rfl, hb⟩; have H2 := H.call hb; clear H hb; have H := H2; clear H2))
  go_ret
  exact ⟨rfl, H.below⟩
theorem bytesP_d (W : World) (own : Nat → Prop) (p : Nat) (s : FF) (N : Nat) (h : PAt10 W own p s N) (hN : N ≤ 2000) : Calls Try.prog 16 #[.pointer (some ⟨p, 0, none⟩)] W fun e w' => e = .returned (.int .i64 (Fi.bytes s.l)) ∧ Below W.heap.size W w' := by
  have H := Mem.start W
  obtain ⟨x, h⟩ := h
  have hp := h.box.lt
  have hnn := h.nn
  have ch : W.cell? ⟨p, 4, none⟩ = some (.int .i64 (Fi.bytes s.l)) := h.box.cell 4
  have km := fun w (hb : Below W.heap.size W w) => miss_no p s.n hnn.1 w ((h.below hb).box.cell 0)
  obtain ⟨S, hS1⟩ : ∃ S, Fi.bytes s.l = S := ⟨_, rfl⟩
  rw [hS1] at ch ⊢
  clear h hS1
  go_enter Try.func16, Try.ntmps16
  go_wp2_with (first
    | go_skip
    | go_skip
    | (go_at_call 33; refine (km _ H.below).mono ?_; rintro e w2 ⟨rfl, hb⟩; have H2 := H.call hb; clear H hb; have H := H2; clear H2)
    | ((with_reducible show wpList _ _ _ (⟨_, .load _ _, _, _, _, _⟩ :: _) _ _); refine mem_loado H ch hp (by first | exact wanted_none rfl | exact wanted_some rfl rfl rfl rfl) (by exact rfl) (by exact rfl) (by first | exact Try.underlying32 | exact Try.underlying3 | exact Try.underlying41) rfl ?_))
  go_ret
  exact ⟨rfl, H.below⟩
theorem takeP_nil (W : World) : Calls Try.prog 19 #[.pointer none] W fun e w' => (∃ v, e = .returned (.tuple #[v, .int .i64 1])) ∧ Below W.heap.size W w' := by
  have H := Mem.start W
  have kf := firstP_nil
  go_enter Try.func19, Try.ntmps19
  go_wp2_with (first
    | go_skip
    | go_skip
    | ((with_reducible show wpList _ _ _ _ _ (World.alloc _ (.cells _ _))); refine mem_new H ?_; intro w2 H2; clear H; have H := H2; clear H2; simp only [List.cons_append, List.nil_append, List.set_cons_zero, List.set_cons_succ, List.setIfInBounds_toArray] at H)
    | (go_at_call 18; refine (kf _).mono ?_; rintro e w2 ⟨rfl, hb⟩; have H2 := H.call hb; clear H hb; have H := H2; clear H2)
    | ((with_reducible show wpList _ _ _ (⟨_, .store 37 _ _, _, _, _, _⟩ :: _) _ _); refine mem_store (i := 1) H (by first | exact wanted_none rfl | exact wanted_some rfl rfl rfl rfl) (by exact rfl) (by exact rfl) (by exact rfl) (by exact rfl) (by exact pkInfo) (by exact rfl) (by exact rfl) ?_; intro w2 H2; clear H; have H := H2; clear H2; simp only [List.cons_append, List.nil_append, List.set_cons_zero, List.set_cons_succ, List.setIfInBounds_toArray] at H)
    | ((with_reducible show wpList _ _ _ (⟨_, .store 37 _ _, _, _, _, _⟩ :: _) _ _); refine mem_store (i := 0) H (by first | exact wanted_none rfl | exact wanted_some rfl rfl rfl rfl) (by exact rfl) (by exact rfl) (by exact rfl) (by exact rfl) (by exact pkInfo) (by exact rfl) (by exact rfl) ?_; intro w2 H2; clear H; have H := H2; clear H2; simp only [List.cons_append, List.nil_append, List.set_cons_zero, List.set_cons_succ, List.setIfInBounds_toArray] at H))
  refine bodyPost_ret (results_ct rfl rfl (run_loadVar_row _ _ _ _ _ (0, 0) _ (H.at 0 rfl) Try.underlying37 rfl pkInfo)) rfl ?_
  exact ⟨⟨_, rfl⟩, H.below⟩
theorem takeP_none (W : World) (own : Nat → Prop) (p : Nat) (s : FF) (N : Nat) (x : QParts) (h : QAt W own p s N x) (hN : N ≤ 2000) (h0 : s.l = []) : Calls Try.prog 19 #[.pointer (some ⟨p, 0, none⟩)] W fun e w' => e = .returned (.tuple #[pv pv0, .int .i64 31]) ∧ Below W.heap.size W w' := by
  have H := Mem.start W
  have kf := fun w (hb : Below W.heap.size W w) => firstP_d w own p s N ⟨x, h.below hb⟩ hN
  rw [show firstV s = pv0 by rw [firstV, h0]; rfl, show firstE s = 31 by rw [firstE, if_pos h0]] at kf
  clear h h0
  go_enter Try.func19, Try.ntmps19
  go_wp2_with (first
    | go_skip
    | go_skip
    | ((with_reducible show wpList _ _ _ _ _ (World.alloc _ (.cells _ _))); refine mem_new H ?_; intro w2 H2; clear H; have H := H2; clear H2; simp only [List.cons_append, List.nil_append, List.set_cons_zero, List.set_cons_succ, List.setIfInBounds_toArray] at H)
    | (go_at_call 18; refine (kf _ H.below).mono ?_; rintro e w2 ⟨rfl, hb⟩; have H2 := H.call hb; clear H hb; have H := H2; clear H2)
    | ((with_reducible show wpList _ _ _ (⟨_, .store 37 _ _, _, _, _, _⟩ :: _) _ _); refine mem_store (i := 1) H (by first | exact wanted_none rfl | exact wanted_some rfl rfl rfl rfl) (by exact rfl) (by exact rfl) (by exact rfl) (by exact rfl) (by exact pkInfo) (by exact rfl) (by exact rfl) ?_; intro w2 H2; clear H; have H := H2; clear H2; simp only [List.cons_append, List.nil_append, List.set_cons_zero, List.set_cons_succ, List.setIfInBounds_toArray] at H)
    | ((with_reducible show wpList _ _ _ (⟨_, .store 37 _ _, _, _, _, _⟩ :: _) _ _); refine mem_store (i := 0) H (by first | exact wanted_none rfl | exact wanted_some rfl rfl rfl rfl) (by exact rfl) (by exact rfl) (by exact rfl) (by exact rfl) (by exact pkInfo) (by exact rfl) (by exact rfl) ?_; intro w2 H2; clear H; have H := H2; clear H2; simp only [List.cons_append, List.nil_append, List.set_cons_zero, List.set_cons_succ, List.setIfInBounds_toArray] at H))
  refine bodyPost_ret (results_ct rfl rfl (run_loadVar_row _ _ _ _ _ (0, 0) _ (H.at 0 rfl) Try.underlying37 rfl pkInfo)) rfl ?_
  exact ⟨rfl, H.below⟩
set_option maxHeartbeats 4000000 in
theorem takeP_core (W : World) (own : Nat → Prop) (p : Nat) (q : PV) (l : List PV) (sn sb : Int) (N : Nat) (x : QParts) (h : QAt W own p ⟨q :: l, sn, sb⟩ N x) (hN : N ≤ 2000) (v1 v2 : Value) (L1 L2 : List PV) (ho1 : v1.oneCell' = true) (ho2 : v2.oneCell' = true)
    (kw : ∀ w, Calls Try.prog 35 #[.int .i64 1, x.vb, x.vu] w fun e w' => e = .returned (.tuple #[v1, v2]) ∧ Below w.heap.size w w') (hr1 : Que W v1 L1) (hr2 : Que W v2 L2) (hs1 : ∀ i, qb v1 i → qb x.vb i) (hs2 : ∀ i, qb v2 i → qb x.vu i) (heq : l = L1.reverse ++ L2) :
    Calls Try.prog 19 #[.pointer (some ⟨p, 0, none⟩)] W (DidF PAt10 W own p ⟨l, sn, sb⟩ N (.tuple #[pv q, .int .i64 0])) := by
  have H := Mem.start W
  have HD := Lib.hid h
  have hp := h.box.lt
  have kf := fun w (hb : Below W.heap.size W w) => firstP_d w own p _ N ⟨x, h.below hb⟩ hN
  rw [show firstV ⟨q :: l, sn, sb⟩ = q from rfl, show firstE ⟨q :: l, sn, sb⟩ = 0 by simp [firstE]] at kf
  have cb : W.cell? ⟨p, 2, none⟩ = some x.vb := h.box.cell 2
  have cu : W.cell? ⟨p, 3, none⟩ = some x.vu := h.box.cell 3
  have hqb := (h.fits q (by simp)).len
  have kb := fun w g hh => bytesOf_one q (h.fits q (by simp)) w g hh
  have hbd := sum_bd h.sz h.len (by omega)
  obtain ⟨S, hS1⟩ : ∃ S, Fi.bytes (q :: l) = S := ⟨_, rfl⟩
  have HS := Lib.hid hS1
  simp only [hS1] at hbd
  have w1 : IntKind.i64.wrap (S - q.len) = S - q.len := wrap_id (by omega) (by omega)
  have HR := Lib.hid (And.intro hr1 (And.intro hr2 (And.intro hs1 (And.intro hs2 heq))))
  clear h hS1 hr1 hr2 hs1 hs2 heq
  go_enter Try.func19, Try.ntmps19
  go_upto_region 1 with (first
    | ((with_reducible show wpList _ _ _ _ _ (World.alloc _ (.cells _ _))); refine mem_newb H ?_; intro bp w3 hbk H2; try rw [← hbk]; clear hbk H; have H := H2; clear H2; simp only [List.cons_append, List.nil_append, List.set_cons_zero, List.set_cons_succ, List.setIfInBounds_toArray] at H))
  go_upto_region 2 with (first
    | go_skip
    | (go_at_call 18; refine (kf _ H.below).mono ?_; rintro e w2 ⟨rfl, hb⟩; have H2 := H.call hb; clear H hb; have H := H2; clear H2)
    | ((with_reducible show wpList _ _ _ _ _ (World.alloc _ (.cells _ _))); refine mem_newb H ?_; intro b4 w3 hbk H2; try rw [← hbk]; clear hbk H; have H := H2; clear H2; simp only [List.cons_append, List.nil_append, List.set_cons_zero, List.set_cons_succ, List.setIfInBounds_toArray] at H)
    | ((with_reducible show wpList _ _ _ (⟨_, .store 37 _ _, _, _, _, _⟩ :: _) _ _); refine mem_store (i := 1) H (by first | exact wanted_none rfl | exact wanted_some rfl rfl rfl rfl) (by exact rfl) (by exact rfl) (by exact rfl) (by exact rfl) (by exact pkInfo) (by exact rfl) (by exact rfl) ?_; intro w2 H2; clear H; have H := H2; clear H2; simp only [List.cons_append, List.nil_append, List.set_cons_zero, List.set_cons_succ, List.setIfInBounds_toArray] at H))
  clear kf
  go_upto_region 4 with (fail)
  refine region_memk H 16 20 rfl (by kernel_rfl) (fun wr0 hcl hS => ?_)
  clear H
  refine wpAnyG_pure (i := 0) (v := .pointer (some ⟨p, 0, none⟩)) rfl rfl (by kernel_rfl) (by kernel_rfl) (by kernel_rfl) (fun _ _ _ h => h) (by decide) ⟨by rfl, fun w _ => (by go_simp; try (first | (simp only [IntKind.wrap_u32]; done) | rfl)), fun _ => rfl⟩ (.inr hS) ?_
  have hc1 := hcl.step (i := 0) (by kernel_rfl)
  clear hcl; have hcl := hc1; clear hc1; simp only [List.getElem_toArray, List.getElem_cons_zero, List.getElem_cons_succ, Act.put, List.setIfInBounds_toArray, List.set_cons_zero, List.set_cons_succ]
  refine wpAnyG_pure (i := 1) (v := .pointer (some ⟨p, 0, none⟩)) rfl rfl (by kernel_rfl) (by kernel_rfl) (by kernel_rfl) (fun _ _ _ h => h) (by decide) ⟨by rfl, fun w _ => (by go_simp; try (first | (simp only [IntKind.wrap_u32]; done) | rfl)), fun _ => rfl⟩ (.inr hS) ?_
  have hc1 := hcl.step (i := 1) (by kernel_rfl)
  clear hcl; have hcl := hc1; clear hc1; simp only [List.getElem_toArray, List.getElem_cons_zero, List.getElem_cons_succ, Act.put, List.setIfInBounds_toArray, List.set_cons_zero, List.set_cons_succ]
  refine wpAnyG_pure (i := 2) (v := .pointer (some ⟨p, 0, none⟩)) rfl rfl (by kernel_rfl) (by kernel_rfl) (by kernel_rfl) (fun _ _ _ h => h) (by decide) ⟨by rfl, fun w _ => (by go_simp; try (first | (simp only [IntKind.wrap_u32]; done) | rfl)), fun _ => rfl⟩ (.inr hS) ?_
  have hc1 := hcl.step (i := 2) (by kernel_rfl)
  clear hcl; have hcl := hc1; clear hc1; simp only [List.getElem_toArray, List.getElem_cons_zero, List.getElem_cons_succ, Act.put, List.setIfInBounds_toArray, List.set_cons_zero, List.set_cons_succ]
  refine wpAnyG_pure (i := 3) (v := .pointer (some ⟨p, 0, none⟩)) rfl rfl (by kernel_rfl) (by kernel_rfl) (by kernel_rfl) (fun _ _ _ h => h) (by decide) ⟨by rfl, fun w _ => (by go_simp; try (first | (simp only [IntKind.wrap_u32]; done) | rfl)), fun _ => rfl⟩ (.inr hS) ?_
  have hc1 := hcl.step (i := 3) (by kernel_rfl)
  clear hcl; have hcl := hc1; clear hc1; simp only [List.getElem_toArray, List.getElem_cons_zero, List.getElem_cons_succ, Act.put, List.setIfInBounds_toArray, List.set_cons_zero, List.set_cons_succ]
  refine wpAnyG_pure (i := 4) (v := .pointer (some ⟨p, 2, none⟩)) rfl rfl (by kernel_rfl) (by kernel_rfl) (by kernel_rfl) (fun _ _ _ h => h) (by decide) ⟨by rfl, fun w _ => (by go_simp; try (first | (simp only [IntKind.wrap_u32]; done) | rfl)), fun _ => rfl⟩ (.inr hS) ?_
  have hc1 := hcl.step (i := 4) (by kernel_rfl)
  clear hcl; have hcl := hc1; clear hc1; simp only [List.getElem_toArray, List.getElem_cons_zero, List.getElem_cons_succ, Act.put, List.setIfInBounds_toArray, List.set_cons_zero, List.set_cons_succ]
  refine wpAnyG_take (i := 5) 6 (v := x.vb) rfl rfl (by kernel_rfl) (by kernel_rfl) (by kernel_rfl) (fun _ _ _ h => h) (by kernel_rfl) (by decide) hcl (yields_old cb hp (by exact rfl) (by exact rfl) (by exact rfl) (by first | exact Try.underlying32 | exact Try.underlying3 | exact Try.underlying41) rfl) hS (fun hc1 => ?_)
  clear hcl; have hcl := hc1; clear hc1; simp only [List.getElem_toArray, List.getElem_cons_zero, List.getElem_cons_succ, Act.put, List.setIfInBounds_toArray, List.set_cons_zero, List.set_cons_succ]
  refine wpAnyG_pure (i := 6) (v := .pointer (some ⟨p, 0, none⟩)) rfl rfl (by kernel_rfl) (by kernel_rfl) (by kernel_rfl) (fun _ _ _ h => h) (by decide) ⟨by rfl, fun w _ => (by go_simp; try (first | (simp only [IntKind.wrap_u32]; done) | rfl)), fun _ => rfl⟩ (.inr hS) ?_
  have hc1 := hcl.step (i := 6) (by kernel_rfl)
  clear hcl; have hcl := hc1; clear hc1; simp only [List.getElem_toArray, List.getElem_cons_zero, List.getElem_cons_succ, Act.put, List.setIfInBounds_toArray, List.set_cons_zero, List.set_cons_succ]
  refine wpAnyG_pure (i := 7) (v := .pointer (some ⟨p, 0, none⟩)) rfl rfl (by kernel_rfl) (by kernel_rfl) (by kernel_rfl) (fun _ _ _ h => h) (by decide) ⟨by rfl, fun w _ => (by go_simp; try (first | (simp only [IntKind.wrap_u32]; done) | rfl)), fun _ => rfl⟩ (.inr hS) ?_
  have hc1 := hcl.step (i := 7) (by kernel_rfl)
  clear hcl; have hcl := hc1; clear hc1; simp only [List.getElem_toArray, List.getElem_cons_zero, List.getElem_cons_succ, Act.put, List.setIfInBounds_toArray, List.set_cons_zero, List.set_cons_succ]
  refine wpAnyG_pure (i := 8) (v := .pointer (some ⟨p, 3, none⟩)) rfl rfl (by kernel_rfl) (by kernel_rfl) (by kernel_rfl) (fun _ _ _ h => h) (by decide) ⟨by rfl, fun w _ => (by go_simp; try (first | (simp only [IntKind.wrap_u32]; done) | rfl)), fun _ => rfl⟩ (.inr hS) ?_
  have hc1 := hcl.step (i := 8) (by kernel_rfl)
  clear hcl; have hcl := hc1; clear hc1; simp only [List.getElem_toArray, List.getElem_cons_zero, List.getElem_cons_succ, Act.put, List.setIfInBounds_toArray, List.set_cons_zero, List.set_cons_succ]
  refine wpAnyG_take (i := 9) 6 (v := x.vu) rfl rfl (by kernel_rfl) (by kernel_rfl) (by kernel_rfl) (fun _ _ _ h => h) (by kernel_rfl) (by decide) hcl (yields_old cu hp (by exact rfl) (by exact rfl) (by exact rfl) (by first | exact Try.underlying32 | exact Try.underlying3 | exact Try.underlying41) rfl) hS (fun hc1 => ?_)
  clear hcl; have hcl := hc1; clear hc1; simp only [List.getElem_toArray, List.getElem_cons_zero, List.getElem_cons_succ, Act.put, List.setIfInBounds_toArray, List.set_cons_zero, List.set_cons_succ]
  refine wpAnyG_one (i := 10) (by kernel_rfl) rfl (fun K hK => ?_)
  go_simp
  refine ⟨trivial, (callsIn_wide.2 (kw _)).mono ?_⟩
  rintro e w5 ⟨rfl, hb⟩
  have hS5 := hS.call hb
  clear hb hS
  have hS := hS5
  clear hS5
  refine hK _ _ (.inr hS) ?_
  clear hK K
  have hc1 := hcl.step (i := 10) (by kernel_rfl)
  clear hcl; have hcl := hc1; clear hc1
  refine wpAnyG_pure (i := 11) (v := .tuple #[v1, v2]) rfl rfl (by kernel_rfl) (by kernel_rfl) (by kernel_rfl) (fun _ _ _ h => h) (by decide) ⟨by rfl, fun w _ => (by go_simp; try (first | (simp only [IntKind.wrap_u32]; done) | rfl)), fun _ => rfl⟩ (.inr hS) ?_
  have hc1 := hcl.step (i := 11) (by kernel_rfl)
  clear hcl; have hcl := hc1; clear hc1; simp only [List.getElem_toArray, List.getElem_cons_zero, List.getElem_cons_succ, Act.put, List.setIfInBounds_toArray, List.set_cons_zero, List.set_cons_succ]
  refine wpAnyG_pure (i := 12) (v := v1) rfl rfl (by kernel_rfl) (by kernel_rfl) (by kernel_rfl) (fun _ _ _ h => h) (by decide) ⟨by rfl, fun w _ => (by go_simp; try (first | (simp only [IntKind.wrap_u32]; done) | rfl)), fun _ => rfl⟩ (.inr hS) ?_
  have hc1 := hcl.step (i := 12) (by kernel_rfl)
  clear hcl; have hcl := hc1; clear hc1; simp only [List.getElem_toArray, List.getElem_cons_zero, List.getElem_cons_succ, Act.put, List.setIfInBounds_toArray, List.set_cons_zero, List.set_cons_succ]
  refine wpAnyG_pure (i := 13) (v := v2) rfl rfl (by kernel_rfl) (by kernel_rfl) (by kernel_rfl) (fun _ _ _ h => h) (by decide) ⟨by rfl, fun w _ => (by go_simp; try (first | (simp only [IntKind.wrap_u32]; done) | rfl)), fun _ => rfl⟩ (.inr hS) ?_
  have hc1 := hcl.step (i := 13) (by kernel_rfl)
  clear hcl; have hcl := hc1; clear hc1; simp only [List.getElem_toArray, List.getElem_cons_zero, List.getElem_cons_succ, Act.put, List.setIfInBounds_toArray, List.set_cons_zero, List.set_cons_succ]
  have D5 := HD.out.below hS.below
  have hB5 := hS.below
  have hh4 := hS.at 1 rfl
  have hh2 := hS.at 0 rfl
  have hb2 : W.heap.size ≤ bp := (hS.held _ List.mem_cons_self).1
  have hb4 : W.heap.size ≤ b4 := (hS.held _ (List.mem_cons_of_mem _ List.mem_cons_self)).1
  have hb2p : bp ≠ p := by omega
  have hb4p : b4 ≠ p := by omega
  have hR1 : Que w5 v1 L1 := HR.out.1.on fun i hi => hB5.block i (HR.out.1.lt hi)
  have hR2 : Que w5 v2 L2 := HR.out.2.1.on fun i hi => hB5.block i (HR.out.2.1.lt hi)
  obtain ⟨X1, X2⟩ := mkBU (v1 := v1) (v2 := v2) D5.box D5.op D5.lt hR1 hR2 (fun i hi => D5.ob i (HR.out.2.2.1 i hi)) (fun i hi => D5.ou i (HR.out.2.2.2.1 i hi)) (fun i h1 h2 => D5.sep i (HR.out.2.2.1 i h1) (HR.out.2.2.2.1 i h2))
  simp only [HS.out] at X1
  refine wpAnyG_one (i := 14) (by kernel_rfl) rfl (fun K hK => ?_)
  go_simp
  refine hK _ _ (.inr hS) ?_
  clear hK K
  refine wpAnyG_one (i := 15) (by kernel_rfl) rfl (fun K hK => ?_)
  go_simp
  refine hK _ _ (.inr hS) ?_
  clear hK K
  have b5 := D5.box
  have b6 : Held (w5.setCell ⟨p, 2, none⟩ v1) p 62 #[.int .i64 sn, .int .i64 sb, v1, x.vu, .int .i64 (Fi.bytes (q :: l))] := by simpa using b5.set 2 v1
  refine wpAnyG_one (i := 16) (by kernel_rfl) rfl (fun K hK => ?_)
  refine wpIn_store_old (b := p) (j := 2) (v := v1) (v0 := x.vb) (b5.cell 2) (b5.frozen 2) rfl (by exact rfl) (by exact rfl) (by exact pslInfo) ho1 ?_
  refine hK _ _ (.inl (by kernel_rfl)) ?_
  clear hK K
  refine wpAnyG_one (i := 17) (by kernel_rfl) rfl (fun K hK => ?_)
  go_simp
  refine hK _ _ (.inl (by kernel_rfl)) ?_
  clear hK K
  refine wpAnyG_one (i := 18) (by kernel_rfl) rfl (fun K hK => ?_)
  go_simp
  refine hK _ _ (.inl (by kernel_rfl)) ?_
  clear hK K
  refine wpAnyG_one (i := 19) (by kernel_rfl) rfl (fun K hK => ?_)
  refine wpIn_store_old (b := p) (j := 3) (v := v2) (v0 := x.vu) (b6.cell 3) (b6.frozen 3) rfl (by exact rfl) (by exact rfl) (by exact pslInfo) ho2 ?_
  refine hK _ _ (.inl (by kernel_rfl)) ?_
  clear hK K
  refine wpAnyG_done (by kernel_rfl) ?_ _
  have HX := Lib.hid X1
  have HFX := Lib.hid ((Foot.of_below (B := own) hB5).trans' X2)
  have HB9 : Held _ b4 37 #[.int .u32 q.id, .int .u32 q.len, .int .i64 q.prio, .int .i64 q.cpu, .int .u32 q.a, .int .u32 q.b, .int .u16 q.sp, .int .u16 q.dp, .int .u8 q.q] := (hh4.other (b' := p) hb4p 2 v1).other (b' := p) hb4p 3 v2
  have HBP9 : Held _ bp 37 (pvCs pv0).toArray := (hh2.other (b' := p) hb2p 2 v1).other (b' := p) hb2p 3 v2
  have hsz9 : W.heap.size ≤ ((w5.setCell ⟨p, 2, none⟩ v1).setCell ⟨p, 3, none⟩ v2).heap.size := by rw [size_setCell, size_setCell]; exact hB5.size
  clear X1 X2 hh4 hh2 hB5 cb cu hp b6 b5 hR1 hR2
  obtain ⟨W9, hW9⟩ : ∃ W9, (w5.setCell ⟨p, 2, none⟩ v1).setCell ⟨p, 3, none⟩ v2 = W9 := ⟨_, rfl⟩
  rw [hW9] at hsz9 HX HFX HB9 HBP9 ⊢
  clear hW9
  have ch := HX.out.box.cell 4
  simp only [List.getElem?_toArray, List.getElem?_cons_zero, List.getElem?_cons_succ] at ch
  have hp := HX.out.box.lt
  have H := Mem.start W9
  have HSZ := Lib.hid hsz9
  clear hsz9
  go_upto_region 5 with (fail)
  refine region_memk H 10 11 rfl (by kernel_rfl) (fun wr0 hcl hS => ?_)
  clear H
  refine wpAnyG_pure (i := 0) (v := .pointer (some ⟨p, 0, none⟩)) rfl rfl (by kernel_rfl) (by kernel_rfl) (by kernel_rfl) (fun _ _ _ h => h) (by decide) ⟨by rfl, fun w _ => (by go_simp; try (first | (simp only [IntKind.wrap_u32]; done) | rfl)), fun _ => rfl⟩ (.inr hS) ?_
  have hc1 := hcl.step (i := 0) (by kernel_rfl)
  clear hcl; have hcl := hc1; clear hc1; simp only [List.getElem_toArray, List.getElem_cons_zero, List.getElem_cons_succ, Act.put, List.setIfInBounds_toArray, List.set_cons_zero, List.set_cons_succ]
  refine wpAnyG_pure (i := 1) (v := .pointer (some ⟨p, 0, none⟩)) rfl rfl (by kernel_rfl) (by kernel_rfl) (by kernel_rfl) (fun _ _ _ h => h) (by decide) ⟨by rfl, fun w _ => (by go_simp; try (first | (simp only [IntKind.wrap_u32]; done) | rfl)), fun _ => rfl⟩ (.inr hS) ?_
  have hc1 := hcl.step (i := 1) (by kernel_rfl)
  clear hcl; have hcl := hc1; clear hc1; simp only [List.getElem_toArray, List.getElem_cons_zero, List.getElem_cons_succ, Act.put, List.setIfInBounds_toArray, List.set_cons_zero, List.set_cons_succ]
  refine wpAnyG_pure (i := 2) (v := .pointer (some ⟨p, 4, none⟩)) rfl rfl (by kernel_rfl) (by kernel_rfl) (by kernel_rfl) (fun _ _ _ h => h) (by decide) ⟨by rfl, fun w _ => (by go_simp; try (first | (simp only [IntKind.wrap_u32]; done) | rfl)), fun _ => rfl⟩ (.inr hS) ?_
  have hc1 := hcl.step (i := 2) (by kernel_rfl)
  clear hcl; have hcl := hc1; clear hc1; simp only [List.getElem_toArray, List.getElem_cons_zero, List.getElem_cons_succ, Act.put, List.setIfInBounds_toArray, List.set_cons_zero, List.set_cons_succ]
  refine wpAnyG_take (i := 3) 6 (v := .int .i64 S) rfl rfl (by kernel_rfl) (by kernel_rfl) (by kernel_rfl) (fun _ _ _ h => h) (by kernel_rfl) (by decide) hcl (yields_old ch hp (by exact rfl) (by exact rfl) (by exact rfl) (by first | exact Try.underlying32 | exact Try.underlying3 | exact Try.underlying41) rfl) hS (fun hc1 => ?_)
  clear hcl; have hcl := hc1; clear hc1; simp only [List.getElem_toArray, List.getElem_cons_zero, List.getElem_cons_succ, Act.put, List.setIfInBounds_toArray, List.set_cons_zero, List.set_cons_succ]
  refine wpAnyG_take (i := 4) 6 (v := pv q) rfl rfl (by kernel_rfl) (by kernel_rfl) (by kernel_rfl) (fun _ _ _ h => h) (by kernel_rfl) (by decide) hcl (yields_held (fun w h => HB9.below h.below HB9.lt) (by exact rfl) (by exact rfl) (by exact rfl) Try.underlying37 rfl pkInfo) hS (fun hc1 => ?_)
  clear hcl; have hcl := hc1; clear hc1; simp only [List.getElem_toArray, List.getElem_cons_zero, List.getElem_cons_succ, Act.put, List.setIfInBounds_toArray, List.set_cons_zero, List.set_cons_succ]
  refine wpAnyG_one (i := 5) (by kernel_rfl) rfl (fun K hK => ?_)
  go_simp
  refine hK _ _ (.inr (hS.skip _)) ?_
  clear hK K
  have hc1 := hcl.step (i := 5) (by kernel_rfl)
  clear hcl; have hcl := hc1; clear hc1
  have hN := hS.alloc 37 #[.int .u32 q.id, .int .u32 q.len, .int .i64 q.prio, .int .i64 q.cpu, .int .u32 q.a, .int .u32 q.b, .int .u16 q.sp, .int .u16 q.dp, .int .u8 q.q]
  have hS5 := hS.skip (.cells #[.int .u32 q.id, .int .u32 q.len, .int .i64 q.prio, .int .i64 q.cpu, .int .u32 q.a, .int .u32 q.b, .int .u16 q.sp, .int .u16 q.dp, .int .u8 q.q] 37)
  clear hS
  generalize hbN : wr0.heap.size = bN at hN ⊢
  clear hbN
  generalize wr0.alloc (.cells #[.int .u32 q.id, .int .u32 q.len, .int .i64 q.prio, .int .i64 q.cpu, .int .u32 q.a, .int .u32 q.b, .int .u16 q.sp, .int .u16 q.dp, .int .u8 q.q] 37) = w6 at hN hS5 ⊢
  have hS := hS5
  clear hS5
  simp only [List.cons_append, List.nil_append] at hN
  refine wpAnyG_one (i := 6) (by kernel_rfl) rfl (fun K hK => ?_)
  go_simp
  refine ⟨trivial, (callsIn_wide.2 (kb _ _ (hN.at 0 rfl))).mono ?_⟩
  rintro e w5 ⟨rfl, hb⟩
  have hS5 := hS.call hb
  have hN5 := hN.call hb
  clear hb hS hN
  have hS := hS5
  clear hS5
  have hN := hN5
  clear hN5
  refine hK _ _ (.inr hS) ?_
  clear hK K
  have hc1 := hcl.step (i := 6) (by kernel_rfl)
  clear hcl; have hcl := hc1; clear hc1
  refine wpAnyG_pure (i := 7) (v := .int .i64 (S - q.len)) rfl rfl (by kernel_rfl) (by kernel_rfl) (by kernel_rfl) (fun _ _ _ h => h) (by decide) ⟨by rfl, fun w _ => (by go_simp; try (first | exact w1 | rfl)), fun _ => rfl⟩ (.inr hS) ?_
  have hc1 := hcl.step (i := 7) (by kernel_rfl)
  clear hcl; have hcl := hc1; clear hc1; simp only [List.getElem_toArray, List.getElem_cons_zero, List.getElem_cons_succ, Act.put, List.setIfInBounds_toArray, List.set_cons_zero, List.set_cons_succ]
  refine wpAnyG_one (i := 8) (by kernel_rfl) rfl (fun K hK => ?_)
  go_simp
  refine hK _ _ (.inr hS) ?_
  clear hK K
  refine wpAnyG_one (i := 9) (by kernel_rfl) rfl (fun K hK => ?_)
  go_simp
  refine hK _ _ (.inr hS) ?_
  clear hK K
  refine wpAnyG_one (i := 10) (by kernel_rfl) rfl (fun K hK => ?_)
  have D9 := HX.out.below hS.below
  have F9 := HFX.out.trans' (Foot.of_below (B := own) hS.below)
  have b9 := D9.box.cell 4
  have f9 := D9.box.frozen 4
  refine wpIn_store_old (b := p) (j := 4) (v := .int .i64 (S - q.len)) b9 f9 rfl (by exact rfl) (by exact rfl) (by exact intInfo) rfl ?_
  refine hK _ _ (.inl (by kernel_rfl)) ?_
  clear hK K
  refine wpAnyG_done (by kernel_rfl) ?_ _
  obtain ⟨DL, FL⟩ := D9.setH (S - q.len)
  have HDL := Lib.hid DL
  have HFL := Lib.hid (And.intro F9 FL)
  have HB10 := Lib.hid (And.intro ((HB9.below hS.below HB9.lt).other (b' := p) hb4p 4 (.int .i64 (S - q.len))) ((HBP9.below hS.below HBP9.lt).other (b' := p) hb2p 4 (.int .i64 (S - q.len))))
  clear D9 F9 b9 f9 DL FL hS hN hcl
  clear ch HB9 HBP9 kb kw
  go_wp2_with (first
    | go_skip
    | ((with_reducible show wpList _ _ _ (⟨_, .load 37 _, _, _, _, _⟩ :: _) _ _); refine load_held HB10.out.1 (by first | exact wanted_none rfl | exact wanted_some rfl rfl rfl rfl) (by exact rfl) (by exact rfl) Try.underlying37 rfl (by exact pkInfo) ?_)
    | ((with_reducible show wpList _ _ _ (⟨_, .store 37 _ _, _, _, _, _⟩ :: _) _ _); refine store_held HB10.out.2 (by first | exact wanted_none rfl | exact wanted_some rfl rfl rfl rfl) (by exact rfl) (by exact rfl) (by exact rfl) (by exact pkInfo) (by exact rfl) (by exact rfl) ?_; intro w9 h9 F9))
  refine bodyPost_ret (results_ct rfl rfl (run_loadVar_row _ _ _ _ _ (0, 0) _ h9 Try.underlying37 rfl pkInfo)) rfl ?_
  have hown : ∀ i, own i → i < W.heap.size := HD.out.lt
  have hQ := HDL.out.on (W' := w9) (fun i hi => F9.block i (HDL.out.lt i hi) (fun e => by have := hown i hi; omega)) F9.size
  refine ⟨rfl, ⟨own, ⟨_, hQ.at (s := ⟨l, sn, sb⟩) ?_ HR.out.2.2.2.2 ?_ HD.out.ok (fun y hy => HD.out.fits y (by simp [hy])) (fun y hy => HD.out.sz y (by simp [hy]))⟩, fun i hi => .inl hi⟩, ?_⟩
  · have := HS.out
    rw [bytes_cons] at this
    show S - q.len = Fi.bytes l
    omega
  · have := HD.out.len
    simp at this
    show l.length ≤ N
    omega
  · exact (HFL.out.1.trans' HFL.out.2).trans F9 fun i hi e => by
      have : i = bp := e
      omega
theorem takeP_d (W : World) (own : Nat → Prop) (p : Nat) (s : FF) (N : Nat) (h : PAt10 W own p s N) (hN : N ≤ 2000) : Calls Try.prog 19 #[.pointer (some ⟨p, 0, none⟩)] W (DidF PAt10 W own p (takeS s) N (.tuple #[pv (firstV s), .int .i64 (firstE s)])) := by
  obtain ⟨l0, sn, sb⟩ := s
  obtain ⟨x, h⟩ := h
  cases l0 with
  | nil =>
    refine (takeP_none W own p _ N x h hN rfl).mono ?_
    rintro e w' ⟨rfl, hb⟩
    exact ⟨by simp [firstV, firstE], ⟨own, ⟨x, h.below hb⟩, fun i hi => .inl hi⟩, Foot.of_below hb⟩
  | cons q l =>
    have e1 : firstV ⟨q :: l, sn, sb⟩ = q := rfl
    have e2 : firstE ⟨q :: l, sn, sb⟩ = 0 := by simp [firstE]
    rw [e1, e2]
    have hl : (q :: l : List PV) = x.B.reverse ++ x.U := h.eq
    obtain ⟨A1, a1, hv1, hl1, hm1⟩ := h.rb.shape
    obtain ⟨A2, a2, hv2, hl2, hm2⟩ := h.ru.shape
    have hr1 := h.rb
    have hr2 := h.ru
    rw [hv1] at hr1
    rw [hv2] at hr2
    have hone : ∀ A n c, (Value.slice A n c).oneCell' = true := fun _ _ _ => rfl
    have hqbs : ∀ A n c n' c' i, qb (.slice A n c) i → qb (.slice A n' c') i := by
      rintro A n c n' c' i ⟨o, m, n0, c0, e⟩
      cases e
      exact ⟨_, _, _, _, rfl⟩
    rcases List.eq_nil_or_concat x.B with hB | ⟨b', z, hB⟩
    · rw [hB, List.reverse_nil, List.nil_append] at hl
      rw [hB, List.length_nil] at hv1 hl1 hr1
      have hU : x.U.length = l.length + 1 := by rw [← hl]; rfl
      rcases hr2 with ⟨_, e⟩ | ⟨g, off, cap, cs, e, _⟩
      · rw [e] at hl
        cases hl
      · obtain ⟨rfl, _, rfl⟩ : A2 = some ⟨g, off, none⟩ ∧ x.U.length = x.U.length ∧ a2 = cap := by
          injection e with e1 e2 e3
          exact ⟨e1, rfl, e3⟩
        have hr2 := h.ru
        rw [hv2] at hr2
        have hdr : x.U.drop 1 = l := by rw [← hl]; rfl
        have hd := hr2.drop (j := 1) (by omega)
        rw [hdr] at hd
        by_cases hc : 1 < a2
        · refine takeP_core W own p q l sn sb N x h hN (.slice A1 0 a1) (.slice (some ⟨g, off + 1 * 9, none⟩) (x.U.length - 1) (a2 - 1)) [] l rfl rfl (fun w => ?_) ?_ (hd.1 hc) (by rw [hv1]; exact fun i hi => hqbs _ _ _ _ _ i hi) (by rw [hv2]; rintro i ⟨_, _, _, _, e⟩; cases e; exact ⟨_, _, _, _, rfl⟩) rfl
          · rw [hv1, hv2]
            exact wo_mid 1 1 A1 g off 0 x.U.length a1 a2 (by omega) (by omega) (by omega) hc hl1 hm1 hl2 hm2 w
          · have := hr1.take (k := 0) (Nat.zero_le _)
            simpa using this
        · refine takeP_core W own p q l sn sb N x h hN (.slice A1 0 a1) (.slice (some ⟨g, off, none⟩) 0 0) [] l rfl rfl (fun w => ?_) ?_ (hd.2 (by omega)) (by rw [hv1]; exact fun i hi => hqbs _ _ _ _ _ i hi) (by rw [hv2]; exact fun i hi => hqbs _ _ _ _ _ i hi) rfl
          · rw [hv1, hv2]
            exact wo_end 1 1 A1 g off 0 x.U.length a1 a2 (by omega) (by omega) (by omega) (by omega) hl1 hm1 hl2 hm2 w
          · have := hr1.take (k := 0) (Nat.zero_le _)
            simpa using this
    · have hB : x.B = b' ++ [z] := by simpa using hB
      have hn1 : x.B.length = b'.length + 1 := by rw [hB]; simp
      have htk : x.B.take (x.B.length - 1) = b' := by rw [hB]; simp
      have hk := hr1.take (k := x.B.length - 1) (by omega)
      rw [htk] at hk
      rw [hB, List.reverse_append] at hl
      simp at hl
      refine takeP_core W own p q l sn sb N x h hN (.slice A1 (x.B.length - 1) a1) (.slice A2 x.U.length a2) b' x.U rfl rfl (fun w => ?_) hk hr2 (by rw [hv1]; exact fun i hi => hqbs _ _ _ _ _ i hi) (by rw [hv2]; exact fun i hi => hi) hl.2
      rw [hv1, hv2]
      exact wo_le 1 A1 A2 x.B.length x.U.length a1 a2 (by omega) hl1 hm1 w
end Go.Proofs.Ytlnlkodpndjimaa.Fi
end
/- The program's Drain of fifos. Conditions: the fifo lies where its pointer says, two thousand packets at most. -/
section
namespace Go.Proofs.Ytlnlkodpndjimaa.Fi
set_option linter.unusedSimpArgs false
set_option linter.unusedVariables false
set_option maxRecDepth 100000
open Go.ChangeShapes Go.WideShapes Go.ChangeAt Go.RowKit

theorem zeros_one (n : Nat) : ∀ u, u ∈ (Builtin.zeroCells (pv pv0).cells n).toList → u.oneCell' = true := by
  intro u hu
  simp only [Builtin.zeroCells, Array.toList_map, List.mem_map] at hu
  obtain ⟨i, _, rfl⟩ := hu
  have h9 : (pv pv0).cells.size = 9 := rfl
  rw [h9]
  have hi : i % 9 < 9 := Nat.mod_lt _ (by omega)
  generalize i % 9 = k at hi
  match k, hi with
  | 0, _ => rfl
  | 1, _ => rfl
  | 2, _ => rfl
  | 3, _ => rfl
  | 4, _ => rfl
  | 5, _ => rfl
  | 6, _ => rfl
  | 7, _ => rfl
  | 8, _ => rfl
theorem zeroPk (w : World) : (zeroValue 37).run Try.prog w = .ok (pv pv0) w := by
  obtain ⟨i, hi, hz, _⟩ := infoPk_parts
  simp [zeroValue, typeInfo, hi, hz]
/-- a row is cleared -/
theorem run_clear_que (w : World) (ty : TypeId) (v : Value) (l : List PV) (hq : Que w v l) :
    ∃ w', (Builtin.clear_ #[41] ty #[v]).run Try.prog w = .ok (.tuple #[]) w' ∧ Foot (qb v) w w' ∧ ∀ A n c, v = .slice A n c → Que w' (.slice A 0 c) [] := by
  have h0 := hq
  rcases hq with ⟨rfl, rfl⟩ | ⟨g, off, cap, cs, rfl, h1, h2, h3, h4, h5⟩
  · refine ⟨w, by simp [Builtin.clear_, run_underlying Try.underlying41], Foot.refl _ _, fun A n c e => ?_⟩
    cases e
    exact .inl ⟨rfl, rfl⟩
  · rcases l with _ | ⟨y, l⟩
    · refine ⟨w, by simp [Builtin.clear_, run_underlying Try.underlying41], Foot.refl _ _, fun A n c e => ?_⟩
      cases e
      exact h0
    · obtain ⟨zs, hzs⟩ : ∃ zs, (Builtin.zeroCells (pv pv0).cells (l.length + 1)).toList = zs := ⟨_, rfl⟩
      have hlen : zs.length = (l.length + 1) * 9 := by
        have h9 : (pv pv0).cells.size = 9 := rfl
        rw [← hzs]
        simp [Builtin.zeroCells, h9]
      have h1' : ∀ u, u ∈ zs → u.oneCell' = true := by rw [← hzs]; exact zeros_one _
      have hin : off + zs.length ≤ cs.size := by
        rw [List.length_cons] at h2
        have : (l.length + 1) * 9 ≤ cap * 9 := Nat.mul_le_mul_right _ h2
        omega
      have hst := run_storeCells_cells (P := Try.prog) g off zs 0 w (fun j hj => by
        rw [Nat.add_zero, h1.cell, Array.getElem?_eq_getElem (by omega)]
        rfl) (fun j hj => h1.frozen _) h1'
      simp only [Nat.add_zero] at hst
      obtain ⟨cs', hc1, hc2⟩ := held_setCells zs off h1
      refine ⟨w.setCells g off zs, ?_, (foot_setCells g zs off w).mono fun i _ e => ⟨off, none, (y :: l).length, cap, by rw [e]⟩, fun A n c e => ?_⟩
      · have hz := zeroPk w
        simp [Builtin.clear_, run_underlying Try.underlying41, hz, hzs, hst]
      · cases e
        exact .inr ⟨g, off, cap, cs', rfl, hc1, Nat.zero_le _, h3, by omega, fun j u hj => by simp [pvs] at hj⟩
theorem drainP_nil (W : World) : Calls Try.prog 23 #[.pointer none] W fun e w' => e = .returned (.slice none 0 0) ∧ Below W.heap.size W w' := by
  have H := Mem.start W
  go_enter Try.func23, Try.ntmps23
  go_wp2_with (first
    | go_skip
    | go_skip
    | (go_at_call 33; refine (miss_yes _).mono ?_; rintro e w2 ⟨rfl, hb⟩; have H2 := H.call hb; clear H hb; have H := H2; clear H2))
  go_ret
  exact ⟨rfl, H.below⟩
set_option maxHeartbeats 4000000 in
theorem drainP_d (W : World) (own : Nat → Prop) (p : Nat) (s : FF) (N : Nat) (h : PAt10 W own p s N) (hN : N ≤ 2000) : Calls Try.prog 23 #[.pointer (some ⟨p, 0, none⟩)] W (TellsF PAt10 W own p (drainS s) N s.l (fun x => x)) := by
  have H := Mem.start W
  obtain ⟨x, h⟩ := h
  have HD := Lib.hid h
  have hnn := h.nn
  have km := fun w (hb : Below W.heap.size W w) => miss_no p s.n hnn.1 w ((h.below hb).box.cell 0)
  have ka := fun w (hb : Below W.heap.size W w) => allP_q w own p s N ⟨x, h.below hb⟩ hN
  obtain ⟨A1, a1, hv1, hl1, hm1⟩ := h.rb.shape
  obtain ⟨A2, a2, hv2, hl2, hm2⟩ := h.ru.shape
  obtain ⟨n1, hn1⟩ : ∃ n, x.B.length = n := ⟨_, rfl⟩
  obtain ⟨n2, hn2⟩ : ∃ n, x.U.length = n := ⟨_, rfl⟩
  rw [hn1] at hv1 hl1
  rw [hn2] at hv2 hl2
  unfold maxLen at hm1 hm2
  have HV1 := Lib.hid hv1
  have HV2 := Lib.hid hv2
  obtain ⟨S, hS1⟩ : ∃ S, Fi.bytes s.l = S := ⟨_, rfl⟩
  have HS := Lib.hid hS1
  obtain ⟨L, hL⟩ : ∃ L, s.l = L := ⟨_, rfl⟩
  rw [hL] at ka
  have HL := Lib.hid hL
  clear h hv1 hv2 hn1 hn2 hS1 hL
  go_enter Try.func23, Try.ntmps23
  go_upto_region 4 with (first
    | go_skip
    | (go_at_call 33; refine (km _ H.below).mono ?_; rintro e w2 ⟨rfl, hb⟩; have H2 := H.call hb; clear H hb; have H := H2; clear H2)
    | (go_at_call 15; refine (ka _ H.below).mono ?_; rintro e w2 ⟨va, rfl, hqa, hna, hb⟩; have hsz := H.below.size; have H2 := H.call hb; clear H hb; have H := H2; clear H2))
  clear km ka
  have D2 := HD.out.below H.below
  have c2w := D2.box.cell 2
  have HB2 := Lib.hid H.below
  simp only [List.getElem?_toArray, List.getElem?_cons_zero, List.getElem?_cons_succ] at c2w
  have HD2 := Lib.hid D2
  have HA := Lib.hid (show Que w2 va L ∧ ∀ i, qb va i → ¬ own i ∧ W.heap.size ≤ i from ⟨hqa, fun i hi => by
    have := hna i hi
    exact ⟨fun e => by have := HD.out.lt i e; omega, by omega⟩⟩)
  clear D2 hqa hna H
  obtain ⟨w7, hr7, F7, z7⟩ := run_clear_que w2 0 x.vb x.B HD2.out.rb
  have HF7 := Lib.hid F7
  have HZ7 := Lib.hid z7
  clear F7 z7
  go_upto_region 5 with (fail)
  have F7 := HF7.out
  have z7 := HZ7.out
  clear hr7
  have hnp : ¬ qb x.vb p := fun e => (HD2.out.ob p e).2 rfl
  have b7 : Held w7 p _ _ := (F7.block p HD2.out.box.lt hnp).trans HD2.out.box
  have c3w := b7.cell 3
  simp only [List.getElem?_toArray, List.getElem?_cons_zero, List.getElem?_cons_succ] at c3w
  have Q7 : Que w7 x.vu x.U := HD2.out.ru.on fun i hi => F7.block i (HD2.out.ru.lt hi) (fun e => HD2.out.sep i e hi)
  have Z7 := Lib.hid (And.intro F7 (And.intro (z7 A1 n1 a1 HV1.out) Q7))
  clear c2w F7 z7 hnp Q7
  obtain ⟨w8, hr8, F8, z8⟩ := run_clear_que w7 0 x.vu x.U Z7.out.2.2
  have HF8 := Lib.hid F8
  have HZ8 := Lib.hid z8
  clear F8 z8
  go_upto_region 6 with (fail)
  have F8 := HF8.out
  have z8 := HZ8.out
  clear hr8
  have hnp : ¬ qb x.vu p := fun e => (HD2.out.ou p e).2 rfl
  have b8 : Held w8 p _ _ := (F8.block p b7.lt hnp).trans b7
  have cb : w8.cell? ⟨p, 2, none⟩ = some (.slice A1 n1 a1) := by rw [← HV1.out]; exact b8.cell 2
  have cu : w8.cell? ⟨p, 3, none⟩ = some (.slice A2 n2 a2) := by rw [← HV2.out]; exact b8.cell 3
  have hp := b8.lt
  have Q8 : Que w8 (.slice A1 0 a1) [] := Z7.out.2.1.on fun i hi => F8.block i (Z7.out.2.1.lt hi) (fun e => HD2.out.sep i (by rw [HV1.out]; obtain ⟨o, m, n', c', e'⟩ := hi; cases e'; exact ⟨_, _, _, _, rfl⟩) e)
  have Z8 := Lib.hid (And.intro (show Foot own w2 w8 from (Z7.out.1.mono fun i _ hi => (HD2.out.ob i hi).1).trans' (F8.mono fun i _ hi => (HD2.out.ou i hi).1)) (And.intro Q8 (z8 A2 n2 a2 HV2.out)))
  have HB8 := Lib.hid b8
  clear c3w F8 z8 hnp Q8 b7 b8
  have H := Mem.start w8
  refine region_memk H 14 18 rfl (by kernel_rfl) (fun wr0 hcl hS => ?_)
  clear H
  refine wpAnyG_pure (i := 0) (v := .pointer (some ⟨p, 0, none⟩)) rfl rfl (by kernel_rfl) (by kernel_rfl) (by kernel_rfl) (fun _ _ _ h => h) (by decide) ⟨by rfl, fun w _ => (by go_simp; try (first | (simp only [IntKind.wrap_u32]; done) | rfl)), fun _ => rfl⟩ (.inr hS) ?_
  have hc1 := hcl.step (i := 0) (by kernel_rfl)
  clear hcl; have hcl := hc1; clear hc1; simp only [List.getElem_toArray, List.getElem_cons_zero, List.getElem_cons_succ, Act.put, List.setIfInBounds_toArray, List.set_cons_zero, List.set_cons_succ]
  refine wpAnyG_pure (i := 1) (v := .pointer (some ⟨p, 0, none⟩)) rfl rfl (by kernel_rfl) (by kernel_rfl) (by kernel_rfl) (fun _ _ _ h => h) (by decide) ⟨by rfl, fun w _ => (by go_simp; try (first | (simp only [IntKind.wrap_u32]; done) | rfl)), fun _ => rfl⟩ (.inr hS) ?_
  have hc1 := hcl.step (i := 1) (by kernel_rfl)
  clear hcl; have hcl := hc1; clear hc1; simp only [List.getElem_toArray, List.getElem_cons_zero, List.getElem_cons_succ, Act.put, List.setIfInBounds_toArray, List.set_cons_zero, List.set_cons_succ]
  refine wpAnyG_pure (i := 2) (v := .pointer (some ⟨p, 0, none⟩)) rfl rfl (by kernel_rfl) (by kernel_rfl) (by kernel_rfl) (fun _ _ _ h => h) (by decide) ⟨by rfl, fun w _ => (by go_simp; try (first | (simp only [IntKind.wrap_u32]; done) | rfl)), fun _ => rfl⟩ (.inr hS) ?_
  have hc1 := hcl.step (i := 2) (by kernel_rfl)
  clear hcl; have hcl := hc1; clear hc1; simp only [List.getElem_toArray, List.getElem_cons_zero, List.getElem_cons_succ, Act.put, List.setIfInBounds_toArray, List.set_cons_zero, List.set_cons_succ]
  refine wpAnyG_pure (i := 3) (v := .pointer (some ⟨p, 0, none⟩)) rfl rfl (by kernel_rfl) (by kernel_rfl) (by kernel_rfl) (fun _ _ _ h => h) (by decide) ⟨by rfl, fun w _ => (by go_simp; try (first | (simp only [IntKind.wrap_u32]; done) | rfl)), fun _ => rfl⟩ (.inr hS) ?_
  have hc1 := hcl.step (i := 3) (by kernel_rfl)
  clear hcl; have hcl := hc1; clear hc1; simp only [List.getElem_toArray, List.getElem_cons_zero, List.getElem_cons_succ, Act.put, List.setIfInBounds_toArray, List.set_cons_zero, List.set_cons_succ]
  refine wpAnyG_pure (i := 4) (v := .pointer (some ⟨p, 2, none⟩)) rfl rfl (by kernel_rfl) (by kernel_rfl) (by kernel_rfl) (fun _ _ _ h => h) (by decide) ⟨by rfl, fun w _ => (by go_simp; try (first | (simp only [IntKind.wrap_u32]; done) | rfl)), fun _ => rfl⟩ (.inr hS) ?_
  have hc1 := hcl.step (i := 4) (by kernel_rfl)
  clear hcl; have hcl := hc1; clear hc1; simp only [List.getElem_toArray, List.getElem_cons_zero, List.getElem_cons_succ, Act.put, List.setIfInBounds_toArray, List.set_cons_zero, List.set_cons_succ]
  refine wpAnyG_take (i := 5) 6 (v := .slice A1 n1 a1) rfl rfl (by kernel_rfl) (by kernel_rfl) (by kernel_rfl) (fun _ _ _ h => h) (by kernel_rfl) (by decide) hcl (yields_old cb hp (by exact rfl) (by exact rfl) (by exact rfl) (by first | exact Try.underlying32 | exact Try.underlying3 | exact Try.underlying41) rfl) hS (fun hc1 => ?_)
  clear hcl; have hcl := hc1; clear hc1; simp only [List.getElem_toArray, List.getElem_cons_zero, List.getElem_cons_succ, Act.put, List.setIfInBounds_toArray, List.set_cons_zero, List.set_cons_succ]
  refine wpAnyG_pure (i := 6) (v := .slice A1 0 a1) rfl rfl (by kernel_rfl) (by kernel_rfl) (by kernel_rfl) (fun _ _ _ h => h) (by decide) ⟨by rfl, fun w _ => (by go_simp; try (first | (simp only [IntKind.wrap_u32]; done) | rfl)), fun _ => rfl⟩ (.inr hS) ?_
  have hc1 := hcl.step (i := 6) (by kernel_rfl)
  clear hcl; have hcl := hc1; clear hc1; simp only [List.getElem_toArray, List.getElem_cons_zero, List.getElem_cons_succ, Act.put, List.setIfInBounds_toArray, List.set_cons_zero, List.set_cons_succ]
  refine wpAnyG_pure (i := 7) (v := .pointer (some ⟨p, 0, none⟩)) rfl rfl (by kernel_rfl) (by kernel_rfl) (by kernel_rfl) (fun _ _ _ h => h) (by decide) ⟨by rfl, fun w _ => (by go_simp; try (first | (simp only [IntKind.wrap_u32]; done) | rfl)), fun _ => rfl⟩ (.inr hS) ?_
  have hc1 := hcl.step (i := 7) (by kernel_rfl)
  clear hcl; have hcl := hc1; clear hc1; simp only [List.getElem_toArray, List.getElem_cons_zero, List.getElem_cons_succ, Act.put, List.setIfInBounds_toArray, List.set_cons_zero, List.set_cons_succ]
  refine wpAnyG_pure (i := 8) (v := .pointer (some ⟨p, 0, none⟩)) rfl rfl (by kernel_rfl) (by kernel_rfl) (by kernel_rfl) (fun _ _ _ h => h) (by decide) ⟨by rfl, fun w _ => (by go_simp; try (first | (simp only [IntKind.wrap_u32]; done) | rfl)), fun _ => rfl⟩ (.inr hS) ?_
  have hc1 := hcl.step (i := 8) (by kernel_rfl)
  clear hcl; have hcl := hc1; clear hc1; simp only [List.getElem_toArray, List.getElem_cons_zero, List.getElem_cons_succ, Act.put, List.setIfInBounds_toArray, List.set_cons_zero, List.set_cons_succ]
  refine wpAnyG_pure (i := 9) (v := .pointer (some ⟨p, 3, none⟩)) rfl rfl (by kernel_rfl) (by kernel_rfl) (by kernel_rfl) (fun _ _ _ h => h) (by decide) ⟨by rfl, fun w _ => (by go_simp; try (first | (simp only [IntKind.wrap_u32]; done) | rfl)), fun _ => rfl⟩ (.inr hS) ?_
  have hc1 := hcl.step (i := 9) (by kernel_rfl)
  clear hcl; have hcl := hc1; clear hc1; simp only [List.getElem_toArray, List.getElem_cons_zero, List.getElem_cons_succ, Act.put, List.setIfInBounds_toArray, List.set_cons_zero, List.set_cons_succ]
  refine wpAnyG_take (i := 10) 6 (v := .slice A2 n2 a2) rfl rfl (by kernel_rfl) (by kernel_rfl) (by kernel_rfl) (fun _ _ _ h => h) (by kernel_rfl) (by decide) hcl (yields_old cu hp (by exact rfl) (by exact rfl) (by exact rfl) (by first | exact Try.underlying32 | exact Try.underlying3 | exact Try.underlying41) rfl) hS (fun hc1 => ?_)
  clear hcl; have hcl := hc1; clear hc1; simp only [List.getElem_toArray, List.getElem_cons_zero, List.getElem_cons_succ, Act.put, List.setIfInBounds_toArray, List.set_cons_zero, List.set_cons_succ]
  refine wpAnyG_pure (i := 11) (v := .slice A2 0 a2) rfl rfl (by kernel_rfl) (by kernel_rfl) (by kernel_rfl) (fun _ _ _ h => h) (by decide) ⟨by rfl, fun w _ => (by go_simp; try (first | (simp only [IntKind.wrap_u32]; done) | rfl)), fun _ => rfl⟩ (.inr hS) ?_
  have hc1 := hcl.step (i := 11) (by kernel_rfl)
  clear hcl; have hcl := hc1; clear hc1; simp only [List.getElem_toArray, List.getElem_cons_zero, List.getElem_cons_succ, Act.put, List.setIfInBounds_toArray, List.set_cons_zero, List.set_cons_succ]
  have hB5 := hS.below
  have b5 := HB8.out.below hS.below HB8.out.lt
  have ltw : ∀ i, own i → i < wr0.heap.size := fun i hi => Nat.lt_of_lt_of_le (HD2.out.lt i hi) (Nat.le_trans Z8.out.1.size hB5.size)
  have sl : ∀ A n c n' c' i, qb (.slice A n c) i → qb (.slice A n' c') i := by
    rintro A n c n' c' i ⟨o, m, n0, c0, e⟩
    cases e
    exact ⟨_, _, _, _, rfl⟩
  obtain ⟨X1, X2⟩ := mkBU (v1 := .slice A1 0 a1) (v2 := .slice A2 0 a2) b5 HD2.out.op ltw (Z8.out.2.1.on fun i hi => hB5.block i (Z8.out.2.1.lt hi)) (Z8.out.2.2.on fun i hi => hB5.block i (Z8.out.2.2.lt hi)) (fun i hi => HD2.out.ob i (by rw [HV1.out]; exact sl _ _ _ _ _ i hi)) (fun i hi => HD2.out.ou i (by rw [HV2.out]; exact sl _ _ _ _ _ i hi)) (fun i h1 h2 => HD2.out.sep i (by rw [HV1.out]; exact sl _ _ _ _ _ i h1) (by rw [HV2.out]; exact sl _ _ _ _ _ i h2))
  refine wpAnyG_one (i := 12) (by kernel_rfl) rfl (fun K hK => ?_)
  go_simp
  refine hK _ _ (.inr hS) ?_
  clear hK K
  refine wpAnyG_one (i := 13) (by kernel_rfl) rfl (fun K hK => ?_)
  go_simp
  refine hK _ _ (.inr hS) ?_
  clear hK K
  have b6 : Held (wr0.setCell ⟨p, 2, none⟩ (.slice A1 0 a1)) p 62 #[.int .i64 s.n, .int .i64 s.b, .slice A1 0 a1, x.vu, .int .i64 (Fi.bytes s.l)] := by simpa using b5.set 2 (.slice A1 0 a1)
  refine wpAnyG_one (i := 14) (by kernel_rfl) rfl (fun K hK => ?_)
  refine wpIn_store_old (b := p) (j := 2) (v := .slice A1 0 a1) (v0 := x.vb) (b5.cell 2) (b5.frozen 2) rfl (by exact rfl) (by exact rfl) (by exact pslInfo) rfl ?_
  refine hK _ _ (.inl (by kernel_rfl)) ?_
  clear hK K
  refine wpAnyG_one (i := 15) (by kernel_rfl) rfl (fun K hK => ?_)
  go_simp
  refine hK _ _ (.inl (by kernel_rfl)) ?_
  clear hK K
  refine wpAnyG_one (i := 16) (by kernel_rfl) rfl (fun K hK => ?_)
  go_simp
  refine hK _ _ (.inl (by kernel_rfl)) ?_
  clear hK K
  refine wpAnyG_one (i := 17) (by kernel_rfl) rfl (fun K hK => ?_)
  refine wpIn_store_old (b := p) (j := 3) (v := .slice A2 0 a2) (v0 := x.vu) (b6.cell 3) (b6.frozen 3) rfl (by exact rfl) (by exact rfl) (by exact pslInfo) rfl ?_
  refine hK _ _ (.inl (by kernel_rfl)) ?_
  clear hK K
  refine wpAnyG_done (by kernel_rfl) ?_ _
  obtain ⟨W9, hW9⟩ : ∃ W9, (wr0.setCell ⟨p, 2, none⟩ (.slice A1 0 a1)).setCell ⟨p, 3, none⟩ (.slice A2 0 a2) = W9 := ⟨_, rfl⟩
  rw [hW9] at X1 X2 ⊢
  clear hW9 b5 b6 cb cu hp
  have ch := X1.box.cell 4
  have fh := X1.box.frozen 4
  simp only [List.getElem?_toArray, List.getElem?_cons_zero, List.getElem?_cons_succ] at ch
  obtain ⟨Y1, Y2⟩ := X1.setH 0
  have HE := Lib.hid (And.intro ((Z8.out.1.trans' (Foot.of_below (B := own) hB5)).trans' (X2.trans' Y2)) Y1)
  clear X1 X2 Y1 Y2 hB5
  go_wp2
  go_ret
  refine ⟨va, rfl, ?_, ⟨own, ⟨_, HE.out.2.at (s := drainS s) rfl rfl (Nat.zero_le _) HD.out.ok (fun q hq => by cases hq) (fun q hq => by cases hq)⟩, fun i hi => .inl hi, fun i hi => ⟨(HA.out.2 i hi).1, .inr (HA.out.2 i hi).2⟩⟩, (Foot.of_below (B := own) HB2.out).trans' HE.out.1⟩
  rw [HL.out]
  exact HA.out.1.on fun i hi => HE.out.1.block i (HA.out.1.lt hi) (HA.out.2 i hi).1
end Go.Proofs.Ytlnlkodpndjimaa.Fi
end
