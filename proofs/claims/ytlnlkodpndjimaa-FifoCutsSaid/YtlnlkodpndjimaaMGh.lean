/-
  The program's Put and Back of fifos, all ways. Conditions: the fifo lies where its pointer says, two thousand packets at most. The program's visit of two lists of packets, one by one. Conditions: the boxes hold the lists; the lists lie where their slices say.
-/
import Derived.Test.YtlnlkodpndjimaaMGg
import Derived.Test.YtlnlkodpndjimaaMGa
import Derived.Maps.OwnIn
/- The program's Put and Back of fifos, all ways. Conditions: the fifo lies where its pointer says, two thousand packets at most. -/
section
namespace Go.Proofs.Ytlnlkodpndjimaa.Fi
set_option linter.unusedSimpArgs false
set_option linter.unusedVariables false
set_option maxRecDepth 100000
open Go.ChangeShapes Go.WideShapes Go.ChangeAt Go.RowKit

theorem backP_nil (q : PV) (W : World) (hq : q.Fits) : Calls Try.prog 22 #[.pointer none, pv q] W fun e w' => e = .returned (.int .i64 1) ∧ Below W.heap.size W w' := by
  have H := Mem.start W
  go_enter Try.func22, Try.ntmps22
  go_wp2_with (first
    | go_skip
    | go_skip
    | ((with_reducible show wpList _ _ _ _ _ (World.alloc _ (.cells _ _))); refine mem_new H ?_; intro w2 H2; clear H; have H := H2; clear H2; simp only [List.cons_append, List.nil_append, List.set_cons_zero, List.set_cons_succ, List.setIfInBounds_toArray] at H)
    | (go_at_call 33; refine (miss_yes _).mono ?_; rintro e w2 ⟨rfl, hb⟩; have H2 := H.call hb; clear H hb; have H := H2; clear H2))
  go_ret
  exact ⟨rfl, H.below⟩
theorem backP_arg (W : World) (own : Nat → Prop) (p : Nat) (s : FF) (N : Nat) (x : QParts) (h : QAt W own p s N x) (hN : N ≤ 2000) (q : PV) (hq : q.Fits) (hz : okP q = false) : Calls Try.prog 22 #[.pointer (some ⟨p, 0, none⟩), pv q] W fun e w' => e = .returned (.int .i64 2) ∧ Below W.heap.size W w' := by
  have H := Mem.start W
  have hnn := h.nn
  have km := fun w (hb : Below W.heap.size W w) => miss_no p s.n hnn.1 w ((h.below hb).box.cell 0)
  have kz := fun w => hasLen_p q w
  rw [hz] at kz
  clear h hz hq
  go_enter Try.func22, Try.ntmps22
  go_wp2_with (first
    | go_skip
    | go_skip
    | ((with_reducible show wpList _ _ _ _ _ (World.alloc _ (.cells _ _))); refine mem_new H ?_; intro w2 H2; clear H; have H := H2; clear H2; simp only [List.cons_append, List.nil_append, List.set_cons_zero, List.set_cons_succ, List.setIfInBounds_toArray] at H)
    | (go_at_call 33; refine (km _ H.below).mono ?_; rintro e w2 ⟨rfl, hb⟩; have H2 := H.call hb; clear H hb; have H := H2; clear H2)
    | ((with_reducible show wpList _ _ _ (⟨_, .load 37 _, _, _, _, _⟩ :: _) _ _); refine mem_load (i := 0) H (by first | exact wanted_none rfl | exact wanted_some rfl rfl rfl rfl) (by exact rfl) (by exact rfl) (by exact rfl) Try.underlying37 rfl (by exact pkInfo) ?_)
    | (go_at_call 39; refine (kz _).mono ?_; rintro e w2 ⟨rfl, hb⟩; have H2 := H.call hb; clear H hb; have H := H2; clear H2))
  go_ret
  exact ⟨rfl, H.below⟩
set_option maxHeartbeats 4000000 in
theorem backP_yes (W : World) (own : Nat → Prop) (p : Nat) (s : FF) (N : Nat) (x : QParts) (h : QAt W own p s N x) (hN : N ≤ 2000) (q : PV) (hq : q.Fits) (hz : okP q = true) : Calls Try.prog 22 #[.pointer (some ⟨p, 0, none⟩), pv q] W (DidF PAt10 W own p ⟨q :: s.l, s.n, s.b⟩ (N + 1) (.int .i64 0)) := by
  have H := Mem.start W
  have HD := Lib.hid h
  have hp := h.box.lt
  have hnn := h.nn
  obtain ⟨A1, a1, A2, a2, hv1, hv2, hl1, hm1, hl2, hm2, c0, c1, cb, cu, ch⟩ := h.cells
  obtain ⟨n1, hn1⟩ : ∃ n, x.B.length = n := ⟨_, rfl⟩
  obtain ⟨n2, hn2⟩ : ∃ n, x.U.length = n := ⟨_, rfl⟩
  have hlen := h.len2
  have hN2 := h.len
  rw [hn1, hn2] at hlen
  rw [hn1] at hv1 hl1 cb
  rw [hn2] at hv2 hl2 cu
  have HV1 := Lib.hid hv1
  have HV2 := Lib.hid hv2
  have HN1 := Lib.hid hn1
  have HN2 := Lib.hid hn2
  have HL := Lib.hid hlen
  have hqb := hq.len
  have h12 : n1 + n2 ≤ 2000 := by omega
  have hbd := sum_bd h.sz h.len (by omega)
  have kc := fun w (hb : Below W.heap.size W w) => count_p p A1 A2 n1 n2 a1 a2 (by omega) (by omega) w (h.below hb).box.lt (by rw [← HV1.out]; exact (h.below hb).box.cell 2) (by rw [← HV2.out]; exact (h.below hb).box.cell 3)
  have km := fun w (hb : Below W.heap.size W w) => miss_no p s.n hnn.1 w ((h.below hb).box.cell 0)
  have kz := fun w => hasLen_p q w
  have kb := fun w g hh => bytesOf_one q hq w g hh
  obtain ⟨S, hS1⟩ : ∃ S, Fi.bytes s.l = S := ⟨_, rfl⟩
  have HS := Lib.hid hS1
  rw [hS1] at hbd ch
  rw [hz] at kz
  have HZ := Lib.hid hz
  have HQ := Lib.hid hq
  have w1 : IntKind.i64.wrap (S + q.len) = S + q.len := wrap_id (by omega) (by omega)
  clear hz hS1
  clear h hv1 hv2 hn1 hn2 hlen hN2 hq
  go_enter Try.func22, Try.ntmps22
  go_upto_region 5 with (first
    | go_skip
    | ((with_reducible show wpList _ _ _ _ _ (World.alloc _ (.cells _ _))); refine mem_newb H ?_; intro bq w3 hbk H2; try rw [← hbk]; clear hbk H; have H := H2; clear H2; simp only [List.cons_append, List.nil_append, List.set_cons_zero, List.set_cons_succ, List.setIfInBounds_toArray] at H)
    | (go_at_call 33; refine (km _ H.below).mono ?_; rintro e w2 ⟨rfl, hb⟩; have H2 := H.call hb; clear H hb; have H := H2; clear H2)
    | ((with_reducible show wpList _ _ _ (⟨_, .load 37 _, _, _, _, _⟩ :: _) _ _); refine mem_load (i := 0) H (by first | exact wanted_none rfl | exact wanted_some rfl rfl rfl rfl) (by exact rfl) (by exact rfl) (by exact rfl) Try.underlying37 rfl (by exact pkInfo) ?_)
    | (go_at_call 39; refine (kz _).mono ?_; rintro e w2 ⟨rfl, hb⟩; have H2 := H.call hb; clear H hb; have H := H2; clear H2))
  clear km kz kc
  refine region_memk H 7 11 rfl (by kernel_rfl) (fun wr0 hcl hS => ?_)
  clear H
  refine wpAnyG_pure (i := 0) (v := .pointer (some ⟨p, 0, none⟩)) rfl rfl (by kernel_rfl) (by kernel_rfl) (by kernel_rfl) (fun _ _ _ h => h) (by decide) ⟨by rfl, fun w _ => (by go_simp; try (first | (simp only [IntKind.wrap_u32]; done) | rfl)), fun _ => rfl⟩ (.inr hS) ?_
  have hc1 := hcl.step (i := 0) (by kernel_rfl)
  clear hcl; have hcl := hc1; clear hc1; simp only [List.getElem_toArray, List.getElem_cons_zero, List.getElem_cons_succ, Act.put, List.setIfInBounds_toArray, List.set_cons_zero, List.set_cons_succ]
  refine wpAnyG_pure (i := 1) (v := .pointer (some ⟨p, 0, none⟩)) rfl rfl (by kernel_rfl) (by kernel_rfl) (by kernel_rfl) (fun _ _ _ h => h) (by decide) ⟨by rfl, fun w _ => (by go_simp; try (first | (simp only [IntKind.wrap_u32]; done) | rfl)), fun _ => rfl⟩ (.inr hS) ?_
  have hc1 := hcl.step (i := 1) (by kernel_rfl)
  clear hcl; have hcl := hc1; clear hc1; simp only [List.getElem_toArray, List.getElem_cons_zero, List.getElem_cons_succ, Act.put, List.setIfInBounds_toArray, List.set_cons_zero, List.set_cons_succ]
  refine wpAnyG_pure (i := 2) (v := .pointer (some ⟨p, 0, none⟩)) rfl rfl (by kernel_rfl) (by kernel_rfl) (by kernel_rfl) (fun _ _ _ h => h) (by decide) ⟨by rfl, fun w _ => (by go_simp; try (first | (simp only [IntKind.wrap_u32]; done) | rfl)), fun _ => rfl⟩ (.inr hS) ?_
  have hc1 := hcl.step (i := 2) (by kernel_rfl)
  clear hcl; have hcl := hc1; clear hc1; simp only [List.getElem_toArray, List.getElem_cons_zero, List.getElem_cons_succ, Act.put, List.setIfInBounds_toArray, List.set_cons_zero, List.set_cons_succ]
  refine wpAnyG_pure (i := 3) (v := .pointer (some ⟨p, 2, none⟩)) rfl rfl (by kernel_rfl) (by kernel_rfl) (by kernel_rfl) (fun _ _ _ h => h) (by decide) ⟨by rfl, fun w _ => (by go_simp; try (first | (simp only [IntKind.wrap_u32]; done) | rfl)), fun _ => rfl⟩ (.inr hS) ?_
  have hc1 := hcl.step (i := 3) (by kernel_rfl)
  clear hcl; have hcl := hc1; clear hc1; simp only [List.getElem_toArray, List.getElem_cons_zero, List.getElem_cons_succ, Act.put, List.setIfInBounds_toArray, List.set_cons_zero, List.set_cons_succ]
  refine wpAnyG_take (i := 4) 6 (v := .slice A1 n1 a1) rfl rfl (by kernel_rfl) (by kernel_rfl) (by kernel_rfl) (fun _ _ _ h => h) (by kernel_rfl) (by decide) hcl (yields_old cb hp (by exact rfl) (by exact rfl) (by exact rfl) (by first | exact Try.underlying32 | exact Try.underlying3 | exact Try.underlying41) rfl) hS (fun hc1 => ?_)
  clear hcl; have hcl := hc1; clear hc1; simp only [List.getElem_toArray, List.getElem_cons_zero, List.getElem_cons_succ, Act.put, List.setIfInBounds_toArray, List.set_cons_zero, List.set_cons_succ]
  refine wpAnyG_take (i := 5) 6 (v := pv q) rfl rfl (by kernel_rfl) (by kernel_rfl) (by kernel_rfl) (fun _ _ _ h => h) (by kernel_rfl) (by decide) hcl (yields_held (fun w h => h.at 0 rfl) (by exact rfl) (by exact rfl) (by exact rfl) Try.underlying37 rfl pkInfo) hS (fun hc1 => ?_)
  clear hcl; have hcl := hc1; clear hc1; simp only [List.getElem_toArray, List.getElem_cons_zero, List.getElem_cons_succ, Act.put, List.setIfInBounds_toArray, List.set_cons_zero, List.set_cons_succ]
  have hsz8 := hS.below.size
  have hbq8 := hS.held _ List.mem_cons_self
  refine wpAnyG_one (i := 6) (by kernel_rfl) rfl (fun K hK => ?_)
  go_simp
  refine hK _ _ (.inr (hS.skip _)) ?_
  clear hK K
  have hc1 := hcl.step (i := 6) (by kernel_rfl)
  clear hcl; have hcl := hc1; clear hc1
  refine wpAnyG_one (i := 7) (by kernel_rfl) rfl (fun K hK => ?_)
  have D8 := HD.out.ql.below (hS.skip (.cells #[.int .u32 q.id, .int .u32 q.len, .int .i64 q.prio, .int .i64 q.cpu, .int .u32 q.a, .int .u32 q.b, .int .u16 q.sp, .int .u16 q.dp, .int .u8 q.q] 37)).below
  refine wpIn_append_que (.tmp 14) (.tmp 16) rfl rfl (.slice A1 n1 a1) x.B [q] ⟨wr0.heap.size, 0, none⟩ 1 1 (by exact rfl) (by exact rfl) (by rw [← HV1.out]; exact D8.rb) rfl (fun j u hj => by rw [Addr.add_mid, Nat.zero_add]; rw [pvs_one] at hj; exact ((Held.new wr0 37 #[.int .u32 q.id, .int .u32 q.len, .int .i64 q.prio, .int .i64 q.cpu, .int .u32 q.a, .int .u32 q.b, .int .u16 q.sp, .int .u16 q.dp, .int .u8 q.q]).cell j).trans (by simpa using hj)) (by rw [HN1.out]; omega) ?_
  intro v' w7 hq7 hF7 hb7
  refine hK _ _ (.inl (by kernel_rfl)) ?_
  clear hK K
  have hnp : ¬ qb (.slice A1 n1 a1) p := fun e => (D8.ob p (by rw [HV1.out]; exact e)).2 rfl
  have b7 : Held w7 p 62 #[.int .i64 s.n, .int .i64 s.b, x.vb, x.vu, .int .i64 (Fi.bytes s.l)] := (hF7.block p D8.box.lt hnp).trans D8.box
  have hB7 := (hS.skip (.cells #[.int .u32 q.id, .int .u32 q.len, .int .i64 q.prio, .int .i64 q.cpu, .int .u32 q.a, .int .u32 q.b, .int .u16 q.sp, .int .u16 q.dp, .int .u8 q.q] 37)).below
  have hbq7 : Held w7 bq 37 #[.int .u32 q.id, .int .u32 q.len, .int .i64 q.prio, .int .i64 q.cpu, .int .u32 q.a, .int .u32 q.b, .int .u16 q.sp, .int .u16 q.dp, .int .u8 q.q] := (hF7.block bq (by rw [World.size_alloc]; exact Nat.lt_succ_of_lt hbq8.2.lt) (fun e => by have := HD.out.lt bq (HD.out.ob bq (by rw [HV1.out]; exact e)).1; have := hbq8.1; omega)).trans (hbq8.2.alloc _)
  have hbqp : bq ≠ p := fun e => by have := hbq8.1; omega
  clear hS hbq8
  generalize hwA : wr0.alloc (.cells #[.int .u32 q.id, .int .u32 q.len, .int .i64 q.prio, .int .i64 q.cpu, .int .u32 q.a, .int .u32 q.b, .int .u16 q.sp, .int .u16 q.dp, .int .u8 q.q] 37) = wA at hF7 hb7 D8 hB7
  clear hwA
  have hX := D8.setB (by rw [HV1.out]; exact hF7) hq7 (by rw [HV1.out]; exact hb7)
  obtain ⟨X, hX⟩ := hX
  obtain ⟨A', c', hve, _, _⟩ := hq7.shape
  have hone : v'.oneCell' = true := by rw [hve]; rfl
  have HOW := Lib.hid (fun i (h1 : qb v' i) => (hb7 i h1).elim (fun h2 => Or.inl (D8.ob i (by rw [HV1.out]; exact h2)).1) (fun h2 => Or.inr (Nat.le_trans hB7.size h2)) : ∀ i, qb v' i → own i ∨ W.heap.size ≤ i)
  have HX := Lib.hid X
  have HFX := Lib.hid ((Foot.of_below (B := own) hB7).trans' hX)
  have hszX : W.heap.size ≤ w7.heap.size := Nat.le_trans hB7.size hF7.size
  clear X hX hve hb7 hF7 hq7 D8 hB7
  refine wpAnyG_one (i := 8) (by kernel_rfl) rfl (fun K hK => ?_)
  go_simp
  refine hK _ _ (.inl (by kernel_rfl)) ?_
  clear hK K
  refine wpAnyG_one (i := 9) (by kernel_rfl) rfl (fun K hK => ?_)
  go_simp
  refine hK _ _ (.inl (by kernel_rfl)) ?_
  clear hK K
  refine wpAnyG_one (i := 10) (by kernel_rfl) rfl (fun K hK => ?_)
  refine wpIn_store_old (b := p) (j := 2) (v := v') (v0 := x.vb) (b7.cell 2) (b7.frozen 2) rfl (by exact rfl) (by exact rfl) (by exact pslInfo) hone ?_
  refine hK _ _ (.inl (by kernel_rfl)) ?_
  clear hK K
  refine wpAnyG_done (by kernel_rfl) ?_ _
  have HB9 := hbq7.other (b' := p) hbqp 2 v'
  clear b7 hbq7 hone hnp hsz8 cb cu ch c0 c1 hp
  have ch := HX.out.box.cell 4
  simp only [List.getElem?_toArray, List.getElem?_cons_zero, List.getElem?_cons_succ, HS.out] at ch
  have hp := HX.out.box.lt
  have hsz9 : W.heap.size ≤ (w7.setCell ⟨p, 2, none⟩ v').heap.size := by rw [size_setCell]; exact hszX
  obtain ⟨W9, hW9⟩ : ∃ W9, w7.setCell ⟨p, 2, none⟩ v' = W9 := ⟨_, rfl⟩
  rw [hW9] at ch hp hsz9 HX HFX HB9 ⊢
  clear hW9 hszX hbqp
  have H := Mem.start W9
  have HSZ := Lib.hid hsz9
  clear hsz9
  go_upto_region 6 with (fail)
  refine region_memk H 10 11 rfl (by kernel_rfl) (fun wr0 hcl hS => ?_)
  clear H
  refine wpAnyG_pure (i := 0) (v := .pointer (some ⟨p, 0, none⟩)) rfl rfl (by kernel_rfl) (by kernel_rfl) (by kernel_rfl) (fun _ _ _ h => h) (by decide) ⟨by rfl, fun w _ => (by go_simp; try (first | (simp only [IntKind.wrap_u32]; done) | rfl)), fun _ => rfl⟩ (.inr hS) ?_
  have hc1 := hcl.step (i := 0) (by kernel_rfl)
  clear hcl; have hcl := hc1; clear hc1; simp only [List.getElem_toArray, List.getElem_cons_zero, List.getElem_cons_succ, Act.put, List.setIfInBounds_toArray, List.set_cons_zero, List.set_cons_succ]
  refine wpAnyG_pure (i := 1) (v := .pointer (some ⟨p, 0, none⟩)) rfl rfl (by kernel_rfl) (by kernel_rfl) (by kernel_rfl) (fun _ _ _ h => h) (by decide) ⟨by rfl, fun w _ => (by go_simp; try (first | (simp only [IntKind.wrap_u32]; done) | rfl)), fun _ => rfl⟩ (.inr hS) ?_
  have hc1 := hcl.step (i := 1) (by kernel_rfl)
  clear hcl; have hcl := hc1; clear hc1; simp only [List.getElem_toArray, List.getElem_cons_zero, List.getElem_cons_succ, Act.put, List.setIfInBounds_toArray, List.set_cons_zero, List.set_cons_succ]
  refine wpAnyG_pure (i := 2) (v := .pointer (some ⟨p, 4, none⟩)) rfl rfl (by kernel_rfl) (by kernel_rfl) (by kernel_rfl) (fun _ _ _ h => h) (by decide) ⟨by rfl, fun w _ => (by go_simp; try (first | (simp only [IntKind.wrap_u32]; done) | rfl)), fun _ => rfl⟩ (.inr hS) ?_
  have hc1 := hcl.step (i := 2) (by kernel_rfl)
  clear hcl; have hcl := hc1; clear hc1; simp only [List.getElem_toArray, List.getElem_cons_zero, List.getElem_cons_succ, Act.put, List.setIfInBounds_toArray, List.set_cons_zero, List.set_cons_succ]
  refine wpAnyG_take (i := 3) 6 (v := .int .i64 S) rfl rfl (by kernel_rfl) (by kernel_rfl) (by kernel_rfl) (fun _ _ _ h => h) (by kernel_rfl) (by decide) hcl (yields_old ch hp (by exact rfl) (by exact rfl) (by exact rfl) (by first | exact Try.underlying32 | exact Try.underlying3 | exact Try.underlying41) rfl) hS (fun hc1 => ?_)
  clear hcl; have hcl := hc1; clear hc1; simp only [List.getElem_toArray, List.getElem_cons_zero, List.getElem_cons_succ, Act.put, List.setIfInBounds_toArray, List.set_cons_zero, List.set_cons_succ]
  refine wpAnyG_take (i := 4) 6 (v := pv q) rfl rfl (by kernel_rfl) (by kernel_rfl) (by kernel_rfl) (fun _ _ _ h => h) (by kernel_rfl) (by decide) hcl (yields_held (fun w h => HB9.below h.below HB9.lt) (by exact rfl) (by exact rfl) (by exact rfl) Try.underlying37 rfl pkInfo) hS (fun hc1 => ?_)
  clear hcl; have hcl := hc1; clear hc1; simp only [List.getElem_toArray, List.getElem_cons_zero, List.getElem_cons_succ, Act.put, List.setIfInBounds_toArray, List.set_cons_zero, List.set_cons_succ]
  refine wpAnyG_one (i := 5) (by kernel_rfl) rfl (fun K hK => ?_)
  go_simp
  refine hK _ _ (.inr (hS.skip _)) ?_
  clear hK K
  have hc1 := hcl.step (i := 5) (by kernel_rfl)
  clear hcl; have hcl := hc1; clear hc1
  have hN := hS.alloc 37 #[.int .u32 q.id, .int .u32 q.len, .int .i64 q.prio, .int .i64 q.cpu, .int .u32 q.a, .int .u32 q.b, .int .u16 q.sp, .int .u16 q.dp, .int .u8 q.q]
  have hS5 := hS.skip (.cells #[.int .u32 q.id, .int .u32 q.len, .int .i64 q.prio, .int .i64 q.cpu, .int .u32 q.a, .int .u32 q.b, .int .u16 q.sp, .int .u16 q.dp, .int .u8 q.q] 37)
  clear hS
  generalize hbN : wr0.heap.size = bN at hN ⊢
  clear hbN
  generalize wr0.alloc (.cells #[.int .u32 q.id, .int .u32 q.len, .int .i64 q.prio, .int .i64 q.cpu, .int .u32 q.a, .int .u32 q.b, .int .u16 q.sp, .int .u16 q.dp, .int .u8 q.q] 37) = w6 at hN hS5 ⊢
  have hS := hS5
  clear hS5
  simp only [List.cons_append, List.nil_append] at hN
  refine wpAnyG_one (i := 6) (by kernel_rfl) rfl (fun K hK => ?_)
  go_simp
  refine ⟨trivial, (callsIn_wide.2 (kb _ _ (hN.at 0 rfl))).mono ?_⟩
  rintro e w5 ⟨rfl, hb⟩
  have hS5 := hS.call hb
  have hN5 := hN.call hb
  clear hb hS hN
  have hS := hS5
  clear hS5
  have hN := hN5
  clear hN5
  refine hK _ _ (.inr hS) ?_
  clear hK K
  have hc1 := hcl.step (i := 6) (by kernel_rfl)
  clear hcl; have hcl := hc1; clear hc1
  refine wpAnyG_pure (i := 7) (v := .int .i64 (S + q.len)) rfl rfl (by kernel_rfl) (by kernel_rfl) (by kernel_rfl) (fun _ _ _ h => h) (by decide) ⟨by rfl, fun w _ => (by go_simp; try (first | exact w1 | rfl)), fun _ => rfl⟩ (.inr hS) ?_
  have hc1 := hcl.step (i := 7) (by kernel_rfl)
  clear hcl; have hcl := hc1; clear hc1; simp only [List.getElem_toArray, List.getElem_cons_zero, List.getElem_cons_succ, Act.put, List.setIfInBounds_toArray, List.set_cons_zero, List.set_cons_succ]
  refine wpAnyG_one (i := 8) (by kernel_rfl) rfl (fun K hK => ?_)
  go_simp
  refine hK _ _ (.inr hS) ?_
  clear hK K
  refine wpAnyG_one (i := 9) (by kernel_rfl) rfl (fun K hK => ?_)
  go_simp
  refine hK _ _ (.inr hS) ?_
  clear hK K
  refine wpAnyG_one (i := 10) (by kernel_rfl) rfl (fun K hK => ?_)
  have D9 := HX.out.below hS.below
  have F9 := HFX.out.trans' (Foot.of_below (B := own) hS.below)
  have b9 := D9.box.cell 4
  have f9 := D9.box.frozen 4
  refine wpIn_store_old (b := p) (j := 4) (v := .int .i64 (S + q.len)) b9 f9 rfl (by exact rfl) (by exact rfl) (by exact intInfo) rfl ?_
  refine hK _ _ (.inl (by kernel_rfl)) ?_
  clear hK K
  refine wpAnyG_done (by kernel_rfl) ?_ _
  obtain ⟨DL, FL⟩ := D9.setH (S + q.len)
  have HDL := Lib.hid DL
  have HFL := Lib.hid (And.intro F9 FL)
  clear D9 F9 b9 f9 DL FL hS hN hcl
  go_wp2
  go_ret
  refine ⟨rfl, ⟨_, ⟨_, HDL.out.at (s := ⟨q :: s.l, s.n, s.b⟩) ?_ ?_ ?_ HD.out.ok ?_ ?_⟩, fun i hi => hi.elim (fun h1 => .inl h1) (fun h1 => HOW.out i h1)⟩, ?_⟩
  · show S + q.len = Fi.bytes (q :: s.l)
    rw [bytes_cons, HS.out]
    omega
  · show q :: s.l = (x.B ++ [q]).reverse ++ x.U
    rw [HD.out.eq, List.reverse_append]
    rfl
  · have := HD.out.len
    simp only [List.length_append, List.length_cons, List.length_nil]
    omega
  · intro y hy
    rcases List.mem_cons.1 hy with hy | hy
    · rw [hy]; exact HQ.out
    · exact HD.out.fits y hy
  · intro y hy
    have hsz : okP q = true := HZ.out
    have hq1 : 1 ≤ q.len ∧ q.len ≤ 65535 := by simpa [okP] using hsz
    rcases List.mem_cons.1 hy with hy | hy
    · rw [hy]; exact hq1
    · exact HD.out.sz y hy
  · exact HFL.out.1.trans HFL.out.2 (fun i hi e => by
      rcases e with e | e
      · exact e
      · exact (HOW.out i e).elim id (fun h => by omega))
theorem putP_d (W : World) (own : Nat → Prop) (p : Nat) (s : FF) (N : Nat) (h : PAt10 W own p s N) (hN : N ≤ 2000) (q : PV) (hq : q.Fits) : Calls Try.prog 21 #[.pointer (some ⟨p, 0, none⟩), pv q] W (DidF PAt10 W own p (putS s q) (N + 1) (.int .i64 (putE s q))) := by
  obtain ⟨x, h⟩ := h
  have same : ∀ {E : Int} {e : Ending} {w' : World}, putE s q = E → E ≠ 0 → e = .returned (.int .i64 E) ∧ Below W.heap.size W w' → DidF PAt10 W own p (putS s q) (N + 1) (.int .i64 (putE s q)) e w' := fun hE h0 ⟨he, hb⟩ => by
    rw [putS, hE, if_neg h0]
    exact ⟨he, ⟨own, ⟨x, (h.below hb).mono (by omega)⟩, fun i hi => .inl hi⟩, Foot.of_below hb⟩
  cases hz : okP q with
  | false => exact (putP_arg W own p s N x h hN q hq hz).mono fun e w' hh => same (E := 2) (by rw [putE, if_pos hz]) (by decide) hh
  | true =>
    by_cases hE : putE s q = 0
    · rw [putS, hE, if_pos rfl]
      exact putP_yes W own p s N x h hN q hq hz hE
    · exact (putP_no W own p s N x h hN q hq hz _ rfl hE).mono fun e w' hh => same rfl hE hh
theorem backP_d (W : World) (own : Nat → Prop) (p : Nat) (s : FF) (N : Nat) (h : PAt10 W own p s N) (hN : N ≤ 2000) (q : PV) (hq : q.Fits) : Calls Try.prog 22 #[.pointer (some ⟨p, 0, none⟩), pv q] W (DidF PAt10 W own p (backS s q) (N + 1) (.int .i64 (backE q))) := by
  obtain ⟨x, h⟩ := h
  cases hz : okP q with
  | false =>
    have hE : backE q = 2 := by rw [backE, if_pos hz]
    refine (backP_arg W own p s N x h hN q hq hz).mono ?_
    rintro e w' ⟨rfl, hb⟩
    rw [backS, hE, if_neg (by decide)]
    exact ⟨rfl, ⟨own, ⟨x, (h.below hb).mono (by omega)⟩, fun i hi => .inl hi⟩, Foot.of_below hb⟩
  | true =>
    have hE : backE q = 0 := by rw [backE, if_neg (by rw [hz]; decide)]
    rw [backS, hE, if_pos rfl]
    exact backP_yes W own p s N x h hN q hq hz
end Go.Proofs.Ytlnlkodpndjimaa.Fi
end
/- The program's visit of two lists of packets, one by one. Conditions: the boxes hold the lists; the lists lie where their slices say. -/
section
namespace Go.Proofs.Ytlnlkodpndjimaa.Fi
set_option linter.unusedSimpArgs false
set_option linter.unusedVariables false
set_option maxRecDepth 100000
attribute [local go_sem] Oper.semAt_some
open Go.ChangeShapes Go.WideShapes Go.ChangeAt Go.RowKit Go.Maps Go.Shelf

section
variable {F : Fence} {n : Nat} {P : Program} {ops : Array Oper} {rest : List Oper} {o : Oper} {a : Act} {w : World} {Q : Exit → Act → World → Prop}
/-- a struct is read out of the middle of a block, inside a fence -/
theorem load_midI {b off : Nat} {ty : TypeId} {cs : List Value} {x : Operand} {d : TypeDesc} (hc : w.rangeAt b off cs) (hw : Region.wanted o (yielded ops a.tmps) = true) (ho : o.op = .load ty x) (hx : opnd a x = some (.pointer (some ⟨b, off, none⟩)))
    (hu : P.underlying ty = some d) (hd : d.isRow = true) (hi : (P.info? ty).map (·.size) = some cs.length)
    (h : wpListIn F n P ops Q rest (a.put o.dst (.agg cs.toArray)) w) : wpListIn F n P ops Q (o :: rest) a w := by
  refine wpListIn_wanted hw fun K hK => ⟨by simp [Oper.about, ho], ?_⟩
  rw [Oper.semAt_plain F _ _ (by rw [ho]; intro c hc'; cases hc')]
  unfold execOp
  simp only [ho, opnd_eval hx, Instr.loadAt, Instr.sureAddr, Sem.run_bind, Sem.run_pure, Result.andThen_ok, run_loadVar_mid w b off ty cs d hc hu hd hi]
  exact hK _ _ h
/-- an append to a row of packets, inside a fence -/
theorem wpListIn_append_que (hgd : o.guard = none) (s x : Operand) (hop : o.op = Op.call { callee := Callee.builtin Builtin.append, args := #[s, x], argTypes := #[41, 41] }) (hty : o.type = 41) (v : Value) (l l2 : List PV) (ad : Addr) (m c : Nat) (hs : opnd a s = some v) (hx : opnd a x = some (.slice (some ad) m c)) (hq : Que w v l) (hm : l2.length = m) (hnews : ∀ j u, (pvs l2)[j]? = some u → w.cell? (ad.add j) = some u) (h5 : l.length + m ≤ 100000)
    (h : ∀ v' w', Que w' v' (l ++ l2) → Foot (qb v) w w' → (∀ i, qb v' i → qb v i ∨ w.heap.size ≤ i) → wpListIn F n Try.prog ops Q rest (a.put o.dst v') w') : wpListIn F n Try.prog ops Q (o :: rest) a w :=
  wpListIn_plain hgd fun K hK => wpIn_append_que s x hop hty v l l2 ad m c hs hx hq hm hnews h5 fun v' w' h1 h2 h3 => hK _ _ (h v' w' h1 h2 h3)
end
/-- what a round keeps: all that lay there ahead of the call, and the iterator's boxes -/
def KeepsTwo (n₁ b1 b2 : Nat) (W W' : World) : Prop := ∀ k, k < n₁ ∨ k = b1 ∨ k = b2 → W'.heap[k]? = W.heap[k]?
theorem KeepsTwo.trans {n₁ b1 b2 : Nat} {A B C : World} (h : KeepsTwo n₁ b1 b2 A B) (k : KeepsTwo n₁ b1 b2 B C) : KeepsTwo n₁ b1 b2 A C := fun i hi => (k i hi).trans (h i hi)
theorem KeepsTwo.below {n₁ b1 b2 B : Nat} {X Y : World} (h : Below B X Y) (h1 : n₁ ≤ B) (h2 : b1 < B) (h3 : b2 < B) : KeepsTwo n₁ b1 b2 X Y := fun k hk => h.block k (by rcases hk with h | h | h <;> omega)
theorem KeepsTwo.foot {n₁ b1 b2 : Nat} {B : Nat → Prop} {X Y : World} (h : Foot B X Y) (h0 : ∀ i, B i → n₁ ≤ i ∧ i ≠ b1 ∧ i ≠ b2) (h3 : n₁ ≤ X.heap.size) (h4 : b1 < X.heap.size) (h5 : b2 < X.heap.size) : KeepsTwo n₁ b1 b2 X Y := fun k hk => h.block k (by rcases hk with h | h | h <;> omega) (fun hb => by have := h0 k hb; omega)
/-- the k-th -/
def pAt (C : List PV) (k : Nat) : PV := C.getD k pv0
theorem pAt_of {C : List PV} {k : Nat} {y : PV} (h : C[k]? = some y) : pAt C k = y := by rw [pAt, List.getD_eq_getElem?_getD, h]; rfl
abbrev encP (C : List PV) (k : Nat) : Array Value := #[pv (pAt C k)]
def AnsweredP (n₁ b1 b2 n₂ : Nat) (J Jx : Nat → World → Prop) (k : Nat) (V : World) (y : Bool) (V' : World) : Prop := (y = true → J (k + 1) V' ∧ KeepsTwo n₁ b1 b2 V V' ∧ n₂ ≤ V'.heap.size) ∧ (y = false → Jx k V')
theorem answeredP (n₁ b1 b2 n₂ : Nat) (J Jx : Nat → World → Prop) (k : Nat) (V : World) : ∀ (e : Ending) (V' : World), ((e = .returned (.bool true) ∧ J (k + 1) V' ∧ KeepsTwo n₁ b1 b2 V V' ∧ n₂ ≤ V'.heap.size) ∨ (e = .returned (.bool false) ∧ Jx k V')) → ∃ y, e = .returned (.bool y) ∧ AnsweredP n₁ b1 b2 n₂ J Jx k V y V' := by
  rintro e V' (⟨rfl, h1, h2⟩ | ⟨rfl, h1⟩)
  · exact ⟨true, rfl, fun _ => ⟨h1, h2⟩, (fun h => by cases h)⟩
  · exact ⟨false, rfl, (fun h => by cases h), fun _ => h1⟩
theorem results_none {fn : Func} (h : fn.results = #[]) (tmps : Array Value) (P : Program) (w : World) : (results fn tmps).run P w = .ok (.tuple #[]) w := by
  simp [results, h, go_sem]
/-- the boxes and the rows of a visit -/
structure VisAt (W : World) (b1 b2 : Nat) (A1 : Option Addr) (n1 a1 : Nat) (A2 : Option Addr) (n2 a2 : Nat) (D U : List PV) : Prop where
  g1 : Held W b1 41 #[.slice A1 n1 a1]
  g2 : Held W b2 41 #[.slice A2 n2 a2]
  q1 : Que W (.slice A1 n1 a1) D
  q2 : Que W (.slice A2 n2 a2) U
theorem VisAt.below {W W' : World} {b1 b2 : Nat} {A1 : Option Addr} {n1 a1 : Nat} {A2 : Option Addr} {n2 a2 : Nat} {D U : List PV} (h : VisAt W b1 b2 A1 n1 a1 A2 n2 a2 D U) (hb : Below W.heap.size W W') : VisAt W' b1 b2 A1 n1 a1 A2 n2 a2 D U :=
  ⟨h.g1.below hb h.g1.lt, h.g2.below hb h.g2.lt, h.q1.on fun i hi => hb.block i (h.q1.lt hi), h.q2.on fun i hi => hb.block i (h.q2.lt hi)⟩
theorem VisAt.keep {W W' : World} {b1 b2 n₁ : Nat} {A1 : Option Addr} {n1 a1 : Nat} {A2 : Option Addr} {n2 a2 : Nat} {D U : List PV} (h : VisAt W b1 b2 A1 n1 a1 A2 n2 a2 D U) (hk : KeepsTwo n₁ b1 b2 W W') (h1 : ∀ i, qb (.slice A1 n1 a1) i → i < n₁) (h2 : ∀ i, qb (.slice A2 n2 a2) i → i < n₁) : VisAt W' b1 b2 A1 n1 a1 A2 n2 a2 D U :=
  ⟨(hk b1 (.inr (.inl rfl))).trans h.g1, (hk b2 (.inr (.inr rfl))).trans h.g2, h.q1.on fun i hi => hk i (.inl (h1 i hi)), h.q2.on fun i hi => hk i (.inl (h2 i hi))⟩
set_option maxHeartbeats 4000000 in
theorem visit_num (n : Nat) (hn : 2 ≤ n) (b1 b2 n₁ : Nat) (A1 : Option Addr) (n1 a1 : Nat) (A2 : Option Addr) (n2 a2 : Nat) (D U : List PV) (w : World) (hn₁ : n₁ ≤ w.heap.size) (hv : VisAt w b1 b2 A1 n1 a1 A2 n2 a2 D U) (hD : D.length = n1) (hU : U.length = n2) (h1 : n1 ≤ 5000) (h2 : n2 ≤ 5000) (hc1 : n1 ≤ a1) (hc2 : n2 ≤ a2) (hm1 : a1 ≤ maxLen) (hm2 : a2 ≤ maxLen) (hq1 : ∀ i, qb (.slice A1 n1 a1) i → i < n₁) (hq2 : ∀ i, qb (.slice A2 n2 a2) i → i < n₁) :
    SeqGrow Fence.wide n Try.prog 44 #[.pointer (some ⟨b1, 0, none⟩), .pointer (some ⟨b2, 0, none⟩)] (encP (D.reverse ++ U)) (KeepsTwo n₁ b1 b2) (D.reverse ++ U).length w := by
  intro L J Jx W hW hJ hJx hY h0
  have G0 := hv.below (hW.mono (Nat.le_refl _))
  have hb1 : b1 < W.heap.size := G0.g1.lt
  have hb2 : b2 < W.heap.size := G0.g2.lt
  have hn₂ : n₁ ≤ W.heap.size := Nat.le_trans hn₁ hW.size
  unfold maxLen at hm1 hm2
  have HY := Lib.hid hY
  have HJ := Lib.hid hJ
  have HD := Lib.hid hD
  have HU := Lib.hid hU
  have HQ := Lib.hid (And.intro hq1 hq2)
  have cx : W.cell? ⟨b1, 0, none⟩ = some (.slice A1 n1 a1) := G0.g1.cell 0
  have HG := Lib.hid G0
  have hlen : (D.reverse ++ U).length = n1 + n2 := by simp [hD, hU]
  obtain ⟨C, hC⟩ : ∃ C, D.reverse ++ U = C := ⟨_, rfl⟩
  rw [hC] at HY hlen ⊢
  have HC := Lib.hid hC
  have HLN := Lib.hid hlen
  have H00 := Lib.hid h0
  clear hv hW hY hJ hJx hn₁ G0 hD hU hq1 hq2 hC hlen h0
  refine callsIn_of_wp Try.func44 rfl trivial ?_ rfl
  simp only [Try.ntmps44, List.size_toArray, List.length_cons, List.length_nil, Nat.reduceAdd, Nat.reduceSub, Array.replicate_succ, Array.replicate_zero, List.push_toArray, List.append_toArray, List.nil_append, List.cons_append]
  gi_wp2
  clear cx
  gi_loopw [9] (fun i wr => ∃ k : Nat, k ≤ n1 ∧ i = .int .i64 k ∧ Hid (VisAt wr b1 b2 A1 n1 a1 A2 n2 a2 D U) ∧ W.heap.size ≤ wr.heap.size ∧ Hid (J k wr)) (fun i _ => n1 - (intOf i).toNat)
  case atStart => exact ⟨0, Nat.zero_le _, rfl, HG, Nat.le_refl _, H00⟩
  case round =>
    clear HG H00
    obtain ⟨k, hk, rfl, hG, hsz, hJ⟩ := hrel
    by_cases hlt : k < n1
    · obtain ⟨j, hj⟩ : ∃ j, n1 = j + k + 1 := ⟨n1 - 1 - k, by omega⟩
      obtain ⟨y, hy⟩ : ∃ y, D[j]? = some y := ⟨D[j]'(by have := HD.out; omega), List.getElem?_eq_getElem _⟩
      obtain ⟨g, off, hA, hg, hc⟩ := hG.out.q1.at hy
      have r1 := range9 hc
      have c1 := hG.out.g1.cell 0
      simp only [List.getElem?_toArray, List.getElem?_cons_zero] at c1
      have hYk := HY.out k wr (by rw [HLN.out]; omega) hJ.out hsz
      have eenc : encP C k = #[pv y] := by
        have e1 : C[k]? = some y := by
          rw [← HC.out, List.getElem?_append_left (by rw [List.length_reverse, HD.out]; exact hlt), List.getElem?_reverse (by rw [HD.out]; exact hlt), HD.out, show n1 - 1 - k = j by omega]
          exact hy
        rw [encP, pAt_of e1]
      rw [eenc] at hYk
      subst hA
      obtain ⟨fn, tmps, assign, body, hyy, hR0⟩ := hYk
      have hR := hR0.mono (answeredP n₁ b1 b2 W.heap.size J Jx k _)
      have w1 : IntKind.i64.wrap ((n1 : Int) - 1) = (n1 : Int) - 1 := wrap_id (by omega) (by omega)
      have w2 : IntKind.i64.wrap ((n1 : Int) - 1 - (k : Int)) = (j : Int) := by rw [wrap_id (by omega) (by omega)]; omega
      have hjn : j < n1 := by omega
      clear hR0 hy hc eenc hJ hj
      gi_wp2_with (first | ((with_reducible show wpListIn _ _ _ _ _ (⟨_, .load 37 _, _, _, _, _⟩ :: _) _ _); refine load_midI r1 (by first | exact wanted_none rfl | exact wanted_some rfl rfl rfl rfl) (by exact rfl) (by exact rfl) Try.underlying37 rfl (by exact pkInfo) ?_))
      refine ⟨fun _ => by omega, hR.mono ?_⟩
      rintro e W3 ⟨v, rfl, hA⟩
      cases v
      · have hJx3 := hA.2 rfl
        gi_wp2
        refine bodyPost_ret (results_none rfl _ _ _) rfl ?_
        exact ⟨⟨_, rfl⟩, .inr ⟨k, by rw [HLN.out]; omega, hJx3⟩⟩
      · obtain ⟨hJ3, hk3, hs3⟩ := hA.1 rfl
        have hG3 := Lib.hid (hG.out.keep hk3 HQ.out.1 HQ.out.2)
        have hJ4 := Lib.hid hJ3
        clear hG hJ3 hk3 hA
        gi_wp2
        go_roundw
        case rel => exact ⟨k + 1, by omega, by go_num, hG3, hs3, hJ4⟩
        case measure => simp [intOf]; omega
    · obtain rfl : k = n1 := by omega
      have c2 := hG.out.g2.cell 0
      simp only [List.getElem?_toArray, List.getElem?_cons_zero] at c2
      gi_wp2
      clear c2
      gi_loopw [26] (fun i wr => ∃ j : Nat, j ≤ n2 ∧ i = .int .i64 j ∧ Hid (VisAt wr b1 b2 A1 k a1 A2 n2 a2 D U) ∧ W.heap.size ≤ wr.heap.size ∧ Hid (J (k + j) wr)) (fun i _ => n2 - (intOf i).toNat)
      case atStart => exact ⟨0, Nat.zero_le _, rfl, hG, hsz, hJ⟩
      case round =>
        clear hG hsz hJ
        rename_i wr0
        clear wr0
        obtain ⟨j, hj, rfl, hG, hsz, hJ⟩ := hrel
        by_cases hlt2 : j < n2
        · obtain ⟨y, hy⟩ : ∃ y, U[j]? = some y := ⟨U[j]'(by have := HU.out; omega), List.getElem?_eq_getElem _⟩
          obtain ⟨g, off, hA, hg, hc⟩ := hG.out.q2.at hy
          have r1 := range9 hc
          have eenc : encP C (k + j) = #[pv y] := by
            have e1 : C[k + j]? = some y := by
              rw [← HC.out, List.getElem?_append_right (by rw [List.length_reverse, HD.out]; omega), List.length_reverse, HD.out, Nat.add_sub_cancel_left]
              exact hy
            rw [encP, pAt_of e1]
          have hYk : ∀ X, Below wr.heap.size wr X → YieldAt _ _ _ L (encP C (k + j)) X _ := fun X hX => HY.out (k + j) X (by rw [HLN.out]; omega) (HJ.out _ _ _ hJ.out hX) (Nat.le_trans hsz hX.size)
          rw [eenc] at hYk
          subst hA
          have HYK := Lib.hid hYk
          clear hy hc eenc hJ hYk
          have h9 : Held (wr.alloc (.cells (pvCs pv0).toArray 37)) wr.heap.size 37 (pvCs pv0).toArray := Held.new _ _ _
          have b9 : Below wr.heap.size wr (wr.alloc (.cells (pvCs pv0).toArray 37)) := (Below.refl _ _).alloc (Nat.le_refl _) _
          gi_wp2_with (first | ((with_reducible show wpListIn _ _ _ _ _ (⟨_, .load 37 _, _, _, _, _⟩ :: _) _ _); refine load_midI r1 (by first | exact wanted_none rfl | exact wanted_some rfl rfl rfl rfl) (by exact rfl) (by exact rfl) Try.underlying37 rfl (by exact pkInfo) ?_) | ((with_reducible show wpListIn _ _ _ _ _ (⟨_, .store 37 _ _, _, _, _, _⟩ :: _) _ _); refine store_heldI h9 (by first | exact wanted_none rfl | exact wanted_some rfl rfl rfl rfl) (by exact rfl) (by exact rfl) (by exact rfl) (by exact pkInfo) (by exact rfl) (by exact rfl) ?_; intro w9 h9' F9; have hB9 := Lib.hid (b9.trans (F9.below (n := wr.heap.size) (by rw [World.size_alloc]; omega) (fun i hi => Nat.le_of_eq hi.symm))); obtain ⟨fn, tmps, assign, body, hyy, hR0⟩ := HYK.out w9 hB9.out; have hR := hR0.mono (answeredP n₁ b1 b2 W.heap.size J Jx (k + j) _); clear hR0) | ((with_reducible show wpListIn _ _ _ _ _ (⟨_, .load 37 _, _, _, _, _⟩ :: _) _ _); refine load_heldI h9' (by first | exact wanted_none rfl | exact wanted_some rfl rfl rfl rfl) (by exact rfl) (by exact rfl) Try.underlying37 rfl (by exact pkInfo) ?_))
          refine ⟨fun _ => by omega, hR.mono ?_⟩
          rintro e W3 ⟨v, rfl, hA⟩
          cases v
          · have hJx3 := hA.2 rfl
            gi_wp2
            refine bodyPost_ret (results_none rfl _ _ _) rfl ?_
            exact ⟨⟨_, rfl⟩, .inr ⟨k + j, by rw [HLN.out]; omega, hJx3⟩⟩
          · obtain ⟨hJ3, hk3, hs3⟩ := hA.1 rfl
            have hG3 := Lib.hid ((hG.out.below hB9.out).keep hk3 HQ.out.1 HQ.out.2)
            have hJ4 := Lib.hid hJ3
            clear hG hJ3 hk3 hA
            gi_wp2
            go_roundw
            case rel => exact ⟨j + 1, by omega, by go_num, hG3, hs3, hJ4⟩
            case measure => simp [intOf]; omega
        · obtain rfl : j = n2 := by omega
          have HF := Lib.hid (show J C.length wr from by rw [HLN.out]; exact hJ.out)
          clear hJ
          gi_wp2
          go_end0
          exact ⟨⟨_, rfl⟩, .inl HF.out⟩
end Go.Proofs.Ytlnlkodpndjimaa.Fi
end
