/-
  The program's Put of fifos. Conditions: the fifo lies where its pointer says, two thousand packets at most. The program's Put, where it puts, and Back of fifos. Conditions: the fifo lies where its pointer says, two thousand packets at most.
-/
import Derived.Test.YtlnlkodpndjimaaMGf
/- The program's Put of fifos. Conditions: the fifo lies where its pointer says, two thousand packets at most. -/
section
namespace Go.Proofs.Ytlnlkodpndjimaa.Fi
set_option linter.unusedSimpArgs false
set_option linter.unusedVariables false
set_option maxRecDepth 100000
open Go.ChangeShapes Go.WideShapes Go.ChangeAt Go.RowKit

theorem putP_nil (q : PV) (W : World) (hq : q.Fits) : Calls Try.prog 21 #[.pointer none, pv q] W fun e w' => e = .returned (.int .i64 1) ∧ Below W.heap.size W w' := by
  have H := Mem.start W
  go_enter Try.func21, Try.ntmps21
  go_wp2_with (first
    | go_skip
    | go_skip
    | ((with_reducible show wpList _ _ _ _ _ (World.alloc _ (.cells _ _))); refine mem_new H ?_; intro w2 H2; clear H; have H := H2; clear H2; simp only [List.cons_append, List.nil_append, List.set_cons_zero, List.set_cons_succ, List.setIfInBounds_toArray] at H)
    | (go_at_call 33; refine (miss_yes _).mono ?_; rintro e w2 ⟨rfl, hb⟩; have H2 := H.call hb; clear H hb; have H := H2; clear H2))
  go_ret
  exact ⟨rfl, H.below⟩
theorem putP_arg (W : World) (own : Nat → Prop) (p : Nat) (s : FF) (N : Nat) (x : QParts) (h : QAt W own p s N x) (hN : N ≤ 2000) (q : PV) (hq : q.Fits) (hz : okP q = false) : Calls Try.prog 21 #[.pointer (some ⟨p, 0, none⟩), pv q] W fun e w' => e = .returned (.int .i64 2) ∧ Below W.heap.size W w' := by
  have H := Mem.start W
  have hnn := h.nn
  have km := fun w (hb : Below W.heap.size W w) => miss_no p s.n hnn.1 w ((h.below hb).box.cell 0)
  have kz := fun w => hasLen_p q w
  rw [hz] at kz
  clear h hz hq
  go_enter Try.func21, Try.ntmps21
  go_wp2_with (first
    | go_skip
    | go_skip
    | ((with_reducible show wpList _ _ _ _ _ (World.alloc _ (.cells _ _))); refine mem_new H ?_; intro w2 H2; clear H; have H := H2; clear H2; simp only [List.cons_append, List.nil_append, List.set_cons_zero, List.set_cons_succ, List.setIfInBounds_toArray] at H)
    | (go_at_call 33; refine (km _ H.below).mono ?_; rintro e w2 ⟨rfl, hb⟩; have H2 := H.call hb; clear H hb; have H := H2; clear H2)
    | ((with_reducible show wpList _ _ _ (⟨_, .load 37 _, _, _, _, _⟩ :: _) _ _); refine mem_load (i := 0) H (by first | exact wanted_none rfl | exact wanted_some rfl rfl rfl rfl) (by exact rfl) (by exact rfl) (by exact rfl) Try.underlying37 rfl (by exact pkInfo) ?_)
    | (go_at_call 39; refine (kz _).mono ?_; rintro e w2 ⟨rfl, hb⟩; have H2 := H.call hb; clear H hb; have H := H2; clear H2))
  go_ret
  exact ⟨rfl, H.below⟩
set_option maxHeartbeats 2000000 in
theorem putP_no (W : World) (own : Nat → Prop) (p : Nat) (s : FF) (N : Nat) (x : QParts) (h : QAt W own p s N x) (hN : N ≤ 2000) (q : PV) (hq : q.Fits) (hz : okP q = true) (E : Int) (hE : putE s q = E) (h0 : E ≠ 0) : Calls Try.prog 21 #[.pointer (some ⟨p, 0, none⟩), pv q] W fun e w' => e = .returned (.int .i64 E) ∧ Below W.heap.size W w' := by
  have H := Mem.start W
  have HD := Lib.hid h
  have hp := h.box.lt
  have hnn := h.nn
  obtain ⟨A1, a1, A2, a2, hv1, hv2, hl1, hm1, hl2, hm2, c0, c1, cb, cu, ch⟩ := h.cells
  obtain ⟨n1, hn1⟩ : ∃ n, x.B.length = n := ⟨_, rfl⟩
  obtain ⟨n2, hn2⟩ : ∃ n, x.U.length = n := ⟨_, rfl⟩
  have hlen := h.len2
  have hN2 := h.len
  rw [hn1, hn2] at hlen
  rw [hn1] at hv1 hl1 cb
  rw [hn2] at hv2 hl2 cu
  have HV1 := Lib.hid hv1
  have HV2 := Lib.hid hv2
  have HN1 := Lib.hid hn1
  have HN2 := Lib.hid hn2
  have HL := Lib.hid hlen
  have hqb := hq.len
  have h12 : n1 + n2 ≤ 2000 := by omega
  have hbd := sum_bd h.sz h.len (by omega)
  have kc := fun w (hb : Below W.heap.size W w) => count_p p A1 A2 n1 n2 a1 a2 (by omega) (by omega) w (h.below hb).box.lt (by rw [← HV1.out]; exact (h.below hb).box.cell 2) (by rw [← HV2.out]; exact (h.below hb).box.cell 3)
  have km := fun w (hb : Below W.heap.size W w) => miss_no p s.n hnn.1 w ((h.below hb).box.cell 0)
  have kz := fun w => hasLen_p q w
  have kb := fun w g hh => bytesOf_one q hq w g hh
  have ka := fun w (hb : Below W.heap.size W w) => admit_p p s.n s.b ((n1 + n2 : Nat) : Int) (Fi.bytes s.l) q.len (putE s q) (by simp [putE, hz, hlen]) ⟨by omega, by omega⟩ ⟨by omega, by omega⟩ w ((h.below hb).box.cell 0) ((h.below hb).box.cell 1)
  obtain ⟨S, hS1⟩ : ∃ S, Fi.bytes s.l = S := ⟨_, rfl⟩
  have HS := Lib.hid hS1
  rw [hS1] at ka hbd ch
  rw [hz] at kz
  have HZ := Lib.hid hz
  have HQ := Lib.hid hq
  rw [hE] at ka
  have t1 : (E == 0) = false := by simpa using h0
  clear hE hz hS1
  clear h hv1 hv2 hn1 hn2 hlen hN2 hq
  go_enter Try.func21, Try.ntmps21
  go_upto_region 5 with (first
    | go_skip
    | ((with_reducible show wpList _ _ _ _ _ (World.alloc _ (.cells _ _))); refine mem_newb H ?_; intro bq w3 hbk H2; try rw [← hbk]; clear hbk H; have H := H2; clear H2; simp only [List.cons_append, List.nil_append, List.set_cons_zero, List.set_cons_succ, List.setIfInBounds_toArray] at H)
    | (go_at_call 33; refine (km _ H.below).mono ?_; rintro e w2 ⟨rfl, hb⟩; have H2 := H.call hb; clear H hb; have H := H2; clear H2)
    | ((with_reducible show wpList _ _ _ (⟨_, .load 37 _, _, _, _, _⟩ :: _) _ _); refine mem_load (i := 0) H (by first | exact wanted_none rfl | exact wanted_some rfl rfl rfl rfl) (by exact rfl) (by exact rfl) (by exact rfl) Try.underlying37 rfl (by exact pkInfo) ?_)
    | (go_at_call 39; refine (kz _).mono ?_; rintro e w2 ⟨rfl, hb⟩; have H2 := H.call hb; clear H hb; have H := H2; clear H2))
  refine region_mem H 14 rfl (by kernel_rfl) (fun wr hS => ?_)
  clear H
  refine wpAnyR_take (i := 0) (v := .pointer (some ⟨p, 0, none⟩)) rfl rfl (by kernel_rfl) (by kernel_rfl) (by kernel_rfl) (fun _ _ _ h => h) (Nat.le_refl _) ⟨by rfl, fun w _ => (by go_simp; try (first | (simp only [IntKind.wrap_u32]; done) | rfl)), fun _ => rfl⟩ hS ?_
  simp only [List.getElem_toArray, List.getElem_cons_zero, List.getElem_cons_succ, Act.put, List.setIfInBounds_toArray, List.set_cons_zero, List.set_cons_succ]
  refine wpAnyR_take (i := 1) (v := .pointer (some ⟨p, 0, none⟩)) rfl rfl (by kernel_rfl) (by kernel_rfl) (by kernel_rfl) (fun _ _ _ h => h) (Nat.le_refl _) ⟨by rfl, fun w _ => (by go_simp; try (first | (simp only [IntKind.wrap_u32]; done) | rfl)), fun _ => rfl⟩ hS ?_
  simp only [List.getElem_toArray, List.getElem_cons_zero, List.getElem_cons_succ, Act.put, List.setIfInBounds_toArray, List.set_cons_zero, List.set_cons_succ]
  refine wpAnyR_take (i := 2) (v := .pointer (some ⟨p, 0, none⟩)) rfl rfl (by kernel_rfl) (by kernel_rfl) (by kernel_rfl) (fun _ _ _ h => h) (Nat.le_refl _) ⟨by rfl, fun w _ => (by go_simp; try (first | (simp only [IntKind.wrap_u32]; done) | rfl)), fun _ => rfl⟩ hS ?_
  simp only [List.getElem_toArray, List.getElem_cons_zero, List.getElem_cons_succ, Act.put, List.setIfInBounds_toArray, List.set_cons_zero, List.set_cons_succ]
  refine wpAnyR_take (i := 3) (v := .pointer (some ⟨p, 0, none⟩)) rfl rfl (by kernel_rfl) (by kernel_rfl) (by kernel_rfl) (fun _ _ _ h => h) (Nat.le_refl _) ⟨by rfl, fun w _ => (by go_simp; try (first | (simp only [IntKind.wrap_u32]; done) | rfl)), fun _ => rfl⟩ hS ?_
  simp only [List.getElem_toArray, List.getElem_cons_zero, List.getElem_cons_succ, Act.put, List.setIfInBounds_toArray, List.set_cons_zero, List.set_cons_succ]
  refine wpAnyR_take (i := 5) (v := .pointer (some ⟨p, 0, none⟩)) rfl rfl (by kernel_rfl) (by kernel_rfl) (by kernel_rfl) (fun _ _ _ h => h) (Nat.le_refl _) ⟨by rfl, fun w _ => (by go_simp; try (first | (simp only [IntKind.wrap_u32]; done) | rfl)), fun _ => rfl⟩ hS ?_
  simp only [List.getElem_toArray, List.getElem_cons_zero, List.getElem_cons_succ, Act.put, List.setIfInBounds_toArray, List.set_cons_zero, List.set_cons_succ]
  refine wpAnyR_take (i := 6) (v := .pointer (some ⟨p, 0, none⟩)) rfl rfl (by kernel_rfl) (by kernel_rfl) (by kernel_rfl) (fun _ _ _ h => h) (Nat.le_refl _) ⟨by rfl, fun w _ => (by go_simp; try (first | (simp only [IntKind.wrap_u32]; done) | rfl)), fun _ => rfl⟩ hS ?_
  simp only [List.getElem_toArray, List.getElem_cons_zero, List.getElem_cons_succ, Act.put, List.setIfInBounds_toArray, List.set_cons_zero, List.set_cons_succ]
  refine wpAnyR_take (i := 7) (v := .pointer (some ⟨p, 4, none⟩)) rfl rfl (by kernel_rfl) (by kernel_rfl) (by kernel_rfl) (fun _ _ _ h => h) (Nat.le_refl _) ⟨by rfl, fun w _ => (by go_simp; try (first | (simp only [IntKind.wrap_u32]; done) | rfl)), fun _ => rfl⟩ hS ?_
  simp only [List.getElem_toArray, List.getElem_cons_zero, List.getElem_cons_succ, Act.put, List.setIfInBounds_toArray, List.set_cons_zero, List.set_cons_succ]
  refine wpAnyR_take (i := 8) (v := .int .i64 S) rfl rfl (by kernel_rfl) (by kernel_rfl) (by kernel_rfl) (fun _ _ _ h => h) (Nat.le_refl _) (yields_old ch hp (by exact rfl) (by exact rfl) (by exact rfl) (by first | exact Try.underlying32 | exact Try.underlying3 | exact Try.underlying41) rfl) hS ?_
  simp only [List.getElem_toArray, List.getElem_cons_zero, List.getElem_cons_succ, Act.put, List.setIfInBounds_toArray, List.set_cons_zero, List.set_cons_succ]
  refine wpAnyR_take (i := 9) (v := pv q) rfl rfl (by kernel_rfl) (by kernel_rfl) (by kernel_rfl) (fun _ _ _ h => h) (Nat.le_refl _) (yields_held (fun w h => h.at 0 rfl) (by exact rfl) (by exact rfl) (by exact rfl) Try.underlying37 rfl pkInfo) hS ?_
  simp only [List.getElem_toArray, List.getElem_cons_zero, List.getElem_cons_succ, Act.put, List.setIfInBounds_toArray, List.set_cons_zero, List.set_cons_succ]
  refine wpAnyG_two (i := 4) (j := 10) (by kernel_rfl) rfl rfl (fun K hK => ?_) (fun K hK => ?_)
  go_simp
  refine ⟨trivial, (callsIn_wide.2 (kc _ hS.below)).mono ?_⟩
  rintro e w5 ⟨rfl, hb⟩
  have hS5 := hS.call hb
  clear hb hS
  have hS := hS5
  clear hS5
  refine hK _ _ (.inr hS) ?_
  clear hK K
  refine wpAnyG_one (i := 10) (by kernel_rfl) rfl (fun K hK => ?_)
  go_simp
  refine hK _ _ (.inr (hS.skip _)) ?_
  clear hK K
  have hN := hS.alloc 37 #[.int .u32 q.id, .int .u32 q.len, .int .i64 q.prio, .int .i64 q.cpu, .int .u32 q.a, .int .u32 q.b, .int .u16 q.sp, .int .u16 q.dp, .int .u8 q.q]
  have hS5 := hS.skip (.cells #[.int .u32 q.id, .int .u32 q.len, .int .i64 q.prio, .int .i64 q.cpu, .int .u32 q.a, .int .u32 q.b, .int .u16 q.sp, .int .u16 q.dp, .int .u8 q.q] 37)
  clear hS
  generalize hbN : w5.heap.size = bN at hN ⊢
  clear hbN
  generalize w5.alloc (.cells #[.int .u32 q.id, .int .u32 q.len, .int .i64 q.prio, .int .i64 q.cpu, .int .u32 q.a, .int .u32 q.b, .int .u16 q.sp, .int .u16 q.dp, .int .u8 q.q] 37) = w6 at hN hS5 ⊢
  have hS := hS5
  clear hS5
  simp only [List.cons_append, List.nil_append] at hN
  refine wpAnyG_one (i := 11) (by kernel_rfl) rfl (fun K hK => ?_)
  go_simp
  refine ⟨trivial, (callsIn_wide.2 (kb _ _ (hN.at 1 rfl))).mono ?_⟩
  rintro e w5 ⟨rfl, hb⟩
  have hS5 := hS.call hb
  have hN5 := hN.call hb
  clear hb hS hN
  have hS := hS5
  clear hS5
  have hN := hN5
  clear hN5
  refine hK _ _ (.inr hS) ?_
  clear hK K
  refine wpAnyG_one (i := 12) (by kernel_rfl) rfl (fun K hK => ?_)
  go_simp
  refine ⟨trivial, (callsIn_wide.2 (ka _ hS.below)).mono ?_⟩
  rintro e w5 ⟨rfl, hb⟩
  have hS5 := hS.call hb
  have hN5 := hN.call hb
  clear hb hS hN
  have hS := hS5
  clear hS5
  have hN := hN5
  clear hN5
  refine hK _ _ (.inr hS) ?_
  clear hK K
  refine wpAnyG_one (i := 13) (by kernel_rfl) rfl (fun K hK => ?_)
  go_simp
  refine hK _ _ (.inr hS) ?_
  clear hK K
  refine wpAnyG_done (by kernel_rfl) ?_ _
  have H := hS
  clear hS hN
  rotate_left 1
  go_simp
  refine hK _ _ (.inr (hS.skip _)) ?_
  clear hK K
  have hN := hS.alloc 37 #[.int .u32 q.id, .int .u32 q.len, .int .i64 q.prio, .int .i64 q.cpu, .int .u32 q.a, .int .u32 q.b, .int .u16 q.sp, .int .u16 q.dp, .int .u8 q.q]
  have hS5 := hS.skip (.cells #[.int .u32 q.id, .int .u32 q.len, .int .i64 q.prio, .int .i64 q.cpu, .int .u32 q.a, .int .u32 q.b, .int .u16 q.sp, .int .u16 q.dp, .int .u8 q.q] 37)
  clear hS
  generalize hbN : wr.heap.size = bN at hN ⊢
  clear hbN
  generalize wr.alloc (.cells #[.int .u32 q.id, .int .u32 q.len, .int .i64 q.prio, .int .i64 q.cpu, .int .u32 q.a, .int .u32 q.b, .int .u16 q.sp, .int .u16 q.dp, .int .u8 q.q] 37) = w6 at hN hS5 ⊢
  have hS := hS5
  clear hS5
  simp only [List.cons_append, List.nil_append] at hN
  refine wpAnyG_one (i := 4) (by kernel_rfl) rfl (fun K hK => ?_)
  go_simp
  refine ⟨trivial, (callsIn_wide.2 (kc _ hS.below)).mono ?_⟩
  rintro e w5 ⟨rfl, hb⟩
  have hS5 := hS.call hb
  have hN5 := hN.call hb
  clear hb hS hN
  have hS := hS5
  clear hS5
  have hN := hN5
  clear hN5
  refine hK _ _ (.inr hS) ?_
  clear hK K
  refine wpAnyG_one (i := 11) (by kernel_rfl) rfl (fun K hK => ?_)
  go_simp
  refine ⟨trivial, (callsIn_wide.2 (kb _ _ (hN.at 1 rfl))).mono ?_⟩
  rintro e w5 ⟨rfl, hb⟩
  have hS5 := hS.call hb
  have hN5 := hN.call hb
  clear hb hS hN
  have hS := hS5
  clear hS5
  have hN := hN5
  clear hN5
  refine hK _ _ (.inr hS) ?_
  clear hK K
  refine wpAnyG_one (i := 12) (by kernel_rfl) rfl (fun K hK => ?_)
  go_simp
  refine ⟨trivial, (callsIn_wide.2 (ka _ hS.below)).mono ?_⟩
  rintro e w5 ⟨rfl, hb⟩
  have hS5 := hS.call hb
  have hN5 := hN.call hb
  clear hb hS hN
  have hS := hS5
  clear hS5
  have hN := hN5
  clear hN5
  refine hK _ _ (.inr hS) ?_
  clear hK K
  refine wpAnyG_one (i := 13) (by kernel_rfl) rfl (fun K hK => ?_)
  go_simp
  refine hK _ _ (.inr hS) ?_
  clear hK K
  refine wpAnyG_done (by kernel_rfl) ?_ _
  have H := hS
  clear hS hN
  all_goals
    clear km kz kc ka kb
    go_wp2
    go_ret
    exact ⟨rfl, H.below⟩
end Go.Proofs.Ytlnlkodpndjimaa.Fi
end
/- The program's Put, where it puts, and Back of fifos. Conditions: the fifo lies where its pointer says, two thousand packets at most. -/
section
namespace Go.Proofs.Ytlnlkodpndjimaa.Fi
set_option linter.unusedSimpArgs false
set_option linter.unusedVariables false
set_option maxRecDepth 100000
open Go.ChangeShapes Go.WideShapes Go.ChangeAt Go.RowKit

theorem intInfo : (Try.prog.info? 3).map (·.size) = some 1 := by kernel_rfl
set_option maxHeartbeats 4000000 in
theorem putP_yes (W : World) (own : Nat → Prop) (p : Nat) (s : FF) (N : Nat) (x : QParts) (h : QAt W own p s N x) (hN : N ≤ 2000) (q : PV) (hq : q.Fits) (hz : okP q = true) (hE : putE s q = 0) : Calls Try.prog 21 #[.pointer (some ⟨p, 0, none⟩), pv q] W (DidF PAt10 W own p ⟨s.l ++ [q], s.n, s.b⟩ (N + 1) (.int .i64 0)) := by
  have H := Mem.start W
  have HD := Lib.hid h
  have hp := h.box.lt
  have hnn := h.nn
  obtain ⟨A1, a1, A2, a2, hv1, hv2, hl1, hm1, hl2, hm2, c0, c1, cb, cu, ch⟩ := h.cells
  obtain ⟨n1, hn1⟩ : ∃ n, x.B.length = n := ⟨_, rfl⟩
  obtain ⟨n2, hn2⟩ : ∃ n, x.U.length = n := ⟨_, rfl⟩
  have hlen := h.len2
  have hN2 := h.len
  rw [hn1, hn2] at hlen
  rw [hn1] at hv1 hl1 cb
  rw [hn2] at hv2 hl2 cu
  have HV1 := Lib.hid hv1
  have HV2 := Lib.hid hv2
  have HN1 := Lib.hid hn1
  have HN2 := Lib.hid hn2
  have HL := Lib.hid hlen
  have hqb := hq.len
  have h12 : n1 + n2 ≤ 2000 := by omega
  have hbd := sum_bd h.sz h.len (by omega)
  have kc := fun w (hb : Below W.heap.size W w) => count_p p A1 A2 n1 n2 a1 a2 (by omega) (by omega) w (h.below hb).box.lt (by rw [← HV1.out]; exact (h.below hb).box.cell 2) (by rw [← HV2.out]; exact (h.below hb).box.cell 3)
  have km := fun w (hb : Below W.heap.size W w) => miss_no p s.n hnn.1 w ((h.below hb).box.cell 0)
  have kz := fun w => hasLen_p q w
  have kb := fun w g hh => bytesOf_one q hq w g hh
  have ka := fun w (hb : Below W.heap.size W w) => admit_p p s.n s.b ((n1 + n2 : Nat) : Int) (Fi.bytes s.l) q.len (putE s q) (by simp [putE, hz, hlen]) ⟨by omega, by omega⟩ ⟨by omega, by omega⟩ w ((h.below hb).box.cell 0) ((h.below hb).box.cell 1)
  obtain ⟨S, hS1⟩ : ∃ S, Fi.bytes s.l = S := ⟨_, rfl⟩
  have HS := Lib.hid hS1
  rw [hS1] at ka hbd ch
  rw [hz] at kz
  have HZ := Lib.hid hz
  have HQ := Lib.hid hq
  rw [hE] at ka
  have w1 : IntKind.i64.wrap (S + q.len) = S + q.len := wrap_id (by omega) (by omega)
  clear hE hz hS1
  clear h hv1 hv2 hn1 hn2 hlen hN2 hq
  go_enter Try.func21, Try.ntmps21
  go_upto_region 5 with (first
    | go_skip
    | ((with_reducible show wpList _ _ _ _ _ (World.alloc _ (.cells _ _))); refine mem_newb H ?_; intro bq w3 hbk H2; try rw [← hbk]; clear hbk H; have H := H2; clear H2; simp only [List.cons_append, List.nil_append, List.set_cons_zero, List.set_cons_succ, List.setIfInBounds_toArray] at H)
    | (go_at_call 33; refine (km _ H.below).mono ?_; rintro e w2 ⟨rfl, hb⟩; have H2 := H.call hb; clear H hb; have H := H2; clear H2)
    | ((with_reducible show wpList _ _ _ (⟨_, .load 37 _, _, _, _, _⟩ :: _) _ _); refine mem_load (i := 0) H (by first | exact wanted_none rfl | exact wanted_some rfl rfl rfl rfl) (by exact rfl) (by exact rfl) (by exact rfl) Try.underlying37 rfl (by exact pkInfo) ?_)
    | (go_at_call 39; refine (kz _).mono ?_; rintro e w2 ⟨rfl, hb⟩; have H2 := H.call hb; clear H hb; have H := H2; clear H2))
  refine region_mem H 14 rfl (by kernel_rfl) (fun wr hS => ?_)
  clear H
  refine wpAnyR_take (i := 0) (v := .pointer (some ⟨p, 0, none⟩)) rfl rfl (by kernel_rfl) (by kernel_rfl) (by kernel_rfl) (fun _ _ _ h => h) (Nat.le_refl _) ⟨by rfl, fun w _ => (by go_simp; try (first | (simp only [IntKind.wrap_u32]; done) | rfl)), fun _ => rfl⟩ hS ?_
  simp only [List.getElem_toArray, List.getElem_cons_zero, List.getElem_cons_succ, Act.put, List.setIfInBounds_toArray, List.set_cons_zero, List.set_cons_succ]
  refine wpAnyR_take (i := 1) (v := .pointer (some ⟨p, 0, none⟩)) rfl rfl (by kernel_rfl) (by kernel_rfl) (by kernel_rfl) (fun _ _ _ h => h) (Nat.le_refl _) ⟨by rfl, fun w _ => (by go_simp; try (first | (simp only [IntKind.wrap_u32]; done) | rfl)), fun _ => rfl⟩ hS ?_
  simp only [List.getElem_toArray, List.getElem_cons_zero, List.getElem_cons_succ, Act.put, List.setIfInBounds_toArray, List.set_cons_zero, List.set_cons_succ]
  refine wpAnyR_take (i := 2) (v := .pointer (some ⟨p, 0, none⟩)) rfl rfl (by kernel_rfl) (by kernel_rfl) (by kernel_rfl) (fun _ _ _ h => h) (Nat.le_refl _) ⟨by rfl, fun w _ => (by go_simp; try (first | (simp only [IntKind.wrap_u32]; done) | rfl)), fun _ => rfl⟩ hS ?_
  simp only [List.getElem_toArray, List.getElem_cons_zero, List.getElem_cons_succ, Act.put, List.setIfInBounds_toArray, List.set_cons_zero, List.set_cons_succ]
  refine wpAnyR_take (i := 3) (v := .pointer (some ⟨p, 0, none⟩)) rfl rfl (by kernel_rfl) (by kernel_rfl) (by kernel_rfl) (fun _ _ _ h => h) (Nat.le_refl _) ⟨by rfl, fun w _ => (by go_simp; try (first | (simp only [IntKind.wrap_u32]; done) | rfl)), fun _ => rfl⟩ hS ?_
  simp only [List.getElem_toArray, List.getElem_cons_zero, List.getElem_cons_succ, Act.put, List.setIfInBounds_toArray, List.set_cons_zero, List.set_cons_succ]
  refine wpAnyR_take (i := 5) (v := .pointer (some ⟨p, 0, none⟩)) rfl rfl (by kernel_rfl) (by kernel_rfl) (by kernel_rfl) (fun _ _ _ h => h) (Nat.le_refl _) ⟨by rfl, fun w _ => (by go_simp; try (first | (simp only [IntKind.wrap_u32]; done) | rfl)), fun _ => rfl⟩ hS ?_
  simp only [List.getElem_toArray, List.getElem_cons_zero, List.getElem_cons_succ, Act.put, List.setIfInBounds_toArray, List.set_cons_zero, List.set_cons_succ]
  refine wpAnyR_take (i := 6) (v := .pointer (some ⟨p, 0, none⟩)) rfl rfl (by kernel_rfl) (by kernel_rfl) (by kernel_rfl) (fun _ _ _ h => h) (Nat.le_refl _) ⟨by rfl, fun w _ => (by go_simp; try (first | (simp only [IntKind.wrap_u32]; done) | rfl)), fun _ => rfl⟩ hS ?_
  simp only [List.getElem_toArray, List.getElem_cons_zero, List.getElem_cons_succ, Act.put, List.setIfInBounds_toArray, List.set_cons_zero, List.set_cons_succ]
  refine wpAnyR_take (i := 7) (v := .pointer (some ⟨p, 4, none⟩)) rfl rfl (by kernel_rfl) (by kernel_rfl) (by kernel_rfl) (fun _ _ _ h => h) (Nat.le_refl _) ⟨by rfl, fun w _ => (by go_simp; try (first | (simp only [IntKind.wrap_u32]; done) | rfl)), fun _ => rfl⟩ hS ?_
  simp only [List.getElem_toArray, List.getElem_cons_zero, List.getElem_cons_succ, Act.put, List.setIfInBounds_toArray, List.set_cons_zero, List.set_cons_succ]
  refine wpAnyR_take (i := 8) (v := .int .i64 S) rfl rfl (by kernel_rfl) (by kernel_rfl) (by kernel_rfl) (fun _ _ _ h => h) (Nat.le_refl _) (yields_old ch hp (by exact rfl) (by exact rfl) (by exact rfl) (by first | exact Try.underlying32 | exact Try.underlying3 | exact Try.underlying41) rfl) hS ?_
  simp only [List.getElem_toArray, List.getElem_cons_zero, List.getElem_cons_succ, Act.put, List.setIfInBounds_toArray, List.set_cons_zero, List.set_cons_succ]
  refine wpAnyR_take (i := 9) (v := pv q) rfl rfl (by kernel_rfl) (by kernel_rfl) (by kernel_rfl) (fun _ _ _ h => h) (Nat.le_refl _) (yields_held (fun w h => h.at 0 rfl) (by exact rfl) (by exact rfl) (by exact rfl) Try.underlying37 rfl pkInfo) hS ?_
  simp only [List.getElem_toArray, List.getElem_cons_zero, List.getElem_cons_succ, Act.put, List.setIfInBounds_toArray, List.set_cons_zero, List.set_cons_succ]
  refine wpAnyG_two (i := 4) (j := 10) (by kernel_rfl) rfl rfl (fun K hK => ?_) (fun K hK => ?_)
  go_simp
  refine ⟨trivial, (callsIn_wide.2 (kc _ hS.below)).mono ?_⟩
  rintro e w5 ⟨rfl, hb⟩
  have hS5 := hS.call hb
  clear hb hS
  have hS := hS5
  clear hS5
  refine hK _ _ (.inr hS) ?_
  clear hK K
  refine wpAnyG_one (i := 10) (by kernel_rfl) rfl (fun K hK => ?_)
  go_simp
  refine hK _ _ (.inr (hS.skip _)) ?_
  clear hK K
  have hN := hS.alloc 37 #[.int .u32 q.id, .int .u32 q.len, .int .i64 q.prio, .int .i64 q.cpu, .int .u32 q.a, .int .u32 q.b, .int .u16 q.sp, .int .u16 q.dp, .int .u8 q.q]
  have hS5 := hS.skip (.cells #[.int .u32 q.id, .int .u32 q.len, .int .i64 q.prio, .int .i64 q.cpu, .int .u32 q.a, .int .u32 q.b, .int .u16 q.sp, .int .u16 q.dp, .int .u8 q.q] 37)
  clear hS
  generalize hbN : w5.heap.size = bN at hN ⊢
  clear hbN
  generalize w5.alloc (.cells #[.int .u32 q.id, .int .u32 q.len, .int .i64 q.prio, .int .i64 q.cpu, .int .u32 q.a, .int .u32 q.b, .int .u16 q.sp, .int .u16 q.dp, .int .u8 q.q] 37) = w6 at hN hS5 ⊢
  have hS := hS5
  clear hS5
  simp only [List.cons_append, List.nil_append] at hN
  refine wpAnyG_one (i := 11) (by kernel_rfl) rfl (fun K hK => ?_)
  go_simp
  refine ⟨trivial, (callsIn_wide.2 (kb _ _ (hN.at 1 rfl))).mono ?_⟩
  rintro e w5 ⟨rfl, hb⟩
  have hS5 := hS.call hb
  have hN5 := hN.call hb
  clear hb hS hN
  have hS := hS5
  clear hS5
  have hN := hN5
  clear hN5
  refine hK _ _ (.inr hS) ?_
  clear hK K
  refine wpAnyG_one (i := 12) (by kernel_rfl) rfl (fun K hK => ?_)
  go_simp
  refine ⟨trivial, (callsIn_wide.2 (ka _ hS.below)).mono ?_⟩
  rintro e w5 ⟨rfl, hb⟩
  have hS5 := hS.call hb
  have hN5 := hN.call hb
  clear hb hS hN
  have hS := hS5
  clear hS5
  have hN := hN5
  clear hN5
  refine hK _ _ (.inr hS) ?_
  clear hK K
  refine wpAnyG_one (i := 13) (by kernel_rfl) rfl (fun K hK => ?_)
  go_simp
  refine hK _ _ (.inr hS) ?_
  clear hK K
  refine wpAnyG_done (by kernel_rfl) ?_ _
  have H := hS
  clear hS hN
  rotate_left 1
  go_simp
  refine hK _ _ (.inr (hS.skip _)) ?_
  clear hK K
  have hN := hS.alloc 37 #[.int .u32 q.id, .int .u32 q.len, .int .i64 q.prio, .int .i64 q.cpu, .int .u32 q.a, .int .u32 q.b, .int .u16 q.sp, .int .u16 q.dp, .int .u8 q.q]
  have hS5 := hS.skip (.cells #[.int .u32 q.id, .int .u32 q.len, .int .i64 q.prio, .int .i64 q.cpu, .int .u32 q.a, .int .u32 q.b, .int .u16 q.sp, .int .u16 q.dp, .int .u8 q.q] 37)
  clear hS
  generalize hbN : wr.heap.size = bN at hN ⊢
  clear hbN
  generalize wr.alloc (.cells #[.int .u32 q.id, .int .u32 q.len, .int .i64 q.prio, .int .i64 q.cpu, .int .u32 q.a, .int .u32 q.b, .int .u16 q.sp, .int .u16 q.dp, .int .u8 q.q] 37) = w6 at hN hS5 ⊢
  have hS := hS5
  clear hS5
  simp only [List.cons_append, List.nil_append] at hN
  refine wpAnyG_one (i := 4) (by kernel_rfl) rfl (fun K hK => ?_)
  go_simp
  refine ⟨trivial, (callsIn_wide.2 (kc _ hS.below)).mono ?_⟩
  rintro e w5 ⟨rfl, hb⟩
  have hS5 := hS.call hb
  have hN5 := hN.call hb
  clear hb hS hN
  have hS := hS5
  clear hS5
  have hN := hN5
  clear hN5
  refine hK _ _ (.inr hS) ?_
  clear hK K
  refine wpAnyG_one (i := 11) (by kernel_rfl) rfl (fun K hK => ?_)
  go_simp
  refine ⟨trivial, (callsIn_wide.2 (kb _ _ (hN.at 1 rfl))).mono ?_⟩
  rintro e w5 ⟨rfl, hb⟩
  have hS5 := hS.call hb
  have hN5 := hN.call hb
  clear hb hS hN
  have hS := hS5
  clear hS5
  have hN := hN5
  clear hN5
  refine hK _ _ (.inr hS) ?_
  clear hK K
  refine wpAnyG_one (i := 12) (by kernel_rfl) rfl (fun K hK => ?_)
  go_simp
  refine ⟨trivial, (callsIn_wide.2 (ka _ hS.below)).mono ?_⟩
  rintro e w5 ⟨rfl, hb⟩
  have hS5 := hS.call hb
  have hN5 := hN.call hb
  clear hb hS hN
  have hS := hS5
  clear hS5
  have hN := hN5
  clear hN5
  refine hK _ _ (.inr hS) ?_
  clear hK K
  refine wpAnyG_one (i := 13) (by kernel_rfl) rfl (fun K hK => ?_)
  go_simp
  refine hK _ _ (.inr hS) ?_
  clear hK K
  refine wpAnyG_done (by kernel_rfl) ?_ _
  have H := hS
  clear hS hN
  all_goals
    clear km kz kc ka
    go_upto_region 8 with (fail)
    refine region_memk H 7 11 rfl (by kernel_rfl) (fun wr0 hcl hS => ?_)
    clear H
    refine wpAnyG_pure (i := 0) (v := .pointer (some ⟨p, 0, none⟩)) rfl rfl (by kernel_rfl) (by kernel_rfl) (by kernel_rfl) (fun _ _ _ h => h) (by decide) ⟨by rfl, fun w _ => (by go_simp; try (first | (simp only [IntKind.wrap_u32]; done) | rfl)), fun _ => rfl⟩ (.inr hS) ?_
    have hc1 := hcl.step (i := 0) (by kernel_rfl)
    clear hcl; have hcl := hc1; clear hc1; simp only [List.getElem_toArray, List.getElem_cons_zero, List.getElem_cons_succ, Act.put, List.setIfInBounds_toArray, List.set_cons_zero, List.set_cons_succ]
    refine wpAnyG_pure (i := 1) (v := .pointer (some ⟨p, 0, none⟩)) rfl rfl (by kernel_rfl) (by kernel_rfl) (by kernel_rfl) (fun _ _ _ h => h) (by decide) ⟨by rfl, fun w _ => (by go_simp; try (first | (simp only [IntKind.wrap_u32]; done) | rfl)), fun _ => rfl⟩ (.inr hS) ?_
    have hc1 := hcl.step (i := 1) (by kernel_rfl)
    clear hcl; have hcl := hc1; clear hc1; simp only [List.getElem_toArray, List.getElem_cons_zero, List.getElem_cons_succ, Act.put, List.setIfInBounds_toArray, List.set_cons_zero, List.set_cons_succ]
    refine wpAnyG_pure (i := 2) (v := .pointer (some ⟨p, 0, none⟩)) rfl rfl (by kernel_rfl) (by kernel_rfl) (by kernel_rfl) (fun _ _ _ h => h) (by decide) ⟨by rfl, fun w _ => (by go_simp; try (first | (simp only [IntKind.wrap_u32]; done) | rfl)), fun _ => rfl⟩ (.inr hS) ?_
    have hc1 := hcl.step (i := 2) (by kernel_rfl)
    clear hcl; have hcl := hc1; clear hc1; simp only [List.getElem_toArray, List.getElem_cons_zero, List.getElem_cons_succ, Act.put, List.setIfInBounds_toArray, List.set_cons_zero, List.set_cons_succ]
    refine wpAnyG_pure (i := 3) (v := .pointer (some ⟨p, 3, none⟩)) rfl rfl (by kernel_rfl) (by kernel_rfl) (by kernel_rfl) (fun _ _ _ h => h) (by decide) ⟨by rfl, fun w _ => (by go_simp; try (first | (simp only [IntKind.wrap_u32]; done) | rfl)), fun _ => rfl⟩ (.inr hS) ?_
    have hc1 := hcl.step (i := 3) (by kernel_rfl)
    clear hcl; have hcl := hc1; clear hc1; simp only [List.getElem_toArray, List.getElem_cons_zero, List.getElem_cons_succ, Act.put, List.setIfInBounds_toArray, List.set_cons_zero, List.set_cons_succ]
    refine wpAnyG_take (i := 4) 6 (v := .slice A2 n2 a2) rfl rfl (by kernel_rfl) (by kernel_rfl) (by kernel_rfl) (fun _ _ _ h => h) (by kernel_rfl) (by decide) hcl (yields_old cu hp (by exact rfl) (by exact rfl) (by exact rfl) (by first | exact Try.underlying32 | exact Try.underlying3 | exact Try.underlying41) rfl) hS (fun hc1 => ?_)
    clear hcl; have hcl := hc1; clear hc1; simp only [List.getElem_toArray, List.getElem_cons_zero, List.getElem_cons_succ, Act.put, List.setIfInBounds_toArray, List.set_cons_zero, List.set_cons_succ]
    refine wpAnyG_take (i := 5) 6 (v := pv q) rfl rfl (by kernel_rfl) (by kernel_rfl) (by kernel_rfl) (fun _ _ _ h => h) (by kernel_rfl) (by decide) hcl (yields_held (fun w h => h.at 0 rfl) (by exact rfl) (by exact rfl) (by exact rfl) Try.underlying37 rfl pkInfo) hS (fun hc1 => ?_)
    clear hcl; have hcl := hc1; clear hc1; simp only [List.getElem_toArray, List.getElem_cons_zero, List.getElem_cons_succ, Act.put, List.setIfInBounds_toArray, List.set_cons_zero, List.set_cons_succ]
    have hsz8 := hS.below.size
    have hbq8 := hS.held _ List.mem_cons_self
    refine wpAnyG_one (i := 6) (by kernel_rfl) rfl (fun K hK => ?_)
    go_simp
    refine hK _ _ (.inr (hS.skip _)) ?_
    clear hK K
    have hc1 := hcl.step (i := 6) (by kernel_rfl)
    clear hcl; have hcl := hc1; clear hc1
    refine wpAnyG_one (i := 7) (by kernel_rfl) rfl (fun K hK => ?_)
    have D8 := HD.out.ql.below (hS.skip (.cells #[.int .u32 q.id, .int .u32 q.len, .int .i64 q.prio, .int .i64 q.cpu, .int .u32 q.a, .int .u32 q.b, .int .u16 q.sp, .int .u16 q.dp, .int .u8 q.q] 37)).below
    refine wpIn_append_que (.tmp 31) (.tmp 33) rfl rfl (.slice A2 n2 a2) x.U [q] ⟨wr0.heap.size, 0, none⟩ 1 1 (by exact rfl) (by exact rfl) (by rw [← HV2.out]; exact D8.ru) rfl (fun j u hj => by rw [Addr.add_mid, Nat.zero_add]; rw [pvs_one] at hj; exact ((Held.new wr0 37 #[.int .u32 q.id, .int .u32 q.len, .int .i64 q.prio, .int .i64 q.cpu, .int .u32 q.a, .int .u32 q.b, .int .u16 q.sp, .int .u16 q.dp, .int .u8 q.q]).cell j).trans (by simpa using hj)) (by rw [HN2.out]; omega) ?_
    intro v' w7 hq7 hF7 hb7
    refine hK _ _ (.inl (by kernel_rfl)) ?_
    clear hK K
    have hnp : ¬ qb (.slice A2 n2 a2) p := fun e => (D8.ou p (by rw [HV2.out]; exact e)).2 rfl
    have b7 : Held w7 p 62 #[.int .i64 s.n, .int .i64 s.b, x.vb, x.vu, .int .i64 (Fi.bytes s.l)] := (hF7.block p D8.box.lt hnp).trans D8.box
    have hB7 := (hS.skip (.cells #[.int .u32 q.id, .int .u32 q.len, .int .i64 q.prio, .int .i64 q.cpu, .int .u32 q.a, .int .u32 q.b, .int .u16 q.sp, .int .u16 q.dp, .int .u8 q.q] 37)).below
    have hbq7 : Held w7 bq 37 #[.int .u32 q.id, .int .u32 q.len, .int .i64 q.prio, .int .i64 q.cpu, .int .u32 q.a, .int .u32 q.b, .int .u16 q.sp, .int .u16 q.dp, .int .u8 q.q] := (hF7.block bq (by rw [World.size_alloc]; exact Nat.lt_succ_of_lt hbq8.2.lt) (fun e => by have := HD.out.lt bq (HD.out.ou bq (by rw [HV2.out]; exact e)).1; have := hbq8.1; omega)).trans (hbq8.2.alloc _)
    have hbqp : bq ≠ p := fun e => by have := hbq8.1; omega
    clear hS hbq8
    generalize hwA : wr0.alloc (.cells #[.int .u32 q.id, .int .u32 q.len, .int .i64 q.prio, .int .i64 q.cpu, .int .u32 q.a, .int .u32 q.b, .int .u16 q.sp, .int .u16 q.dp, .int .u8 q.q] 37) = wA at hF7 hb7 D8 hB7
    clear hwA
    have hX := D8.setU (by rw [HV2.out]; exact hF7) hq7 (by rw [HV2.out]; exact hb7)
    obtain ⟨X, hX⟩ := hX
    obtain ⟨A', c', hve, _, _⟩ := hq7.shape
    have hone : v'.oneCell' = true := by rw [hve]; rfl
    have HOW := Lib.hid (fun i (h1 : qb v' i) => (hb7 i h1).elim (fun h2 => Or.inl (D8.ou i (by rw [HV2.out]; exact h2)).1) (fun h2 => Or.inr (Nat.le_trans hB7.size h2)) : ∀ i, qb v' i → own i ∨ W.heap.size ≤ i)
    have HX := Lib.hid X
    have HFX := Lib.hid ((Foot.of_below (B := own) hB7).trans' hX)
    have hszX : W.heap.size ≤ w7.heap.size := Nat.le_trans hB7.size hF7.size
    clear X hX hve hb7 hF7 hq7 D8 hB7
    refine wpAnyG_one (i := 8) (by kernel_rfl) rfl (fun K hK => ?_)
    go_simp
    refine hK _ _ (.inl (by kernel_rfl)) ?_
    clear hK K
    refine wpAnyG_one (i := 9) (by kernel_rfl) rfl (fun K hK => ?_)
    go_simp
    refine hK _ _ (.inl (by kernel_rfl)) ?_
    clear hK K
    refine wpAnyG_one (i := 10) (by kernel_rfl) rfl (fun K hK => ?_)
    refine wpIn_store_old (b := p) (j := 3) (v := v') (v0 := x.vu) (b7.cell 3) (b7.frozen 3) rfl (by exact rfl) (by exact rfl) (by exact pslInfo) hone ?_
    refine hK _ _ (.inl (by kernel_rfl)) ?_
    clear hK K
    refine wpAnyG_done (by kernel_rfl) ?_ _
    have HB9 := hbq7.other (b' := p) hbqp 3 v'
    clear b7 hbq7 hone hnp hsz8 cb cu ch c0 c1 hp
    have ch := HX.out.box.cell 4
    simp only [List.getElem?_toArray, List.getElem?_cons_zero, List.getElem?_cons_succ, HS.out] at ch
    have hp := HX.out.box.lt
    have hsz9 : W.heap.size ≤ (w7.setCell ⟨p, 3, none⟩ v').heap.size := by rw [size_setCell]; exact hszX
    obtain ⟨W9, hW9⟩ : ∃ W9, w7.setCell ⟨p, 3, none⟩ v' = W9 := ⟨_, rfl⟩
    rw [hW9] at ch hp hsz9 HX HFX HB9 ⊢
    clear hW9 hszX hbqp
    have H := Mem.start W9
    have HSZ := Lib.hid hsz9
    clear hsz9
    go_upto_region 9 with (fail)
    refine region_memk H 10 11 rfl (by kernel_rfl) (fun wr0 hcl hS => ?_)
    clear H
    refine wpAnyG_pure (i := 0) (v := .pointer (some ⟨p, 0, none⟩)) rfl rfl (by kernel_rfl) (by kernel_rfl) (by kernel_rfl) (fun _ _ _ h => h) (by decide) ⟨by rfl, fun w _ => (by go_simp; try (first | (simp only [IntKind.wrap_u32]; done) | rfl)), fun _ => rfl⟩ (.inr hS) ?_
    have hc1 := hcl.step (i := 0) (by kernel_rfl)
    clear hcl; have hcl := hc1; clear hc1; simp only [List.getElem_toArray, List.getElem_cons_zero, List.getElem_cons_succ, Act.put, List.setIfInBounds_toArray, List.set_cons_zero, List.set_cons_succ]
    refine wpAnyG_pure (i := 1) (v := .pointer (some ⟨p, 0, none⟩)) rfl rfl (by kernel_rfl) (by kernel_rfl) (by kernel_rfl) (fun _ _ _ h => h) (by decide) ⟨by rfl, fun w _ => (by go_simp; try (first | (simp only [IntKind.wrap_u32]; done) | rfl)), fun _ => rfl⟩ (.inr hS) ?_
    have hc1 := hcl.step (i := 1) (by kernel_rfl)
    clear hcl; have hcl := hc1; clear hc1; simp only [List.getElem_toArray, List.getElem_cons_zero, List.getElem_cons_succ, Act.put, List.setIfInBounds_toArray, List.set_cons_zero, List.set_cons_succ]
    refine wpAnyG_pure (i := 2) (v := .pointer (some ⟨p, 4, none⟩)) rfl rfl (by kernel_rfl) (by kernel_rfl) (by kernel_rfl) (fun _ _ _ h => h) (by decide) ⟨by rfl, fun w _ => (by go_simp; try (first | (simp only [IntKind.wrap_u32]; done) | rfl)), fun _ => rfl⟩ (.inr hS) ?_
    have hc1 := hcl.step (i := 2) (by kernel_rfl)
    clear hcl; have hcl := hc1; clear hc1; simp only [List.getElem_toArray, List.getElem_cons_zero, List.getElem_cons_succ, Act.put, List.setIfInBounds_toArray, List.set_cons_zero, List.set_cons_succ]
    refine wpAnyG_take (i := 3) 6 (v := .int .i64 S) rfl rfl (by kernel_rfl) (by kernel_rfl) (by kernel_rfl) (fun _ _ _ h => h) (by kernel_rfl) (by decide) hcl (yields_old ch hp (by exact rfl) (by exact rfl) (by exact rfl) (by first | exact Try.underlying32 | exact Try.underlying3 | exact Try.underlying41) rfl) hS (fun hc1 => ?_)
    clear hcl; have hcl := hc1; clear hc1; simp only [List.getElem_toArray, List.getElem_cons_zero, List.getElem_cons_succ, Act.put, List.setIfInBounds_toArray, List.set_cons_zero, List.set_cons_succ]
    refine wpAnyG_take (i := 4) 6 (v := pv q) rfl rfl (by kernel_rfl) (by kernel_rfl) (by kernel_rfl) (fun _ _ _ h => h) (by kernel_rfl) (by decide) hcl (yields_held (fun w h => HB9.below h.below HB9.lt) (by exact rfl) (by exact rfl) (by exact rfl) Try.underlying37 rfl pkInfo) hS (fun hc1 => ?_)
    clear hcl; have hcl := hc1; clear hc1; simp only [List.getElem_toArray, List.getElem_cons_zero, List.getElem_cons_succ, Act.put, List.setIfInBounds_toArray, List.set_cons_zero, List.set_cons_succ]
    refine wpAnyG_one (i := 5) (by kernel_rfl) rfl (fun K hK => ?_)
    go_simp
    refine hK _ _ (.inr (hS.skip _)) ?_
    clear hK K
    have hc1 := hcl.step (i := 5) (by kernel_rfl)
    clear hcl; have hcl := hc1; clear hc1
    have hN := hS.alloc 37 #[.int .u32 q.id, .int .u32 q.len, .int .i64 q.prio, .int .i64 q.cpu, .int .u32 q.a, .int .u32 q.b, .int .u16 q.sp, .int .u16 q.dp, .int .u8 q.q]
    have hS5 := hS.skip (.cells #[.int .u32 q.id, .int .u32 q.len, .int .i64 q.prio, .int .i64 q.cpu, .int .u32 q.a, .int .u32 q.b, .int .u16 q.sp, .int .u16 q.dp, .int .u8 q.q] 37)
    clear hS
    generalize hbN : wr0.heap.size = bN at hN ⊢
    clear hbN
    generalize wr0.alloc (.cells #[.int .u32 q.id, .int .u32 q.len, .int .i64 q.prio, .int .i64 q.cpu, .int .u32 q.a, .int .u32 q.b, .int .u16 q.sp, .int .u16 q.dp, .int .u8 q.q] 37) = w6 at hN hS5 ⊢
    have hS := hS5
    clear hS5
    simp only [List.cons_append, List.nil_append] at hN
    refine wpAnyG_one (i := 6) (by kernel_rfl) rfl (fun K hK => ?_)
    go_simp
    refine ⟨trivial, (callsIn_wide.2 (kb _ _ (hN.at 0 rfl))).mono ?_⟩
    rintro e w5 ⟨rfl, hb⟩
    have hS5 := hS.call hb
    have hN5 := hN.call hb
    clear hb hS hN
    have hS := hS5
    clear hS5
    have hN := hN5
    clear hN5
    refine hK _ _ (.inr hS) ?_
    clear hK K
    have hc1 := hcl.step (i := 6) (by kernel_rfl)
    clear hcl; have hcl := hc1; clear hc1
    refine wpAnyG_pure (i := 7) (v := .int .i64 (S + q.len)) rfl rfl (by kernel_rfl) (by kernel_rfl) (by kernel_rfl) (fun _ _ _ h => h) (by decide) ⟨by rfl, fun w _ => (by go_simp; try (first | exact w1 | rfl)), fun _ => rfl⟩ (.inr hS) ?_
    have hc1 := hcl.step (i := 7) (by kernel_rfl)
    clear hcl; have hcl := hc1; clear hc1; simp only [List.getElem_toArray, List.getElem_cons_zero, List.getElem_cons_succ, Act.put, List.setIfInBounds_toArray, List.set_cons_zero, List.set_cons_succ]
    refine wpAnyG_one (i := 8) (by kernel_rfl) rfl (fun K hK => ?_)
    go_simp
    refine hK _ _ (.inr hS) ?_
    clear hK K
    refine wpAnyG_one (i := 9) (by kernel_rfl) rfl (fun K hK => ?_)
    go_simp
    refine hK _ _ (.inr hS) ?_
    clear hK K
    refine wpAnyG_one (i := 10) (by kernel_rfl) rfl (fun K hK => ?_)
    have D9 := HX.out.below hS.below
    have F9 := HFX.out.trans' (Foot.of_below (B := own) hS.below)
    have b9 := D9.box.cell 4
    have f9 := D9.box.frozen 4
    refine wpIn_store_old (b := p) (j := 4) (v := .int .i64 (S + q.len)) b9 f9 rfl (by exact rfl) (by exact rfl) (by exact intInfo) rfl ?_
    refine hK _ _ (.inl (by kernel_rfl)) ?_
    clear hK K
    refine wpAnyG_done (by kernel_rfl) ?_ _
    obtain ⟨DL, FL⟩ := D9.setH (S + q.len)
    have HDL := Lib.hid DL
    have HFL := Lib.hid (And.intro F9 FL)
    clear D9 F9 b9 f9 DL FL hS hN hcl
    go_wp2
    go_ret
    refine ⟨rfl, ⟨_, ⟨_, HDL.out.at (s := ⟨s.l ++ [q], s.n, s.b⟩) ?_ ?_ ?_ HD.out.ok ?_ ?_⟩, fun i hi => hi.elim (fun h1 => .inl h1) (fun h1 => HOW.out i h1)⟩, ?_⟩
    · show S + q.len = Fi.bytes (s.l ++ [q])
      rw [bytes_append, HS.out]
      simp [Fi.bytes]
    · show s.l ++ [q] = x.B.reverse ++ (x.U ++ [q])
      rw [HD.out.eq, List.append_assoc]
    · have := HD.out.len
      simp only [List.length_append, List.length_cons, List.length_nil]
      omega
    · intro y hy
      rcases List.mem_append.1 hy with hy | hy
      · exact HD.out.fits y hy
      · rw [List.mem_singleton.1 hy]; exact HQ.out
    · intro y hy
      have hsz : okP q = true := HZ.out
      have hq1 : 1 ≤ q.len ∧ q.len ≤ 65535 := by simpa [okP] using hsz
      rcases List.mem_append.1 hy with hy | hy
      · exact HD.out.sz y hy
      · rw [List.mem_singleton.1 hy]; exact hq1
    · exact HFL.out.1.trans HFL.out.2 (fun i hi e => by
        rcases e with e | e
        · exact e
        · exact (HOW.out i e).elim id (fun h => by omega))
end Go.Proofs.Ytlnlkodpndjimaa.Fi
end
