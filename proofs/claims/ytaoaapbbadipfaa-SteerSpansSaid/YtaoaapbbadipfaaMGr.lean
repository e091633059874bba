/-
  The document's Choose, of a flow that keeps its queue. Conditions: the steer lies where its pointer says, nine hundred flows at most.
-/
import Derived.Test.YtaoaapbbadipfaaMGo
/- The document's Choose, of a flow that keeps its queue. Conditions: the steer lies where its pointer says, nine hundred flows at most. -/
section
namespace Go.Proofs.Ytaoaapbbadipfaa
set_option linter.unusedSimpArgs false
set_option linter.unusedVariables false
set_option maxRecDepth 100000
open Go.ChangeShapes Go.WideShapes Go.ChangeAt Go.RowKit

set_option maxHeartbeats 8000000 in
theorem choose_stay (W : World) (rd own : Nat → Prop) (p : Nat) (s : SS) (N : Nat) (x : RParts) (h : RAt W rd own p s N x) (hN9 : N ≤ 900) (q : PK) (hq : q.Fits) (C : Nat) (hC : C < 64) (hcpu : q.cpu = (C : Int)) (hp16 : 0 ≤ q.prio ∧ q.prio < 16) (f : SF) (hf : x.l[fat x.l (hashI q.f s.salt)]? = some f) (ho0 : f.o ≠ 0) (hin : inS (s.spn q.prio) f.q = true)
    (hcn : 1 ≤ (s.cand q.prio (C : Int)).length ∧ (s.cand q.prio (C : Int)).length ≤ 64) (hcq : ∀ y, y ∈ s.cand q.prio (C : Int) → I64 y) :
    Calls Try.prog 30 #[.pointer (some ⟨p, 0, none⟩), pk q] W (DidR W rd own p (s.set (hashI q.f s.salt) f.q (f.o + 1)) (N + 1) (fun _ => False) (.tuple #[.int .i64 f.q, .int .i64 0])) := by
  have H := Mem.start W
  have HR := Lib.hid h
  have kc := fun w h => cand_yes w rd own p s N x h q.prio hp16 C hC
  unfold GivesInts at kc
  obtain ⟨L, hL⟩ : ∃ L, s.cand q.prio (C : Int) = L := ⟨_, rfl⟩
  rw [hL] at kc hcn hcq
  clear hL
  obtain ⟨n, hn⟩ : ∃ n, L.length = n := ⟨_, rfl⟩
  rw [hn] at hcn
  simp only [hn] at kc
  have k1 := fun w h => spanOf_r x.A1 x.A2 x.c1 x.c2 s.t q.prio w h
  obtain ⟨es1, es2, X0, Y0, es3, hXY⟩ := spn_ok h.right hp16
  rw [es1, es2, es3] at k1
  have ka := fun w h => at_r w rd own p s N x h (by omega) q.f hq.f
  have ko := fun w => ofI_r q.f hq.f s.salt h.salt w
  have hzb := hashI_bd q.f s.salt
  have hlenN := h.len
  have hout := h.out
  have hkl := fat_le x.l (hashI q.f s.salt)
  rw [es3] at hin
  have ki := fun w => in9_r f.q ((X0 : Int), (Y0 : Int)) (by simp only; omega) w
  rw [hin] at ki
  obtain ⟨X, hX⟩ : ∃ X : Int, (X0 : Int) = X := ⟨_, rfl⟩
  obtain ⟨Y, hY⟩ : ∃ Y : Int, (Y0 : Int) = Y := ⟨_, rfl⟩
  rw [hX, hY] at k1 ki
  obtain ⟨z, hz⟩ : ∃ z, hashI q.f s.salt = z := ⟨_, rfl⟩
  rw [hz] at ka ko hzb hkl ⊢
  rw [hz] at hf
  obtain ⟨k, hk⟩ : ∃ k, fat x.l z = k := ⟨_, rfl⟩
  rw [hk] at ka hkl
  have HK := Lib.hid hk
  obtain ⟨m0, hm0⟩ : ∃ m0, x.l.length = m0 := ⟨_, rfl⟩
  have HM0 := Lib.hid hm0
  rw [hm0] at hkl hlenN
  obtain ⟨zs, hzs⟩ : ∃ zs, s.salt = zs := ⟨_, rfl⟩
  have hcell := h.cell
  rw [hzs] at ko hcell
  have HFL := Lib.hid h.flows
  have HS := Lib.hid hzs
  have HCQ := Lib.hid hcq
  have HN0 := Lib.hid hn
  clear h es1 es2 es3 hX hY hcq hn hzs hk hm0 hin
  unfold pk
  rw [hcpu]
  go_enter Try.func30, Try.ntmps30
  go_upto_region 1 with (first
    | ((with_reducible show wpList _ _ _ _ _ (World.alloc _ (.cells _ _))); refine mem_newb H ?_; intro b w3 hbk H2; try rw [← hbk]; clear hbk H; have H := H2; clear H2; simp only [List.cons_append, List.nil_append, List.set_cons_zero, List.set_cons_succ, List.setIfInBounds_toArray] at H))
  go_upto_region 4 with (first
    | ((with_reducible show wpList _ _ _ (⟨_, .load _ _, _, _, _, _⟩ :: _) _ _); refine mem_loadf (i := 0) H (by first | exact wanted_none rfl | exact wanted_some rfl rfl rfl rfl) (by exact rfl) (by exact rfl) (by exact rfl) (by first | exact Try.underlying3 | exact Try.underlying22 | exact Try.underlying29 | exact Try.underlying80) rfl (by exact rfl) ?_)
    | (go_at_call 26; refine (kc _ (HR.out.below H.below)).mono ?_; rintro e w2 ⟨v1, rfl, R, hb⟩; have H2 := H.call hb; obtain ⟨Av, dv, rfl, hdv, Lv0⟩ := lies_of_own R; have Lv := Lib.hid Lv0; have HAV := Lib.hid (fun r hr => Nat.le_trans H.below.size (row_lt R r hr).1); clear H R hb Lv0; have H := H2; clear H2))
  have R2 := Lib.hid (HR.out.below H.below)
  have T2 := Lib.hid R2.out.tab
  have HB2 := Lib.hid H.below
  have G2 := H.at 0 rfl
  have hbw := G2.lt
  have hpw := R2.out.plt
  obtain ⟨c3, c68, _, c0, c1, c2⟩ := R2.out.cell
  rw [HS.out] at c3
  have g2 := G2.cell 2
  have g4 := G2.cell 4
  have g5 := G2.cell 5
  have g6 := G2.cell 6
  have g7 := G2.cell 7
  have g8 := G2.cell 8
  simp only [List.getElem?_toArray, List.getElem?_cons_zero, List.getElem?_cons_succ] at g2 g4 g5 g6 g7 g8
  clear H G2 hcell
  have H := Mem.start w2
  refine region_memk H 11 13 rfl (by kernel_rfl) (fun wr0 hcl hS => ?_)
  clear H
  refine wpAnyG_pure (i := 0) (v := .pointer (some ⟨p, 0, none⟩)) rfl rfl (by kernel_rfl) (by kernel_rfl) (by kernel_rfl) (fun _ _ _ h => h) (by decide) ⟨by rfl, fun w _ => (by go_simp; try (first | (simp only [IntKind.wrap_u32]; done) | rfl)), fun _ => rfl⟩ (.inr hS) ?_
  have hc1 := hcl.step (i := 0) (by kernel_rfl)
  clear hcl; have hcl := hc1; clear hc1; simp only [List.getElem_toArray, List.getElem_cons_zero, List.getElem_cons_succ, Act.put, List.setIfInBounds_toArray, List.set_cons_zero, List.set_cons_succ]
  refine wpAnyG_pure (i := 1) (v := .pointer (some ⟨p, 0, none⟩)) rfl rfl (by kernel_rfl) (by kernel_rfl) (by kernel_rfl) (fun _ _ _ h => h) (by decide) ⟨by rfl, fun w _ => (by go_simp; try (first | (simp only [IntKind.wrap_u32]; done) | rfl)), fun _ => rfl⟩ (.inr hS) ?_
  have hc1 := hcl.step (i := 1) (by kernel_rfl)
  clear hcl; have hcl := hc1; clear hc1; simp only [List.getElem_toArray, List.getElem_cons_zero, List.getElem_cons_succ, Act.put, List.setIfInBounds_toArray, List.set_cons_zero, List.set_cons_succ]
  refine wpAnyG_pure (i := 2) (v := .pointer (some ⟨p, 0, none⟩)) rfl rfl (by kernel_rfl) (by kernel_rfl) (by kernel_rfl) (fun _ _ _ h => h) (by decide) ⟨by rfl, fun w _ => (by go_simp; try (first | (simp only [IntKind.wrap_u32]; done) | rfl)), fun _ => rfl⟩ (.inr hS) ?_
  have hc1 := hcl.step (i := 2) (by kernel_rfl)
  clear hcl; have hcl := hc1; clear hc1; simp only [List.getElem_toArray, List.getElem_cons_zero, List.getElem_cons_succ, Act.put, List.setIfInBounds_toArray, List.set_cons_zero, List.set_cons_succ]
  refine wpAnyG_take (i := 3) 1 (v := .agg #[.int .i64 s.t.q, .slice x.A1 s.t.cl.length x.c1, .slice x.A2 s.t.sp.length x.c2]) rfl rfl (by kernel_rfl) (by kernel_rfl) (by kernel_rfl) (fun _ _ _ h => h) (by kernel_rfl) (by decide) hcl ⟨by rfl, fun w hR => (by have y0 := (Mem.old hR (p := ⟨p, 0, none⟩) hpw).trans c0; have y1 := (Mem.old hR (p := ⟨p, 1, none⟩) hpw).trans c1; have y2 := (Mem.old hR (p := ⟨p, 2, none⟩) hpw).trans c2; go_simp; try rfl), fun _ => rfl⟩ hS (fun hc1 => ?_)
  clear hcl; have hcl := hc1; clear hc1; simp only [List.getElem_toArray, List.getElem_cons_zero, List.getElem_cons_succ, Act.put, List.setIfInBounds_toArray, List.set_cons_zero, List.set_cons_succ]
  refine wpAnyG_pure (i := 4) (v := .pointer (some ⟨b, 2, none⟩)) rfl rfl (by kernel_rfl) (by kernel_rfl) (by kernel_rfl) (fun _ _ _ h => h) (by decide) ⟨by rfl, fun w _ => (by go_simp; try (first | (simp only [IntKind.wrap_u32]; done) | rfl)), fun _ => rfl⟩ (.inr hS) ?_
  have hc1 := hcl.step (i := 4) (by kernel_rfl)
  clear hcl; have hcl := hc1; clear hc1; simp only [List.getElem_toArray, List.getElem_cons_zero, List.getElem_cons_succ, Act.put, List.setIfInBounds_toArray, List.set_cons_zero, List.set_cons_succ]
  refine wpAnyG_take (i := 5) 1 (v := .int .i64 q.prio) rfl rfl (by kernel_rfl) (by kernel_rfl) (by kernel_rfl) (fun _ _ _ h => h) (by kernel_rfl) (by decide) hcl (yields_old g2 hbw (by exact rfl) (by exact rfl) (by exact rfl) Try.underlying3 rfl) hS (fun hc1 => ?_)
  clear hcl; have hcl := hc1; clear hc1; simp only [List.getElem_toArray, List.getElem_cons_zero, List.getElem_cons_succ, Act.put, List.setIfInBounds_toArray, List.set_cons_zero, List.set_cons_succ]
  refine wpAnyG_two (i := 6) (j := 10) (by kernel_rfl) rfl rfl (fun K hK => ?_) (fun K hK => ?_)
  go_simp
  refine ⟨trivial, (callsIn_wide.2 (k1 _ (T2.out.mem hS))).mono ?_⟩
  rintro e w5 ⟨rfl, hb⟩
  have hS5 := hS.call hb
  clear hb hS
  have hS := hS5
  clear hS5
  refine hK _ _ (.inr hS) ?_
  clear hK K
  have hc1 := hcl.step (i := 6) (by kernel_rfl)
  clear hcl; have hcl := hc1; clear hc1
  refine wpAnyG_pure (i := 7) (v := .tuple #[.agg #[.int .i64 X, .int .i64 Y], .int .i64 0]) rfl rfl (by kernel_rfl) (by kernel_rfl) (by kernel_rfl) (fun _ _ _ h => h) (by decide) ⟨by rfl, fun w _ => (by go_simp; try (first | (simp only [IntKind.wrap_u32]; done) | rfl)), fun _ => rfl⟩ (.inr hS) ?_
  have hc1 := hcl.step (i := 7) (by kernel_rfl)
  clear hcl; have hcl := hc1; clear hc1; simp only [List.getElem_toArray, List.getElem_cons_zero, List.getElem_cons_succ, Act.put, List.setIfInBounds_toArray, List.set_cons_zero, List.set_cons_succ]
  refine wpAnyG_pure (i := 8) (v := .agg #[.int .i64 X, .int .i64 Y]) rfl rfl (by kernel_rfl) (by kernel_rfl) (by kernel_rfl) (fun _ _ _ h => h) (by decide) ⟨by rfl, fun w _ => (by go_simp; try (first | (simp only [IntKind.wrap_u32]; done) | rfl)), fun _ => rfl⟩ (.inr hS) ?_
  have hc1 := hcl.step (i := 8) (by kernel_rfl)
  clear hcl; have hcl := hc1; clear hc1; simp only [List.getElem_toArray, List.getElem_cons_zero, List.getElem_cons_succ, Act.put, List.setIfInBounds_toArray, List.set_cons_zero, List.set_cons_succ]
  refine wpAnyG_pure (i := 9) (v := .int .i64 0) rfl rfl (by kernel_rfl) (by kernel_rfl) (by kernel_rfl) (fun _ _ _ h => h) (by decide) ⟨by rfl, fun w _ => (by go_simp; try (first | (simp only [IntKind.wrap_u32]; done) | rfl)), fun _ => rfl⟩ (.inr hS) ?_
  have hc1 := hcl.step (i := 9) (by kernel_rfl)
  clear hcl; have hcl := hc1; clear hc1; simp only [List.getElem_toArray, List.getElem_cons_zero, List.getElem_cons_succ, Act.put, List.setIfInBounds_toArray, List.set_cons_zero, List.set_cons_succ]
  refine wpAnyG_one (i := 10) (by kernel_rfl) rfl (fun K hK => ?_)
  go_simp
  refine hK _ _ (.inr (hS.skip _)) ?_
  clear hK K
  have hc1 := hcl.step (i := 10) (by kernel_rfl)
  clear hcl; have hcl := hc1; clear hc1
  have hN := hS.alloc 59 #[.int .i64 0, .int .i64 0]
  have hS5 := hS.skip (.cells #[.int .i64 0, .int .i64 0] 59)
  clear hS
  generalize hbN : w5.heap.size = bx at hN ⊢
  clear hbN
  generalize w5.alloc (.cells #[.int .i64 0, .int .i64 0] 59) = w6 at hN hS5 ⊢
  have hS := hS5
  clear hS5
  simp only [List.cons_append, List.nil_append] at hN
  refine wpAnyG_one (i := 11) (by kernel_rfl) rfl (fun K hK => ?_)
  rw [if_pos (by exact rfl)]
  refine wpIn_store_mem (i := 0) hN (by exact rfl) (by exact rfl) (by exact rfl) (by exact rfl) (by exact spInfo) (by exact rfl) (by exact rfl) ?_
  intro w7 H
  simp only [List.cons_append, List.nil_append, List.set_cons_zero, List.set_cons_succ, List.setIfInBounds_toArray] at H
  refine hK _ _ (.inl (by kernel_rfl)) ?_
  clear hK K hS hN hcl
  simp only [List.getElem_toArray, List.getElem_cons_zero, List.getElem_cons_succ, Act.put, List.setIfInBounds_toArray, List.set_cons_zero, List.set_cons_succ]
  refine wpAnyG_one (i := 12) (by kernel_rfl) rfl (fun K hK => ?_)
  go_simp
  refine hK _ _ (.inl (by kernel_rfl)) ?_
  clear hK K
  refine wpAnyG_done (by kernel_rfl) ?_ _
  rotate_left 1
  go_simp
  refine hK _ _ (.inr (hS.skip _)) ?_
  clear hK K
  have hc1 := hcl.step (i := 10) (by kernel_rfl)
  clear hcl; have hcl := hc1; clear hc1
  have hN := hS.alloc 59 #[.int .i64 0, .int .i64 0]
  have hS5 := hS.skip (.cells #[.int .i64 0, .int .i64 0] 59)
  clear hS
  generalize hbN : wr0.heap.size = bx at hN ⊢
  clear hbN
  generalize wr0.alloc (.cells #[.int .i64 0, .int .i64 0] 59) = w6 at hN hS5 ⊢
  have hS := hS5
  clear hS5
  simp only [List.cons_append, List.nil_append] at hN
  refine wpAnyG_one (i := 6) (by kernel_rfl) rfl (fun K hK => ?_)
  go_simp
  refine ⟨trivial, (callsIn_wide.2 (k1 _ (T2.out.mem hS))).mono ?_⟩
  rintro e w5 ⟨rfl, hb⟩
  have hS5 := hS.call hb
  have hN5 := hN.call hb
  clear hb hS hN
  have hS := hS5
  clear hS5
  have hN := hN5
  clear hN5
  refine hK _ _ (.inr hS) ?_
  clear hK K
  have hc1 := hcl.step (i := 6) (by kernel_rfl)
  clear hcl; have hcl := hc1; clear hc1
  refine wpAnyG_pure (i := 7) (v := .tuple #[.agg #[.int .i64 X, .int .i64 Y], .int .i64 0]) rfl rfl (by kernel_rfl) (by kernel_rfl) (by kernel_rfl) (fun _ _ _ h => h) (by decide) ⟨by rfl, fun w _ => (by go_simp; try (first | (simp only [IntKind.wrap_u32]; done) | rfl)), fun _ => rfl⟩ (.inr hS) ?_
  have hc1 := hcl.step (i := 7) (by kernel_rfl)
  clear hcl; have hcl := hc1; clear hc1; simp only [List.getElem_toArray, List.getElem_cons_zero, List.getElem_cons_succ, Act.put, List.setIfInBounds_toArray, List.set_cons_zero, List.set_cons_succ]
  refine wpAnyG_pure (i := 8) (v := .agg #[.int .i64 X, .int .i64 Y]) rfl rfl (by kernel_rfl) (by kernel_rfl) (by kernel_rfl) (fun _ _ _ h => h) (by decide) ⟨by rfl, fun w _ => (by go_simp; try (first | (simp only [IntKind.wrap_u32]; done) | rfl)), fun _ => rfl⟩ (.inr hS) ?_
  have hc1 := hcl.step (i := 8) (by kernel_rfl)
  clear hcl; have hcl := hc1; clear hc1; simp only [List.getElem_toArray, List.getElem_cons_zero, List.getElem_cons_succ, Act.put, List.setIfInBounds_toArray, List.set_cons_zero, List.set_cons_succ]
  refine wpAnyG_pure (i := 9) (v := .int .i64 0) rfl rfl (by kernel_rfl) (by kernel_rfl) (by kernel_rfl) (fun _ _ _ h => h) (by decide) ⟨by rfl, fun w _ => (by go_simp; try (first | (simp only [IntKind.wrap_u32]; done) | rfl)), fun _ => rfl⟩ (.inr hS) ?_
  have hc1 := hcl.step (i := 9) (by kernel_rfl)
  clear hcl; have hcl := hc1; clear hc1; simp only [List.getElem_toArray, List.getElem_cons_zero, List.getElem_cons_succ, Act.put, List.setIfInBounds_toArray, List.set_cons_zero, List.set_cons_succ]
  refine wpAnyG_one (i := 11) (by kernel_rfl) rfl (fun K hK => ?_)
  rw [if_pos (by exact rfl)]
  refine wpIn_store_mem (i := 0) hN (by exact rfl) (by exact rfl) (by exact rfl) (by exact rfl) (by exact spInfo) (by exact rfl) (by exact rfl) ?_
  intro w7 H
  simp only [List.cons_append, List.nil_append, List.set_cons_zero, List.set_cons_succ, List.setIfInBounds_toArray] at H
  refine hK _ _ (.inl (by kernel_rfl)) ?_
  clear hK K hS hN hcl
  simp only [List.getElem_toArray, List.getElem_cons_zero, List.getElem_cons_succ, Act.put, List.setIfInBounds_toArray, List.set_cons_zero, List.set_cons_succ]
  refine wpAnyG_one (i := 12) (by kernel_rfl) rfl (fun K hK => ?_)
  go_simp
  refine hK _ _ (.inl (by kernel_rfl)) ?_
  clear hK K
  refine wpAnyG_done (by kernel_rfl) ?_ _
  all_goals
    have H7 := Lib.hid H
    have c68' := (H.old (p := ⟨p, 68, none⟩) hpw).trans c68
    have g4' := (H.old (p := ⟨b, 4, none⟩) hbw).trans g4
    have g5' := (H.old (p := ⟨b, 5, none⟩) hbw).trans g5
    have g6' := (H.old (p := ⟨b, 6, none⟩) hbw).trans g6
    have g7' := (H.old (p := ⟨b, 7, none⟩) hbw).trans g7
    have g8' := (H.old (p := ⟨b, 8, none⟩) hbw).trans g8
    go_upto_region 6 with (first
      | (go_at_call 35; with_reducible refine (ka _ (R2.out.below H.below)).mono ?_; rintro e w2 ⟨rfl, hb⟩; have H2 := H.call hb; clear H hb; have H := H2; clear H2))
    clear c68' g4' g5' g6' g7' g8'
    refine region_mem H 8 rfl (by kernel_rfl) (fun wr hS => ?_)
    clear H
    refine wpAnyR_take (i := 0) (v := (.pointer (some ⟨b, 4, none⟩))) rfl rfl (by kernel_rfl) (by kernel_rfl) (by kernel_rfl) (fun _ _ _ h => h) (Nat.le_refl _) ⟨by rfl, fun w _ => (by go_simp; try (first | rfl | omega)), fun _ => rfl⟩ hS ?_
    simp only [List.getElem_toArray, List.getElem_cons_zero, List.getElem_cons_succ, Act.put, List.setIfInBounds_toArray, List.set_cons_zero, List.set_cons_succ]
    refine wpAnyR_take (i := 1) (v := (.agg #[.int .u32 q.f.a, .int .u32 q.f.b, .int .u16 q.f.sp, .int .u16 q.f.dp, .int .u8 q.f.q])) rfl rfl (by kernel_rfl) (by kernel_rfl) (by kernel_rfl) (fun _ _ _ h => h) (Nat.le_refl _) ⟨by rfl, fun w hR => (by have y0 := (Mem.old hR (p := ⟨b, 4, none⟩) hbw).trans g4; have y1 := (Mem.old hR (p := ⟨b, 5, none⟩) hbw).trans g5; have y2 := (Mem.old hR (p := ⟨b, 6, none⟩) hbw).trans g6; have y3 := (Mem.old hR (p := ⟨b, 7, none⟩) hbw).trans g7; have y4 := (Mem.old hR (p := ⟨b, 8, none⟩) hbw).trans g8; go_simp; try rfl), fun _ => rfl⟩ hS ?_
    simp only [List.getElem_toArray, List.getElem_cons_zero, List.getElem_cons_succ, Act.put, List.setIfInBounds_toArray, List.set_cons_zero, List.set_cons_succ]
    refine wpAnyR_take (i := 2) (v := (.pointer (some ⟨p, 0, none⟩))) rfl rfl (by kernel_rfl) (by kernel_rfl) (by kernel_rfl) (fun _ _ _ h => h) (Nat.le_refl _) ⟨by rfl, fun w _ => (by go_simp; try (first | rfl | omega)), fun _ => rfl⟩ hS ?_
    simp only [List.getElem_toArray, List.getElem_cons_zero, List.getElem_cons_succ, Act.put, List.setIfInBounds_toArray, List.set_cons_zero, List.set_cons_succ]
    refine wpAnyR_take (i := 3) (v := (.pointer (some ⟨p, 0, none⟩))) rfl rfl (by kernel_rfl) (by kernel_rfl) (by kernel_rfl) (fun _ _ _ h => h) (Nat.le_refl _) ⟨by rfl, fun w _ => (by go_simp; try (first | rfl | omega)), fun _ => rfl⟩ hS ?_
    simp only [List.getElem_toArray, List.getElem_cons_zero, List.getElem_cons_succ, Act.put, List.setIfInBounds_toArray, List.set_cons_zero, List.set_cons_succ]
    refine wpAnyR_take (i := 4) (v := (.pointer (some ⟨p, 3, none⟩))) rfl rfl (by kernel_rfl) (by kernel_rfl) (by kernel_rfl) (fun _ _ _ h => h) (Nat.le_refl _) ⟨by rfl, fun w _ => (by go_simp; try (first | rfl | omega)), fun _ => rfl⟩ hS ?_
    simp only [List.getElem_toArray, List.getElem_cons_zero, List.getElem_cons_succ, Act.put, List.setIfInBounds_toArray, List.set_cons_zero, List.set_cons_succ]
    refine wpAnyR_take (i := 5) (v := (.int .u32 zs)) rfl rfl (by kernel_rfl) (by kernel_rfl) (by kernel_rfl) (fun _ _ _ h => h) (Nat.le_refl _) (yields_old c3 hpw (by exact rfl) (by exact rfl) (by exact rfl) Try.underlying22 rfl) hS ?_
    simp only [List.getElem_toArray, List.getElem_cons_zero, List.getElem_cons_succ, Act.put, List.setIfInBounds_toArray, List.set_cons_zero, List.set_cons_succ]
    refine wpAnyG_one (i := 6) (by kernel_rfl) rfl (fun K hK => ?_)
    go_simp
    refine ⟨trivial, (callsIn_wide.2 (ko _)).mono ?_⟩
    rintro e w5 ⟨rfl, hb⟩
    have hS5 := hS.call hb
    refine hK _ _ (.inr hS5) ?_
    clear hK K hS hb
    have hS := hS5
    clear hS5
    try simp only [List.getElem_toArray, List.getElem_cons_zero, List.getElem_cons_succ, Act.put, List.setIfInBounds_toArray, List.set_cons_zero, List.set_cons_succ]
    refine wpAnyG_one (i := 7) (by kernel_rfl) rfl (fun K hK => ?_)
    go_simp
    refine hK _ _ (.inr hS) ?_
    clear hK K
    refine wpAnyG_done (by kernel_rfl) ?_ _
    have H := hS
    clear hS
    have c68' := (H.old (p := ⟨p, 68, none⟩) hpw).trans c68
    have HBX0 := H.at 0 rfl
    have Lv5 := lies_below Lv.out H.below
    have R5 := R2.out.below H.below
    have FT5 := Lib.hid (HB2.out.trans (H.below.mono HB2.out.size))
    have hflk := flook_at hf
    have HF := Lib.hid hf
    have hkl2 : fat x.l z < x.l.length := (List.getElem?_eq_some_iff.1 hf).1
    rw [HK.out, HM0.out] at hkl2
    obtain ⟨A, capc, hfv, hcapc, hcmc, hfl⟩ := R5.flows
    obtain ⟨g, rfl, hgc, hgo, hgp, f0, f1, f2⟩ := hfl _ _ hf
    rw [HK.out] at f1 f2
    have p68 := c68'
    rw [hfv, HM0.out] at p68
    have t1 : ((k : Int) == (m0 : Int)) = false := by rw [beq_eq_false_iff_ne]; omega
    have hfb := hout f (List.mem_of_getElem? hf)
    rw [HM0.out] at hcapc
    clear c68'
    have PKG : ∃ (sc : SS) (rdc ownc : Nat → Prop) (xc : RParts), Hid (RAt w5 rdc ownc p sc (N + 1) xc ∧ xc.l[k]? = some f ∧ fat xc.l z = k ∧ xc.fv = .slice (some ⟨g, 0, none⟩) xc.l.length capc ∧ (∀ a b, sc.set z a b = s.set z a b) ∧ (∀ i, rdc i → rd i ∨ W.heap.size ≤ i) ∧ (∀ i, ownc i → own i ∨ W.heap.size ≤ i) ∧ Foot own W w5 ∧ f.n = z ∧ xc.l.length = m0 ∧ ownc g) :=
      ⟨s, rd, own, x, Lib.hid ⟨R5.mono (by omega), by rw [← HK.out]; exact HF.out, HK.out, hfv, fun a b => rfl, fun i hi => .inl hi, fun i hi => .inl hi, Foot.of_below FT5.out, hflk.1, HM0.out, hgo⟩⟩
    obtain ⟨sc, rdc, ownc, xc, PK⟩ := PKG
    clear hfl hfv hf hflk f0 R5 hout hgo
    have t2 : (f.o == 0) = false := by rw [beq_eq_false_iff_ne]; exact ho0
    have HO0 := Lib.hid ho0
    clear ho0
    go_wp2
    have HBX := Lib.hid HBX0
    have hpc := PK.out.1.plt
    have Lv6 := Lib.hid Lv5
    clear HBX0 Lv5 hpw hbw c0 c1 c2 c3 c68 g2 g4 g5 g6 g7 g8 k1 ka ko H7 H
    have H := Mem.start w5
    refine region_mem H 22 rfl (by kernel_rfl) (fun wr hS => ?_)
    clear H
    refine wpAnyR_take (i := 0) (v := (.pointer (some ⟨p, 0, none⟩))) rfl rfl (by kernel_rfl) (by kernel_rfl) (by kernel_rfl) (fun _ _ _ h => h) (Nat.le_refl _) ⟨by rfl, fun w _ => (by go_simp; try (first | rfl | omega)), fun _ => rfl⟩ hS ?_
    simp only [List.getElem_toArray, List.getElem_cons_zero, List.getElem_cons_succ, Act.put, List.setIfInBounds_toArray, List.set_cons_zero, List.set_cons_succ]
    refine wpAnyR_take (i := 1) (v := (.pointer (some ⟨p, 0, none⟩))) rfl rfl (by kernel_rfl) (by kernel_rfl) (by kernel_rfl) (fun _ _ _ h => h) (Nat.le_refl _) ⟨by rfl, fun w _ => (by go_simp; try (first | rfl | omega)), fun _ => rfl⟩ hS ?_
    simp only [List.getElem_toArray, List.getElem_cons_zero, List.getElem_cons_succ, Act.put, List.setIfInBounds_toArray, List.set_cons_zero, List.set_cons_succ]
    refine wpAnyR_take (i := 2) (v := (.pointer (some ⟨p, 68, none⟩))) rfl rfl (by kernel_rfl) (by kernel_rfl) (by kernel_rfl) (fun _ _ _ h => h) (Nat.le_refl _) ⟨by rfl, fun w _ => (by go_simp; try (first | rfl | omega)), fun _ => rfl⟩ hS ?_
    simp only [List.getElem_toArray, List.getElem_cons_zero, List.getElem_cons_succ, Act.put, List.setIfInBounds_toArray, List.set_cons_zero, List.set_cons_succ]
    refine wpAnyR_take (i := 3) (v := (.slice (some ⟨g, 0, none⟩) m0 capc)) rfl rfl (by kernel_rfl) (by kernel_rfl) (by kernel_rfl) (fun _ _ _ h => h) (Nat.le_refl _) (yields_old p68 hpc (by exact rfl) (by exact rfl) (by exact rfl) Try.underlying80 rfl) hS ?_
    simp only [List.getElem_toArray, List.getElem_cons_zero, List.getElem_cons_succ, Act.put, List.setIfInBounds_toArray, List.set_cons_zero, List.set_cons_succ]
    refine wpAnyR_take (i := 4) (v := (.int .i64 (k : Int))) rfl rfl (by kernel_rfl) (by kernel_rfl) (by kernel_rfl) (fun _ _ _ h => h) (Nat.le_refl _) ⟨by rfl, fun w _ => (by go_simp; try (first | rfl | omega)), fun _ => rfl⟩ hS ?_
    simp only [List.getElem_toArray, List.getElem_cons_zero, List.getElem_cons_succ, Act.put, List.setIfInBounds_toArray, List.set_cons_zero, List.set_cons_succ]
    refine wpAnyR_take (i := 5) (v := (.pointer (some ⟨g, k * 3, none⟩))) rfl rfl (by kernel_rfl) (by kernel_rfl) (by kernel_rfl) (fun _ _ _ h => h) (Nat.le_refl _) ⟨by rfl, fun w _ => (by go_simp; try (first | rfl | omega)), fun _ => rfl⟩ hS ?_
    simp only [List.getElem_toArray, List.getElem_cons_zero, List.getElem_cons_succ, Act.put, List.setIfInBounds_toArray, List.set_cons_zero, List.set_cons_succ]
    refine wpAnyR_take (i := 6) (v := (.pointer (some ⟨g, k * 3 + 2, none⟩))) rfl rfl (by kernel_rfl) (by kernel_rfl) (by kernel_rfl) (fun _ _ _ h => h) (Nat.le_refl _) ⟨by rfl, fun w _ => (by go_simp; try (first | rfl | omega)), fun _ => rfl⟩ hS ?_
    simp only [List.getElem_toArray, List.getElem_cons_zero, List.getElem_cons_succ, Act.put, List.setIfInBounds_toArray, List.set_cons_zero, List.set_cons_succ]
    refine wpAnyR_take (i := 7) (v := (.int .i64 f.o)) rfl rfl (by kernel_rfl) (by kernel_rfl) (by kernel_rfl) (fun _ _ _ h => h) (Nat.le_refl _) (yields_old f2 hgc (by exact rfl) (by exact rfl) (by exact rfl) Try.underlying3 rfl) hS ?_
    simp only [List.getElem_toArray, List.getElem_cons_zero, List.getElem_cons_succ, Act.put, List.setIfInBounds_toArray, List.set_cons_zero, List.set_cons_succ]
    refine wpAnyR_take (i := 8) (v := (.bool false)) rfl rfl (by kernel_rfl) (by kernel_rfl) (by kernel_rfl) (fun _ _ _ h => h) (Nat.le_refl _) ⟨by rfl, fun w _ => (by go_simp; try (first | rfl | omega)), fun _ => rfl⟩ hS ?_
    simp only [List.getElem_toArray, List.getElem_cons_zero, List.getElem_cons_succ, Act.put, List.setIfInBounds_toArray, List.set_cons_zero, List.set_cons_succ]
    refine wpAnyR_take (i := 9) (v := (.bool false)) rfl rfl (by kernel_rfl) (by kernel_rfl) (by kernel_rfl) (fun _ _ _ h => h) (Nat.le_refl _) ⟨by rfl, fun w _ => (by go_simp; try (first | rfl | omega)), fun _ => rfl⟩ hS ?_
    simp only [List.getElem_toArray, List.getElem_cons_zero, List.getElem_cons_succ, Act.put, List.setIfInBounds_toArray, List.set_cons_zero, List.set_cons_succ]
    refine wpAnyR_take (i := 10) (v := (.pointer (some ⟨p, 0, none⟩))) rfl rfl (by kernel_rfl) (by kernel_rfl) (by kernel_rfl) (fun _ _ _ h => h) (Nat.le_refl _) ⟨by rfl, fun w _ => (by go_simp; try (first | rfl | omega)), fun _ => rfl⟩ hS ?_
    simp only [List.getElem_toArray, List.getElem_cons_zero, List.getElem_cons_succ, Act.put, List.setIfInBounds_toArray, List.set_cons_zero, List.set_cons_succ]
    refine wpAnyR_take (i := 11) (v := (.pointer (some ⟨p, 0, none⟩))) rfl rfl (by kernel_rfl) (by kernel_rfl) (by kernel_rfl) (fun _ _ _ h => h) (Nat.le_refl _) ⟨by rfl, fun w _ => (by go_simp; try (first | rfl | omega)), fun _ => rfl⟩ hS ?_
    simp only [List.getElem_toArray, List.getElem_cons_zero, List.getElem_cons_succ, Act.put, List.setIfInBounds_toArray, List.set_cons_zero, List.set_cons_succ]
    refine wpAnyR_take (i := 12) (v := (.pointer (some ⟨p, 68, none⟩))) rfl rfl (by kernel_rfl) (by kernel_rfl) (by kernel_rfl) (fun _ _ _ h => h) (Nat.le_refl _) ⟨by rfl, fun w _ => (by go_simp; try (first | rfl | omega)), fun _ => rfl⟩ hS ?_
    simp only [List.getElem_toArray, List.getElem_cons_zero, List.getElem_cons_succ, Act.put, List.setIfInBounds_toArray, List.set_cons_zero, List.set_cons_succ]
    refine wpAnyR_take (i := 13) (v := (.slice (some ⟨g, 0, none⟩) m0 capc)) rfl rfl (by kernel_rfl) (by kernel_rfl) (by kernel_rfl) (fun _ _ _ h => h) (Nat.le_refl _) (yields_old p68 hpc (by exact rfl) (by exact rfl) (by exact rfl) Try.underlying80 rfl) hS ?_
    simp only [List.getElem_toArray, List.getElem_cons_zero, List.getElem_cons_succ, Act.put, List.setIfInBounds_toArray, List.set_cons_zero, List.set_cons_succ]
    refine wpAnyR_take (i := 14) (v := (.int .i64 (k : Int))) rfl rfl (by kernel_rfl) (by kernel_rfl) (by kernel_rfl) (fun _ _ _ h => h) (Nat.le_refl _) ⟨by rfl, fun w _ => (by go_simp; try (first | rfl | omega)), fun _ => rfl⟩ hS ?_
    simp only [List.getElem_toArray, List.getElem_cons_zero, List.getElem_cons_succ, Act.put, List.setIfInBounds_toArray, List.set_cons_zero, List.set_cons_succ]
    refine wpAnyR_take (i := 15) (v := (.pointer (some ⟨g, k * 3, none⟩))) rfl rfl (by kernel_rfl) (by kernel_rfl) (by kernel_rfl) (fun _ _ _ h => h) (Nat.le_refl _) ⟨by rfl, fun w _ => (by go_simp; try (first | rfl | omega)), fun _ => rfl⟩ hS ?_
    simp only [List.getElem_toArray, List.getElem_cons_zero, List.getElem_cons_succ, Act.put, List.setIfInBounds_toArray, List.set_cons_zero, List.set_cons_succ]
    refine wpAnyR_take (i := 16) (v := (.pointer (some ⟨g, k * 3 + 1, none⟩))) rfl rfl (by kernel_rfl) (by kernel_rfl) (by kernel_rfl) (fun _ _ _ h => h) (Nat.le_refl _) ⟨by rfl, fun w _ => (by go_simp; try (first | rfl | omega)), fun _ => rfl⟩ hS ?_
    simp only [List.getElem_toArray, List.getElem_cons_zero, List.getElem_cons_succ, Act.put, List.setIfInBounds_toArray, List.set_cons_zero, List.set_cons_succ]
    refine wpAnyR_take (i := 17) (v := (.int .i64 f.q)) rfl rfl (by kernel_rfl) (by kernel_rfl) (by kernel_rfl) (fun _ _ _ h => h) (Nat.le_refl _) (yields_old f1 hgc (by exact rfl) (by exact rfl) (by exact rfl) Try.underlying3 rfl) hS ?_
    simp only [List.getElem_toArray, List.getElem_cons_zero, List.getElem_cons_succ, Act.put, List.setIfInBounds_toArray, List.set_cons_zero, List.set_cons_succ]
    refine wpAnyR_take (i := 18) (v := (.agg #[.int .i64 X, .int .i64 Y])) rfl rfl (by kernel_rfl) (by kernel_rfl) (by kernel_rfl) (fun _ _ _ h => h) (Nat.le_refl _) (yields_held (fun w h => (HBX.out.below (Mem.below h) HBX.out.lt)) (by exact rfl) (by exact rfl) (by exact rfl) Try.underlying59 rfl (by exact spInfo)) hS ?_
    simp only [List.getElem_toArray, List.getElem_cons_zero, List.getElem_cons_succ, Act.put, List.setIfInBounds_toArray, List.set_cons_zero, List.set_cons_succ]
    refine wpAnyG_one (i := 19) (by kernel_rfl) rfl (fun K hK => ?_)
    go_simp
    refine ⟨trivial, (callsIn_wide.2 (ki _)).mono ?_⟩
    rintro e w6 ⟨rfl, hb⟩
    have hS6 := hS.call hb
    refine hK _ _ (.inr hS6) ?_
    clear hK K hS hb
    have hS := hS6
    clear hS6
    try simp only [List.getElem_toArray, List.getElem_cons_zero, List.getElem_cons_succ, Act.put, List.setIfInBounds_toArray, List.set_cons_zero, List.set_cons_succ]
    refine wpAnyR_take (i := 20) (v := (.bool false)) rfl rfl (by kernel_rfl) (by kernel_rfl) (by kernel_rfl) (fun _ _ _ h => h) (Nat.le_refl _) ⟨by rfl, fun w _ => (by go_simp; try (first | rfl | omega)), fun _ => rfl⟩ hS ?_
    simp only [List.getElem_toArray, List.getElem_cons_zero, List.getElem_cons_succ, Act.put, List.setIfInBounds_toArray, List.set_cons_zero, List.set_cons_succ]
    refine wpAnyG_one (i := 21) (by kernel_rfl) rfl (fun K hK => ?_)
    go_simp
    refine hK _ _ (.inr hS) ?_
    clear hK K
    refine wpAnyG_done (by kernel_rfl) ?_ _
    have H := hS
    clear hS
    clear t2
    have Ry := Lib.hid (PK.out.1.below H.below)
    have FT := Lib.hid (Foot.of_below (B := ownc) H.below)
    have HGO := Lib.hid PK.out.2.2.2.2.2.2.2.2.2.2
    obtain ⟨Qv, hQv⟩ : ∃ Qv, f.q = Qv := ⟨_, rfl⟩
    have HQV := Lib.hid hQv
    have HQ := Lib.hid (show I64 Qv from hQv ▸ hfb.2.2.1)
    obtain ⟨sy, xy, fy, YK⟩ : ∃ sy xy fy, Hid (RAt w6 rdc ownc p sy (N + 1) xy ∧ xy.l[k]? = some fy ∧ fat xy.l z = k ∧ xy.fv = .slice (some ⟨g, 0, none⟩) xy.l.length capc ∧ (∀ a b, sy.set z a b = s.set z a b) ∧ fy.n = z ∧ xy.l.length = m0 ∧ fy.q = Qv ∧ fy.o = f.o) :=
      ⟨sc, xc, f, Lib.hid ⟨Ry.out, PK.out.2.1, PK.out.2.2.1, PK.out.2.2.2.1, PK.out.2.2.2.2.1, PK.out.2.2.2.2.2.2.2.2.1, PK.out.2.2.2.2.2.2.2.2.2.1, hQv, rfl⟩⟩
    clear Ry hQv
    obtain ⟨r0, hr0, y68, y1, y2⟩ : ∃ _ : Unit, w6.ownsRow 0 89 3 (.slice (some ⟨g, 0, none⟩) m0 capc) m0 (sfCs xy.l) ∧ w6.cell? ⟨p, 68, none⟩ = some (.slice (some ⟨g, 0, none⟩) m0 capc) ∧ w6.cell? ⟨g, k * 3 + 1, none⟩ = some (.int .i64 Qv) ∧ w6.cell? ⟨g, k * 3 + 2, none⟩ = some (.int .i64 f.o) := by
      obtain ⟨u1, u2, u3, u4, u5, u6, u7, u8, u9⟩ := YK.out
      have r1 := u1.row
      have r2 := u1.cell.2.1
      rw [u4, u7] at r1 r2
      obtain ⟨_, e1, e2⟩ := sfCs_get u2
      rw [u8] at e1
      rw [u9] at e2
      exact ⟨(), r1, r2, (World.ownsRow.cellAt r1 _ (by omega)).trans e1, (World.ownsRow.cellAt r1 _ (by omega)).trans e2⟩
    have fz2 := hr0.frozenAt (k * 3 + 2)
    clear hr0
    go_upto_region 13 with fail
    have Rz0 := YK.out.1.flowset (n := z) (f := fy) (f' := { fy with o := f.o + 1 }) (M := N + 1) (by rw [YK.out.2.2.1]; exact YK.out.2.1) YK.out.2.2.2.1 (j := 2) (u := .int .i64 (f.o + 1)) (by omega) rfl YK.out.2.2.2.2.2.1 (Nat.le_refl _) ⟨by simp only; omega, by simp only; omega, by simp only; rw [YK.out.2.2.2.2.2.2.2.1]; exact HQ.out⟩
    rw [YK.out.2.2.1] at Rz0
    have hss := YK.out.2.2.2.2.1 fy.q (f.o + 1)
    have FT9 := FT.out.setCell (p := ⟨g, k * 3 + 2, none⟩) (fun _ => HGO.out) (.int .i64 (f.o + 1))
    clear y68 y1 y2 fz2
    generalize w6.setCell ⟨g, k * 3 + 2, none⟩ (.int .i64 (f.o + 1)) = w9 at Rz0 FT9 ⊢
    obtain ⟨_, z68, z1⟩ : ∃ _ : Unit, w9.cell? ⟨p, 68, none⟩ = some (.slice (some ⟨g, 0, none⟩) m0 capc) ∧ w9.cell? ⟨g, k * 3 + 1, none⟩ = some (.int .i64 Qv) := by
      have r1 : w9.ownsRow 0 89 3 xy.fv (xy.l.set k { fy with o := f.o + 1 }).length (sfCs (xy.l.set k { fy with o := f.o + 1 })) := Rz0.row
      have r2 : w9.cell? ⟨p, 68, none⟩ = some xy.fv := Rz0.cell.2.1
      rw [YK.out.2.2.2.1] at r1 r2
      rw [YK.out.2.2.2.2.2.2.1] at r1 r2
      rw [List.length_set, YK.out.2.2.2.2.2.2.1] at r1
      have hk2 : (xy.l.set k { fy with o := f.o + 1 })[k]? = some { fy with o := f.o + 1 } := by
        have := (List.getElem?_eq_some_iff.1 YK.out.2.1).1
        simp [this]
      obtain ⟨_, e1, _⟩ := sfCs_get hk2
      exact ⟨(), r2, ((World.ownsRow.cellAt r1 _ (by omega)).trans e1).trans (by rw [show ({ fy with o := f.o + 1 } : SF).q = Qv from YK.out.2.2.2.2.2.2.2.1])⟩
    have HZ := Lib.hid (And.intro Rz0 (And.intro hss FT9))
    clear Rz0 hss FT9
    go_wp2
    refine bodyPost_ret (results_two rfl _ _ _) rfl ?_
    have hR := HZ.out.1
    rw [HZ.out.2.1, YK.out.2.2.2.2.2.2.2.1] at hR
    refine ⟨by rw [HQV.out]; rfl, ⟨rdc, ownc, _, (by rw [HQV.out]; exact hR), fun i hi => ?_, PK.out.2.2.2.2.2.2.1⟩, ?_⟩
    · rcases PK.out.2.2.2.2.2.1 i hi with h1 | h1
      · exact .inl h1
      · exact .inr (.inr h1)
    · have hs5 := FT5.out.size
      exact PK.out.2.2.2.2.2.2.2.1.trans HZ.out.2.2 fun i hi ho => by
        rcases PK.out.2.2.2.2.2.2.1 i ho with h1 | h1
        · exact h1
        · omega
end Go.Proofs.Ytaoaapbbadipfaa
end
