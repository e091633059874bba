/-
  The program's Choose: a flow that moves. Conditions: the steer lies where its pointer says.
-/
import Derived.Test.YtaoaapbbadipfaaMHa
/- The program's Choose: a flow that moves. Conditions: the steer lies where its pointer says. -/
section
namespace Go.Proofs.Ytaoaapbbadipfaa
set_option linter.unusedSimpArgs false
set_option linter.unusedVariables false
set_option maxRecDepth 100000
open Go.ChangeShapes Go.WideShapes Go.ChangeAt Go.RowKit Go.Maps

set_option maxHeartbeats 2000000 in
theorem chooseP_move (W : World) (rd own : Nat → Prop) (p : Nat) (s : SS) (N : Nat) (x : PParts) (h : QAt W rd own p s N x) (hN : N ≤ 900) (q : PK) (hq : q.Fits) (pr C : Nat) (hpr : pr < 16) (hC : C < 64) (ep : q.prio = (pr : Int)) (ec : q.cpu = (C : Int)) (n : Int) (hn : hashI q.f s.salt = n) (Vq Vo : Int) (hVq : fQ s.fl n = Vq) (hVo : fO s.fl n = Vo) (h0 : Vo ≠ 0) (hin : inS (s.spn (pr : Int)) Vq = false) :
    Calls Try.prog 19 #[.pointer (some ⟨p, 0, none⟩), pk q] W (DidG PAt9 W rd own p (s.set n (pickQ (s.cand (pr : Int) (C : Int)) n) (Vo + 1)) (N + 1) (fun _ => False) (.tuple #[.int .i64 (pickQ (s.cand (pr : Int) (C : Int)) n), .int .i64 0])) := by
  have H := Mem.start W
  have hp := h.plt
  obtain ⟨_, c98, _, _, hsp⟩ := h.cell
  have hmi := fun w (hb : Below W.heap.size W w) => miss_no w rd own p s N x (h.below hb)
  have kp := fun w => isPrio_p (pr : Int) true (by simp [prioB]; omega) w
  have kc := fun w => isCpu_p (C : Int) true (by simp [cpuB]; omega) w
  have hnb : 0 ≤ n ∧ n ≤ 4294967295 := by rw [← hn]; exact hashI_bd _ _
  have ko := fun w (hb : Below W.heap.size W w) => hashOf_p w rd own p s N x (h.below hb) q.f hq.f n hn
  have kl := fun w (hb : Below W.heap.size W w) => (h.below hb).look hnb
  obtain ⟨hcn, hcq⟩ := cand_in h.right h.m64 (pr := (pr : Int)) (by omega) hC
  have hpin := hcq _ (pick_in hcn hnb)
  have kpr := fun w (hb : Below W.heap.size W w) => preferred_p w rd own p s N x (h.below hb) n hnb pr C hpr hC
  obtain ⟨_, _, X, Y, hspn, hY, hXY, hq64⟩ := spn_ok h.right (p := (pr : Int)) (by omega)
  have hX : s.t.spAt pr = ((X : Int), (Y : Int)) := by rw [← hspn, SS.spn, Int.toNat_natCast]
  obtain ⟨k1, k2⟩ := hsp pr hpr
  rw [hX] at k1 k2
  have hrg : W.rangeAt p (1 + pr * 2) [.int .i64 (X : Int), .int .i64 (Y : Int)] := fun j v hv => by
    rw [show 1 + 2 * pr = 1 + pr * 2 by omega] at k1 k2
    match j, hv with
    | 0, hv => cases hv; exact k1
    | 1, hv => cases hv; exact k2
  have hVb : 0 ≤ Vo ∧ Vo ≤ 900 ∧ I64 Vq ∧ Vo ≤ N := by
    rw [← hVo, ← hVq]
    unfold fO fQ
    rcases e : s.fl n with _ | ⟨a, b⟩
    · exact ⟨Int.le_refl _, (by decide), (by simp only [I64]; omega), Int.natCast_nonneg N⟩
    · obtain ⟨b1, b2, b3⟩ := h.out n a b e
      exact ⟨b2, by simp only; omega, b1, b3⟩
  obtain ⟨m, hm⟩ : ∃ m, x.m = m := ⟨_, rfl⟩
  rw [hVq, hVo, hm] at kl
  rw [hm] at c98
  have t1 : (Vo == 0) = false := by simpa using h0
  rw [hspn] at hin
  have kh := fun w => hasS_p Vq ((X : Int), (Y : Int)) false hin (by simp only; omega) w
  have t2 : decide ((pr : Int) < 16) = true := decide_eq_true (by omega)
  have HL := Lib.hid kl
  have HQ := Lib.hid h
  have HM := Lib.hid (And.intro hm hnb)
  have HR := Lib.hid hrg
  have hVb1 : 0 ≤ Vo ∧ Vo ≤ 900 := ⟨hVb.1, hVb.2.1⟩
  have HVB := Lib.hid hVb
  have hIq : I64 (pickQ (s.cand (pr : Int) (C : Int)) n) := by simp only [I64]; omega
  obtain ⟨Qv, hQv⟩ : ∃ v, (pickQ (s.cand (pr : Int) (C : Int)) n) = v := ⟨_, rfl⟩
  rw [hQv] at hIq ⊢
  rw [hQv] at kpr
  have HIQ := Lib.hid hIq
  obtain ⟨d, hd⟩ : ∃ d, q.f = d := ⟨_, rfl⟩
  rw [hd] at ko
  unfold pk
  rw [ep, ec, hd]
  clear h hn hVq hVo hm kl hsp hspn hX k1 k2 hrg hVb hIq hQv h0 hin hcn hcq hpin hq ep ec hd
  go_enter Try.func19, Try.ntmps19
  go_upto_region 5 with (first
    | ((with_reducible show wpList _ _ _ _ _ (World.alloc _ (.cells _ _))); refine mem_newb (l := []) H ?_; intro bf w3 hbk H2; try rw [← hbk]; clear hbk H; have H := H2; clear H2; simp only [List.cons_append, List.nil_append, List.set_cons_zero, List.set_cons_succ, List.setIfInBounds_toArray] at H)
    | (go_at_call 33; refine (hmi _ H.below).mono ?_; rintro e w5 ⟨rfl, hw⟩; rw [hw]; clear hw w5)
    | ((with_reducible show wpList _ _ _ (⟨_, .load 3 _, _, _, _, _⟩ :: _) _ _); refine mem_loadf (i := 0) H (by first | exact wanted_none rfl | exact wanted_some rfl rfl rfl rfl) (by exact rfl) (by exact rfl) (by exact rfl) Try.underlying3 rfl (by exact rfl) ?_)
    | (go_at_call 37; refine (kp _).mono ?_; rintro e w5 ⟨rfl, hw⟩; rw [hw]; clear hw w5)
    | (go_at_call 38; refine (kc _).mono ?_; rintro e w5 ⟨rfl, hw⟩; rw [hw]; clear hw w5))
  go_upto_region 6 with (first
    | ((with_reducible show wpList _ _ _ (⟨_, .load 40 _, _, _, _, _⟩ :: _) _ _); refine wpList_load_mid rfl _ _ rfl bf 4 rfl _ _ (pkt_range (H.at 0 rfl)) Try.underlying40 rfl Hs.flowInfo ?_)
    | (go_at_call 34; refine (ko _ H.below).mono ?_; rintro e w5 ⟨rfl, hb⟩; have H2 := H.call hb; clear H hb; have H := H2; clear H2))
  have hl := HL.out _ H.below
  go_upto_region 7 with (first
    | ((with_reducible show wpList _ _ _ (⟨_, .load 74 _, _, _, _, _⟩ :: _) _ _); refine mem_loado H c98 hp (by first | exact wanted_none rfl | exact wanted_some rfl rfl rfl rfl) (by exact rfl) (by exact rfl) Try.underlying74 rfl ?_)
    | ((with_reducible show wpList _ _ _ _ _ (World.alloc _ (.cells _ _))); refine mem_newb (l := [_]) H ?_; intro bw w3 hbk H2; try rw [← hbk]; clear hbk H; have H := H2; clear H2; simp only [List.cons_append, List.nil_append, List.set_cons_zero, List.set_cons_succ, List.setIfInBounds_toArray] at H)
    | ((with_reducible show wpList _ _ _ (⟨_, .store 84 _ _, _, _, _, _⟩ :: _) _ _); refine mem_store (i := 1) H (by first | exact wanted_none rfl | exact wanted_some rfl rfl rfl rfl) (by exact rfl) (by exact rfl) (by exact rfl) (by exact rfl) (by exact fwInfo) (by exact rfl) (by exact rfl) ?_; intro w2 H2; clear H; have H := H2; clear H2; simp only [List.cons_append, List.nil_append, List.set_cons_zero, List.set_cons_succ, List.setIfInBounds_toArray] at H))
  clear hl
  refine region_mem H 17 rfl (by kernel_rfl) (fun wr hS => ?_)
  clear H
  refine wpAnyR_take (i := 0) (v := (.pointer (some ⟨bw, 1, none⟩))) rfl rfl (by kernel_rfl) (by kernel_rfl) (by kernel_rfl) (fun _ _ _ h => h) (Nat.le_refl _) ⟨by rfl, fun w _ => (by go_simp; try (first | rfl | omega)), fun _ => rfl⟩ hS ?_
  simp only [List.getElem_toArray, List.getElem_cons_zero, List.getElem_cons_succ, Act.put, List.setIfInBounds_toArray, List.set_cons_zero, List.set_cons_succ]
  refine wpAnyR_take (i := 1) (v := (.int .i64 Vo)) rfl rfl (by kernel_rfl) (by kernel_rfl) (by kernel_rfl) (fun _ _ _ h => h) (Nat.le_refl _) (yields_fld (fun w h => h.at 1 rfl) (by exact rfl) (by exact rfl) (by exact rfl) Try.underlying3 rfl (by exact rfl)) hS ?_
  simp only [List.getElem_toArray, List.getElem_cons_zero, List.getElem_cons_succ, Act.put, List.setIfInBounds_toArray, List.set_cons_zero, List.set_cons_succ]
  refine wpAnyR_take (i := 2) (v := (.bool false)) rfl rfl (by kernel_rfl) (by kernel_rfl) (by kernel_rfl) (fun _ _ _ h => h) (Nat.le_refl _) ⟨by rfl, fun w _ => (by go_simp; try (first | rfl | omega)), fun _ => rfl⟩ hS ?_
  simp only [List.getElem_toArray, List.getElem_cons_zero, List.getElem_cons_succ, Act.put, List.setIfInBounds_toArray, List.set_cons_zero, List.set_cons_succ]
  refine wpAnyR_take (i := 3) (v := (.bool false)) rfl rfl (by kernel_rfl) (by kernel_rfl) (by kernel_rfl) (fun _ _ _ h => h) (Nat.le_refl _) ⟨by rfl, fun w _ => (by go_simp; try (first | rfl | omega)), fun _ => rfl⟩ hS ?_
  simp only [List.getElem_toArray, List.getElem_cons_zero, List.getElem_cons_succ, Act.put, List.setIfInBounds_toArray, List.set_cons_zero, List.set_cons_succ]
  refine wpAnyR_take (i := 4) (v := (.pointer (some ⟨p, 0, none⟩))) rfl rfl (by kernel_rfl) (by kernel_rfl) (by kernel_rfl) (fun _ _ _ h => h) (Nat.le_refl _) ⟨by rfl, fun w _ => (by go_simp; try (first | rfl | omega)), fun _ => rfl⟩ hS ?_
  simp only [List.getElem_toArray, List.getElem_cons_zero, List.getElem_cons_succ, Act.put, List.setIfInBounds_toArray, List.set_cons_zero, List.set_cons_succ]
  refine wpAnyR_take (i := 5) (v := (.pointer (some ⟨bf, 2, none⟩))) rfl rfl (by kernel_rfl) (by kernel_rfl) (by kernel_rfl) (fun _ _ _ h => h) (Nat.le_refl _) ⟨by rfl, fun w _ => (by go_simp; try (first | rfl | omega)), fun _ => rfl⟩ hS ?_
  simp only [List.getElem_toArray, List.getElem_cons_zero, List.getElem_cons_succ, Act.put, List.setIfInBounds_toArray, List.set_cons_zero, List.set_cons_succ]
  refine wpAnyR_take (i := 6) (v := (.int .i64 (pr : Int))) rfl rfl (by kernel_rfl) (by kernel_rfl) (by kernel_rfl) (fun _ _ _ h => h) (Nat.le_refl _) (yields_fld (fun w h => h.at 0 rfl) (by exact rfl) (by exact rfl) (by exact rfl) Try.underlying3 rfl (by exact rfl)) hS ?_
  simp only [List.getElem_toArray, List.getElem_cons_zero, List.getElem_cons_succ, Act.put, List.setIfInBounds_toArray, List.set_cons_zero, List.set_cons_succ]
  refine wpAnyR_take (i := 7) (v := (.pointer (some ⟨p, 0, none⟩))) rfl rfl (by kernel_rfl) (by kernel_rfl) (by kernel_rfl) (fun _ _ _ h => h) (Nat.le_refl _) ⟨by rfl, fun w _ => (by go_simp; try (first | rfl | omega)), fun _ => rfl⟩ hS ?_
  simp only [List.getElem_toArray, List.getElem_cons_zero, List.getElem_cons_succ, Act.put, List.setIfInBounds_toArray, List.set_cons_zero, List.set_cons_succ]
  refine wpAnyR_take (i := 8) (v := (.pointer (some ⟨p, 0, none⟩))) rfl rfl (by kernel_rfl) (by kernel_rfl) (by kernel_rfl) (fun _ _ _ h => h) (Nat.le_refl _) ⟨by rfl, fun w _ => (by go_simp; try (first | rfl | omega)), fun _ => rfl⟩ hS ?_
  simp only [List.getElem_toArray, List.getElem_cons_zero, List.getElem_cons_succ, Act.put, List.setIfInBounds_toArray, List.set_cons_zero, List.set_cons_succ]
  refine wpAnyR_take (i := 9) (v := (.pointer (some ⟨p, 1, none⟩))) rfl rfl (by kernel_rfl) (by kernel_rfl) (by kernel_rfl) (fun _ _ _ h => h) (Nat.le_refl _) ⟨by rfl, fun w _ => (by go_simp; try (first | rfl | omega)), fun _ => rfl⟩ hS ?_
  simp only [List.getElem_toArray, List.getElem_cons_zero, List.getElem_cons_succ, Act.put, List.setIfInBounds_toArray, List.set_cons_zero, List.set_cons_succ]
  refine wpAnyR_take (i := 10) (v := (.pointer (some ⟨p, 1 + pr * 2, none⟩))) rfl rfl (by kernel_rfl) (by kernel_rfl) (by kernel_rfl) (fun _ _ _ h => h) (Nat.le_refl _) ⟨by rfl, fun w _ => (by go_simp; try (first | rfl | omega)), fun _ => rfl⟩ hS ?_
  simp only [List.getElem_toArray, List.getElem_cons_zero, List.getElem_cons_succ, Act.put, List.setIfInBounds_toArray, List.set_cons_zero, List.set_cons_succ]
  refine wpAnyR_take (i := 11) (v := (.agg #[.int .i64 (X : Int), .int .i64 (Y : Int)])) rfl rfl (by kernel_rfl) (by kernel_rfl) (by kernel_rfl) (fun _ _ _ h => h) (Nat.le_refl _) (yields_mid HR.out hp (by exact rfl) (by exact rfl) (by exact rfl) Try.underlying59 rfl (by exact spInfo)) hS ?_
  simp only [List.getElem_toArray, List.getElem_cons_zero, List.getElem_cons_succ, Act.put, List.setIfInBounds_toArray, List.set_cons_zero, List.set_cons_succ]
  refine wpAnyR_take (i := 12) (v := (.pointer (some ⟨bw, 0, none⟩))) rfl rfl (by kernel_rfl) (by kernel_rfl) (by kernel_rfl) (fun _ _ _ h => h) (Nat.le_refl _) ⟨by rfl, fun w _ => (by go_simp; try (first | rfl | omega)), fun _ => rfl⟩ hS ?_
  simp only [List.getElem_toArray, List.getElem_cons_zero, List.getElem_cons_succ, Act.put, List.setIfInBounds_toArray, List.set_cons_zero, List.set_cons_succ]
  refine wpAnyR_take (i := 13) (v := (.int .i64 Vq)) rfl rfl (by kernel_rfl) (by kernel_rfl) (by kernel_rfl) (fun _ _ _ h => h) (Nat.le_refl _) (yields_fld (fun w h => h.at 1 rfl) (by exact rfl) (by exact rfl) (by exact rfl) Try.underlying3 rfl (by exact rfl)) hS ?_
  simp only [List.getElem_toArray, List.getElem_cons_zero, List.getElem_cons_succ, Act.put, List.setIfInBounds_toArray, List.set_cons_zero, List.set_cons_succ]
  refine wpAnyG_one (i := 14) (by kernel_rfl) rfl (fun K hK => ?_)
  go_simp
  refine ⟨trivial, (callsIn_wide.2 (kh _)).mono ?_⟩
  rintro e w5 ⟨rfl, hb⟩
  have hS5 := hS.call hb
  refine hK _ _ (.inr hS5) ?_
  clear hK K hS hb
  have hS := hS5
  clear hS5
  try simp only [List.getElem_toArray, List.getElem_cons_zero, List.getElem_cons_succ, Act.put, List.setIfInBounds_toArray, List.set_cons_zero, List.set_cons_succ]
  refine wpAnyR_take (i := 15) (v := (.bool true)) rfl rfl (by kernel_rfl) (by kernel_rfl) (by kernel_rfl) (fun _ _ _ h => h) (Nat.le_refl _) ⟨by rfl, fun w _ => (by go_simp; try (first | rfl | omega)), fun _ => rfl⟩ hS ?_
  simp only [List.getElem_toArray, List.getElem_cons_zero, List.getElem_cons_succ, Act.put, List.setIfInBounds_toArray, List.set_cons_zero, List.set_cons_succ]
  refine wpAnyG_one (i := 16) (by kernel_rfl) rfl (fun K hK => ?_)
  go_simp
  refine hK _ _ (.inr hS) ?_
  clear hK K
  refine wpAnyG_done (by kernel_rfl) ?_ _
  have H := hS
  clear hS
  go_upto_region 10 with (first
    | go_skip
    | ((with_reducible show wpList _ _ _ (⟨_, .load 3 _, _, _, _, _⟩ :: _) _ _); refine mem_loadf (i := 0) H (by first | exact wanted_none rfl | exact wanted_some rfl rfl rfl rfl) (by exact rfl) (by exact rfl) (by exact rfl) Try.underlying3 rfl (by exact rfl) ?_)
    | ((with_reducible show wpList _ _ _ (⟨_, .load 3 _, _, _, _, _⟩ :: _) _ _); refine mem_loadf (i := 1) H (by first | exact wanted_none rfl | exact wanted_some rfl rfl rfl rfl) (by exact rfl) (by exact rfl) (by exact rfl) Try.underlying3 rfl (by exact rfl) ?_)
    | ((with_reducible show wpList _ _ _ (⟨_, .store 3 _ _, _, _, _, _⟩ :: _) _ _); refine mem_storef (i := 1) H (by first | exact wanted_none rfl | exact wanted_some rfl rfl rfl rfl) (by exact rfl) (by exact rfl) (by exact rfl) (by exact rfl) infoI1 (by exact rfl) (by exact rfl) ?_; intro w2 H2; clear H; have H := H2; clear H2; simp only [List.cons_append, List.nil_append, List.set_cons_zero, List.set_cons_succ, List.setIfInBounds_toArray] at H)
    | (go_at_call 40; refine (kpr _ H.below).mono ?_; rintro e w5 ⟨rfl, hb⟩; have H2 := H.call hb; clear H hb; have H := H2; clear H2))
  refine region_memk H 6 7 rfl (by kernel_rfl) (fun wr0 hcl hS => ?_)
  clear H
  refine wpAnyG_pure (i := 0) (v := (.pointer (some ⟨p, 0, none⟩))) rfl rfl (by kernel_rfl) (by kernel_rfl) (by kernel_rfl) (fun _ _ _ h => h) (by decide) ⟨by rfl, fun w _ => (by go_simp; try (first | (simp only [IntKind.wrap_u32]; done) | rfl)), fun _ => rfl⟩ (.inr hS) ?_
  have hc1 := hcl.step (i := 0) (by kernel_rfl)
  clear hcl; have hcl := hc1; clear hc1; simp only [List.getElem_toArray, List.getElem_cons_zero, List.getElem_cons_succ, Act.put, List.setIfInBounds_toArray, List.set_cons_zero, List.set_cons_succ]
  refine wpAnyG_pure (i := 1) (v := (.pointer (some ⟨p, 0, none⟩))) rfl rfl (by kernel_rfl) (by kernel_rfl) (by kernel_rfl) (fun _ _ _ h => h) (by decide) ⟨by rfl, fun w _ => (by go_simp; try (first | (simp only [IntKind.wrap_u32]; done) | rfl)), fun _ => rfl⟩ (.inr hS) ?_
  have hc1 := hcl.step (i := 1) (by kernel_rfl)
  clear hcl; have hcl := hc1; clear hc1; simp only [List.getElem_toArray, List.getElem_cons_zero, List.getElem_cons_succ, Act.put, List.setIfInBounds_toArray, List.set_cons_zero, List.set_cons_succ]
  refine wpAnyG_pure (i := 2) (v := (.pointer (some ⟨p, 98, none⟩))) rfl rfl (by kernel_rfl) (by kernel_rfl) (by kernel_rfl) (fun _ _ _ h => h) (by decide) ⟨by rfl, fun w _ => (by go_simp; try (first | (simp only [IntKind.wrap_u32]; done) | rfl)), fun _ => rfl⟩ (.inr hS) ?_
  have hc1 := hcl.step (i := 2) (by kernel_rfl)
  clear hcl; have hcl := hc1; clear hc1; simp only [List.getElem_toArray, List.getElem_cons_zero, List.getElem_cons_succ, Act.put, List.setIfInBounds_toArray, List.set_cons_zero, List.set_cons_succ]
  refine wpAnyG_take (i := 3) 1 (v := (.map (some m))) rfl rfl (by kernel_rfl) (by kernel_rfl) (by kernel_rfl) (fun _ _ _ h => h) (by kernel_rfl) (by decide) hcl (yields_old c98 hp (by exact rfl) (by exact rfl) (by exact rfl) Try.underlying74 rfl) hS (fun hc1 => ?_)
  clear hcl; have hcl := hc1; clear hc1; simp only [List.getElem_toArray, List.getElem_cons_zero, List.getElem_cons_succ, Act.put, List.setIfInBounds_toArray, List.set_cons_zero, List.set_cons_succ]
  refine wpAnyG_pure (i := 4) (v := (.int .u32 n)) rfl rfl (by kernel_rfl) (by kernel_rfl) (by kernel_rfl) (fun _ _ _ h => h) (by decide) ⟨by rfl, fun w _ => (by go_simp; try (first | (simp only [IntKind.wrap_u32]; done) | rfl)), fun _ => rfl⟩ (.inr hS) ?_
  have hc1 := hcl.step (i := 4) (by kernel_rfl)
  clear hcl; have hcl := hc1; clear hc1; simp only [List.getElem_toArray, List.getElem_cons_zero, List.getElem_cons_succ, Act.put, List.setIfInBounds_toArray, List.set_cons_zero, List.set_cons_succ]
  refine wpAnyG_take (i := 5) 1 (v := (fwV Qv (Vo + 1))) rfl rfl (by kernel_rfl) (by kernel_rfl) (by kernel_rfl) (fun _ _ _ h => h) (by kernel_rfl) (by decide) hcl (yields_held (fun w h => h.at 1 rfl) (by exact rfl) (by exact rfl) (by exact rfl) Try.underlying84 rfl fwInfo) hS (fun hc1 => ?_)
  clear hcl; have hcl := hc1; clear hc1; simp only [List.getElem_toArray, List.getElem_cons_zero, List.getElem_cons_succ, Act.put, List.setIfInBounds_toArray, List.set_cons_zero, List.set_cons_succ]
  refine wpAnyG_one (i := 6) (by kernel_rfl) rfl (fun K hK => ?_)
  rw [if_pos (by exact rfl)]
  have hQ5 := HQ.out.below hS.below
  obtain ⟨D, hown, hD⟩ := hQ5.map
  rw [HM.out.1] at hown
  obtain ⟨w7, hrun, hown7, hturn⟩ := hown.store lawF Try.underlying74 (by simp only [maxLen]; omega) (keyN HM.out.2) (fwElem_mk Qv (Vo + 1))
  refine wpIn_mapset (by exact rfl) (by exact rfl) (by exact rfl) (by exact rfl) hrun ?_
  refine hK _ _ (.inl (by kernel_rfl)) ?_
  have hQ7 := hQ5.fset hD (hown.tidy lawF) (by rw [HM.out.1]; exact hown7) (by rw [HM.out.1]; exact hturn) (M := N + 1) hown7.size_le (by omega) ⟨HIQ.out, by omega, by have := HVB.out.2.2.2; omega⟩
  have hF7 : Foot own W w7 := (Foot.of_below hS.below).grown hturn.grown (fun k hk _ => by cases hk; rw [← HM.out.1]; exact HQ.out.om)
  have hbm : bw ≠ m := fun e => by
    have h1 : W.heap.size ≤ bw := (hS.held _ (List.mem_of_getElem? (i := 1) rfl)).1
    have h2 := HQ.out.mlt
    rw [HM.out.1] at h2
    omega
  have cw0 : w7.cell? ⟨bw, 0, none⟩ = some (.int .i64 Qv) := by
    have g : Held w7 bw 84 #[.int .i64 Qv, .int .i64 (Vo + 1)] := (hturn.grown.block bw (hS.at 1 rfl).lt (fun e => by cases e; exact hbm rfl)).trans (hS.at 1 rfl)
    exact g.cell 0
  have HF := Lib.hid (And.intro hQ7 hF7)
  clear hK K hS hQ5 hown hD hrun hown7 hturn hQ7 hF7 hcl hbm
  refine wpAnyG_done (by kernel_rfl) ?_ _
  go_wp2
  refine bodyPost_ret (results_two rfl _ _ _) rfl ?_
  exact ⟨rfl, ⟨rd, own, ⟨x, HF.out.1⟩, (fun i hi => .inl hi), (fun i hi => .inl hi)⟩, HF.out.2⟩
end Go.Proofs.Ytaoaapbbadipfaa
end
