/-
  DqlBounds, walked. Conditions: the numbers fit their kinds.
-/
import Derived.Test.YtfgaeaebchgcdaaDqlR
namespace Go.Proofs.Ytfgaeaebchgcdaa
set_option linter.unusedSimpArgs false
set_option linter.unusedVariables false
open Go.ChangeShapes Go.WideShapes Go.ChangeAt Go.RowKit

set_option maxRecDepth 100000 in
set_option maxHeartbeats 4000000 in
theorem bounds_w (a b h : Int) (hh : 0 ≤ h ∧ h ≤ 18446744073709551615) (A : Option Addr) (len cap : Nat) (acts : Nat → Int × Int × Int) (hl : len ≤ cap) (hc : cap ≤ maxLen) (w : World) (hA : SliceAt w A len 3 act4C act4F acts) : Calls Try.prog 8 #[.int .u32 a, .int .u32 b, .int .u64 h, .slice A len cap] w fun e w' => e = .returned (.bool true) ∧ Below w.heap.size w w' := by
  unfold maxLen at hc
  obtain ⟨ba, oa, hAb, hin⟩ := acts4_in hA
  have HAb := Lib.hid hAb
  clear hAb hA
  have h0 := fun w => new_p a b h 0 w
  have H := Mem.start w
  rcases hb : DQ.newB a b
  · rw [show newE a b = 2 by simp only [newE, hb, cond_false]] at h0
    clear hb hin HAb
    go_enter Try.func8, Try.ntmps8
    go_wp2_with (first
    | go_skip
    | ((with_reducible show wpList _ _ _ _ _ (World.alloc _ (.cells _ _))); refine mem_new H ?_; intro w2 H2; clear H; have H := H2; clear H2; simp only [List.cons_append, List.nil_append, List.set_cons_zero, List.set_cons_succ, List.setIfInBounds_toArray] at H)
    | ((with_reducible show wpList _ _ _ (⟨_, .load 26 _, _, _, _, _⟩ :: _) _ _); refine mem_load (i := 0) H (by first | exact wanted_none rfl | exact wanted_some rfl rfl rfl rfl) (by exact rfl) (by exact rfl) (by exact rfl) Try.underlying26 rfl (by exact dqlInfo) ?_)
    | ((with_reducible show wpList _ _ _ (⟨_, .load _ _, _, _, _, _⟩ :: _) _ _); refine mem_loadf (i := 0) H (by first | exact wanted_none rfl | exact wanted_some rfl rfl rfl rfl) (by exact rfl) (by exact rfl) (by exact rfl) (by first | exact Try.underlying22 | exact Try.underlying23) rfl (by exact rfl) ?_)
    | ((with_reducible show wpList _ _ _ (⟨_, .store 26 _ _, _, _, _, _⟩ :: _) _ _); refine mem_store (i := 0) H (by first | exact wanted_none rfl | exact wanted_some rfl rfl rfl rfl) (by exact rfl) (by exact rfl) (by exact rfl) (by exact rfl) (by exact dqlInfo) (by exact rfl) (by exact rfl) ?_; intro w2 H2; clear H; have H := H2; clear H2; simp only [List.cons_append, List.nil_append, List.set_cons_zero, List.set_cons_succ, List.setIfInBounds_toArray] at H)
    | (go_at_call 11; refine (shown_p _).mono ?_; rintro e w2 ⟨rfl, hb⟩; have H2 := H.call hb; clear H hb; have H := H2; clear H2)
    | (go_at_call 12; refine (h0 _).mono ?_; rintro e w2 ⟨rfl, hb⟩; have H2 := H.call hb; clear H hb; have H := H2; clear H2))
    go_ret
    exact ⟨rfl, H.below⟩
  · rw [show newE a b = 0 by simp only [newE, hb, cond_true], show newV a b h 0 = DQ.first a b h 0 by simp only [newV, hb, cond_true]] at h0
    have hfr := DQ.first_right (h := h) (t := 0) hb
    simp only [DQ.newB, decide_eq_true_eq] at hb
    have hfit : (DQ.first a b h 0).Fits := DQ.Fits.first (by omega) (by omega) hh (by omega)
    obtain ⟨D0, hD0⟩ : ∃ D, DQ.first a b h 0 = D := ⟨_, rfl⟩
    rw [hD0] at h0 hfr hfit
    clear hD0 hb
    go_enter Try.func8, Try.ntmps8
    go_upto_region 3 with (first
    | ((with_reducible show wpList _ _ _ _ _ (World.alloc _ (.cells _ _))); refine mem_newb H ?_; intro bA w3 hbk H2; try rw [← hbk]; clear hbk H; have H := H2; clear H2; simp only [List.cons_append, List.nil_append, List.set_cons_zero, List.set_cons_succ, List.setIfInBounds_toArray] at H)
    | ((with_reducible show wpList _ _ _ _ _ (World.alloc _ (.cells _ _))); refine mem_new H ?_; intro w2 H2; clear H; have H := H2; clear H2; simp only [List.cons_append, List.nil_append, List.set_cons_zero, List.set_cons_succ, List.setIfInBounds_toArray] at H)
    | ((with_reducible show wpList _ _ _ (⟨_, .load 26 _, _, _, _, _⟩ :: _) _ _); refine mem_load (i := 0) H (by first | exact wanted_none rfl | exact wanted_some rfl rfl rfl rfl) (by exact rfl) (by exact rfl) (by exact rfl) Try.underlying26 rfl (by exact dqlInfo) ?_)
    | ((with_reducible show wpList _ _ _ (⟨_, .load _ _, _, _, _, _⟩ :: _) _ _); refine mem_loadf (i := 0) H (by first | exact wanted_none rfl | exact wanted_some rfl rfl rfl rfl) (by exact rfl) (by exact rfl) (by exact rfl) (by first | exact Try.underlying22 | exact Try.underlying23) rfl (by exact rfl) ?_)
    | ((with_reducible show wpList _ _ _ (⟨_, .store 26 _ _, _, _, _, _⟩ :: _) _ _); refine mem_store (i := 0) H (by first | exact wanted_none rfl | exact wanted_some rfl rfl rfl rfl) (by exact rfl) (by exact rfl) (by exact rfl) (by exact rfl) (by exact dqlInfo) (by exact rfl) (by exact rfl) ?_; intro w2 H2; clear H; have H := H2; clear H2; simp only [List.cons_append, List.nil_append, List.set_cons_zero, List.set_cons_succ, List.setIfInBounds_toArray] at H)
    | (go_at_call 11; refine (shown_p _).mono ?_; rintro e w2 ⟨rfl, hb⟩; have H2 := H.call hb; clear H hb; have H := H2; clear H2)
    | (go_at_call 12; refine (h0 _).mono ?_; rintro e w2 ⟨rfl, hb⟩; have H2 := H.call hb; clear H hb; have H := H2; clear H2))
    clear h0
    go_wp2
    go_loopw [12, 13, 14, 15] (fun nw gr bd i wr => ∃ (k : Nat) (T G Bd : Int) (D : DQ), k ≤ len ∧ k ≤ 80 ∧ nw = .int .u64 T ∧ i = .int .i64 k ∧ gr = .int .u32 G ∧ bd = .int .u32 Bd ∧ 0 ≤ T ∧ T ≤ 1000 * k ∧ 0 ≤ Bd ∧ Bd ≤ 4294967295 ∧ (D.rightB = true ∧ D.Fits) ∧ D.flight ≤ Bd ∧ Mem w wr [bx bA D]) (fun _ _ _ i _ => len - (intOf i).toNat)
    case atStart => exact ⟨0, 0, 0, 0, D0, Nat.zero_le _, by omega, rfl, rfl, rfl, rfl, by omega, by omega, by omega, by omega, ⟨hfr.1, hfit⟩, by rw [hfr.2.2]; omega, H⟩
    case round =>
      clear H hfr hfit
      obtain ⟨k, T, G, Bd, D, hk, hk80, rfl, rfl, rfl, rfl, hT0, hT1, hB0, hB1, ⟨hr, hf⟩, hFl, H⟩ := hrel
      by_cases hlt : k < len ∧ k < 80
      · obtain ⟨hlt, h80⟩ := hlt
        obtain rfl := HAb.out (by omega)
        have hi := hin (by omega)
        have hbl := hi.lt
        obtain ⟨c0, c1, c2⟩ := hi.cell k hlt
        obtain ⟨f0, f1, f2⟩ := hi.fits k hlt
        have b1 := bd_u32 f1
        have b2 := bd_u64 f2
        generalize (acts k).1 = x0 at c0 f0
        generalize (acts k).2.1 = x1 at c1 f1 b1
        generalize (acts k).2.2 = x2 at c2 f2 b2
        clear hin HAb hi f1 f2
        obtain ⟨t1, ht1⟩ : ∃ t, T + x2 % 1000 = t := ⟨_, rfl⟩
        have ht : 0 ≤ t1 ∧ t1 ≤ 18446744073709551615 := by omega
        have hq := fun w => queue_p D x1 b1.1 b1.2 w
        have gq := queue_good hr hf b1
        have gq2 := fun hl => queue_bound (n := x1) hr hl
        have hm := fun w => complete_p D x1 t1 hf ht w
        have gm := complete_good (n := x1) hr hf b1 ht
        have gm2 := complete_bound (n := x1) (t := t1) hr b1
        have hLf := fun w => left_p D w
        have hFD := fun w => flight_p D w
        have hlim := ((DQ.right_iff D).1 hr)
        have l1 : 1 ≤ D.lim ∧ D.lim ≤ 1073741824 := by omega
        clear hlim
        obtain ⟨D1, hD1⟩ : ∃ X, queueV D x1 = X := ⟨_, rfl⟩
        obtain ⟨e1, he1⟩ : ∃ X, queueE D x1 = X := ⟨_, rfl⟩
        obtain ⟨D2, hD2⟩ : ∃ X, completeV D x1 t1 = X := ⟨_, rfl⟩
        obtain ⟨e2, he2⟩ : ∃ X, completeE D x1 = X := ⟨_, rfl⟩
        obtain ⟨L, hL⟩ : ∃ X, D.left = X := ⟨_, rfl⟩
        obtain ⟨Fl, hFl2⟩ : ∃ X, D.flight = X := ⟨_, rfl⟩
        rw [hD1, he1] at hq gq gq2
        rw [hD2, he2] at hm gm gm2
        rw [hL] at hLf gq2
        have HFl := Lib.hid hFl
        rw [hFl2] at hFD hFl gm2
        have hF1 := fun w => flight_p D1 w
        have hF2 := fun w => flight_p D2 w
        have q0 : decide (Bd < Fl) = false := decide_eq_false (by omega)
        have HR := Lib.hid hr
        clear hD1 he1 hD2 he2 hr hL hFl2
        go_upto_region 12 with (first
    | ((with_reducible show wpList _ _ _ (⟨_, .load _ _, _, _, _, _⟩ :: _) _ _); refine mem_loado H c0 hbl (by first | exact wanted_none rfl | exact wanted_some rfl rfl rfl rfl) (by exact rfl) (by exact rfl) Try.underlying3 rfl ?_)
    | ((with_reducible show wpList _ _ _ (⟨_, .load _ _, _, _, _, _⟩ :: _) _ _); refine mem_loado H c1 hbl (by first | exact wanted_none rfl | exact wanted_some rfl rfl rfl rfl) (by exact rfl) (by exact rfl) Try.underlying22 rfl ?_)
    | ((with_reducible show wpList _ _ _ (⟨_, .load _ _, _, _, _, _⟩ :: _) _ _); refine mem_loado H c2 hbl (by first | exact wanted_none rfl | exact wanted_some rfl rfl rfl rfl) (by exact rfl) (by exact rfl) Try.underlying23 rfl ?_)
    | ((with_reducible show wpList _ _ _ _ _ (World.alloc _ (.cells _ _))); refine mem_new H ?_; intro w2 H2; clear H; have H := H2; clear H2; simp only [List.cons_append, List.nil_append, List.set_cons_zero, List.set_cons_succ, List.setIfInBounds_toArray] at H)
    | ((with_reducible show wpList _ _ _ (⟨_, .load 26 _, _, _, _, _⟩ :: _) _ _); refine mem_load (i := 0) H (by first | exact wanted_none rfl | exact wanted_some rfl rfl rfl rfl) (by exact rfl) (by exact rfl) (by exact rfl) Try.underlying26 rfl (by exact dqlInfo) ?_)
    | ((with_reducible show wpList _ _ _ (⟨_, .load _ _, _, _, _, _⟩ :: _) _ _); refine mem_loadf (i := 0) H (by first | exact wanted_none rfl | exact wanted_some rfl rfl rfl rfl) (by exact rfl) (by exact rfl) (by exact rfl) (by first | exact Try.underlying22 | exact Try.underlying23) rfl (by exact rfl) ?_)
    | ((with_reducible show wpList _ _ _ (⟨_, .store 26 _ _, _, _, _, _⟩ :: _) _ _); refine mem_store (i := 0) H (by first | exact wanted_none rfl | exact wanted_some rfl rfl rfl rfl) (by exact rfl) (by exact rfl) (by exact rfl) (by exact rfl) (by exact dqlInfo) (by exact rfl) (by exact rfl) ?_; intro w2 H2; clear H; have H := H2; clear H2; simp only [List.cons_append, List.nil_append, List.set_cons_zero, List.set_cons_succ, List.setIfInBounds_toArray] at H))
        try rw [ht1]
        go_upto_region 13 with (first
    | ((with_reducible show wpList _ _ _ (⟨_, .load _ _, _, _, _, _⟩ :: _) _ _); refine mem_loado H c0 hbl (by first | exact wanted_none rfl | exact wanted_some rfl rfl rfl rfl) (by exact rfl) (by exact rfl) Try.underlying3 rfl ?_)
    | ((with_reducible show wpList _ _ _ (⟨_, .load _ _, _, _, _, _⟩ :: _) _ _); refine mem_loado H c1 hbl (by first | exact wanted_none rfl | exact wanted_some rfl rfl rfl rfl) (by exact rfl) (by exact rfl) Try.underlying22 rfl ?_)
    | ((with_reducible show wpList _ _ _ (⟨_, .load _ _, _, _, _, _⟩ :: _) _ _); refine mem_loado H c2 hbl (by first | exact wanted_none rfl | exact wanted_some rfl rfl rfl rfl) (by exact rfl) (by exact rfl) Try.underlying23 rfl ?_)
    | ((with_reducible show wpList _ _ _ _ _ (World.alloc _ (.cells _ _))); refine mem_new H ?_; intro w2 H2; clear H; have H := H2; clear H2; simp only [List.cons_append, List.nil_append, List.set_cons_zero, List.set_cons_succ, List.setIfInBounds_toArray] at H)
    | ((with_reducible show wpList _ _ _ (⟨_, .load 26 _, _, _, _, _⟩ :: _) _ _); refine mem_load (i := 0) H (by first | exact wanted_none rfl | exact wanted_some rfl rfl rfl rfl) (by exact rfl) (by exact rfl) (by exact rfl) Try.underlying26 rfl (by exact dqlInfo) ?_)
    | ((with_reducible show wpList _ _ _ (⟨_, .load _ _, _, _, _, _⟩ :: _) _ _); refine mem_loadf (i := 0) H (by first | exact wanted_none rfl | exact wanted_some rfl rfl rfl rfl) (by exact rfl) (by exact rfl) (by exact rfl) (by first | exact Try.underlying22 | exact Try.underlying23) rfl (by exact rfl) ?_)
    | ((with_reducible show wpList _ _ _ (⟨_, .store 26 _ _, _, _, _, _⟩ :: _) _ _); refine mem_store (i := 0) H (by first | exact wanted_none rfl | exact wanted_some rfl rfl rfl rfl) (by exact rfl) (by exact rfl) (by exact rfl) (by exact rfl) (by exact dqlInfo) (by exact rfl) (by exact rfl) ?_; intro w2 H2; clear H; have H := H2; clear H2; simp only [List.cons_append, List.nil_append, List.set_cons_zero, List.set_cons_succ, List.setIfInBounds_toArray] at H))
        · skip
          by_cases hL0 : L ≤ 0
          · go_wp2_with (first
            | go_skip
            | ((with_reducible show wpList _ _ _ (⟨_, .load 26 _, _, _, _, _⟩ :: _) _ _); refine mem_load (i := 0) H (by first | exact wanted_none rfl | exact wanted_some rfl rfl rfl rfl) (by exact rfl) (by exact rfl) (by exact rfl) Try.underlying26 rfl (by exact dqlInfo) ?_)
            | ((with_reducible show wpList _ _ _ (⟨_, .load 26 _, _, _, _, _⟩ :: _) _ _); refine mem_load (i := 1) H (by first | exact wanted_none rfl | exact wanted_some rfl rfl rfl rfl) (by exact rfl) (by exact rfl) (by exact rfl) Try.underlying26 rfl (by exact dqlInfo) ?_)
            | ((with_reducible show wpList _ _ _ (⟨_, .store 26 _ _, _, _, _, _⟩ :: _) _ _); refine mem_store (i := 0) H (by first | exact wanted_none rfl | exact wanted_some rfl rfl rfl rfl) (by exact rfl) (by exact rfl) (by exact rfl) (by exact rfl) (by exact dqlInfo) (by exact rfl) (by exact rfl) ?_; intro w2 H2; clear H; have H := H2; clear H2; simp only [List.cons_append, List.nil_append, List.set_cons_zero, List.set_cons_succ, List.setIfInBounds_toArray] at H)
            | ((with_reducible show wpList _ _ _ (⟨_, .store 26 _ _, _, _, _, _⟩ :: _) _ _); refine mem_store (i := 1) H (by first | exact wanted_none rfl | exact wanted_some rfl rfl rfl rfl) (by exact rfl) (by exact rfl) (by exact rfl) (by exact rfl) (by exact dqlInfo) (by exact rfl) (by exact rfl) ?_; intro w2 H2; clear H; have H := H2; clear H2; simp only [List.cons_append, List.nil_append, List.set_cons_zero, List.set_cons_succ, List.setIfInBounds_toArray] at H)
            | (go_at_call 15; refine (hLf _).mono ?_; rintro e w2 ⟨rfl, hb⟩; have H2 := H.call hb; clear H hb; have H := H2; clear H2))
            go_roundw
            case rel => exact ⟨k + 1, t1, _, Bd, D, by omega, by omega, rfl, by go_num, rfl, rfl, ht.1, by omega, by omega, by omega, ⟨HR.out, hf⟩, HFl.out, H.drop 1⟩
            case measure => simp [intOf]; omega
          · go_upto_region 15 with (first
            | ((with_reducible show wpList _ _ _ (⟨_, .load _ _, _, _, _, _⟩ :: _) _ _); refine mem_loado H c0 hbl (by first | exact wanted_none rfl | exact wanted_some rfl rfl rfl rfl) (by exact rfl) (by exact rfl) Try.underlying3 rfl ?_)
            | ((with_reducible show wpList _ _ _ (⟨_, .load _ _, _, _, _, _⟩ :: _) _ _); refine mem_loado H c1 hbl (by first | exact wanted_none rfl | exact wanted_some rfl rfl rfl rfl) (by exact rfl) (by exact rfl) Try.underlying22 rfl ?_)
            | ((with_reducible show wpList _ _ _ (⟨_, .load _ _, _, _, _, _⟩ :: _) _ _); refine mem_loado H c2 hbl (by first | exact wanted_none rfl | exact wanted_some rfl rfl rfl rfl) (by exact rfl) (by exact rfl) Try.underlying23 rfl ?_)
            | ((with_reducible show wpList _ _ _ (⟨_, .load 26 _, _, _, _, _⟩ :: _) _ _); refine mem_load (i := 0) H (by first | exact wanted_none rfl | exact wanted_some rfl rfl rfl rfl) (by exact rfl) (by exact rfl) (by exact rfl) Try.underlying26 rfl (by exact dqlInfo) ?_)
            | ((with_reducible show wpList _ _ _ (⟨_, .load 26 _, _, _, _, _⟩ :: _) _ _); refine mem_load (i := 1) H (by first | exact wanted_none rfl | exact wanted_some rfl rfl rfl rfl) (by exact rfl) (by exact rfl) (by exact rfl) Try.underlying26 rfl (by exact dqlInfo) ?_)
            | ((with_reducible show wpList _ _ _ (⟨_, .store 26 _ _, _, _, _, _⟩ :: _) _ _); refine mem_store (i := 0) H (by first | exact wanted_none rfl | exact wanted_some rfl rfl rfl rfl) (by exact rfl) (by exact rfl) (by exact rfl) (by exact rfl) (by exact dqlInfo) (by exact rfl) (by exact rfl) ?_; intro w2 H2; clear H; have H := H2; clear H2; simp only [List.cons_append, List.nil_append, List.set_cons_zero, List.set_cons_succ, List.setIfInBounds_toArray] at H)
            | ((with_reducible show wpList _ _ _ (⟨_, .store 26 _ _, _, _, _, _⟩ :: _) _ _); refine mem_store (i := 1) H (by first | exact wanted_none rfl | exact wanted_some rfl rfl rfl rfl) (by exact rfl) (by exact rfl) (by exact rfl) (by exact rfl) (by exact dqlInfo) (by exact rfl) (by exact rfl) ?_; intro w2 H2; clear H; have H := H2; clear H2; simp only [List.cons_append, List.nil_append, List.set_cons_zero, List.set_cons_succ, List.setIfInBounds_toArray] at H)
            | (go_at_call 15; refine (hLf _).mono ?_; rintro e w2 ⟨rfl, hb⟩; have H2 := H.call hb; clear H hb; have H := H2; clear H2))
            refine region_memk H 11 13 rfl (by kernel_rfl) (fun wr0 hcl hS => ?_)
            clear H
            refine wpAnyG_take (i := 0) 1 (v := dq D) rfl rfl (by kernel_rfl) (by kernel_rfl) (by kernel_rfl) (fun _ _ _ h => h) (by kernel_rfl) (by decide) hcl (yields_held (fun w h => h.at 0 rfl) (by exact rfl) (by exact rfl) (by exact rfl) Try.underlying26 rfl dqlInfo) hS (fun hc1 => ?_)
            clear hcl; have hcl := hc1; clear hc1; simp only [List.getElem_toArray, List.getElem_cons_zero, List.getElem_cons_succ, Act.put, List.setIfInBounds_toArray, List.set_cons_zero, List.set_cons_succ]
            refine wpAnyG_pure (i := 1) (v := .slice (some ⟨ba, oa, none⟩) len cap) rfl rfl (by kernel_rfl) (by kernel_rfl) (by kernel_rfl) (fun _ _ _ h => h) (by decide) ⟨by rfl, fun w _ => (by go_simp; try (first | (simp only [IntKind.wrap_u32]; done) | rfl)), fun _ => rfl⟩ (.inr hS) ?_
            have hc1 := hcl.step (i := 1) (by kernel_rfl)
            clear hcl; have hcl := hc1; clear hc1; simp only [List.getElem_toArray, List.getElem_cons_zero, List.getElem_cons_succ, Act.put, List.setIfInBounds_toArray, List.set_cons_zero, List.set_cons_succ]
            refine wpAnyG_pure (i := 2) (v := .int .i64 k) rfl rfl (by kernel_rfl) (by kernel_rfl) (by kernel_rfl) (fun _ _ _ h => h) (by decide) ⟨by rfl, fun w _ => (by go_simp; try (first | (simp only [IntKind.wrap_u32]; done) | rfl)), fun _ => rfl⟩ (.inr hS) ?_
            have hc1 := hcl.step (i := 2) (by kernel_rfl)
            clear hcl; have hcl := hc1; clear hc1; simp only [List.getElem_toArray, List.getElem_cons_zero, List.getElem_cons_succ, Act.put, List.setIfInBounds_toArray, List.set_cons_zero, List.set_cons_succ]
            refine wpAnyG_pure (i := 3) (v := .pointer (some ⟨ba, oa + k * 3, none⟩)) rfl rfl (by kernel_rfl) (by kernel_rfl) (by kernel_rfl) (fun _ _ _ h => h) (by decide) ⟨by rfl, fun w _ => (by go_simp; try (first | (simp only [IntKind.wrap_u32]; done) | rfl)), fun _ => rfl⟩ (.inr hS) ?_
            have hc1 := hcl.step (i := 3) (by kernel_rfl)
            clear hcl; have hcl := hc1; clear hc1; simp only [List.getElem_toArray, List.getElem_cons_zero, List.getElem_cons_succ, Act.put, List.setIfInBounds_toArray, List.set_cons_zero, List.set_cons_succ]
            refine wpAnyG_pure (i := 4) (v := .pointer (some ⟨ba, oa + k * 3 + 1, none⟩)) rfl rfl (by kernel_rfl) (by kernel_rfl) (by kernel_rfl) (fun _ _ _ h => h) (by decide) ⟨by rfl, fun w _ => (by go_simp; try (first | (simp only [IntKind.wrap_u32]; done) | rfl)), fun _ => rfl⟩ (.inr hS) ?_
            have hc1 := hcl.step (i := 4) (by kernel_rfl)
            clear hcl; have hcl := hc1; clear hc1; simp only [List.getElem_toArray, List.getElem_cons_zero, List.getElem_cons_succ, Act.put, List.setIfInBounds_toArray, List.set_cons_zero, List.set_cons_succ]
            refine wpAnyG_take (i := 5) 1 (v := .int .u32 x1) rfl rfl (by kernel_rfl) (by kernel_rfl) (by kernel_rfl) (fun _ _ _ h => h) (by kernel_rfl) (by decide) hcl (yields_old c1 hbl (by exact rfl) (by exact rfl) (by exact rfl) Try.underlying22 rfl) hS (fun hc1 => ?_)
            clear hcl; have hcl := hc1; clear hc1; simp only [List.getElem_toArray, List.getElem_cons_zero, List.getElem_cons_succ, Act.put, List.setIfInBounds_toArray, List.set_cons_zero, List.set_cons_succ]
            refine wpAnyG_two (i := 6) (j := 10) (by kernel_rfl) rfl rfl (fun K hK => ?wa_84) (fun K hK => ?wb_84)
            case' wa_84 =>
              go_simp
              refine ⟨trivial, (callsIn_wide.2 (hq _)).mono ?_⟩
              rintro e w5 ⟨rfl, hb⟩
              have hS5 := hS.call hb
              clear hb hS
              have hS := hS5
              clear hS5
              refine hK _ _ (.inr hS) ?_
              clear hK K
              have hc1 := hcl.step (i := 6) (by kernel_rfl)
              clear hcl; have hcl := hc1; clear hc1
              refine wpAnyG_pure (i := 7) (v := .tuple #[dq D1, .int .i64 e1]) rfl rfl (by kernel_rfl) (by kernel_rfl) (by kernel_rfl) (fun _ _ _ h => h) (by decide) ⟨by rfl, fun w _ => (by go_simp; try (first | (simp only [IntKind.wrap_u32]; done) | rfl)), fun _ => rfl⟩ (.inr hS) ?_
              have hc1 := hcl.step (i := 7) (by kernel_rfl)
              clear hcl; have hcl := hc1; clear hc1; simp only [List.getElem_toArray, List.getElem_cons_zero, List.getElem_cons_succ, Act.put, List.setIfInBounds_toArray, List.set_cons_zero, List.set_cons_succ]
              refine wpAnyG_pure (i := 8) (v := dq D1) rfl rfl (by kernel_rfl) (by kernel_rfl) (by kernel_rfl) (fun _ _ _ h => h) (by decide) ⟨by rfl, fun w _ => (by go_simp; try (first | (simp only [IntKind.wrap_u32]; done) | rfl)), fun _ => rfl⟩ (.inr hS) ?_
              have hc1 := hcl.step (i := 8) (by kernel_rfl)
              clear hcl; have hcl := hc1; clear hc1; simp only [List.getElem_toArray, List.getElem_cons_zero, List.getElem_cons_succ, Act.put, List.setIfInBounds_toArray, List.set_cons_zero, List.set_cons_succ]
              refine wpAnyG_pure (i := 9) (v := .int .i64 e1) rfl rfl (by kernel_rfl) (by kernel_rfl) (by kernel_rfl) (fun _ _ _ h => h) (by decide) ⟨by rfl, fun w _ => (by go_simp; try (first | (simp only [IntKind.wrap_u32]; done) | rfl)), fun _ => rfl⟩ (.inr hS) ?_
              have hc1 := hcl.step (i := 9) (by kernel_rfl)
              clear hcl; have hcl := hc1; clear hc1; simp only [List.getElem_toArray, List.getElem_cons_zero, List.getElem_cons_succ, Act.put, List.setIfInBounds_toArray, List.set_cons_zero, List.set_cons_succ]
              refine wpAnyG_one (i := 10) (by kernel_rfl) rfl (fun K hK => ?_)
              go_simp
              refine hK _ _ (.inr (hS.skip _)) ?_
              clear hK K
              have hc1 := hcl.step (i := 10) (by kernel_rfl)
              clear hcl; have hcl := hc1; clear hc1
              have hN := hS.alloc 26 #[.int .u32 0, .int .u32 0, .int .u32 0, .int .u32 0, .int .u32 0, .int .u32 0, .int .u32 0, .int .u32 0, .int .u32 0, .int .u64 0, .int .u64 0, .int .u32 0, .int .u32 0]
              have hS5 := hS.skip (.cells #[.int .u32 0, .int .u32 0, .int .u32 0, .int .u32 0, .int .u32 0, .int .u32 0, .int .u32 0, .int .u32 0, .int .u32 0, .int .u64 0, .int .u64 0, .int .u32 0, .int .u32 0] 26)
              clear hS
              generalize hbN : w5.heap.size = bN at hN ⊢
              clear hbN
              generalize w5.alloc (.cells #[.int .u32 0, .int .u32 0, .int .u32 0, .int .u32 0, .int .u32 0, .int .u32 0, .int .u32 0, .int .u32 0, .int .u32 0, .int .u64 0, .int .u64 0, .int .u32 0, .int .u32 0] 26) = w6 at hN hS5 ⊢
              have hS := hS5
              clear hS5
              simp only [List.cons_append, List.nil_append] at hN
              refine wpAnyG_one (i := 11) (by kernel_rfl) rfl (fun K hK => ?_)
              rw [if_pos (by exact rfl)]
              refine wpIn_store_mem (i := 1) hN (by exact rfl) (by exact rfl) (by exact rfl) (by exact rfl) (by exact dqlInfo) (by exact rfl) (by exact rfl) ?_
              intro w7 H
              simp only [List.cons_append, List.nil_append, List.set_cons_zero, List.set_cons_succ, List.setIfInBounds_toArray] at H
              refine hK _ _ (.inl (by kernel_rfl)) ?_
              clear hK K hS hN hcl
              simp only [List.getElem_toArray, List.getElem_cons_zero, List.getElem_cons_succ, Act.put, List.setIfInBounds_toArray, List.set_cons_zero, List.set_cons_succ]
              refine wpAnyG_one (i := 12) (by kernel_rfl) rfl (fun K hK => ?_)
              go_simp
              refine hK _ _ (.inl (by kernel_rfl)) ?_
              clear hK K
              refine wpAnyG_done (by kernel_rfl) ?_ _
            case' wb_84 =>
              go_simp
              refine hK _ _ (.inr (hS.skip _)) ?_
              clear hK K
              have hc1 := hcl.step (i := 10) (by kernel_rfl)
              clear hcl; have hcl := hc1; clear hc1
              have hN := hS.alloc 26 #[.int .u32 0, .int .u32 0, .int .u32 0, .int .u32 0, .int .u32 0, .int .u32 0, .int .u32 0, .int .u32 0, .int .u32 0, .int .u64 0, .int .u64 0, .int .u32 0, .int .u32 0]
              have hS5 := hS.skip (.cells #[.int .u32 0, .int .u32 0, .int .u32 0, .int .u32 0, .int .u32 0, .int .u32 0, .int .u32 0, .int .u32 0, .int .u32 0, .int .u64 0, .int .u64 0, .int .u32 0, .int .u32 0] 26)
              clear hS
              generalize hbN : wr0.heap.size = bN at hN ⊢
              clear hbN
              generalize wr0.alloc (.cells #[.int .u32 0, .int .u32 0, .int .u32 0, .int .u32 0, .int .u32 0, .int .u32 0, .int .u32 0, .int .u32 0, .int .u32 0, .int .u64 0, .int .u64 0, .int .u32 0, .int .u32 0] 26) = w6 at hN hS5 ⊢
              have hS := hS5
              clear hS5
              simp only [List.cons_append, List.nil_append] at hN
              refine wpAnyG_one (i := 6) (by kernel_rfl) rfl (fun K hK => ?_)
              go_simp
              refine ⟨trivial, (callsIn_wide.2 (hq _)).mono ?_⟩
              rintro e w5 ⟨rfl, hb⟩
              have hS5 := hS.call hb
              have hN5 := hN.call hb
              clear hb hS hN
              have hS := hS5
              clear hS5
              have hN := hN5
              clear hN5
              refine hK _ _ (.inr hS) ?_
              clear hK K
              have hc1 := hcl.step (i := 6) (by kernel_rfl)
              clear hcl; have hcl := hc1; clear hc1
              refine wpAnyG_pure (i := 7) (v := .tuple #[dq D1, .int .i64 e1]) rfl rfl (by kernel_rfl) (by kernel_rfl) (by kernel_rfl) (fun _ _ _ h => h) (by decide) ⟨by rfl, fun w _ => (by go_simp; try (first | (simp only [IntKind.wrap_u32]; done) | rfl)), fun _ => rfl⟩ (.inr hS) ?_
              have hc1 := hcl.step (i := 7) (by kernel_rfl)
              clear hcl; have hcl := hc1; clear hc1; simp only [List.getElem_toArray, List.getElem_cons_zero, List.getElem_cons_succ, Act.put, List.setIfInBounds_toArray, List.set_cons_zero, List.set_cons_succ]
              refine wpAnyG_pure (i := 8) (v := dq D1) rfl rfl (by kernel_rfl) (by kernel_rfl) (by kernel_rfl) (fun _ _ _ h => h) (by decide) ⟨by rfl, fun w _ => (by go_simp; try (first | (simp only [IntKind.wrap_u32]; done) | rfl)), fun _ => rfl⟩ (.inr hS) ?_
              have hc1 := hcl.step (i := 8) (by kernel_rfl)
              clear hcl; have hcl := hc1; clear hc1; simp only [List.getElem_toArray, List.getElem_cons_zero, List.getElem_cons_succ, Act.put, List.setIfInBounds_toArray, List.set_cons_zero, List.set_cons_succ]
              refine wpAnyG_pure (i := 9) (v := .int .i64 e1) rfl rfl (by kernel_rfl) (by kernel_rfl) (by kernel_rfl) (fun _ _ _ h => h) (by decide) ⟨by rfl, fun w _ => (by go_simp; try (first | (simp only [IntKind.wrap_u32]; done) | rfl)), fun _ => rfl⟩ (.inr hS) ?_
              have hc1 := hcl.step (i := 9) (by kernel_rfl)
              clear hcl; have hcl := hc1; clear hc1; simp only [List.getElem_toArray, List.getElem_cons_zero, List.getElem_cons_succ, Act.put, List.setIfInBounds_toArray, List.set_cons_zero, List.set_cons_succ]
              refine wpAnyG_one (i := 11) (by kernel_rfl) rfl (fun K hK => ?_)
              rw [if_pos (by exact rfl)]
              refine wpIn_store_mem (i := 1) hN (by exact rfl) (by exact rfl) (by exact rfl) (by exact rfl) (by exact dqlInfo) (by exact rfl) (by exact rfl) ?_
              intro w7 H
              simp only [List.cons_append, List.nil_append, List.set_cons_zero, List.set_cons_succ, List.setIfInBounds_toArray] at H
              refine hK _ _ (.inl (by kernel_rfl)) ?_
              clear hK K hS hN hcl
              simp only [List.getElem_toArray, List.getElem_cons_zero, List.getElem_cons_succ, Act.put, List.setIfInBounds_toArray, List.set_cons_zero, List.set_cons_succ]
              refine wpAnyG_one (i := 12) (by kernel_rfl) rfl (fun K hK => ?_)
              go_simp
              refine hK _ _ (.inl (by kernel_rfl)) ?_
              clear hK K
              refine wpAnyG_done (by kernel_rfl) ?_ _
            all_goals
              by_cases hz : e1 = 0
              · have e0 : (e1 == 0) = true := by simpa using hz
                obtain ⟨⟨y1, y2⟩, y3⟩ := gq2 (by omega) hz
                have g1 := gq hz
                obtain ⟨F1, hF1e⟩ : ∃ X, D1.flight = X := ⟨_, rfl⟩
                have Y3 := Lib.hid y3
                rw [hF1e] at hF1 y3
                have q1 : decide (D.lim + x1 - 1 < F1) = false := decide_eq_false (by omega)
                have b1' : x1 ≤ 65535 := y2
                clear hz hF1e gq gq2 hm gm gm2 hq hF2 hFD hLf q0
                go_upto_region 17 with (first
                | fail)
                refine region_mem H 10 rfl (by kernel_rfl) (fun wr hS => ?_)
                clear H
                refine wpAnyR_take (i := 0) (v := .pointer (some ⟨bA, 3, none⟩)) rfl rfl (by kernel_rfl) (by kernel_rfl) (by kernel_rfl) (fun _ _ _ h => h) (Nat.le_refl _) ⟨by rfl, fun w _ => (by go_simp; try (first | (simp only [IntKind.wrap_u32]; done) | rfl)), fun _ => rfl⟩ hS ?_
                simp only [List.getElem_toArray, List.getElem_cons_zero, List.getElem_cons_succ, Act.put, List.setIfInBounds_toArray, List.set_cons_zero, List.set_cons_succ]
                refine wpAnyR_take (i := 1) (v := .int .u32 D.lim) rfl rfl (by kernel_rfl) (by kernel_rfl) (by kernel_rfl) (fun _ _ _ h => h) (Nat.le_refl _) (yields_fld (fun w h => h.at 0 rfl) (by exact rfl) (by exact rfl) (by exact rfl) Try.underlying22 rfl (by exact rfl)) hS ?_
                simp only [List.getElem_toArray, List.getElem_cons_zero, List.getElem_cons_succ, Act.put, List.setIfInBounds_toArray, List.set_cons_zero, List.set_cons_succ]
                refine wpAnyR_take (i := 2) (v := .slice (some ⟨ba, oa, none⟩) len cap) rfl rfl (by kernel_rfl) (by kernel_rfl) (by kernel_rfl) (fun _ _ _ h => h) (Nat.le_refl _) ⟨by rfl, fun w _ => (by go_simp; try (first | (simp only [IntKind.wrap_u32]; done) | rfl)), fun _ => rfl⟩ hS ?_
                simp only [List.getElem_toArray, List.getElem_cons_zero, List.getElem_cons_succ, Act.put, List.setIfInBounds_toArray, List.set_cons_zero, List.set_cons_succ]
                refine wpAnyR_take (i := 3) (v := .int .i64 k) rfl rfl (by kernel_rfl) (by kernel_rfl) (by kernel_rfl) (fun _ _ _ h => h) (Nat.le_refl _) ⟨by rfl, fun w _ => (by go_simp; try (first | (simp only [IntKind.wrap_u32]; done) | rfl)), fun _ => rfl⟩ hS ?_
                simp only [List.getElem_toArray, List.getElem_cons_zero, List.getElem_cons_succ, Act.put, List.setIfInBounds_toArray, List.set_cons_zero, List.set_cons_succ]
                refine wpAnyR_take (i := 4) (v := .pointer (some ⟨ba, oa + k * 3, none⟩)) rfl rfl (by kernel_rfl) (by kernel_rfl) (by kernel_rfl) (fun _ _ _ h => h) (Nat.le_refl _) ⟨by rfl, fun w _ => (by go_simp; try (first | (simp only [IntKind.wrap_u32]; done) | rfl)), fun _ => rfl⟩ hS ?_
                simp only [List.getElem_toArray, List.getElem_cons_zero, List.getElem_cons_succ, Act.put, List.setIfInBounds_toArray, List.set_cons_zero, List.set_cons_succ]
                refine wpAnyR_take (i := 5) (v := .pointer (some ⟨ba, oa + k * 3 + 1, none⟩)) rfl rfl (by kernel_rfl) (by kernel_rfl) (by kernel_rfl) (fun _ _ _ h => h) (Nat.le_refl _) ⟨by rfl, fun w _ => (by go_simp; try (first | (simp only [IntKind.wrap_u32]; done) | rfl)), fun _ => rfl⟩ hS ?_
                simp only [List.getElem_toArray, List.getElem_cons_zero, List.getElem_cons_succ, Act.put, List.setIfInBounds_toArray, List.set_cons_zero, List.set_cons_succ]
                refine wpAnyR_take (i := 6) (v := .int .u32 x1) rfl rfl (by kernel_rfl) (by kernel_rfl) (by kernel_rfl) (fun _ _ _ h => h) (Nat.le_refl _) (yields_old c1 hbl (by exact rfl) (by exact rfl) (by exact rfl) Try.underlying22 rfl) hS ?_
                simp only [List.getElem_toArray, List.getElem_cons_zero, List.getElem_cons_succ, Act.put, List.setIfInBounds_toArray, List.set_cons_zero, List.set_cons_succ]
                refine wpAnyR_take (i := 7) (v := .int .u32 (D.lim + x1)) rfl rfl (by kernel_rfl) (by kernel_rfl) (by kernel_rfl) (fun _ _ _ h => h) (Nat.le_refl _) ⟨by rfl, fun w _ => (by go_simp; try (first | (simp only [IntKind.wrap_u32]; done) | rfl | (rw [IntKind.wrap_u32]; omega))), fun _ => rfl⟩ hS ?_
                simp only [List.getElem_toArray, List.getElem_cons_zero, List.getElem_cons_succ, Act.put, List.setIfInBounds_toArray, List.set_cons_zero, List.set_cons_succ]
                refine wpAnyR_take (i := 8) (v := .int .u32 (D.lim + x1 - 1)) rfl rfl (by kernel_rfl) (by kernel_rfl) (by kernel_rfl) (fun _ _ _ h => h) (Nat.le_refl _) ⟨by rfl, fun w _ => (by go_simp; try (first | (simp only [IntKind.wrap_u32]; done) | rfl | (rw [IntKind.wrap_u32]; omega))), fun _ => rfl⟩ hS ?_
                simp only [List.getElem_toArray, List.getElem_cons_zero, List.getElem_cons_succ, Act.put, List.setIfInBounds_toArray, List.set_cons_zero, List.set_cons_succ]
                refine wpAnyG_one (i := 9) (by kernel_rfl) rfl (fun K hK => ?_)
                go_simp
                refine hK _ _ (.inr hS) ?_
                clear hK K
                refine wpAnyG_done (by kernel_rfl) ?_ _
                have H := hS
                clear hS
                go_wp2_with (first
                | go_skip
                | ((with_reducible show wpList _ _ _ (⟨_, .load 26 _, _, _, _, _⟩ :: _) _ _); refine mem_load (i := 0) H (by first | exact wanted_none rfl | exact wanted_some rfl rfl rfl rfl) (by exact rfl) (by exact rfl) (by exact rfl) Try.underlying26 rfl (by exact dqlInfo) ?_)
                | ((with_reducible show wpList _ _ _ (⟨_, .load 26 _, _, _, _, _⟩ :: _) _ _); refine mem_load (i := 1) H (by first | exact wanted_none rfl | exact wanted_some rfl rfl rfl rfl) (by exact rfl) (by exact rfl) (by exact rfl) Try.underlying26 rfl (by exact dqlInfo) ?_)
                | ((with_reducible show wpList _ _ _ (⟨_, .store 26 _ _, _, _, _, _⟩ :: _) _ _); refine mem_store (i := 0) H (by first | exact wanted_none rfl | exact wanted_some rfl rfl rfl rfl) (by exact rfl) (by exact rfl) (by exact rfl) (by exact rfl) (by exact dqlInfo) (by exact rfl) (by exact rfl) ?_; intro w2 H2; clear H; have H := H2; clear H2; simp only [List.cons_append, List.nil_append, List.set_cons_zero, List.set_cons_succ, List.setIfInBounds_toArray] at H)
                | ((with_reducible show wpList _ _ _ (⟨_, .store 26 _ _, _, _, _, _⟩ :: _) _ _); refine mem_store (i := 1) H (by first | exact wanted_none rfl | exact wanted_some rfl rfl rfl rfl) (by exact rfl) (by exact rfl) (by exact rfl) (by exact rfl) (by exact dqlInfo) (by exact rfl) (by exact rfl) ?_; intro w2 H2; clear H; have H := H2; clear H2; simp only [List.cons_append, List.nil_append, List.set_cons_zero, List.set_cons_succ, List.setIfInBounds_toArray] at H)
                | (go_at_call 18; refine (hF1 _).mono ?_; rintro e w2 ⟨rfl, hb⟩; have H2 := H.call hb; clear H hb; have H := H2; clear H2))
                go_roundw
                case rel => exact ⟨k + 1, t1, _, D.lim + x1 - 1, D1, by omega, by omega, rfl, by go_num, rfl, rfl, ht.1, by omega, by omega, by omega, g1, Y3.out, H.drop 1⟩
                case measure => simp [intOf]; omega
              · have e0 : (e1 == 0) = false := by simpa using hz
                clear hz gq gq2 hm gm gm2 hq hF2 hF1 hLf
                go_wp2_with (first
                | go_skip
                | ((with_reducible show wpList _ _ _ (⟨_, .load 26 _, _, _, _, _⟩ :: _) _ _); refine mem_load (i := 0) H (by first | exact wanted_none rfl | exact wanted_some rfl rfl rfl rfl) (by exact rfl) (by exact rfl) (by exact rfl) Try.underlying26 rfl (by exact dqlInfo) ?_)
                | ((with_reducible show wpList _ _ _ (⟨_, .load 26 _, _, _, _, _⟩ :: _) _ _); refine mem_load (i := 1) H (by first | exact wanted_none rfl | exact wanted_some rfl rfl rfl rfl) (by exact rfl) (by exact rfl) (by exact rfl) Try.underlying26 rfl (by exact dqlInfo) ?_)
                | ((with_reducible show wpList _ _ _ (⟨_, .store 26 _ _, _, _, _, _⟩ :: _) _ _); refine mem_store (i := 0) H (by first | exact wanted_none rfl | exact wanted_some rfl rfl rfl rfl) (by exact rfl) (by exact rfl) (by exact rfl) (by exact rfl) (by exact dqlInfo) (by exact rfl) (by exact rfl) ?_; intro w2 H2; clear H; have H := H2; clear H2; simp only [List.cons_append, List.nil_append, List.set_cons_zero, List.set_cons_succ, List.setIfInBounds_toArray] at H)
                | ((with_reducible show wpList _ _ _ (⟨_, .store 26 _ _, _, _, _, _⟩ :: _) _ _); refine mem_store (i := 1) H (by first | exact wanted_none rfl | exact wanted_some rfl rfl rfl rfl) (by exact rfl) (by exact rfl) (by exact rfl) (by exact rfl) (by exact dqlInfo) (by exact rfl) (by exact rfl) ?_; intro w2 H2; clear H; have H := H2; clear H2; simp only [List.cons_append, List.nil_append, List.set_cons_zero, List.set_cons_succ, List.setIfInBounds_toArray] at H)
                | (go_at_call 18; refine (hFD _).mono ?_; rintro e w2 ⟨rfl, hb⟩; have H2 := H.call hb; clear H hb; have H := H2; clear H2))
                go_roundw
                case rel => exact ⟨k + 1, t1, _, Bd, D, by omega, by omega, rfl, by go_num, rfl, rfl, ht.1, by omega, by omega, by omega, ⟨HR.out, hf⟩, HFl.out, H.drop 1⟩
                case measure => simp [intOf]; omega

        · skip
          refine region_memk H 12 14 rfl (by kernel_rfl) (fun wr0 hcl hS => ?_)
          clear H
          refine wpAnyG_take (i := 0) 1 (v := dq D) rfl rfl (by kernel_rfl) (by kernel_rfl) (by kernel_rfl) (fun _ _ _ h => h) (by kernel_rfl) (by decide) hcl (yields_held (fun w h => h.at 0 rfl) (by exact rfl) (by exact rfl) (by exact rfl) Try.underlying26 rfl dqlInfo) hS (fun hc1 => ?_)
          clear hcl; have hcl := hc1; clear hc1; simp only [List.getElem_toArray, List.getElem_cons_zero, List.getElem_cons_succ, Act.put, List.setIfInBounds_toArray, List.set_cons_zero, List.set_cons_succ]
          refine wpAnyG_pure (i := 1) (v := .slice (some ⟨ba, oa, none⟩) len cap) rfl rfl (by kernel_rfl) (by kernel_rfl) (by kernel_rfl) (fun _ _ _ h => h) (by decide) ⟨by rfl, fun w _ => (by go_simp; try (first | (simp only [IntKind.wrap_u32]; done) | rfl)), fun _ => rfl⟩ (.inr hS) ?_
          have hc1 := hcl.step (i := 1) (by kernel_rfl)
          clear hcl; have hcl := hc1; clear hc1; simp only [List.getElem_toArray, List.getElem_cons_zero, List.getElem_cons_succ, Act.put, List.setIfInBounds_toArray, List.set_cons_zero, List.set_cons_succ]
          refine wpAnyG_pure (i := 2) (v := .int .i64 k) rfl rfl (by kernel_rfl) (by kernel_rfl) (by kernel_rfl) (fun _ _ _ h => h) (by decide) ⟨by rfl, fun w _ => (by go_simp; try (first | (simp only [IntKind.wrap_u32]; done) | rfl)), fun _ => rfl⟩ (.inr hS) ?_
          have hc1 := hcl.step (i := 2) (by kernel_rfl)
          clear hcl; have hcl := hc1; clear hc1; simp only [List.getElem_toArray, List.getElem_cons_zero, List.getElem_cons_succ, Act.put, List.setIfInBounds_toArray, List.set_cons_zero, List.set_cons_succ]
          refine wpAnyG_pure (i := 3) (v := .pointer (some ⟨ba, oa + k * 3, none⟩)) rfl rfl (by kernel_rfl) (by kernel_rfl) (by kernel_rfl) (fun _ _ _ h => h) (by decide) ⟨by rfl, fun w _ => (by go_simp; try (first | (simp only [IntKind.wrap_u32]; done) | rfl)), fun _ => rfl⟩ (.inr hS) ?_
          have hc1 := hcl.step (i := 3) (by kernel_rfl)
          clear hcl; have hcl := hc1; clear hc1; simp only [List.getElem_toArray, List.getElem_cons_zero, List.getElem_cons_succ, Act.put, List.setIfInBounds_toArray, List.set_cons_zero, List.set_cons_succ]
          refine wpAnyG_pure (i := 4) (v := .pointer (some ⟨ba, oa + k * 3 + 1, none⟩)) rfl rfl (by kernel_rfl) (by kernel_rfl) (by kernel_rfl) (fun _ _ _ h => h) (by decide) ⟨by rfl, fun w _ => (by go_simp; try (first | (simp only [IntKind.wrap_u32]; done) | rfl)), fun _ => rfl⟩ (.inr hS) ?_
          have hc1 := hcl.step (i := 4) (by kernel_rfl)
          clear hcl; have hcl := hc1; clear hc1; simp only [List.getElem_toArray, List.getElem_cons_zero, List.getElem_cons_succ, Act.put, List.setIfInBounds_toArray, List.set_cons_zero, List.set_cons_succ]
          refine wpAnyG_take (i := 5) 1 (v := .int .u32 x1) rfl rfl (by kernel_rfl) (by kernel_rfl) (by kernel_rfl) (fun _ _ _ h => h) (by kernel_rfl) (by decide) hcl (yields_old c1 hbl (by exact rfl) (by exact rfl) (by exact rfl) Try.underlying22 rfl) hS (fun hc1 => ?_)
          clear hcl; have hcl := hc1; clear hc1; simp only [List.getElem_toArray, List.getElem_cons_zero, List.getElem_cons_succ, Act.put, List.setIfInBounds_toArray, List.set_cons_zero, List.set_cons_succ]
          refine wpAnyG_pure (i := 6) (v := .int .u64 t1) rfl rfl (by kernel_rfl) (by kernel_rfl) (by kernel_rfl) (fun _ _ _ h => h) (by decide) ⟨by rfl, fun w _ => (by go_simp; try (first | (simp only [IntKind.wrap_u32]; done) | rfl)), fun _ => rfl⟩ (.inr hS) ?_
          have hc1 := hcl.step (i := 6) (by kernel_rfl)
          clear hcl; have hcl := hc1; clear hc1; simp only [List.getElem_toArray, List.getElem_cons_zero, List.getElem_cons_succ, Act.put, List.setIfInBounds_toArray, List.set_cons_zero, List.set_cons_succ]
          refine wpAnyG_two (i := 7) (j := 11) (by kernel_rfl) rfl rfl (fun K hK => ?wa_108) (fun K hK => ?wb_108)
          case' wa_108 =>
            go_simp
            refine ⟨trivial, (callsIn_wide.2 (hm _)).mono ?_⟩
            rintro e w5 ⟨rfl, hb⟩
            have hS5 := hS.call hb
            clear hb hS
            have hS := hS5
            clear hS5
            refine hK _ _ (.inr hS) ?_
            clear hK K
            have hc1 := hcl.step (i := 7) (by kernel_rfl)
            clear hcl; have hcl := hc1; clear hc1
            refine wpAnyG_pure (i := 8) (v := .tuple #[dq D2, .int .i64 e2]) rfl rfl (by kernel_rfl) (by kernel_rfl) (by kernel_rfl) (fun _ _ _ h => h) (by decide) ⟨by rfl, fun w _ => (by go_simp; try (first | (simp only [IntKind.wrap_u32]; done) | rfl)), fun _ => rfl⟩ (.inr hS) ?_
            have hc1 := hcl.step (i := 8) (by kernel_rfl)
            clear hcl; have hcl := hc1; clear hc1; simp only [List.getElem_toArray, List.getElem_cons_zero, List.getElem_cons_succ, Act.put, List.setIfInBounds_toArray, List.set_cons_zero, List.set_cons_succ]
            refine wpAnyG_pure (i := 9) (v := dq D2) rfl rfl (by kernel_rfl) (by kernel_rfl) (by kernel_rfl) (fun _ _ _ h => h) (by decide) ⟨by rfl, fun w _ => (by go_simp; try (first | (simp only [IntKind.wrap_u32]; done) | rfl)), fun _ => rfl⟩ (.inr hS) ?_
            have hc1 := hcl.step (i := 9) (by kernel_rfl)
            clear hcl; have hcl := hc1; clear hc1; simp only [List.getElem_toArray, List.getElem_cons_zero, List.getElem_cons_succ, Act.put, List.setIfInBounds_toArray, List.set_cons_zero, List.set_cons_succ]
            refine wpAnyG_pure (i := 10) (v := .int .i64 e2) rfl rfl (by kernel_rfl) (by kernel_rfl) (by kernel_rfl) (fun _ _ _ h => h) (by decide) ⟨by rfl, fun w _ => (by go_simp; try (first | (simp only [IntKind.wrap_u32]; done) | rfl)), fun _ => rfl⟩ (.inr hS) ?_
            have hc1 := hcl.step (i := 10) (by kernel_rfl)
            clear hcl; have hcl := hc1; clear hc1; simp only [List.getElem_toArray, List.getElem_cons_zero, List.getElem_cons_succ, Act.put, List.setIfInBounds_toArray, List.set_cons_zero, List.set_cons_succ]
            refine wpAnyG_one (i := 11) (by kernel_rfl) rfl (fun K hK => ?_)
            go_simp
            refine hK _ _ (.inr (hS.skip _)) ?_
            clear hK K
            have hc1 := hcl.step (i := 11) (by kernel_rfl)
            clear hcl; have hcl := hc1; clear hc1
            have hN := hS.alloc 26 #[.int .u32 0, .int .u32 0, .int .u32 0, .int .u32 0, .int .u32 0, .int .u32 0, .int .u32 0, .int .u32 0, .int .u32 0, .int .u64 0, .int .u64 0, .int .u32 0, .int .u32 0]
            have hS5 := hS.skip (.cells #[.int .u32 0, .int .u32 0, .int .u32 0, .int .u32 0, .int .u32 0, .int .u32 0, .int .u32 0, .int .u32 0, .int .u32 0, .int .u64 0, .int .u64 0, .int .u32 0, .int .u32 0] 26)
            clear hS
            generalize hbN : w5.heap.size = bN at hN ⊢
            clear hbN
            generalize w5.alloc (.cells #[.int .u32 0, .int .u32 0, .int .u32 0, .int .u32 0, .int .u32 0, .int .u32 0, .int .u32 0, .int .u32 0, .int .u32 0, .int .u64 0, .int .u64 0, .int .u32 0, .int .u32 0] 26) = w6 at hN hS5 ⊢
            have hS := hS5
            clear hS5
            simp only [List.cons_append, List.nil_append] at hN
            refine wpAnyG_one (i := 12) (by kernel_rfl) rfl (fun K hK => ?_)
            rw [if_pos (by exact rfl)]
            refine wpIn_store_mem (i := 1) hN (by exact rfl) (by exact rfl) (by exact rfl) (by exact rfl) (by exact dqlInfo) (by exact rfl) (by exact rfl) ?_
            intro w7 H
            simp only [List.cons_append, List.nil_append, List.set_cons_zero, List.set_cons_succ, List.setIfInBounds_toArray] at H
            refine hK _ _ (.inl (by kernel_rfl)) ?_
            clear hK K hS hN hcl
            simp only [List.getElem_toArray, List.getElem_cons_zero, List.getElem_cons_succ, Act.put, List.setIfInBounds_toArray, List.set_cons_zero, List.set_cons_succ]
            refine wpAnyG_one (i := 13) (by kernel_rfl) rfl (fun K hK => ?_)
            go_simp
            refine hK _ _ (.inl (by kernel_rfl)) ?_
            clear hK K
            refine wpAnyG_done (by kernel_rfl) ?_ _
          case' wb_108 =>
            go_simp
            refine hK _ _ (.inr (hS.skip _)) ?_
            clear hK K
            have hc1 := hcl.step (i := 11) (by kernel_rfl)
            clear hcl; have hcl := hc1; clear hc1
            have hN := hS.alloc 26 #[.int .u32 0, .int .u32 0, .int .u32 0, .int .u32 0, .int .u32 0, .int .u32 0, .int .u32 0, .int .u32 0, .int .u32 0, .int .u64 0, .int .u64 0, .int .u32 0, .int .u32 0]
            have hS5 := hS.skip (.cells #[.int .u32 0, .int .u32 0, .int .u32 0, .int .u32 0, .int .u32 0, .int .u32 0, .int .u32 0, .int .u32 0, .int .u32 0, .int .u64 0, .int .u64 0, .int .u32 0, .int .u32 0] 26)
            clear hS
            generalize hbN : wr0.heap.size = bN at hN ⊢
            clear hbN
            generalize wr0.alloc (.cells #[.int .u32 0, .int .u32 0, .int .u32 0, .int .u32 0, .int .u32 0, .int .u32 0, .int .u32 0, .int .u32 0, .int .u32 0, .int .u64 0, .int .u64 0, .int .u32 0, .int .u32 0] 26) = w6 at hN hS5 ⊢
            have hS := hS5
            clear hS5
            simp only [List.cons_append, List.nil_append] at hN
            refine wpAnyG_one (i := 7) (by kernel_rfl) rfl (fun K hK => ?_)
            go_simp
            refine ⟨trivial, (callsIn_wide.2 (hm _)).mono ?_⟩
            rintro e w5 ⟨rfl, hb⟩
            have hS5 := hS.call hb
            have hN5 := hN.call hb
            clear hb hS hN
            have hS := hS5
            clear hS5
            have hN := hN5
            clear hN5
            refine hK _ _ (.inr hS) ?_
            clear hK K
            have hc1 := hcl.step (i := 7) (by kernel_rfl)
            clear hcl; have hcl := hc1; clear hc1
            refine wpAnyG_pure (i := 8) (v := .tuple #[dq D2, .int .i64 e2]) rfl rfl (by kernel_rfl) (by kernel_rfl) (by kernel_rfl) (fun _ _ _ h => h) (by decide) ⟨by rfl, fun w _ => (by go_simp; try (first | (simp only [IntKind.wrap_u32]; done) | rfl)), fun _ => rfl⟩ (.inr hS) ?_
            have hc1 := hcl.step (i := 8) (by kernel_rfl)
            clear hcl; have hcl := hc1; clear hc1; simp only [List.getElem_toArray, List.getElem_cons_zero, List.getElem_cons_succ, Act.put, List.setIfInBounds_toArray, List.set_cons_zero, List.set_cons_succ]
            refine wpAnyG_pure (i := 9) (v := dq D2) rfl rfl (by kernel_rfl) (by kernel_rfl) (by kernel_rfl) (fun _ _ _ h => h) (by decide) ⟨by rfl, fun w _ => (by go_simp; try (first | (simp only [IntKind.wrap_u32]; done) | rfl)), fun _ => rfl⟩ (.inr hS) ?_
            have hc1 := hcl.step (i := 9) (by kernel_rfl)
            clear hcl; have hcl := hc1; clear hc1; simp only [List.getElem_toArray, List.getElem_cons_zero, List.getElem_cons_succ, Act.put, List.setIfInBounds_toArray, List.set_cons_zero, List.set_cons_succ]
            refine wpAnyG_pure (i := 10) (v := .int .i64 e2) rfl rfl (by kernel_rfl) (by kernel_rfl) (by kernel_rfl) (fun _ _ _ h => h) (by decide) ⟨by rfl, fun w _ => (by go_simp; try (first | (simp only [IntKind.wrap_u32]; done) | rfl)), fun _ => rfl⟩ (.inr hS) ?_
            have hc1 := hcl.step (i := 10) (by kernel_rfl)
            clear hcl; have hcl := hc1; clear hc1; simp only [List.getElem_toArray, List.getElem_cons_zero, List.getElem_cons_succ, Act.put, List.setIfInBounds_toArray, List.set_cons_zero, List.set_cons_succ]
            refine wpAnyG_one (i := 12) (by kernel_rfl) rfl (fun K hK => ?_)
            rw [if_pos (by exact rfl)]
            refine wpIn_store_mem (i := 1) hN (by exact rfl) (by exact rfl) (by exact rfl) (by exact rfl) (by exact dqlInfo) (by exact rfl) (by exact rfl) ?_
            intro w7 H
            simp only [List.cons_append, List.nil_append, List.set_cons_zero, List.set_cons_succ, List.setIfInBounds_toArray] at H
            refine hK _ _ (.inl (by kernel_rfl)) ?_
            clear hK K hS hN hcl
            simp only [List.getElem_toArray, List.getElem_cons_zero, List.getElem_cons_succ, Act.put, List.setIfInBounds_toArray, List.set_cons_zero, List.set_cons_succ]
            refine wpAnyG_one (i := 13) (by kernel_rfl) rfl (fun K hK => ?_)
            go_simp
            refine hK _ _ (.inl (by kernel_rfl)) ?_
            clear hK K
            refine wpAnyG_done (by kernel_rfl) ?_ _
          all_goals
            by_cases hz : e2 = 0
            · have e0 : (e2 == 0) = true := by simpa using hz
              have y3 := gm2 hz
              have g1 := gm hz
              have Y3 : D2.flight ≤ Bd := by omega
              have Y3 := Lib.hid Y3
              obtain ⟨F2, hF2e⟩ : ∃ X, D2.flight = X := ⟨_, rfl⟩
              rw [hF2e] at hF2 y3
              have q1 : decide (Bd < F2) = false := decide_eq_false (by omega)
              clear hz hF2e gq gq2 hm gm gm2 hq hF1 hFD hLf q0
              go_wp2_with (first
              | go_skip
              | ((with_reducible show wpList _ _ _ (⟨_, .load 26 _, _, _, _, _⟩ :: _) _ _); refine mem_load (i := 0) H (by first | exact wanted_none rfl | exact wanted_some rfl rfl rfl rfl) (by exact rfl) (by exact rfl) (by exact rfl) Try.underlying26 rfl (by exact dqlInfo) ?_)
              | ((with_reducible show wpList _ _ _ (⟨_, .load 26 _, _, _, _, _⟩ :: _) _ _); refine mem_load (i := 1) H (by first | exact wanted_none rfl | exact wanted_some rfl rfl rfl rfl) (by exact rfl) (by exact rfl) (by exact rfl) Try.underlying26 rfl (by exact dqlInfo) ?_)
              | ((with_reducible show wpList _ _ _ (⟨_, .store 26 _ _, _, _, _, _⟩ :: _) _ _); refine mem_store (i := 0) H (by first | exact wanted_none rfl | exact wanted_some rfl rfl rfl rfl) (by exact rfl) (by exact rfl) (by exact rfl) (by exact rfl) (by exact dqlInfo) (by exact rfl) (by exact rfl) ?_; intro w2 H2; clear H; have H := H2; clear H2; simp only [List.cons_append, List.nil_append, List.set_cons_zero, List.set_cons_succ, List.setIfInBounds_toArray] at H)
              | ((with_reducible show wpList _ _ _ (⟨_, .store 26 _ _, _, _, _, _⟩ :: _) _ _); refine mem_store (i := 1) H (by first | exact wanted_none rfl | exact wanted_some rfl rfl rfl rfl) (by exact rfl) (by exact rfl) (by exact rfl) (by exact rfl) (by exact dqlInfo) (by exact rfl) (by exact rfl) ?_; intro w2 H2; clear H; have H := H2; clear H2; simp only [List.cons_append, List.nil_append, List.set_cons_zero, List.set_cons_succ, List.setIfInBounds_toArray] at H)
              | (go_at_call 18; refine (hF2 _).mono ?_; rintro e w2 ⟨rfl, hb⟩; have H2 := H.call hb; clear H hb; have H := H2; clear H2))
              go_roundw
              case rel => exact ⟨k + 1, t1, _, Bd, D2, by omega, by omega, rfl, by go_num, rfl, rfl, ht.1, by omega, by omega, by omega, g1, Y3.out, H.drop 1⟩
              case measure => simp [intOf]; omega
            · have e0 : (e2 == 0) = false := by simpa using hz
              clear hz gq gq2 hm gm gm2 hq hF2 hF1 hLf
              go_wp2_with (first
              | go_skip
              | ((with_reducible show wpList _ _ _ (⟨_, .load 26 _, _, _, _, _⟩ :: _) _ _); refine mem_load (i := 0) H (by first | exact wanted_none rfl | exact wanted_some rfl rfl rfl rfl) (by exact rfl) (by exact rfl) (by exact rfl) Try.underlying26 rfl (by exact dqlInfo) ?_)
              | ((with_reducible show wpList _ _ _ (⟨_, .load 26 _, _, _, _, _⟩ :: _) _ _); refine mem_load (i := 1) H (by first | exact wanted_none rfl | exact wanted_some rfl rfl rfl rfl) (by exact rfl) (by exact rfl) (by exact rfl) Try.underlying26 rfl (by exact dqlInfo) ?_)
              | ((with_reducible show wpList _ _ _ (⟨_, .store 26 _ _, _, _, _, _⟩ :: _) _ _); refine mem_store (i := 0) H (by first | exact wanted_none rfl | exact wanted_some rfl rfl rfl rfl) (by exact rfl) (by exact rfl) (by exact rfl) (by exact rfl) (by exact dqlInfo) (by exact rfl) (by exact rfl) ?_; intro w2 H2; clear H; have H := H2; clear H2; simp only [List.cons_append, List.nil_append, List.set_cons_zero, List.set_cons_succ, List.setIfInBounds_toArray] at H)
              | ((with_reducible show wpList _ _ _ (⟨_, .store 26 _ _, _, _, _, _⟩ :: _) _ _); refine mem_store (i := 1) H (by first | exact wanted_none rfl | exact wanted_some rfl rfl rfl rfl) (by exact rfl) (by exact rfl) (by exact rfl) (by exact rfl) (by exact dqlInfo) (by exact rfl) (by exact rfl) ?_; intro w2 H2; clear H; have H := H2; clear H2; simp only [List.cons_append, List.nil_append, List.set_cons_zero, List.set_cons_succ, List.setIfInBounds_toArray] at H)
              | (go_at_call 18; refine (hFD _).mono ?_; rintro e w2 ⟨rfl, hb⟩; have H2 := H.call hb; clear H hb; have H := H2; clear H2))
              go_roundw
              case rel => exact ⟨k + 1, t1, _, Bd, D, by omega, by omega, rfl, by go_num, rfl, rfl, ht.1, by omega, by omega, by omega, ⟨HR.out, hf⟩, HFl.out, H.drop 1⟩
              case measure => simp [intOf]; omega

      · clear hr hin HAb
        go_wp2
        all_goals
          go_ret
          exact ⟨rfl, H.below⟩
end Go.Proofs.Ytfgaeaebchgcdaa
