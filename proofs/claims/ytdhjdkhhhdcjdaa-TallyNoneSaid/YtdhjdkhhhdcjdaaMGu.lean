/-
  The program's counts, Reader; the reader's steps. Conditions: the tally and its reader lie where their pointers say. The reader's steps. Conditions: the tally and its reader lie where their pointers say. The reader's last step. Conditions: the tally and its reader lie where their pointers say. The reader's Step. Conditions: the tally and its reader lie where their pointers say.
-/
import Derived.Test.YtdhjdkhhhdcjdaaMGt
import Derived.Test.YtdhjdkhhhdcjdaaMGf
/- The program's counts, Reader; the reader's steps. Conditions: the tally and its reader lie where their pointers say. -/
section
namespace Go.Proofs.Ytdhjdkhhhdcjdaa.Ta
set_option linter.unusedSimpArgs false
set_option linter.unusedVariables false
set_option maxRecDepth 100000
open Go.ChangeShapes Go.WideShapes Go.ChangeAt Go.RowKit

theorem counts0_p (b : Nat) (c : C6) (W : World) (hb : b < W.heap.size) (h : ∀ j, j < 6 → W.cell? ⟨b, 0 + j, none⟩ = some (.int .u64 (c.get j))) : Calls Try.prog 31 #[.pointer (some ⟨b, 0, none⟩)] W fun e w' => e = .returned (cv c) ∧ Below W.heap.size W w' := by
  have H := Mem.start W
  have c0 : W.cell? ⟨b, 0, none⟩ = some (.int .u64 c.c0) := h 0 (by omega)
  have c1 : W.cell? ⟨b, 1, none⟩ = some (.int .u64 c.c1) := h 1 (by omega)
  have c2 : W.cell? ⟨b, 2, none⟩ = some (.int .u64 c.c2) := h 2 (by omega)
  have c3 : W.cell? ⟨b, 3, none⟩ = some (.int .u64 c.c3) := h 3 (by omega)
  have c4 : W.cell? ⟨b, 4, none⟩ = some (.int .u64 c.c4) := h 4 (by omega)
  have c5 : W.cell? ⟨b, 5, none⟩ = some (.int .u64 c.c5) := h 5 (by omega)
  clear h
  go_enter Try.func31, Try.ntmps31
  go_upto_region 1 with (first
    | ((with_reducible show wpList _ _ _ _ _ (World.alloc _ (.cells _ _))); refine mem_newb (l := []) H ?_; intro br w3 hbk H2; try rw [← hbk]; clear hbk H; have H := H2; clear H2; simp only [List.cons_append, List.nil_append, List.set_cons_zero, List.set_cons_succ, List.setIfInBounds_toArray] at H))
  refine region_memk H 25 26 rfl (by kernel_rfl) (fun wr0 hcl hS => ?_)
  clear H
  refine wpAnyG_pure (i := 0) (v := .pointer (some ⟨b, 0, none⟩)) rfl rfl (by kernel_rfl) (by kernel_rfl) (by kernel_rfl) (fun _ _ _ h => h) (by decide) ⟨by rfl, fun w _ => (by go_simp; try (first | (simp only [IntKind.wrap_u32]; done) | rfl)), fun _ => rfl⟩ (.inr hS) ?_
  have hc1 := hcl.step (i := 0) (by kernel_rfl)
  clear hcl; have hcl := hc1; clear hc1; simp only [List.getElem_toArray, List.getElem_cons_zero, List.getElem_cons_succ, Act.put, List.setIfInBounds_toArray, List.set_cons_zero, List.set_cons_succ]
  refine wpAnyG_pure (i := 1) (v := .pointer (some ⟨b, 0, none⟩)) rfl rfl (by kernel_rfl) (by kernel_rfl) (by kernel_rfl) (fun _ _ _ h => h) (by decide) ⟨by rfl, fun w _ => (by go_simp; try (first | (simp only [IntKind.wrap_u32]; done) | rfl)), fun _ => rfl⟩ (.inr hS) ?_
  have hc1 := hcl.step (i := 1) (by kernel_rfl)
  clear hcl; have hcl := hc1; clear hc1; simp only [List.getElem_toArray, List.getElem_cons_zero, List.getElem_cons_succ, Act.put, List.setIfInBounds_toArray, List.set_cons_zero, List.set_cons_succ]
  refine wpAnyG_pure (i := 2) (v := .pointer (some ⟨b, 0, none⟩)) rfl rfl (by kernel_rfl) (by kernel_rfl) (by kernel_rfl) (fun _ _ _ h => h) (by decide) ⟨by rfl, fun w _ => (by go_simp; try (first | (simp only [IntKind.wrap_u32]; done) | rfl)), fun _ => rfl⟩ (.inr hS) ?_
  have hc1 := hcl.step (i := 2) (by kernel_rfl)
  clear hcl; have hcl := hc1; clear hc1; simp only [List.getElem_toArray, List.getElem_cons_zero, List.getElem_cons_succ, Act.put, List.setIfInBounds_toArray, List.set_cons_zero, List.set_cons_succ]
  refine wpAnyG_take (i := 3) 1 (v := .int .u64 c.c0) rfl rfl (by kernel_rfl) (by kernel_rfl) (by kernel_rfl) (fun _ _ _ h => h) (by kernel_rfl) (by decide) hcl (yields_old c0 hb (by exact rfl) (by exact rfl) (by exact rfl) Try.underlying40 rfl) hS (fun hc1 => ?_)
  clear hcl; have hcl := hc1; clear hc1; simp only [List.getElem_toArray, List.getElem_cons_zero, List.getElem_cons_succ, Act.put, List.setIfInBounds_toArray, List.set_cons_zero, List.set_cons_succ]
  refine wpAnyG_pure (i := 4) (v := .pointer (some ⟨b, 0, none⟩)) rfl rfl (by kernel_rfl) (by kernel_rfl) (by kernel_rfl) (fun _ _ _ h => h) (by decide) ⟨by rfl, fun w _ => (by go_simp; try (first | (simp only [IntKind.wrap_u32]; done) | rfl)), fun _ => rfl⟩ (.inr hS) ?_
  have hc1 := hcl.step (i := 4) (by kernel_rfl)
  clear hcl; have hcl := hc1; clear hc1; simp only [List.getElem_toArray, List.getElem_cons_zero, List.getElem_cons_succ, Act.put, List.setIfInBounds_toArray, List.set_cons_zero, List.set_cons_succ]
  refine wpAnyG_pure (i := 5) (v := .pointer (some ⟨b, 0, none⟩)) rfl rfl (by kernel_rfl) (by kernel_rfl) (by kernel_rfl) (fun _ _ _ h => h) (by decide) ⟨by rfl, fun w _ => (by go_simp; try (first | (simp only [IntKind.wrap_u32]; done) | rfl)), fun _ => rfl⟩ (.inr hS) ?_
  have hc1 := hcl.step (i := 5) (by kernel_rfl)
  clear hcl; have hcl := hc1; clear hc1; simp only [List.getElem_toArray, List.getElem_cons_zero, List.getElem_cons_succ, Act.put, List.setIfInBounds_toArray, List.set_cons_zero, List.set_cons_succ]
  refine wpAnyG_pure (i := 6) (v := .pointer (some ⟨b, 1, none⟩)) rfl rfl (by kernel_rfl) (by kernel_rfl) (by kernel_rfl) (fun _ _ _ h => h) (by decide) ⟨by rfl, fun w _ => (by go_simp; try (first | (simp only [IntKind.wrap_u32]; done) | rfl)), fun _ => rfl⟩ (.inr hS) ?_
  have hc1 := hcl.step (i := 6) (by kernel_rfl)
  clear hcl; have hcl := hc1; clear hc1; simp only [List.getElem_toArray, List.getElem_cons_zero, List.getElem_cons_succ, Act.put, List.setIfInBounds_toArray, List.set_cons_zero, List.set_cons_succ]
  refine wpAnyG_take (i := 7) 1 (v := .int .u64 c.c1) rfl rfl (by kernel_rfl) (by kernel_rfl) (by kernel_rfl) (fun _ _ _ h => h) (by kernel_rfl) (by decide) hcl (yields_old c1 hb (by exact rfl) (by exact rfl) (by exact rfl) Try.underlying40 rfl) hS (fun hc1 => ?_)
  clear hcl; have hcl := hc1; clear hc1; simp only [List.getElem_toArray, List.getElem_cons_zero, List.getElem_cons_succ, Act.put, List.setIfInBounds_toArray, List.set_cons_zero, List.set_cons_succ]
  refine wpAnyG_pure (i := 8) (v := .pointer (some ⟨b, 0, none⟩)) rfl rfl (by kernel_rfl) (by kernel_rfl) (by kernel_rfl) (fun _ _ _ h => h) (by decide) ⟨by rfl, fun w _ => (by go_simp; try (first | (simp only [IntKind.wrap_u32]; done) | rfl)), fun _ => rfl⟩ (.inr hS) ?_
  have hc1 := hcl.step (i := 8) (by kernel_rfl)
  clear hcl; have hcl := hc1; clear hc1; simp only [List.getElem_toArray, List.getElem_cons_zero, List.getElem_cons_succ, Act.put, List.setIfInBounds_toArray, List.set_cons_zero, List.set_cons_succ]
  refine wpAnyG_pure (i := 9) (v := .pointer (some ⟨b, 0, none⟩)) rfl rfl (by kernel_rfl) (by kernel_rfl) (by kernel_rfl) (fun _ _ _ h => h) (by decide) ⟨by rfl, fun w _ => (by go_simp; try (first | (simp only [IntKind.wrap_u32]; done) | rfl)), fun _ => rfl⟩ (.inr hS) ?_
  have hc1 := hcl.step (i := 9) (by kernel_rfl)
  clear hcl; have hcl := hc1; clear hc1; simp only [List.getElem_toArray, List.getElem_cons_zero, List.getElem_cons_succ, Act.put, List.setIfInBounds_toArray, List.set_cons_zero, List.set_cons_succ]
  refine wpAnyG_pure (i := 10) (v := .pointer (some ⟨b, 2, none⟩)) rfl rfl (by kernel_rfl) (by kernel_rfl) (by kernel_rfl) (fun _ _ _ h => h) (by decide) ⟨by rfl, fun w _ => (by go_simp; try (first | (simp only [IntKind.wrap_u32]; done) | rfl)), fun _ => rfl⟩ (.inr hS) ?_
  have hc1 := hcl.step (i := 10) (by kernel_rfl)
  clear hcl; have hcl := hc1; clear hc1; simp only [List.getElem_toArray, List.getElem_cons_zero, List.getElem_cons_succ, Act.put, List.setIfInBounds_toArray, List.set_cons_zero, List.set_cons_succ]
  refine wpAnyG_take (i := 11) 1 (v := .int .u64 c.c2) rfl rfl (by kernel_rfl) (by kernel_rfl) (by kernel_rfl) (fun _ _ _ h => h) (by kernel_rfl) (by decide) hcl (yields_old c2 hb (by exact rfl) (by exact rfl) (by exact rfl) Try.underlying40 rfl) hS (fun hc1 => ?_)
  clear hcl; have hcl := hc1; clear hc1; simp only [List.getElem_toArray, List.getElem_cons_zero, List.getElem_cons_succ, Act.put, List.setIfInBounds_toArray, List.set_cons_zero, List.set_cons_succ]
  refine wpAnyG_pure (i := 12) (v := .pointer (some ⟨b, 0, none⟩)) rfl rfl (by kernel_rfl) (by kernel_rfl) (by kernel_rfl) (fun _ _ _ h => h) (by decide) ⟨by rfl, fun w _ => (by go_simp; try (first | (simp only [IntKind.wrap_u32]; done) | rfl)), fun _ => rfl⟩ (.inr hS) ?_
  have hc1 := hcl.step (i := 12) (by kernel_rfl)
  clear hcl; have hcl := hc1; clear hc1; simp only [List.getElem_toArray, List.getElem_cons_zero, List.getElem_cons_succ, Act.put, List.setIfInBounds_toArray, List.set_cons_zero, List.set_cons_succ]
  refine wpAnyG_pure (i := 13) (v := .pointer (some ⟨b, 0, none⟩)) rfl rfl (by kernel_rfl) (by kernel_rfl) (by kernel_rfl) (fun _ _ _ h => h) (by decide) ⟨by rfl, fun w _ => (by go_simp; try (first | (simp only [IntKind.wrap_u32]; done) | rfl)), fun _ => rfl⟩ (.inr hS) ?_
  have hc1 := hcl.step (i := 13) (by kernel_rfl)
  clear hcl; have hcl := hc1; clear hc1; simp only [List.getElem_toArray, List.getElem_cons_zero, List.getElem_cons_succ, Act.put, List.setIfInBounds_toArray, List.set_cons_zero, List.set_cons_succ]
  refine wpAnyG_pure (i := 14) (v := .pointer (some ⟨b, 3, none⟩)) rfl rfl (by kernel_rfl) (by kernel_rfl) (by kernel_rfl) (fun _ _ _ h => h) (by decide) ⟨by rfl, fun w _ => (by go_simp; try (first | (simp only [IntKind.wrap_u32]; done) | rfl)), fun _ => rfl⟩ (.inr hS) ?_
  have hc1 := hcl.step (i := 14) (by kernel_rfl)
  clear hcl; have hcl := hc1; clear hc1; simp only [List.getElem_toArray, List.getElem_cons_zero, List.getElem_cons_succ, Act.put, List.setIfInBounds_toArray, List.set_cons_zero, List.set_cons_succ]
  refine wpAnyG_take (i := 15) 1 (v := .int .u64 c.c3) rfl rfl (by kernel_rfl) (by kernel_rfl) (by kernel_rfl) (fun _ _ _ h => h) (by kernel_rfl) (by decide) hcl (yields_old c3 hb (by exact rfl) (by exact rfl) (by exact rfl) Try.underlying40 rfl) hS (fun hc1 => ?_)
  clear hcl; have hcl := hc1; clear hc1; simp only [List.getElem_toArray, List.getElem_cons_zero, List.getElem_cons_succ, Act.put, List.setIfInBounds_toArray, List.set_cons_zero, List.set_cons_succ]
  refine wpAnyG_pure (i := 16) (v := .pointer (some ⟨b, 0, none⟩)) rfl rfl (by kernel_rfl) (by kernel_rfl) (by kernel_rfl) (fun _ _ _ h => h) (by decide) ⟨by rfl, fun w _ => (by go_simp; try (first | (simp only [IntKind.wrap_u32]; done) | rfl)), fun _ => rfl⟩ (.inr hS) ?_
  have hc1 := hcl.step (i := 16) (by kernel_rfl)
  clear hcl; have hcl := hc1; clear hc1; simp only [List.getElem_toArray, List.getElem_cons_zero, List.getElem_cons_succ, Act.put, List.setIfInBounds_toArray, List.set_cons_zero, List.set_cons_succ]
  refine wpAnyG_pure (i := 17) (v := .pointer (some ⟨b, 0, none⟩)) rfl rfl (by kernel_rfl) (by kernel_rfl) (by kernel_rfl) (fun _ _ _ h => h) (by decide) ⟨by rfl, fun w _ => (by go_simp; try (first | (simp only [IntKind.wrap_u32]; done) | rfl)), fun _ => rfl⟩ (.inr hS) ?_
  have hc1 := hcl.step (i := 17) (by kernel_rfl)
  clear hcl; have hcl := hc1; clear hc1; simp only [List.getElem_toArray, List.getElem_cons_zero, List.getElem_cons_succ, Act.put, List.setIfInBounds_toArray, List.set_cons_zero, List.set_cons_succ]
  refine wpAnyG_pure (i := 18) (v := .pointer (some ⟨b, 4, none⟩)) rfl rfl (by kernel_rfl) (by kernel_rfl) (by kernel_rfl) (fun _ _ _ h => h) (by decide) ⟨by rfl, fun w _ => (by go_simp; try (first | (simp only [IntKind.wrap_u32]; done) | rfl)), fun _ => rfl⟩ (.inr hS) ?_
  have hc1 := hcl.step (i := 18) (by kernel_rfl)
  clear hcl; have hcl := hc1; clear hc1; simp only [List.getElem_toArray, List.getElem_cons_zero, List.getElem_cons_succ, Act.put, List.setIfInBounds_toArray, List.set_cons_zero, List.set_cons_succ]
  refine wpAnyG_take (i := 19) 1 (v := .int .u64 c.c4) rfl rfl (by kernel_rfl) (by kernel_rfl) (by kernel_rfl) (fun _ _ _ h => h) (by kernel_rfl) (by decide) hcl (yields_old c4 hb (by exact rfl) (by exact rfl) (by exact rfl) Try.underlying40 rfl) hS (fun hc1 => ?_)
  clear hcl; have hcl := hc1; clear hc1; simp only [List.getElem_toArray, List.getElem_cons_zero, List.getElem_cons_succ, Act.put, List.setIfInBounds_toArray, List.set_cons_zero, List.set_cons_succ]
  refine wpAnyG_pure (i := 20) (v := .pointer (some ⟨b, 0, none⟩)) rfl rfl (by kernel_rfl) (by kernel_rfl) (by kernel_rfl) (fun _ _ _ h => h) (by decide) ⟨by rfl, fun w _ => (by go_simp; try (first | (simp only [IntKind.wrap_u32]; done) | rfl)), fun _ => rfl⟩ (.inr hS) ?_
  have hc1 := hcl.step (i := 20) (by kernel_rfl)
  clear hcl; have hcl := hc1; clear hc1; simp only [List.getElem_toArray, List.getElem_cons_zero, List.getElem_cons_succ, Act.put, List.setIfInBounds_toArray, List.set_cons_zero, List.set_cons_succ]
  refine wpAnyG_pure (i := 21) (v := .pointer (some ⟨b, 0, none⟩)) rfl rfl (by kernel_rfl) (by kernel_rfl) (by kernel_rfl) (fun _ _ _ h => h) (by decide) ⟨by rfl, fun w _ => (by go_simp; try (first | (simp only [IntKind.wrap_u32]; done) | rfl)), fun _ => rfl⟩ (.inr hS) ?_
  have hc1 := hcl.step (i := 21) (by kernel_rfl)
  clear hcl; have hcl := hc1; clear hc1; simp only [List.getElem_toArray, List.getElem_cons_zero, List.getElem_cons_succ, Act.put, List.setIfInBounds_toArray, List.set_cons_zero, List.set_cons_succ]
  refine wpAnyG_pure (i := 22) (v := .pointer (some ⟨b, 5, none⟩)) rfl rfl (by kernel_rfl) (by kernel_rfl) (by kernel_rfl) (fun _ _ _ h => h) (by decide) ⟨by rfl, fun w _ => (by go_simp; try (first | (simp only [IntKind.wrap_u32]; done) | rfl)), fun _ => rfl⟩ (.inr hS) ?_
  have hc1 := hcl.step (i := 22) (by kernel_rfl)
  clear hcl; have hcl := hc1; clear hc1; simp only [List.getElem_toArray, List.getElem_cons_zero, List.getElem_cons_succ, Act.put, List.setIfInBounds_toArray, List.set_cons_zero, List.set_cons_succ]
  refine wpAnyG_take (i := 23) 1 (v := .int .u64 c.c5) rfl rfl (by kernel_rfl) (by kernel_rfl) (by kernel_rfl) (fun _ _ _ h => h) (by kernel_rfl) (by decide) hcl (yields_old c5 hb (by exact rfl) (by exact rfl) (by exact rfl) Try.underlying40 rfl) hS (fun hc1 => ?_)
  clear hcl; have hcl := hc1; clear hc1; simp only [List.getElem_toArray, List.getElem_cons_zero, List.getElem_cons_succ, Act.put, List.setIfInBounds_toArray, List.set_cons_zero, List.set_cons_succ]
  refine wpAnyG_pure (i := 24) (v := cv c) rfl rfl (by kernel_rfl) (by kernel_rfl) (by kernel_rfl) (fun _ _ _ h => h) (by decide) ⟨by rfl, fun w _ => (by go_simp; try (first | (simp only [IntKind.wrap_u32]; done) | rfl)), fun _ => rfl⟩ (.inr hS) ?_
  have hc1 := hcl.step (i := 24) (by kernel_rfl)
  clear hcl; have hcl := hc1; clear hc1; simp only [List.getElem_toArray, List.getElem_cons_zero, List.getElem_cons_succ, Act.put, List.setIfInBounds_toArray, List.set_cons_zero, List.set_cons_succ]
  refine wpAnyG_one (i := 25) (by kernel_rfl) rfl (fun K hK => ?_)
  rw [if_pos (by exact rfl)]
  refine wpIn_store_mem (i := 0) hS (by exact rfl) (by exact rfl) (by exact rfl) (by exact rfl) (by exact cInfo) (by exact rfl) (by exact rfl) ?_
  intro w7 H
  simp only [List.cons_append, List.nil_append, List.set_cons_zero, List.set_cons_succ, List.setIfInBounds_toArray] at H
  refine hK _ _ (.inl (by kernel_rfl)) ?_
  clear hK K hS hcl
  simp only [List.getElem_toArray, List.getElem_cons_zero, List.getElem_cons_succ, Act.put, List.setIfInBounds_toArray, List.set_cons_zero, List.set_cons_succ]
  refine wpAnyG_done (by kernel_rfl) ?_ _
  go_wp2
  exact ret_held (H.at 0 rfl) rfl rfl Try.underlying42 rfl cInfo ⟨rfl, H.below⟩
theorem counts4_p (b : Nat) (c : C6) (W : World) (hb : b < W.heap.size) (h : ∀ j, j < 6 → W.cell? ⟨b, 4 + j, none⟩ = some (.int .u64 (c.get j))) : Calls Try.prog 31 #[.pointer (some ⟨b, 4, none⟩)] W fun e w' => e = .returned (cv c) ∧ Below W.heap.size W w' := by
  have H := Mem.start W
  have c0 : W.cell? ⟨b, 4, none⟩ = some (.int .u64 c.c0) := h 0 (by omega)
  have c1 : W.cell? ⟨b, 5, none⟩ = some (.int .u64 c.c1) := h 1 (by omega)
  have c2 : W.cell? ⟨b, 6, none⟩ = some (.int .u64 c.c2) := h 2 (by omega)
  have c3 : W.cell? ⟨b, 7, none⟩ = some (.int .u64 c.c3) := h 3 (by omega)
  have c4 : W.cell? ⟨b, 8, none⟩ = some (.int .u64 c.c4) := h 4 (by omega)
  have c5 : W.cell? ⟨b, 9, none⟩ = some (.int .u64 c.c5) := h 5 (by omega)
  clear h
  go_enter Try.func31, Try.ntmps31
  go_upto_region 1 with (first
    | ((with_reducible show wpList _ _ _ _ _ (World.alloc _ (.cells _ _))); refine mem_newb (l := []) H ?_; intro br w3 hbk H2; try rw [← hbk]; clear hbk H; have H := H2; clear H2; simp only [List.cons_append, List.nil_append, List.set_cons_zero, List.set_cons_succ, List.setIfInBounds_toArray] at H))
  refine region_memk H 25 26 rfl (by kernel_rfl) (fun wr0 hcl hS => ?_)
  clear H
  refine wpAnyG_pure (i := 0) (v := .pointer (some ⟨b, 4, none⟩)) rfl rfl (by kernel_rfl) (by kernel_rfl) (by kernel_rfl) (fun _ _ _ h => h) (by decide) ⟨by rfl, fun w _ => (by go_simp; try (first | (simp only [IntKind.wrap_u32]; done) | rfl)), fun _ => rfl⟩ (.inr hS) ?_
  have hc1 := hcl.step (i := 0) (by kernel_rfl)
  clear hcl; have hcl := hc1; clear hc1; simp only [List.getElem_toArray, List.getElem_cons_zero, List.getElem_cons_succ, Act.put, List.setIfInBounds_toArray, List.set_cons_zero, List.set_cons_succ]
  refine wpAnyG_pure (i := 1) (v := .pointer (some ⟨b, 4, none⟩)) rfl rfl (by kernel_rfl) (by kernel_rfl) (by kernel_rfl) (fun _ _ _ h => h) (by decide) ⟨by rfl, fun w _ => (by go_simp; try (first | (simp only [IntKind.wrap_u32]; done) | rfl)), fun _ => rfl⟩ (.inr hS) ?_
  have hc1 := hcl.step (i := 1) (by kernel_rfl)
  clear hcl; have hcl := hc1; clear hc1; simp only [List.getElem_toArray, List.getElem_cons_zero, List.getElem_cons_succ, Act.put, List.setIfInBounds_toArray, List.set_cons_zero, List.set_cons_succ]
  refine wpAnyG_pure (i := 2) (v := .pointer (some ⟨b, 4, none⟩)) rfl rfl (by kernel_rfl) (by kernel_rfl) (by kernel_rfl) (fun _ _ _ h => h) (by decide) ⟨by rfl, fun w _ => (by go_simp; try (first | (simp only [IntKind.wrap_u32]; done) | rfl)), fun _ => rfl⟩ (.inr hS) ?_
  have hc1 := hcl.step (i := 2) (by kernel_rfl)
  clear hcl; have hcl := hc1; clear hc1; simp only [List.getElem_toArray, List.getElem_cons_zero, List.getElem_cons_succ, Act.put, List.setIfInBounds_toArray, List.set_cons_zero, List.set_cons_succ]
  refine wpAnyG_take (i := 3) 1 (v := .int .u64 c.c0) rfl rfl (by kernel_rfl) (by kernel_rfl) (by kernel_rfl) (fun _ _ _ h => h) (by kernel_rfl) (by decide) hcl (yields_old c0 hb (by exact rfl) (by exact rfl) (by exact rfl) Try.underlying40 rfl) hS (fun hc1 => ?_)
  clear hcl; have hcl := hc1; clear hc1; simp only [List.getElem_toArray, List.getElem_cons_zero, List.getElem_cons_succ, Act.put, List.setIfInBounds_toArray, List.set_cons_zero, List.set_cons_succ]
  refine wpAnyG_pure (i := 4) (v := .pointer (some ⟨b, 4, none⟩)) rfl rfl (by kernel_rfl) (by kernel_rfl) (by kernel_rfl) (fun _ _ _ h => h) (by decide) ⟨by rfl, fun w _ => (by go_simp; try (first | (simp only [IntKind.wrap_u32]; done) | rfl)), fun _ => rfl⟩ (.inr hS) ?_
  have hc1 := hcl.step (i := 4) (by kernel_rfl)
  clear hcl; have hcl := hc1; clear hc1; simp only [List.getElem_toArray, List.getElem_cons_zero, List.getElem_cons_succ, Act.put, List.setIfInBounds_toArray, List.set_cons_zero, List.set_cons_succ]
  refine wpAnyG_pure (i := 5) (v := .pointer (some ⟨b, 4, none⟩)) rfl rfl (by kernel_rfl) (by kernel_rfl) (by kernel_rfl) (fun _ _ _ h => h) (by decide) ⟨by rfl, fun w _ => (by go_simp; try (first | (simp only [IntKind.wrap_u32]; done) | rfl)), fun _ => rfl⟩ (.inr hS) ?_
  have hc1 := hcl.step (i := 5) (by kernel_rfl)
  clear hcl; have hcl := hc1; clear hc1; simp only [List.getElem_toArray, List.getElem_cons_zero, List.getElem_cons_succ, Act.put, List.setIfInBounds_toArray, List.set_cons_zero, List.set_cons_succ]
  refine wpAnyG_pure (i := 6) (v := .pointer (some ⟨b, 5, none⟩)) rfl rfl (by kernel_rfl) (by kernel_rfl) (by kernel_rfl) (fun _ _ _ h => h) (by decide) ⟨by rfl, fun w _ => (by go_simp; try (first | (simp only [IntKind.wrap_u32]; done) | rfl)), fun _ => rfl⟩ (.inr hS) ?_
  have hc1 := hcl.step (i := 6) (by kernel_rfl)
  clear hcl; have hcl := hc1; clear hc1; simp only [List.getElem_toArray, List.getElem_cons_zero, List.getElem_cons_succ, Act.put, List.setIfInBounds_toArray, List.set_cons_zero, List.set_cons_succ]
  refine wpAnyG_take (i := 7) 1 (v := .int .u64 c.c1) rfl rfl (by kernel_rfl) (by kernel_rfl) (by kernel_rfl) (fun _ _ _ h => h) (by kernel_rfl) (by decide) hcl (yields_old c1 hb (by exact rfl) (by exact rfl) (by exact rfl) Try.underlying40 rfl) hS (fun hc1 => ?_)
  clear hcl; have hcl := hc1; clear hc1; simp only [List.getElem_toArray, List.getElem_cons_zero, List.getElem_cons_succ, Act.put, List.setIfInBounds_toArray, List.set_cons_zero, List.set_cons_succ]
  refine wpAnyG_pure (i := 8) (v := .pointer (some ⟨b, 4, none⟩)) rfl rfl (by kernel_rfl) (by kernel_rfl) (by kernel_rfl) (fun _ _ _ h => h) (by decide) ⟨by rfl, fun w _ => (by go_simp; try (first | (simp only [IntKind.wrap_u32]; done) | rfl)), fun _ => rfl⟩ (.inr hS) ?_
  have hc1 := hcl.step (i := 8) (by kernel_rfl)
  clear hcl; have hcl := hc1; clear hc1; simp only [List.getElem_toArray, List.getElem_cons_zero, List.getElem_cons_succ, Act.put, List.setIfInBounds_toArray, List.set_cons_zero, List.set_cons_succ]
  refine wpAnyG_pure (i := 9) (v := .pointer (some ⟨b, 4, none⟩)) rfl rfl (by kernel_rfl) (by kernel_rfl) (by kernel_rfl) (fun _ _ _ h => h) (by decide) ⟨by rfl, fun w _ => (by go_simp; try (first | (simp only [IntKind.wrap_u32]; done) | rfl)), fun _ => rfl⟩ (.inr hS) ?_
  have hc1 := hcl.step (i := 9) (by kernel_rfl)
  clear hcl; have hcl := hc1; clear hc1; simp only [List.getElem_toArray, List.getElem_cons_zero, List.getElem_cons_succ, Act.put, List.setIfInBounds_toArray, List.set_cons_zero, List.set_cons_succ]
  refine wpAnyG_pure (i := 10) (v := .pointer (some ⟨b, 6, none⟩)) rfl rfl (by kernel_rfl) (by kernel_rfl) (by kernel_rfl) (fun _ _ _ h => h) (by decide) ⟨by rfl, fun w _ => (by go_simp; try (first | (simp only [IntKind.wrap_u32]; done) | rfl)), fun _ => rfl⟩ (.inr hS) ?_
  have hc1 := hcl.step (i := 10) (by kernel_rfl)
  clear hcl; have hcl := hc1; clear hc1; simp only [List.getElem_toArray, List.getElem_cons_zero, List.getElem_cons_succ, Act.put, List.setIfInBounds_toArray, List.set_cons_zero, List.set_cons_succ]
  refine wpAnyG_take (i := 11) 1 (v := .int .u64 c.c2) rfl rfl (by kernel_rfl) (by kernel_rfl) (by kernel_rfl) (fun _ _ _ h => h) (by kernel_rfl) (by decide) hcl (yields_old c2 hb (by exact rfl) (by exact rfl) (by exact rfl) Try.underlying40 rfl) hS (fun hc1 => ?_)
  clear hcl; have hcl := hc1; clear hc1; simp only [List.getElem_toArray, List.getElem_cons_zero, List.getElem_cons_succ, Act.put, List.setIfInBounds_toArray, List.set_cons_zero, List.set_cons_succ]
  refine wpAnyG_pure (i := 12) (v := .pointer (some ⟨b, 4, none⟩)) rfl rfl (by kernel_rfl) (by kernel_rfl) (by kernel_rfl) (fun _ _ _ h => h) (by decide) ⟨by rfl, fun w _ => (by go_simp; try (first | (simp only [IntKind.wrap_u32]; done) | rfl)), fun _ => rfl⟩ (.inr hS) ?_
  have hc1 := hcl.step (i := 12) (by kernel_rfl)
  clear hcl; have hcl := hc1; clear hc1; simp only [List.getElem_toArray, List.getElem_cons_zero, List.getElem_cons_succ, Act.put, List.setIfInBounds_toArray, List.set_cons_zero, List.set_cons_succ]
  refine wpAnyG_pure (i := 13) (v := .pointer (some ⟨b, 4, none⟩)) rfl rfl (by kernel_rfl) (by kernel_rfl) (by kernel_rfl) (fun _ _ _ h => h) (by decide) ⟨by rfl, fun w _ => (by go_simp; try (first | (simp only [IntKind.wrap_u32]; done) | rfl)), fun _ => rfl⟩ (.inr hS) ?_
  have hc1 := hcl.step (i := 13) (by kernel_rfl)
  clear hcl; have hcl := hc1; clear hc1; simp only [List.getElem_toArray, List.getElem_cons_zero, List.getElem_cons_succ, Act.put, List.setIfInBounds_toArray, List.set_cons_zero, List.set_cons_succ]
  refine wpAnyG_pure (i := 14) (v := .pointer (some ⟨b, 7, none⟩)) rfl rfl (by kernel_rfl) (by kernel_rfl) (by kernel_rfl) (fun _ _ _ h => h) (by decide) ⟨by rfl, fun w _ => (by go_simp; try (first | (simp only [IntKind.wrap_u32]; done) | rfl)), fun _ => rfl⟩ (.inr hS) ?_
  have hc1 := hcl.step (i := 14) (by kernel_rfl)
  clear hcl; have hcl := hc1; clear hc1; simp only [List.getElem_toArray, List.getElem_cons_zero, List.getElem_cons_succ, Act.put, List.setIfInBounds_toArray, List.set_cons_zero, List.set_cons_succ]
  refine wpAnyG_take (i := 15) 1 (v := .int .u64 c.c3) rfl rfl (by kernel_rfl) (by kernel_rfl) (by kernel_rfl) (fun _ _ _ h => h) (by kernel_rfl) (by decide) hcl (yields_old c3 hb (by exact rfl) (by exact rfl) (by exact rfl) Try.underlying40 rfl) hS (fun hc1 => ?_)
  clear hcl; have hcl := hc1; clear hc1; simp only [List.getElem_toArray, List.getElem_cons_zero, List.getElem_cons_succ, Act.put, List.setIfInBounds_toArray, List.set_cons_zero, List.set_cons_succ]
  refine wpAnyG_pure (i := 16) (v := .pointer (some ⟨b, 4, none⟩)) rfl rfl (by kernel_rfl) (by kernel_rfl) (by kernel_rfl) (fun _ _ _ h => h) (by decide) ⟨by rfl, fun w _ => (by go_simp; try (first | (simp only [IntKind.wrap_u32]; done) | rfl)), fun _ => rfl⟩ (.inr hS) ?_
  have hc1 := hcl.step (i := 16) (by kernel_rfl)
  clear hcl; have hcl := hc1; clear hc1; simp only [List.getElem_toArray, List.getElem_cons_zero, List.getElem_cons_succ, Act.put, List.setIfInBounds_toArray, List.set_cons_zero, List.set_cons_succ]
  refine wpAnyG_pure (i := 17) (v := .pointer (some ⟨b, 4, none⟩)) rfl rfl (by kernel_rfl) (by kernel_rfl) (by kernel_rfl) (fun _ _ _ h => h) (by decide) ⟨by rfl, fun w _ => (by go_simp; try (first | (simp only [IntKind.wrap_u32]; done) | rfl)), fun _ => rfl⟩ (.inr hS) ?_
  have hc1 := hcl.step (i := 17) (by kernel_rfl)
  clear hcl; have hcl := hc1; clear hc1; simp only [List.getElem_toArray, List.getElem_cons_zero, List.getElem_cons_succ, Act.put, List.setIfInBounds_toArray, List.set_cons_zero, List.set_cons_succ]
  refine wpAnyG_pure (i := 18) (v := .pointer (some ⟨b, 8, none⟩)) rfl rfl (by kernel_rfl) (by kernel_rfl) (by kernel_rfl) (fun _ _ _ h => h) (by decide) ⟨by rfl, fun w _ => (by go_simp; try (first | (simp only [IntKind.wrap_u32]; done) | rfl)), fun _ => rfl⟩ (.inr hS) ?_
  have hc1 := hcl.step (i := 18) (by kernel_rfl)
  clear hcl; have hcl := hc1; clear hc1; simp only [List.getElem_toArray, List.getElem_cons_zero, List.getElem_cons_succ, Act.put, List.setIfInBounds_toArray, List.set_cons_zero, List.set_cons_succ]
  refine wpAnyG_take (i := 19) 1 (v := .int .u64 c.c4) rfl rfl (by kernel_rfl) (by kernel_rfl) (by kernel_rfl) (fun _ _ _ h => h) (by kernel_rfl) (by decide) hcl (yields_old c4 hb (by exact rfl) (by exact rfl) (by exact rfl) Try.underlying40 rfl) hS (fun hc1 => ?_)
  clear hcl; have hcl := hc1; clear hc1; simp only [List.getElem_toArray, List.getElem_cons_zero, List.getElem_cons_succ, Act.put, List.setIfInBounds_toArray, List.set_cons_zero, List.set_cons_succ]
  refine wpAnyG_pure (i := 20) (v := .pointer (some ⟨b, 4, none⟩)) rfl rfl (by kernel_rfl) (by kernel_rfl) (by kernel_rfl) (fun _ _ _ h => h) (by decide) ⟨by rfl, fun w _ => (by go_simp; try (first | (simp only [IntKind.wrap_u32]; done) | rfl)), fun _ => rfl⟩ (.inr hS) ?_
  have hc1 := hcl.step (i := 20) (by kernel_rfl)
  clear hcl; have hcl := hc1; clear hc1; simp only [List.getElem_toArray, List.getElem_cons_zero, List.getElem_cons_succ, Act.put, List.setIfInBounds_toArray, List.set_cons_zero, List.set_cons_succ]
  refine wpAnyG_pure (i := 21) (v := .pointer (some ⟨b, 4, none⟩)) rfl rfl (by kernel_rfl) (by kernel_rfl) (by kernel_rfl) (fun _ _ _ h => h) (by decide) ⟨by rfl, fun w _ => (by go_simp; try (first | (simp only [IntKind.wrap_u32]; done) | rfl)), fun _ => rfl⟩ (.inr hS) ?_
  have hc1 := hcl.step (i := 21) (by kernel_rfl)
  clear hcl; have hcl := hc1; clear hc1; simp only [List.getElem_toArray, List.getElem_cons_zero, List.getElem_cons_succ, Act.put, List.setIfInBounds_toArray, List.set_cons_zero, List.set_cons_succ]
  refine wpAnyG_pure (i := 22) (v := .pointer (some ⟨b, 9, none⟩)) rfl rfl (by kernel_rfl) (by kernel_rfl) (by kernel_rfl) (fun _ _ _ h => h) (by decide) ⟨by rfl, fun w _ => (by go_simp; try (first | (simp only [IntKind.wrap_u32]; done) | rfl)), fun _ => rfl⟩ (.inr hS) ?_
  have hc1 := hcl.step (i := 22) (by kernel_rfl)
  clear hcl; have hcl := hc1; clear hc1; simp only [List.getElem_toArray, List.getElem_cons_zero, List.getElem_cons_succ, Act.put, List.setIfInBounds_toArray, List.set_cons_zero, List.set_cons_succ]
  refine wpAnyG_take (i := 23) 1 (v := .int .u64 c.c5) rfl rfl (by kernel_rfl) (by kernel_rfl) (by kernel_rfl) (fun _ _ _ h => h) (by kernel_rfl) (by decide) hcl (yields_old c5 hb (by exact rfl) (by exact rfl) (by exact rfl) Try.underlying40 rfl) hS (fun hc1 => ?_)
  clear hcl; have hcl := hc1; clear hc1; simp only [List.getElem_toArray, List.getElem_cons_zero, List.getElem_cons_succ, Act.put, List.setIfInBounds_toArray, List.set_cons_zero, List.set_cons_succ]
  refine wpAnyG_pure (i := 24) (v := cv c) rfl rfl (by kernel_rfl) (by kernel_rfl) (by kernel_rfl) (fun _ _ _ h => h) (by decide) ⟨by rfl, fun w _ => (by go_simp; try (first | (simp only [IntKind.wrap_u32]; done) | rfl)), fun _ => rfl⟩ (.inr hS) ?_
  have hc1 := hcl.step (i := 24) (by kernel_rfl)
  clear hcl; have hcl := hc1; clear hc1; simp only [List.getElem_toArray, List.getElem_cons_zero, List.getElem_cons_succ, Act.put, List.setIfInBounds_toArray, List.set_cons_zero, List.set_cons_succ]
  refine wpAnyG_one (i := 25) (by kernel_rfl) rfl (fun K hK => ?_)
  rw [if_pos (by exact rfl)]
  refine wpIn_store_mem (i := 0) hS (by exact rfl) (by exact rfl) (by exact rfl) (by exact rfl) (by exact cInfo) (by exact rfl) (by exact rfl) ?_
  intro w7 H
  simp only [List.cons_append, List.nil_append, List.set_cons_zero, List.set_cons_succ, List.setIfInBounds_toArray] at H
  refine hK _ _ (.inl (by kernel_rfl)) ?_
  clear hK K hS hcl
  simp only [List.getElem_toArray, List.getElem_cons_zero, List.getElem_cons_succ, Act.put, List.setIfInBounds_toArray, List.set_cons_zero, List.set_cons_succ]
  refine wpAnyG_done (by kernel_rfl) ?_ _
  go_wp2
  exact ret_held (H.at 0 rfl) rfl rfl Try.underlying42 rfl cInfo ⟨rfl, H.below⟩
theorem TAt.addR {W w2 : World} {own oc : Nat → Prop} {p b N q : Nat} {X : TS} (h : TAt W own oc p b X N) (hX : X.rd = none) (hq : q < X.s.length) (hb : Below W.heap.size W w2) {e : Ending} (he : e = .returned (.tuple #[.pointer (some ⟨w2.heap.size, 0, none⟩), .int .i64 0])) :
    ReadF PAt12 W own p X N q e (w2.alloc (.cells (rcells p ⟨w2.heap.size, q, 0, 0, []⟩ zero6) 76)) := by
  have hz := hb.size
  have hb2 : Below W.heap.size W (w2.alloc (.cells (rcells p ⟨w2.heap.size, q, 0, 0, []⟩ zero6) 76)) := hb.alloc hz _
  have h2 := h.below hb2
  have lp := h.box.lt
  refine ⟨w2.heap.size, he, ⟨fun i => own i ∨ i = w2.heap.size, ⟨oc, b, ⟨h2.box, h2.cells, h2.fits.read (start_fits _ _ hq), h2.po, fun R hR => ?_, fun i => ?_⟩⟩, fun i hi => hi.imp id fun e => by omega⟩, Foot.of_below hb2⟩
  · obtain rfl : (⟨w2.heap.size, q, 0, 0, []⟩ : RD) = R := by simpa using hR
    exact ⟨⟨zero6, Held.new w2 _ _, zero6_fits, (fun i v e => by cases e)⟩, by show w2.heap.size ≠ p; omega, fun e => by have := Ce.PAt11.pt.lt h.cells _ e; have : w2.heap.size < W.heap.size := this; omega⟩
  · rw [h.own i]
    constructor
    · rintro ((e | e | ⟨R, e, _⟩) | e)
      · exact .inl e
      · exact .inr (.inl e)
      · rw [hX] at e
        cases e
      · exact .inr (.inr ⟨_, rfl, e⟩)
    · rintro (e | e | ⟨R, e, e2⟩)
      · exact .inl (.inl e)
      · exact .inl (.inr (.inl e))
      · obtain rfl : (⟨w2.heap.size, q, 0, 0, []⟩ : RD) = R := by simpa using e
        exact .inr e2
theorem reader_no (W : World) (own : Nat → Prop) (p : Nat) (X : TS) (N : Nat) (q : Int) (hh : hasQ X q = false) (h : PAt12 W own p X N) : Calls Try.prog 13 #[.pointer (some ⟨p, 0, none⟩), .int .i64 q] W (DidF PAt12 W own p X N (.tuple #[.pointer none, .int .i64 2])) := by
  obtain ⟨oc, b, h⟩ := h
  have HD := Lib.hid h
  have k1 := lacks_none W own oc p b X N q h (.slice none 0 0) hh
  clear h hh
  go_enter Try.func13, Try.ntmps13
  go_wp2_with (first
    | go_skip
    | (go_at_call 26; refine (k1).mono ?_; rintro e w2 ⟨rfl, hb⟩))
  refine bodyPost_ret (results_two rfl _ _ _) rfl ?_
  exact HD.out.same rfl hb
theorem reader_yes (W : World) (own : Nat → Prop) (p : Nat) (X : TS) (N k : Nat) (hk : k < X.s.length) (hX : X.rd = none) (h : PAt12 W own p X N) : Calls Try.prog 13 #[.pointer (some ⟨p, 0, none⟩), .int .i64 (k : Int)] W (ReadF PAt12 W own p X N k) := by
  obtain ⟨oc, b, h⟩ := h
  have HD := Lib.hid (And.intro h (And.intro hX hk))
  have k1 := lacks_one W own oc p b X N k h (has_of hk)
  clear h hX hk
  go_enter Try.func13, Try.ntmps13
  go_wp2_with (first
    | go_skip
    | (go_at_call 26; refine (k1).mono ?_; rintro e w2 ⟨rfl, hb⟩))
  refine bodyPost_ret (results_two rfl _ _ _) rfl ?_
  exact HD.out.1.addR HD.out.2.1 HD.out.2.2 hb rfl
theorem rmissing_nil (W : World) : Calls Try.prog 27 #[.pointer none] W fun e w' => e = .returned (.bool true) ∧ w' = W := by
  go_enter Try.func27, Try.ntmps27
  go_wp2
  go_ret
  exact ⟨rfl, rfl⟩
theorem rmissing_no (r p b : Nat) (W : World) (c0 : W.cell? ⟨r, 0, none⟩ = some (.pointer (some ⟨p, 0, none⟩))) (c1 : W.cell? ⟨p, 1, none⟩ = some (.pointer (some ⟨b, 0, none⟩))) : Calls Try.prog 27 #[.pointer (some ⟨r, 0, none⟩)] W fun e w' => e = .returned (.bool false) ∧ w' = W := by
  go_enter Try.func27, Try.ntmps27
  go_wp2_with (first
    | go_skip
    | (go_at_call 39; refine (missing_no p b _ c1).mono ?_; rintro e w2 ⟨rfl, hw⟩; rw [hw]; clear hw w2))
  go_ret
  exact ⟨rfl, rfl⟩
end Go.Proofs.Ytdhjdkhhhdcjdaa.Ta
end
/- The reader's steps. Conditions: the tally and its reader lie where their pointers say. -/
section
namespace Go.Proofs.Ytdhjdkhhhdcjdaa.Ta
set_option linter.unusedSimpArgs false
set_option linter.unusedVariables false
set_option maxRecDepth 100000
open Go.ChangeShapes Go.WideShapes Go.ChangeAt Go.RowKit

theorem rd_sameP {X : TS} {R : RD} (h : X.rd = some R) : ({ X with rd := some R } : TS) = X := by rw [← h]
/-- behind a call of the cells: the reader's block, and the tally -/
theorem D2.rd {W w1 w2 : World} {own oc : Nat → Prop} {p b N : Nat} {X : TS} {R : RD} {c : C6} (hb : Below W.heap.size W w1) (h : TAt W own oc p b X N) (hR : X.rd = some R) (hc : RPt W p R c) (hd : D2 w1 own oc p b X N w2) :
    Held w2 R.r 76 (rcells p R c) ∧ R.r < w2.heap.size := by
  obtain ⟨own', oc', h1, h2, h3⟩ := hd
  have e := (hc.box.below hb hc.box.lt).foot h3 (h.rd R hR).2.2
  exact ⟨e, e.lt⟩
theorem D2.fin {W w1 w2 w3 : World} {own oc : Nat → Prop} {p b N : Nat} {X : TS} {R R' : RD} {c' : C6} (hb : Below W.heap.size W w1) (h : TAt W own oc p b X N) (hR : X.rd = some R) (hd : D2 w1 own oc p b X N w2) (hr : R'.r = R.r) (hF : Foot (· = R.r) w2 w3) (hx : Held w3 R.r 76 (rcells p R' c')) (hc : c'.Fits)
    (hg : ∀ (i : Nat) (v : Int), R'.l[i]? = some v → c'.get i = v) (hf : FitsR X.s.length N R') {v : Value} {e : Ending} (he : e = .returned v) : DidF PAt12 W own p { X with rd := some R' } N v e w3 := by
  obtain ⟨own', oc', h1, h2, h3⟩ := hd
  exact ((h.below hb).rdid h1 h2 h3 hR hr hF hx hc hg hf he).from hb
theorem foot_one (w : World) (r j : Nat) (v : Value) : Foot (· = r) w (w.setCell ⟨r, j, none⟩ v) := Foot.cell w ⟨r, j, none⟩ v
theorem i64_q {q : Nat} (h : q ≤ 64) : I64 (q : Int) := ⟨by omega, by omega⟩
set_option maxHeartbeats 4000000 in
theorem begin_odd (W : World) (own oc : Nat → Prop) (p b : Nat) (X : TS) (N : Nat) (R : RD) (c : C6) (hR : X.rd = some R) (hN : N ≤ 2000000) (h : TAt W own oc p b X N) (hc : RPt W p R c) (h0 : R.at' = 0) (ho : sq X R.q % 2 = 1) : Calls Try.prog 28 #[.pointer (some ⟨R.r, 0, none⟩)] W (DidF PAt12 W own p X N (.tuple #[.bool false, .int .i64 111])) := by
  have hfr := h.fits.fr R hR
  have n64 := h.fits.n64
  have hq64 := hfr.q
  have hrd := h.rd R hR
  have r0 : W.cell? ⟨R.r, 0, none⟩ = some (.pointer (some ⟨p, 0, none⟩)) := hc.box.cell 0
  have r1 : W.cell? ⟨R.r, 1, none⟩ = some (.int .i64 (R.q : Int)) := hc.box.cell 1
  have r2 : W.cell? ⟨R.r, 2, none⟩ = some (.int .i64 (R.at' : Int)) := hc.box.cell 2
  have p1 : W.cell? ⟨p, 1, none⟩ = some (.pointer (some ⟨b, 0, none⟩)) := h.box.cell 1
  have lr := hc.box.lt
  have lp := h.box.lt
  have HD := Lib.hid h
  have HR := Lib.hid hrd
  have HC := Lib.hid hc
  have HFR := Lib.hid hfr
  have e1 : openE X R.q = 111 := by rw [openE, has_of hfr.q, if_neg (by simp), if_pos ho]
  have k1 := fun w (h : TAt w own oc p b X N) => bgn h (i64_q (by omega)) (q := (R.q : Int)) hN
  rw [e1] at k1
  generalize Ce.beginV (cc X []) R.q = z at *
  have H := Mem.start W
  clear h hc hrd hfr e1 ho
  go_enter Try.func28, Try.ntmps28
  go_wp2_with fail
  refine region_memk H 11 17 rfl (by kernel_rfl) (fun wr0 hcl hS => ?_)
  clear H
  refine wpAnyG_pure (i := 0) (v := .pointer (some ⟨R.r, 0, none⟩)) rfl rfl (by kernel_rfl) (by kernel_rfl) (by kernel_rfl) (fun _ _ _ h => h) (by decide) ⟨by rfl, fun w _ => (by go_simp; try (first | (simp only [IntKind.wrap_u32]; done) | rfl)), fun _ => rfl⟩ (.inr hS) ?_
  have hc1 := hcl.step (i := 0) (by kernel_rfl)
  clear hcl; have hcl := hc1; clear hc1; simp only [List.getElem_toArray, List.getElem_cons_zero, List.getElem_cons_succ, Act.put, List.setIfInBounds_toArray, List.set_cons_zero, List.set_cons_succ]
  refine wpAnyG_pure (i := 1) (v := .pointer (some ⟨R.r, 0, none⟩)) rfl rfl (by kernel_rfl) (by kernel_rfl) (by kernel_rfl) (fun _ _ _ h => h) (by decide) ⟨by rfl, fun w _ => (by go_simp; try (first | (simp only [IntKind.wrap_u32]; done) | rfl)), fun _ => rfl⟩ (.inr hS) ?_
  have hc1 := hcl.step (i := 1) (by kernel_rfl)
  clear hcl; have hcl := hc1; clear hc1; simp only [List.getElem_toArray, List.getElem_cons_zero, List.getElem_cons_succ, Act.put, List.setIfInBounds_toArray, List.set_cons_zero, List.set_cons_succ]
  refine wpAnyG_pure (i := 2) (v := .pointer (some ⟨R.r, 0, none⟩)) rfl rfl (by kernel_rfl) (by kernel_rfl) (by kernel_rfl) (fun _ _ _ h => h) (by decide) ⟨by rfl, fun w _ => (by go_simp; try (first | (simp only [IntKind.wrap_u32]; done) | rfl)), fun _ => rfl⟩ (.inr hS) ?_
  have hc1 := hcl.step (i := 2) (by kernel_rfl)
  clear hcl; have hcl := hc1; clear hc1; simp only [List.getElem_toArray, List.getElem_cons_zero, List.getElem_cons_succ, Act.put, List.setIfInBounds_toArray, List.set_cons_zero, List.set_cons_succ]
  refine wpAnyG_take (i := 3) 24 (v := .pointer (some ⟨p, 0, none⟩)) rfl rfl (by kernel_rfl) (by kernel_rfl) (by kernel_rfl) (fun _ _ _ h => h) (by kernel_rfl) (by decide) hcl (yields_old r0 lr (by exact rfl) (by exact rfl) (by exact rfl) (by first | exact Try.underlying63 | exact Try.underlying24 | exact Try.underlying3 | exact Try.underlying2 | exact Try.underlying40) rfl) hS (fun hc1 => ?_)
  clear hcl; have hcl := hc1; clear hc1; simp only [List.getElem_toArray, List.getElem_cons_zero, List.getElem_cons_succ, Act.put, List.setIfInBounds_toArray, List.set_cons_zero, List.set_cons_succ]
  refine wpAnyG_pure (i := 4) (v := .pointer (some ⟨p, 0, none⟩)) rfl rfl (by kernel_rfl) (by kernel_rfl) (by kernel_rfl) (fun _ _ _ h => h) (by decide) ⟨by rfl, fun w _ => (by go_simp; try (first | (simp only [IntKind.wrap_u32]; done) | rfl)), fun _ => rfl⟩ (.inr hS) ?_
  have hc1 := hcl.step (i := 4) (by kernel_rfl)
  clear hcl; have hcl := hc1; clear hc1; simp only [List.getElem_toArray, List.getElem_cons_zero, List.getElem_cons_succ, Act.put, List.setIfInBounds_toArray, List.set_cons_zero, List.set_cons_succ]
  refine wpAnyG_pure (i := 5) (v := .pointer (some ⟨p, 1, none⟩)) rfl rfl (by kernel_rfl) (by kernel_rfl) (by kernel_rfl) (fun _ _ _ h => h) (by decide) ⟨by rfl, fun w _ => (by go_simp; try (first | (simp only [IntKind.wrap_u32]; done) | rfl)), fun _ => rfl⟩ (.inr hS) ?_
  have hc1 := hcl.step (i := 5) (by kernel_rfl)
  clear hcl; have hcl := hc1; clear hc1; simp only [List.getElem_toArray, List.getElem_cons_zero, List.getElem_cons_succ, Act.put, List.setIfInBounds_toArray, List.set_cons_zero, List.set_cons_succ]
  refine wpAnyG_take (i := 6) 24 (v := .pointer (some ⟨b, 0, none⟩)) rfl rfl (by kernel_rfl) (by kernel_rfl) (by kernel_rfl) (fun _ _ _ h => h) (by kernel_rfl) (by decide) hcl (yields_old p1 lp (by exact rfl) (by exact rfl) (by exact rfl) (by first | exact Try.underlying63 | exact Try.underlying24 | exact Try.underlying3 | exact Try.underlying2 | exact Try.underlying40) rfl) hS (fun hc1 => ?_)
  clear hcl; have hcl := hc1; clear hc1; simp only [List.getElem_toArray, List.getElem_cons_zero, List.getElem_cons_succ, Act.put, List.setIfInBounds_toArray, List.set_cons_zero, List.set_cons_succ]
  refine wpAnyG_pure (i := 7) (v := .pointer (some ⟨R.r, 0, none⟩)) rfl rfl (by kernel_rfl) (by kernel_rfl) (by kernel_rfl) (fun _ _ _ h => h) (by decide) ⟨by rfl, fun w _ => (by go_simp; try (first | (simp only [IntKind.wrap_u32]; done) | rfl)), fun _ => rfl⟩ (.inr hS) ?_
  have hc1 := hcl.step (i := 7) (by kernel_rfl)
  clear hcl; have hcl := hc1; clear hc1; simp only [List.getElem_toArray, List.getElem_cons_zero, List.getElem_cons_succ, Act.put, List.setIfInBounds_toArray, List.set_cons_zero, List.set_cons_succ]
  refine wpAnyG_pure (i := 8) (v := .pointer (some ⟨R.r, 0, none⟩)) rfl rfl (by kernel_rfl) (by kernel_rfl) (by kernel_rfl) (fun _ _ _ h => h) (by decide) ⟨by rfl, fun w _ => (by go_simp; try (first | (simp only [IntKind.wrap_u32]; done) | rfl)), fun _ => rfl⟩ (.inr hS) ?_
  have hc1 := hcl.step (i := 8) (by kernel_rfl)
  clear hcl; have hcl := hc1; clear hc1; simp only [List.getElem_toArray, List.getElem_cons_zero, List.getElem_cons_succ, Act.put, List.setIfInBounds_toArray, List.set_cons_zero, List.set_cons_succ]
  refine wpAnyG_pure (i := 9) (v := .pointer (some ⟨R.r, 1, none⟩)) rfl rfl (by kernel_rfl) (by kernel_rfl) (by kernel_rfl) (fun _ _ _ h => h) (by decide) ⟨by rfl, fun w _ => (by go_simp; try (first | (simp only [IntKind.wrap_u32]; done) | rfl)), fun _ => rfl⟩ (.inr hS) ?_
  have hc1 := hcl.step (i := 9) (by kernel_rfl)
  clear hcl; have hcl := hc1; clear hc1; simp only [List.getElem_toArray, List.getElem_cons_zero, List.getElem_cons_succ, Act.put, List.setIfInBounds_toArray, List.set_cons_zero, List.set_cons_succ]
  refine wpAnyG_take (i := 10) 24 (v := .int .i64 (R.q : Int)) rfl rfl (by kernel_rfl) (by kernel_rfl) (by kernel_rfl) (fun _ _ _ h => h) (by kernel_rfl) (by decide) hcl (yields_old r1 lr (by exact rfl) (by exact rfl) (by exact rfl) (by first | exact Try.underlying63 | exact Try.underlying24 | exact Try.underlying3 | exact Try.underlying2 | exact Try.underlying40) rfl) hS (fun hc1 => ?_)
  clear hcl; have hcl := hc1; clear hc1; simp only [List.getElem_toArray, List.getElem_cons_zero, List.getElem_cons_succ, Act.put, List.setIfInBounds_toArray, List.set_cons_zero, List.set_cons_succ]
  refine wpAnyG_one (i := 11) (by kernel_rfl) rfl (fun K hK => ?_)
  go_simp
  refine ⟨trivial, (callsIn_wide.2 (k1 _ (HD.out.below hS.below))).mono ?_⟩
  rintro e w5 ⟨rfl, hd⟩
  have HB := Lib.hid hS.below
  have HE := Lib.hid hd
  clear hS hd
  refine hK _ _ (.inl (by kernel_rfl)) ?_
  clear hK K hcl
  try simp only [List.getElem_toArray, List.getElem_cons_zero, List.getElem_cons_succ, Act.put, List.setIfInBounds_toArray, List.set_cons_zero, List.set_cons_succ]
  refine wpAnyG_pure (i := 12) (v := .tuple #[.int .i64 z, .int .i64 111]) rfl rfl (by kernel_rfl) (by kernel_rfl) (by kernel_rfl) (fun _ _ _ h => h) (by decide) ⟨by rfl, fun w _ => (by go_simp; try (first | (simp only [IntKind.wrap_u32]; done) | rfl)), fun _ => rfl⟩ (.inl (by kernel_rfl)) ?_
  simp only [List.getElem_toArray, List.getElem_cons_zero, List.getElem_cons_succ, Act.put, List.setIfInBounds_toArray, List.set_cons_zero, List.set_cons_succ]
  refine wpAnyG_pure (i := 13) (v := .int .i64 z) rfl rfl (by kernel_rfl) (by kernel_rfl) (by kernel_rfl) (fun _ _ _ h => h) (by decide) ⟨by rfl, fun w _ => (by go_simp; try (first | (simp only [IntKind.wrap_u32]; done) | rfl)), fun _ => rfl⟩ (.inl (by kernel_rfl)) ?_
  simp only [List.getElem_toArray, List.getElem_cons_zero, List.getElem_cons_succ, Act.put, List.setIfInBounds_toArray, List.set_cons_zero, List.set_cons_succ]
  refine wpAnyG_pure (i := 14) (v := .int .i64 111) rfl rfl (by kernel_rfl) (by kernel_rfl) (by kernel_rfl) (fun _ _ _ h => h) (by decide) ⟨by rfl, fun w _ => (by go_simp; try (first | (simp only [IntKind.wrap_u32]; done) | rfl)), fun _ => rfl⟩ (.inl (by kernel_rfl)) ?_
  simp only [List.getElem_toArray, List.getElem_cons_zero, List.getElem_cons_succ, Act.put, List.setIfInBounds_toArray, List.set_cons_zero, List.set_cons_succ]
  refine wpAnyG_pure (i := 15) (v := .int .i64 z) rfl rfl (by kernel_rfl) (by kernel_rfl) (by kernel_rfl) (fun _ _ _ h => h) (by decide) ⟨by rfl, fun w _ => (by go_simp; try (first | (simp only [IntKind.wrap_u32]; done) | rfl)), fun _ => rfl⟩ (.inl (by kernel_rfl)) ?_
  simp only [List.getElem_toArray, List.getElem_cons_zero, List.getElem_cons_succ, Act.put, List.setIfInBounds_toArray, List.set_cons_zero, List.set_cons_succ]
  refine wpAnyG_pure (i := 16) (v := .int .i64 111) rfl rfl (by kernel_rfl) (by kernel_rfl) (by kernel_rfl) (fun _ _ _ h => h) (by decide) ⟨by rfl, fun w _ => (by go_simp; try (first | (simp only [IntKind.wrap_u32]; done) | rfl)), fun _ => rfl⟩ (.inl (by kernel_rfl)) ?_
  simp only [List.getElem_toArray, List.getElem_cons_zero, List.getElem_cons_succ, Act.put, List.setIfInBounds_toArray, List.set_cons_zero, List.set_cons_succ]
  refine wpAnyG_done (by kernel_rfl) ?_ _
  go_wp2
  refine bodyPost_ret (results_two rfl _ _ _) rfl ?_
  exact (HD.out.below HB.out).d2 HE.out rfl |>.from HB.out
set_option maxHeartbeats 4000000 in
theorem begin_even (W : World) (own oc : Nat → Prop) (p b : Nat) (X : TS) (N : Nat) (R : RD) (c : C6) (hR : X.rd = some R) (hN : N ≤ 2000000) (h : TAt W own oc p b X N) (hc : RPt W p R c) (h0 : R.at' = 0) (ho : ¬ sq X R.q % 2 = 1) : Calls Try.prog 28 #[.pointer (some ⟨R.r, 0, none⟩)] W (DidF PAt12 W own p { X with rd := some { R with at' := 1, s0 := sq X R.q, l := [] } } N (.tuple #[.bool false, .int .i64 0])) := by
  have hfr := h.fits.fr R hR
  have n64 := h.fits.n64
  have hq64 := hfr.q
  have hrd := h.rd R hR
  have r0 : W.cell? ⟨R.r, 0, none⟩ = some (.pointer (some ⟨p, 0, none⟩)) := hc.box.cell 0
  have r1 : W.cell? ⟨R.r, 1, none⟩ = some (.int .i64 (R.q : Int)) := hc.box.cell 1
  have r2 : W.cell? ⟨R.r, 2, none⟩ = some (.int .i64 (R.at' : Int)) := hc.box.cell 2
  have p1 : W.cell? ⟨p, 1, none⟩ = some (.pointer (some ⟨b, 0, none⟩)) := h.box.cell 1
  have lr := hc.box.lt
  have lp := h.box.lt
  have HD := Lib.hid h
  have HR := Lib.hid hrd
  have HC := Lib.hid hc
  have HFR := Lib.hid hfr
  have e1 : openE X R.q = 0 := by rw [openE, has_of hfr.q, if_neg (by simp), if_neg ho]
  have e2 : Ce.beginV (cc X []) R.q = sq X R.q := cc_beginV (has_of hfr.q) (by omega)
  have k1 := fun w (h : TAt w own oc p b X N) => bgn h (i64_q (by omega)) (q := (R.q : Int)) hN
  rw [e1, e2] at k1
  have hfit : FitsR X.s.length N { R with at' := 1, s0 := sq X R.q, l := [] } := by
    have := step_fits h.fits hfr
    rwa [stepR, if_pos h0, if_neg ho] at this
  have HFIT := Lib.hid hfit
  have HX := Lib.hid (And.intro hR h0)
  generalize sq X R.q = s at *
  rw [h0] at r2
  have H := Mem.start W
  clear h hc hrd hfr e1 e2 ho hfit hR h0
  go_enter Try.func28, Try.ntmps28
  go_wp2_with fail
  refine region_memk H 11 17 rfl (by kernel_rfl) (fun wr0 hcl hS => ?_)
  clear H
  refine wpAnyG_pure (i := 0) (v := .pointer (some ⟨R.r, 0, none⟩)) rfl rfl (by kernel_rfl) (by kernel_rfl) (by kernel_rfl) (fun _ _ _ h => h) (by decide) ⟨by rfl, fun w _ => (by go_simp; try (first | (simp only [IntKind.wrap_u32]; done) | rfl)), fun _ => rfl⟩ (.inr hS) ?_
  have hc1 := hcl.step (i := 0) (by kernel_rfl)
  clear hcl; have hcl := hc1; clear hc1; simp only [List.getElem_toArray, List.getElem_cons_zero, List.getElem_cons_succ, Act.put, List.setIfInBounds_toArray, List.set_cons_zero, List.set_cons_succ]
  refine wpAnyG_pure (i := 1) (v := .pointer (some ⟨R.r, 0, none⟩)) rfl rfl (by kernel_rfl) (by kernel_rfl) (by kernel_rfl) (fun _ _ _ h => h) (by decide) ⟨by rfl, fun w _ => (by go_simp; try (first | (simp only [IntKind.wrap_u32]; done) | rfl)), fun _ => rfl⟩ (.inr hS) ?_
  have hc1 := hcl.step (i := 1) (by kernel_rfl)
  clear hcl; have hcl := hc1; clear hc1; simp only [List.getElem_toArray, List.getElem_cons_zero, List.getElem_cons_succ, Act.put, List.setIfInBounds_toArray, List.set_cons_zero, List.set_cons_succ]
  refine wpAnyG_pure (i := 2) (v := .pointer (some ⟨R.r, 0, none⟩)) rfl rfl (by kernel_rfl) (by kernel_rfl) (by kernel_rfl) (fun _ _ _ h => h) (by decide) ⟨by rfl, fun w _ => (by go_simp; try (first | (simp only [IntKind.wrap_u32]; done) | rfl)), fun _ => rfl⟩ (.inr hS) ?_
  have hc1 := hcl.step (i := 2) (by kernel_rfl)
  clear hcl; have hcl := hc1; clear hc1; simp only [List.getElem_toArray, List.getElem_cons_zero, List.getElem_cons_succ, Act.put, List.setIfInBounds_toArray, List.set_cons_zero, List.set_cons_succ]
  refine wpAnyG_take (i := 3) 24 (v := .pointer (some ⟨p, 0, none⟩)) rfl rfl (by kernel_rfl) (by kernel_rfl) (by kernel_rfl) (fun _ _ _ h => h) (by kernel_rfl) (by decide) hcl (yields_old r0 lr (by exact rfl) (by exact rfl) (by exact rfl) (by first | exact Try.underlying63 | exact Try.underlying24 | exact Try.underlying3 | exact Try.underlying2 | exact Try.underlying40) rfl) hS (fun hc1 => ?_)
  clear hcl; have hcl := hc1; clear hc1; simp only [List.getElem_toArray, List.getElem_cons_zero, List.getElem_cons_succ, Act.put, List.setIfInBounds_toArray, List.set_cons_zero, List.set_cons_succ]
  refine wpAnyG_pure (i := 4) (v := .pointer (some ⟨p, 0, none⟩)) rfl rfl (by kernel_rfl) (by kernel_rfl) (by kernel_rfl) (fun _ _ _ h => h) (by decide) ⟨by rfl, fun w _ => (by go_simp; try (first | (simp only [IntKind.wrap_u32]; done) | rfl)), fun _ => rfl⟩ (.inr hS) ?_
  have hc1 := hcl.step (i := 4) (by kernel_rfl)
  clear hcl; have hcl := hc1; clear hc1; simp only [List.getElem_toArray, List.getElem_cons_zero, List.getElem_cons_succ, Act.put, List.setIfInBounds_toArray, List.set_cons_zero, List.set_cons_succ]
  refine wpAnyG_pure (i := 5) (v := .pointer (some ⟨p, 1, none⟩)) rfl rfl (by kernel_rfl) (by kernel_rfl) (by kernel_rfl) (fun _ _ _ h => h) (by decide) ⟨by rfl, fun w _ => (by go_simp; try (first | (simp only [IntKind.wrap_u32]; done) | rfl)), fun _ => rfl⟩ (.inr hS) ?_
  have hc1 := hcl.step (i := 5) (by kernel_rfl)
  clear hcl; have hcl := hc1; clear hc1; simp only [List.getElem_toArray, List.getElem_cons_zero, List.getElem_cons_succ, Act.put, List.setIfInBounds_toArray, List.set_cons_zero, List.set_cons_succ]
  refine wpAnyG_take (i := 6) 24 (v := .pointer (some ⟨b, 0, none⟩)) rfl rfl (by kernel_rfl) (by kernel_rfl) (by kernel_rfl) (fun _ _ _ h => h) (by kernel_rfl) (by decide) hcl (yields_old p1 lp (by exact rfl) (by exact rfl) (by exact rfl) (by first | exact Try.underlying63 | exact Try.underlying24 | exact Try.underlying3 | exact Try.underlying2 | exact Try.underlying40) rfl) hS (fun hc1 => ?_)
  clear hcl; have hcl := hc1; clear hc1; simp only [List.getElem_toArray, List.getElem_cons_zero, List.getElem_cons_succ, Act.put, List.setIfInBounds_toArray, List.set_cons_zero, List.set_cons_succ]
  refine wpAnyG_pure (i := 7) (v := .pointer (some ⟨R.r, 0, none⟩)) rfl rfl (by kernel_rfl) (by kernel_rfl) (by kernel_rfl) (fun _ _ _ h => h) (by decide) ⟨by rfl, fun w _ => (by go_simp; try (first | (simp only [IntKind.wrap_u32]; done) | rfl)), fun _ => rfl⟩ (.inr hS) ?_
  have hc1 := hcl.step (i := 7) (by kernel_rfl)
  clear hcl; have hcl := hc1; clear hc1; simp only [List.getElem_toArray, List.getElem_cons_zero, List.getElem_cons_succ, Act.put, List.setIfInBounds_toArray, List.set_cons_zero, List.set_cons_succ]
  refine wpAnyG_pure (i := 8) (v := .pointer (some ⟨R.r, 0, none⟩)) rfl rfl (by kernel_rfl) (by kernel_rfl) (by kernel_rfl) (fun _ _ _ h => h) (by decide) ⟨by rfl, fun w _ => (by go_simp; try (first | (simp only [IntKind.wrap_u32]; done) | rfl)), fun _ => rfl⟩ (.inr hS) ?_
  have hc1 := hcl.step (i := 8) (by kernel_rfl)
  clear hcl; have hcl := hc1; clear hc1; simp only [List.getElem_toArray, List.getElem_cons_zero, List.getElem_cons_succ, Act.put, List.setIfInBounds_toArray, List.set_cons_zero, List.set_cons_succ]
  refine wpAnyG_pure (i := 9) (v := .pointer (some ⟨R.r, 1, none⟩)) rfl rfl (by kernel_rfl) (by kernel_rfl) (by kernel_rfl) (fun _ _ _ h => h) (by decide) ⟨by rfl, fun w _ => (by go_simp; try (first | (simp only [IntKind.wrap_u32]; done) | rfl)), fun _ => rfl⟩ (.inr hS) ?_
  have hc1 := hcl.step (i := 9) (by kernel_rfl)
  clear hcl; have hcl := hc1; clear hc1; simp only [List.getElem_toArray, List.getElem_cons_zero, List.getElem_cons_succ, Act.put, List.setIfInBounds_toArray, List.set_cons_zero, List.set_cons_succ]
  refine wpAnyG_take (i := 10) 24 (v := .int .i64 (R.q : Int)) rfl rfl (by kernel_rfl) (by kernel_rfl) (by kernel_rfl) (fun _ _ _ h => h) (by kernel_rfl) (by decide) hcl (yields_old r1 lr (by exact rfl) (by exact rfl) (by exact rfl) (by first | exact Try.underlying63 | exact Try.underlying24 | exact Try.underlying3 | exact Try.underlying2 | exact Try.underlying40) rfl) hS (fun hc1 => ?_)
  clear hcl; have hcl := hc1; clear hc1; simp only [List.getElem_toArray, List.getElem_cons_zero, List.getElem_cons_succ, Act.put, List.setIfInBounds_toArray, List.set_cons_zero, List.set_cons_succ]
  refine wpAnyG_one (i := 11) (by kernel_rfl) rfl (fun K hK => ?_)
  go_simp
  refine ⟨trivial, (callsIn_wide.2 (k1 _ (HD.out.below hS.below))).mono ?_⟩
  rintro e w5 ⟨rfl, hd⟩
  have HB := Lib.hid hS.below
  have HE := Lib.hid hd
  clear hS hd
  refine hK _ _ (.inl (by kernel_rfl)) ?_
  clear hK K hcl
  try simp only [List.getElem_toArray, List.getElem_cons_zero, List.getElem_cons_succ, Act.put, List.setIfInBounds_toArray, List.set_cons_zero, List.set_cons_succ]
  refine wpAnyG_pure (i := 12) (v := .tuple #[.int .i64 s, .int .i64 0]) rfl rfl (by kernel_rfl) (by kernel_rfl) (by kernel_rfl) (fun _ _ _ h => h) (by decide) ⟨by rfl, fun w _ => (by go_simp; try (first | (simp only [IntKind.wrap_u32]; done) | rfl)), fun _ => rfl⟩ (.inl (by kernel_rfl)) ?_
  simp only [List.getElem_toArray, List.getElem_cons_zero, List.getElem_cons_succ, Act.put, List.setIfInBounds_toArray, List.set_cons_zero, List.set_cons_succ]
  refine wpAnyG_pure (i := 13) (v := .int .i64 s) rfl rfl (by kernel_rfl) (by kernel_rfl) (by kernel_rfl) (fun _ _ _ h => h) (by decide) ⟨by rfl, fun w _ => (by go_simp; try (first | (simp only [IntKind.wrap_u32]; done) | rfl)), fun _ => rfl⟩ (.inl (by kernel_rfl)) ?_
  simp only [List.getElem_toArray, List.getElem_cons_zero, List.getElem_cons_succ, Act.put, List.setIfInBounds_toArray, List.set_cons_zero, List.set_cons_succ]
  refine wpAnyG_pure (i := 14) (v := .int .i64 0) rfl rfl (by kernel_rfl) (by kernel_rfl) (by kernel_rfl) (fun _ _ _ h => h) (by decide) ⟨by rfl, fun w _ => (by go_simp; try (first | (simp only [IntKind.wrap_u32]; done) | rfl)), fun _ => rfl⟩ (.inl (by kernel_rfl)) ?_
  simp only [List.getElem_toArray, List.getElem_cons_zero, List.getElem_cons_succ, Act.put, List.setIfInBounds_toArray, List.set_cons_zero, List.set_cons_succ]
  refine wpAnyG_pure (i := 15) (v := .int .i64 s) rfl rfl (by kernel_rfl) (by kernel_rfl) (by kernel_rfl) (fun _ _ _ h => h) (by decide) ⟨by rfl, fun w _ => (by go_simp; try (first | (simp only [IntKind.wrap_u32]; done) | rfl)), fun _ => rfl⟩ (.inl (by kernel_rfl)) ?_
  simp only [List.getElem_toArray, List.getElem_cons_zero, List.getElem_cons_succ, Act.put, List.setIfInBounds_toArray, List.set_cons_zero, List.set_cons_succ]
  refine wpAnyG_pure (i := 16) (v := .int .i64 0) rfl rfl (by kernel_rfl) (by kernel_rfl) (by kernel_rfl) (fun _ _ _ h => h) (by decide) ⟨by rfl, fun w _ => (by go_simp; try (first | (simp only [IntKind.wrap_u32]; done) | rfl)), fun _ => rfl⟩ (.inl (by kernel_rfl)) ?_
  simp only [List.getElem_toArray, List.getElem_cons_zero, List.getElem_cons_succ, Act.put, List.setIfInBounds_toArray, List.set_cons_zero, List.set_cons_succ]
  refine wpAnyG_done (by kernel_rfl) ?_ _
  clear r0 r1 r2 p1
  have hx := D2.rd HB.out HD.out HX.out.1 HC.out HE.out
  obtain ⟨hx5, lx⟩ := hx
  have r2 : w5.cell? ⟨R.r, 2, none⟩ = some (.int .i64 0) := (hx5.cell 2).trans (by show some (Value.int .i64 (R.at' : Int)) = _; rw [HX.out.2]; rfl)
  have r3 : w5.cell? ⟨R.r, 3, none⟩ = some (.int .i64 R.s0) := hx5.cell 3
  have z2 : w5.frozen? ⟨R.r, 2, none⟩ = false := hx5.frozen 2
  have z3 : w5.frozen? ⟨R.r, 3, none⟩ = false := hx5.frozen 3
  have HV := Lib.hid hx5
  clear hx5
  go_wp2
  refine bodyPost_ret (results_two rfl _ _ _) rfl ?_
  exact D2.fin (R' := { R with at' := 1, s0 := s, l := [] }) HB.out HD.out HX.out.1 HE.out rfl ((foot_one w5 R.r 3 _).trans' (foot_one _ R.r 2 _)) ((HV.out.set 3 (.int .i64 s)).set 2 (.int .i64 1)) HC.out.fits (fun i v h => by cases h) HFIT.out rfl
theorem rcells_get {p : Nat} {R : RD} {c : C6} {m : Nat} (h : m < 6) : (rcells p R c)[4 + m]? = some (.int .u64 (c.get m)) := by
  match m, h with
  | 0, _ => rfl
  | 1, _ => rfl
  | 2, _ => rfl
  | 3, _ => rfl
  | 4, _ => rfl
  | 5, _ => rfl
theorem rcells_set {p : Nat} {R R' : RD} {c : C6} {m : Nat} {g : Int} (h : m < 6) (hq : R'.q = R.q) (hs : R'.s0 = R.s0) (ha : (R'.at' : Int) = (m : Int) + 2) : ((rcells p R c).setIfInBounds (4 + m) (.int .u64 g)).setIfInBounds 2 (.int .i64 ((m : Int) + 2)) = rcells p R' (c.put m g) := by
  simp only [rcells, hq, hs, ha]
  match m, h with
  | 0, _ => rfl
  | 1, _ => rfl
  | 2, _ => rfl
  | 3, _ => rfl
  | 4, _ => rfl
  | 5, _ => rfl
theorem load_end {W w1 w5 : World} {own oc : Nat → Prop} {p b N m : Nat} {X : TS} {R : RD} {c : C6} {g : Int} (hb : Below W.heap.size W w1) (h : TAt W own oc p b X N) (hR : X.rd = some R) (hd : D2 w1 own oc p b X N w5) (hc : RPt W p R c) (hx : Held w5 R.r 76 (rcells p R c)) (ha : R.at' = m + 1) (hl : R.l.length = m) (hm : m < 6) (hg : U64 g)
    (hf : FitsR X.s.length N { R with at' := R.at' + 1, l := R.l ++ [g] }) {v : Value} {e : Ending} (he : e = .returned v) : DidF PAt12 W own p { X with rd := some { R with at' := R.at' + 1, l := R.l ++ [g] } } N v e ((w5.setCell ⟨R.r, 4 + m, none⟩ (.int .u64 g)).setCell ⟨R.r, 2, none⟩ (.int .i64 ((m : Int) + 2))) := by
  refine D2.fin (R' := { R with at' := R.at' + 1, l := R.l ++ [g] }) (c' := c.put m g) hb h hR hd rfl ((foot_one w5 R.r (4 + m) _).trans' (foot_one _ R.r 2 _)) ?_ (hc.fits.put m hg) (fun i x hi => ?_) hf he
  · have e := (hx.set (4 + m) (.int .u64 g)).set 2 (.int .i64 ((m : Int) + 2))
    rwa [rcells_set (R := R) (R' := { R with at' := R.at' + 1, l := R.l ++ [g] }) hm rfl rfl (by show ((R.at' + 1 : Nat) : Int) = (m : Int) + 2; omega)] at e
  · have hi' : (R.l ++ [g])[i]? = some x := hi
    have h6 : i < 6 := by
      have := (List.getElem?_eq_some_iff.1 hi').1
      simp at this
      omega
    rw [get_put _ _ _ h6]
    by_cases e : i = m
    · subst e
      rw [if_pos rfl]
      rw [List.getElem?_append_right (by omega), hl, Nat.sub_self] at hi'
      simpa using hi'
    · rw [if_neg e]
      refine hc.got i x ?_
      have hlt : i < R.l.length := by
        have := (List.getElem?_eq_some_iff.1 hi').1
        simp at this
        omega
      rwa [List.getElem?_append_left hlt] at hi'
set_option maxHeartbeats 4000000 in
theorem load_p (W : World) (own oc : Nat → Prop) (p b : Nat) (X : TS) (N : Nat) (R : RD) (c : C6) (hR : X.rd = some R) (hN : N ≤ 2000000) (h : TAt W own oc p b X N) (hc : RPt W p R c) (h0 : R.at' ≠ 0) (h6 : R.at' ≤ 6) : Calls Try.prog 29 #[.pointer (some ⟨R.r, 0, none⟩)] W (DidF PAt12 W own p { X with rd := some { R with at' := R.at' + 1, l := R.l ++ [(kq X R.q).get (R.at' - 1)] } } N (.tuple #[.bool false, .int .i64 0])) := by
  have hfr := h.fits.fr R hR
  have n64 := h.fits.n64
  have hq64 := hfr.q
  have hrd := h.rd R hR
  have r0 : W.cell? ⟨R.r, 0, none⟩ = some (.pointer (some ⟨p, 0, none⟩)) := hc.box.cell 0
  have r1 : W.cell? ⟨R.r, 1, none⟩ = some (.int .i64 (R.q : Int)) := hc.box.cell 1
  have r2 : W.cell? ⟨R.r, 2, none⟩ = some (.int .i64 (R.at' : Int)) := hc.box.cell 2
  have p1 : W.cell? ⟨p, 1, none⟩ = some (.pointer (some ⟨b, 0, none⟩)) := h.box.cell 1
  have lr := hc.box.lt
  have lp := h.box.lt
  have HD := Lib.hid h
  have HR := Lib.hid hrd
  have HC := Lib.hid hc
  have HFR := Lib.hid hfr
  have hfit : FitsR X.s.length N { R with at' := R.at' + 1, l := R.l ++ [(kq X R.q).get (R.at' - 1)] } := by
    have := step_fits h.fits hfr
    rwa [stepR, if_neg h0, if_pos h6] at this
  have HFIT := Lib.hid hfit
  have hlen := hfr.len h0
  obtain ⟨m, hm⟩ : ∃ m, R.at' = m + 1 := ⟨R.at' - 1, by omega⟩
  have hml : R.l.length = m := by omega
  have hm6 : m < 6 := by omega
  have k1 := fun w (h : TAt w own oc p b X N) => lod h hfr.q hm6 hN
  have kc := fun w => cellOf_b R.q m (by omega) hm6 w
  have hgu := h.fits.kq hfr.q m hm6
  have em : R.at' - 1 = m := by omega
  rw [em] at HFIT ⊢
  generalize (kq X R.q).get m = g at *
  have wc : IntKind.u64.wrap (s64 g) = g := u_of_s hgu
  generalize s64 g = z at *
  have HX := Lib.hid (And.intro hR (And.intro hm (And.intro hml (And.intro hm6 hgu))))
  rw [hm] at r2
  have r2' : W.cell? ⟨R.r, 2, none⟩ = some (.int .i64 ((m : Int) + 1)) := r2
  have w1 : IntKind.i64.wrap ((m : Int) + 1 - 1) = (m : Int) := by rw [wrap_id (by omega) (by omega)]; omega
  have w2 : IntKind.i64.wrap ((m : Int) + 1 + 1) = (m : Int) + 2 := by rw [wrap_id (by omega) (by omega)]; omega
  have i0 : ¬ ((m : Int) < 0) := by omega
  have i6 : ¬ (6 ≤ m) := by omega
  have H := Mem.start W
  clear h hc hrd hfr hfit hR h0 h6 r2 hlen hm hml hgu em
  go_enter Try.func29, Try.ntmps29
  go_upto_region 2 with (first
    | fail)
  refine region_memk H 13 19 rfl (by kernel_rfl) (fun wr0 hcl hS => ?_)
  clear H
  refine wpAnyG_pure (i := 0) (v := .pointer (some ⟨R.r, 0, none⟩)) rfl rfl (by kernel_rfl) (by kernel_rfl) (by kernel_rfl) (fun _ _ _ h => h) (by decide) ⟨by rfl, fun w _ => (by go_simp; try (first | (simp only [IntKind.wrap_u32]; done) | rfl)), fun _ => rfl⟩ (.inr hS) ?_
  have hc1 := hcl.step (i := 0) (by kernel_rfl)
  clear hcl; have hcl := hc1; clear hc1; simp only [List.getElem_toArray, List.getElem_cons_zero, List.getElem_cons_succ, Act.put, List.setIfInBounds_toArray, List.set_cons_zero, List.set_cons_succ]
  refine wpAnyG_pure (i := 1) (v := .pointer (some ⟨R.r, 0, none⟩)) rfl rfl (by kernel_rfl) (by kernel_rfl) (by kernel_rfl) (fun _ _ _ h => h) (by decide) ⟨by rfl, fun w _ => (by go_simp; try (first | (simp only [IntKind.wrap_u32]; done) | rfl)), fun _ => rfl⟩ (.inr hS) ?_
  have hc1 := hcl.step (i := 1) (by kernel_rfl)
  clear hcl; have hcl := hc1; clear hc1; simp only [List.getElem_toArray, List.getElem_cons_zero, List.getElem_cons_succ, Act.put, List.setIfInBounds_toArray, List.set_cons_zero, List.set_cons_succ]
  refine wpAnyG_pure (i := 2) (v := .pointer (some ⟨R.r, 0, none⟩)) rfl rfl (by kernel_rfl) (by kernel_rfl) (by kernel_rfl) (fun _ _ _ h => h) (by decide) ⟨by rfl, fun w _ => (by go_simp; try (first | (simp only [IntKind.wrap_u32]; done) | rfl)), fun _ => rfl⟩ (.inr hS) ?_
  have hc1 := hcl.step (i := 2) (by kernel_rfl)
  clear hcl; have hcl := hc1; clear hc1; simp only [List.getElem_toArray, List.getElem_cons_zero, List.getElem_cons_succ, Act.put, List.setIfInBounds_toArray, List.set_cons_zero, List.set_cons_succ]
  refine wpAnyG_take (i := 3) 24 (v := .pointer (some ⟨p, 0, none⟩)) rfl rfl (by kernel_rfl) (by kernel_rfl) (by kernel_rfl) (fun _ _ _ h => h) (by kernel_rfl) (by decide) hcl (yields_old r0 lr (by exact rfl) (by exact rfl) (by exact rfl) (by first | exact Try.underlying63 | exact Try.underlying24 | exact Try.underlying3 | exact Try.underlying2 | exact Try.underlying40) rfl) hS (fun hc1 => ?_)
  clear hcl; have hcl := hc1; clear hc1; simp only [List.getElem_toArray, List.getElem_cons_zero, List.getElem_cons_succ, Act.put, List.setIfInBounds_toArray, List.set_cons_zero, List.set_cons_succ]
  refine wpAnyG_pure (i := 4) (v := .pointer (some ⟨p, 0, none⟩)) rfl rfl (by kernel_rfl) (by kernel_rfl) (by kernel_rfl) (fun _ _ _ h => h) (by decide) ⟨by rfl, fun w _ => (by go_simp; try (first | (simp only [IntKind.wrap_u32]; done) | rfl)), fun _ => rfl⟩ (.inr hS) ?_
  have hc1 := hcl.step (i := 4) (by kernel_rfl)
  clear hcl; have hcl := hc1; clear hc1; simp only [List.getElem_toArray, List.getElem_cons_zero, List.getElem_cons_succ, Act.put, List.setIfInBounds_toArray, List.set_cons_zero, List.set_cons_succ]
  refine wpAnyG_pure (i := 5) (v := .pointer (some ⟨p, 1, none⟩)) rfl rfl (by kernel_rfl) (by kernel_rfl) (by kernel_rfl) (fun _ _ _ h => h) (by decide) ⟨by rfl, fun w _ => (by go_simp; try (first | (simp only [IntKind.wrap_u32]; done) | rfl)), fun _ => rfl⟩ (.inr hS) ?_
  have hc1 := hcl.step (i := 5) (by kernel_rfl)
  clear hcl; have hcl := hc1; clear hc1; simp only [List.getElem_toArray, List.getElem_cons_zero, List.getElem_cons_succ, Act.put, List.setIfInBounds_toArray, List.set_cons_zero, List.set_cons_succ]
  refine wpAnyG_take (i := 6) 24 (v := .pointer (some ⟨b, 0, none⟩)) rfl rfl (by kernel_rfl) (by kernel_rfl) (by kernel_rfl) (fun _ _ _ h => h) (by kernel_rfl) (by decide) hcl (yields_old p1 lp (by exact rfl) (by exact rfl) (by exact rfl) (by first | exact Try.underlying63 | exact Try.underlying24 | exact Try.underlying3 | exact Try.underlying2 | exact Try.underlying40) rfl) hS (fun hc1 => ?_)
  clear hcl; have hcl := hc1; clear hc1; simp only [List.getElem_toArray, List.getElem_cons_zero, List.getElem_cons_succ, Act.put, List.setIfInBounds_toArray, List.set_cons_zero, List.set_cons_succ]
  refine wpAnyG_pure (i := 7) (v := .pointer (some ⟨R.r, 0, none⟩)) rfl rfl (by kernel_rfl) (by kernel_rfl) (by kernel_rfl) (fun _ _ _ h => h) (by decide) ⟨by rfl, fun w _ => (by go_simp; try (first | (simp only [IntKind.wrap_u32]; done) | rfl)), fun _ => rfl⟩ (.inr hS) ?_
  have hc1 := hcl.step (i := 7) (by kernel_rfl)
  clear hcl; have hcl := hc1; clear hc1; simp only [List.getElem_toArray, List.getElem_cons_zero, List.getElem_cons_succ, Act.put, List.setIfInBounds_toArray, List.set_cons_zero, List.set_cons_succ]
  refine wpAnyG_pure (i := 8) (v := .pointer (some ⟨R.r, 0, none⟩)) rfl rfl (by kernel_rfl) (by kernel_rfl) (by kernel_rfl) (fun _ _ _ h => h) (by decide) ⟨by rfl, fun w _ => (by go_simp; try (first | (simp only [IntKind.wrap_u32]; done) | rfl)), fun _ => rfl⟩ (.inr hS) ?_
  have hc1 := hcl.step (i := 8) (by kernel_rfl)
  clear hcl; have hcl := hc1; clear hc1; simp only [List.getElem_toArray, List.getElem_cons_zero, List.getElem_cons_succ, Act.put, List.setIfInBounds_toArray, List.set_cons_zero, List.set_cons_succ]
  refine wpAnyG_pure (i := 9) (v := .pointer (some ⟨R.r, 1, none⟩)) rfl rfl (by kernel_rfl) (by kernel_rfl) (by kernel_rfl) (fun _ _ _ h => h) (by decide) ⟨by rfl, fun w _ => (by go_simp; try (first | (simp only [IntKind.wrap_u32]; done) | rfl)), fun _ => rfl⟩ (.inr hS) ?_
  have hc1 := hcl.step (i := 9) (by kernel_rfl)
  clear hcl; have hcl := hc1; clear hc1; simp only [List.getElem_toArray, List.getElem_cons_zero, List.getElem_cons_succ, Act.put, List.setIfInBounds_toArray, List.set_cons_zero, List.set_cons_succ]
  refine wpAnyG_take (i := 10) 24 (v := .int .i64 (R.q : Int)) rfl rfl (by kernel_rfl) (by kernel_rfl) (by kernel_rfl) (fun _ _ _ h => h) (by kernel_rfl) (by decide) hcl (yields_old r1 lr (by exact rfl) (by exact rfl) (by exact rfl) (by first | exact Try.underlying63 | exact Try.underlying24 | exact Try.underlying3 | exact Try.underlying2 | exact Try.underlying40) rfl) hS (fun hc1 => ?_)
  clear hcl; have hcl := hc1; clear hc1; simp only [List.getElem_toArray, List.getElem_cons_zero, List.getElem_cons_succ, Act.put, List.setIfInBounds_toArray, List.set_cons_zero, List.set_cons_succ]
  refine wpAnyG_pure (i := 11) (v := .int .i64 (m : Int)) rfl rfl (by kernel_rfl) (by kernel_rfl) (by kernel_rfl) (fun _ _ _ h => h) (by decide) ⟨by rfl, fun w _ => (by go_simp; try (first | (simp only [IntKind.wrap_u32]; done) | rfl)), fun _ => rfl⟩ (.inr hS) ?_
  have hc1 := hcl.step (i := 11) (by kernel_rfl)
  clear hcl; have hcl := hc1; clear hc1; simp only [List.getElem_toArray, List.getElem_cons_zero, List.getElem_cons_succ, Act.put, List.setIfInBounds_toArray, List.set_cons_zero, List.set_cons_succ]
  refine wpAnyG_one (i := 12) (by kernel_rfl) rfl (fun K hK => ?_)
  go_simp
  refine ⟨trivial, (callsIn_wide.2 (kc _)).mono ?_⟩
  rintro e w5 ⟨rfl, hb⟩
  have hS5 := hS.call hb
  clear hb hS
  have hS := hS5
  clear hS5
  refine hK _ _ (.inr hS) ?_
  clear hK K
  have hc1 := hcl.step (i := 12) (by kernel_rfl)
  clear hcl; have hcl := hc1; clear hc1
  refine wpAnyG_one (i := 13) (by kernel_rfl) rfl (fun K hK => ?_)
  go_simp
  refine ⟨trivial, (callsIn_wide.2 (k1 _ (HD.out.below hS.below))).mono ?_⟩
  rintro e w5 ⟨rfl, hd⟩
  have HB := Lib.hid hS.below
  have HE := Lib.hid hd
  clear hS hd
  refine hK _ _ (.inl (by kernel_rfl)) ?_
  clear hK K hcl
  try simp only [List.getElem_toArray, List.getElem_cons_zero, List.getElem_cons_succ, Act.put, List.setIfInBounds_toArray, List.set_cons_zero, List.set_cons_succ]
  refine wpAnyG_pure (i := 14) (v := .tuple #[.int .i64 z, .int .i64 0]) rfl rfl (by kernel_rfl) (by kernel_rfl) (by kernel_rfl) (fun _ _ _ h => h) (by decide) ⟨by rfl, fun w _ => (by go_simp; try (first | (simp only [IntKind.wrap_u32]; done) | rfl)), fun _ => rfl⟩ (.inl (by kernel_rfl)) ?_
  simp only [List.getElem_toArray, List.getElem_cons_zero, List.getElem_cons_succ, Act.put, List.setIfInBounds_toArray, List.set_cons_zero, List.set_cons_succ]
  refine wpAnyG_pure (i := 15) (v := .int .i64 z) rfl rfl (by kernel_rfl) (by kernel_rfl) (by kernel_rfl) (fun _ _ _ h => h) (by decide) ⟨by rfl, fun w _ => (by go_simp; try (first | (simp only [IntKind.wrap_u32]; done) | rfl)), fun _ => rfl⟩ (.inl (by kernel_rfl)) ?_
  simp only [List.getElem_toArray, List.getElem_cons_zero, List.getElem_cons_succ, Act.put, List.setIfInBounds_toArray, List.set_cons_zero, List.set_cons_succ]
  refine wpAnyG_pure (i := 16) (v := .int .i64 0) rfl rfl (by kernel_rfl) (by kernel_rfl) (by kernel_rfl) (fun _ _ _ h => h) (by decide) ⟨by rfl, fun w _ => (by go_simp; try (first | (simp only [IntKind.wrap_u32]; done) | rfl)), fun _ => rfl⟩ (.inl (by kernel_rfl)) ?_
  simp only [List.getElem_toArray, List.getElem_cons_zero, List.getElem_cons_succ, Act.put, List.setIfInBounds_toArray, List.set_cons_zero, List.set_cons_succ]
  refine wpAnyG_pure (i := 17) (v := .int .i64 z) rfl rfl (by kernel_rfl) (by kernel_rfl) (by kernel_rfl) (fun _ _ _ h => h) (by decide) ⟨by rfl, fun w _ => (by go_simp; try (first | (simp only [IntKind.wrap_u32]; done) | rfl)), fun _ => rfl⟩ (.inl (by kernel_rfl)) ?_
  simp only [List.getElem_toArray, List.getElem_cons_zero, List.getElem_cons_succ, Act.put, List.setIfInBounds_toArray, List.set_cons_zero, List.set_cons_succ]
  refine wpAnyG_pure (i := 18) (v := .int .i64 0) rfl rfl (by kernel_rfl) (by kernel_rfl) (by kernel_rfl) (fun _ _ _ h => h) (by decide) ⟨by rfl, fun w _ => (by go_simp; try (first | (simp only [IntKind.wrap_u32]; done) | rfl)), fun _ => rfl⟩ (.inl (by kernel_rfl)) ?_
  simp only [List.getElem_toArray, List.getElem_cons_zero, List.getElem_cons_succ, Act.put, List.setIfInBounds_toArray, List.set_cons_zero, List.set_cons_succ]
  refine wpAnyG_done (by kernel_rfl) ?_ _
  have hx := D2.rd HB.out HD.out HX.out.1 HC.out HE.out
  obtain ⟨hx5, lx⟩ := hx
  have r2 : w5.cell? ⟨R.r, 2, none⟩ = some (.int .i64 ((m : Int) + 1)) := (hx5.cell 2).trans (by show some (Value.int .i64 (R.at' : Int)) = _; rw [HX.out.2.1]; rfl)
  have z2 : w5.frozen? ⟨R.r, 2, none⟩ = false := hx5.frozen 2
  have r4 : w5.cell? ⟨R.r, 4 + m, none⟩ = some (.int .u64 (c.get m)) := (hx5.cell (4 + m)).trans (rcells_get hm6)
  have z4 : w5.frozen? ⟨R.r, 4 + m, none⟩ = false := hx5.frozen (4 + m)
  have HV := Lib.hid hx5
  clear hx5 r0 r1 r2' p1 kc k1
  go_wp2
  refine bodyPost_ret (results_two rfl _ _ _) rfl ?_
  exact load_end HB.out HD.out HX.out.1 HE.out HC.out HV.out HX.out.2.1 HX.out.2.2.1 HX.out.2.2.2.1 HX.out.2.2.2.2 HFIT.out rfl
end Go.Proofs.Ytdhjdkhhhdcjdaa.Ta
end
/- The reader's last step. Conditions: the tally and its reader lie where their pointers say. -/
section
namespace Go.Proofs.Ytdhjdkhhhdcjdaa.Ta
set_option linter.unusedSimpArgs false
set_option linter.unusedVariables false
set_option maxRecDepth 100000
open Go.ChangeShapes Go.WideShapes Go.ChangeAt Go.RowKit

/-- what the last step leaves -/
def EndF (W : World) (own : Nat → Prop) (p b : Nat) (X : TS) (N : Nat) (R : RD) (c : C6) (w' : World) : Prop :=
  ∃ own' oc', TAt w' own' oc' p b { X with rd := some { R with at' := 0, l := [] } } N ∧ (∀ i, own' i → own i ∨ W.heap.size ≤ i) ∧ Foot own W w' ∧ Held w' R.r 76 (rcells p { R with at' := 0, l := [] } c)
theorem TAt.foot_oc {W w w' : World} {own oc : Nat → Prop} {p b N : Nat} {X : TS} (h : TAt W own oc p b X N) (hF : Foot oc w w') : Foot own w w' := hF.mono fun i _ hi => (h.own i).2 (.inr (.inl hi))
theorem EndF.did {W w' : World} {own : Nat → Prop} {p b N : Nat} {X : TS} {R : RD} {c : C6} (h : EndF W own p b X N R c w') {v : Value} {e : Ending} (he : e = .returned v) : DidF PAt12 W own p { X with rd := some { R with at' := 0, l := [] } } N v e w' := by
  obtain ⟨own', oc', h1, h2, h3, h4⟩ := h
  exact ⟨he, ⟨own', ⟨oc', b, h1⟩, h2⟩, h3⟩
theorem end_leaves {W W1 w1 w5 : World} {own oc : Nat → Prop} {p b N : Nat} {X : TS} {R : RD} {c : C6} (h : TAt W own oc p b X N) (hR : X.rd = some R) (hF1 : Foot (· = R.r) W W1) (h1 : TAt W1 own oc p b { X with rd := some { R with at' := 0, l := [] } } N) (hx : Held W1 R.r 76 (rcells p { R with at' := 0, l := [] } c)) (hb : Below W1.heap.size W1 w1) (hd : D2 w1 own oc p b { X with rd := some { R with at' := 0, l := [] } } N w5) : EndF W own p b X N R c w5 := by
  obtain ⟨own', oc', q1, q2, q3⟩ := hd
  have hz := hb.size
  have hz1 := hF1.size
  have hn := (h.rd R hR).2.2
  refine ⟨own', oc', q1, fun i hi => (q2 i hi).imp id fun h => by omega, ((hF1.mono fun i _ e => by rw [show i = R.r from e]; exact h.rd' hR).then_below hb).trans' (h.foot_oc q3), (hx.below hb hx.lt).foot q3 hn⟩
set_option maxHeartbeats 4000000 in
theorem end_p (W : World) (own oc : Nat → Prop) (p b : Nat) (X : TS) (N : Nat) (R : RD) (c : C6) (hR : X.rd = some R) (hN : N ≤ 2000000) (h : TAt W own oc p b X N) (hc : RPt W p R c) (h0 : R.at' ≠ 0) (same : Bool) (code : Int) (hs : (same = true ∧ code = 0 ∧ sq X R.q = R.s0) ∨ (same = false ∧ code = 111 ∧ ¬ sq X R.q = R.s0)) : Calls Try.prog 30 #[.pointer (some ⟨R.r, 0, none⟩)] W fun e w' => e = .returned (.tuple #[.bool same, .int .i64 code]) ∧ EndF W own p b X N R c w' := by
  have hfr := h.fits.fr R hR
  have n64 := h.fits.n64
  have hq64 := hfr.q
  have hrd := h.rd R hR
  have r0 : W.cell? ⟨R.r, 0, none⟩ = some (.pointer (some ⟨p, 0, none⟩)) := hc.box.cell 0
  have r1 : W.cell? ⟨R.r, 1, none⟩ = some (.int .i64 (R.q : Int)) := hc.box.cell 1
  have r2 : W.cell? ⟨R.r, 2, none⟩ = some (.int .i64 (R.at' : Int)) := hc.box.cell 2
  have p1 : W.cell? ⟨p, 1, none⟩ = some (.pointer (some ⟨b, 0, none⟩)) := h.box.cell 1
  have lr := hc.box.lt
  have lp := h.box.lt
  have HD := Lib.hid h
  have HR := Lib.hid hrd
  have HC := Lib.hid hc
  have HFR := Lib.hid hfr
  have r3 : W.cell? ⟨R.r, 3, none⟩ = some (.int .i64 R.s0) := hc.box.cell 3
  have z2 : W.frozen? ⟨R.r, 2, none⟩ = false := hc.box.frozen 2
  have hF1 := foot_one W R.r 2 (.int .i64 0)
  have hx1 : Held (W.setCell ⟨R.r, 2, none⟩ (.int .i64 0)) R.r 76 (rcells p { R with at' := 0, l := [] } c) := hc.box.set 2 (.int .i64 0)
  have hfit : FitsR X.s.length N { R with at' := 0, l := [] } := ⟨hfr.q, Nat.zero_le _, hfr.s0, (fun h => absurd rfl h), (fun v hv => by cases hv)⟩
  have h1 := h.rput (R' := { R with at' := 0, l := [] }) hR rfl hF1 hx1 hc.fits (fun i v e => by cases e) hfit
  have HX := Lib.hid (And.intro hR (And.intro hF1 (And.intro h1 hx1)))
  have k1 := fun w (h : TAt w own oc p b { X with rd := some { R with at' := 0, l := [] } } N) => fin h (show R.q < X.s.length from hfr.q) (a := R.s0) ⟨by have := hfr.s0.1; omega, by have := hfr.s0.2; omega⟩ hN
  simp only [show sq { X with rd := some { R with at' := 0, l := [] } } (R.q : Int) = sq X (R.q : Int) from rfl] at k1
  clear h hc hrd hfr hfit h1 hx1 hF1 hR h0
  rcases hs with ⟨rfl, rfl, hs⟩ | ⟨rfl, rfl, hs⟩
  · rw [decide_eq_true hs] at k1
    clear hs
    go_enter Try.func30, Try.ntmps30
    go_upto_region 2 with (first
    | fail)
    obtain ⟨W1, hW1⟩ : ∃ W1, W.setCell ⟨R.r, 2, none⟩ (.int .i64 0) = W1 := ⟨_, rfl⟩
    have HX1 := HX.out
    rw [hW1] at HX1 ⊢
    have HX2 := Lib.hid HX1
    clear HX1 HX r0 r1 r2 r3 z2 p1 hW1 lr lp
    have hx1 := HX2.out.2.2.2
    have h1 := HX2.out.2.2.1
    have r0 : W1.cell? ⟨R.r, 0, none⟩ = some (.pointer (some ⟨p, 0, none⟩)) := hx1.cell 0
    have r1 : W1.cell? ⟨R.r, 1, none⟩ = some (.int .i64 (R.q : Int)) := hx1.cell 1
    have r3 : W1.cell? ⟨R.r, 3, none⟩ = some (.int .i64 R.s0) := hx1.cell 3
    have p1 : W1.cell? ⟨p, 1, none⟩ = some (.pointer (some ⟨b, 0, none⟩)) := h1.box.cell 1
    have lr := hx1.lt
    have lp := h1.box.lt
    have H := Mem.start W1
    have HD1 := Lib.hid h1
    clear h1 hx1
    refine region_memk H 15 21 rfl (by kernel_rfl) (fun wr0 hcl hS => ?_)
    clear H
    refine wpAnyG_pure (i := 0) (v := .pointer (some ⟨R.r, 0, none⟩)) rfl rfl (by kernel_rfl) (by kernel_rfl) (by kernel_rfl) (fun _ _ _ h => h) (by decide) ⟨by rfl, fun w _ => (by go_simp; try (first | (simp only [IntKind.wrap_u32]; done) | rfl)), fun _ => rfl⟩ (.inr hS) ?_
    have hc1 := hcl.step (i := 0) (by kernel_rfl)
    clear hcl; have hcl := hc1; clear hc1; simp only [List.getElem_toArray, List.getElem_cons_zero, List.getElem_cons_succ, Act.put, List.setIfInBounds_toArray, List.set_cons_zero, List.set_cons_succ]
    refine wpAnyG_pure (i := 1) (v := .pointer (some ⟨R.r, 0, none⟩)) rfl rfl (by kernel_rfl) (by kernel_rfl) (by kernel_rfl) (fun _ _ _ h => h) (by decide) ⟨by rfl, fun w _ => (by go_simp; try (first | (simp only [IntKind.wrap_u32]; done) | rfl)), fun _ => rfl⟩ (.inr hS) ?_
    have hc1 := hcl.step (i := 1) (by kernel_rfl)
    clear hcl; have hcl := hc1; clear hc1; simp only [List.getElem_toArray, List.getElem_cons_zero, List.getElem_cons_succ, Act.put, List.setIfInBounds_toArray, List.set_cons_zero, List.set_cons_succ]
    refine wpAnyG_pure (i := 2) (v := .pointer (some ⟨R.r, 0, none⟩)) rfl rfl (by kernel_rfl) (by kernel_rfl) (by kernel_rfl) (fun _ _ _ h => h) (by decide) ⟨by rfl, fun w _ => (by go_simp; try (first | (simp only [IntKind.wrap_u32]; done) | rfl)), fun _ => rfl⟩ (.inr hS) ?_
    have hc1 := hcl.step (i := 2) (by kernel_rfl)
    clear hcl; have hcl := hc1; clear hc1; simp only [List.getElem_toArray, List.getElem_cons_zero, List.getElem_cons_succ, Act.put, List.setIfInBounds_toArray, List.set_cons_zero, List.set_cons_succ]
    refine wpAnyG_take (i := 3) 24 (v := .pointer (some ⟨p, 0, none⟩)) rfl rfl (by kernel_rfl) (by kernel_rfl) (by kernel_rfl) (fun _ _ _ h => h) (by kernel_rfl) (by decide) hcl (yields_old r0 lr (by exact rfl) (by exact rfl) (by exact rfl) (by first | exact Try.underlying63 | exact Try.underlying24 | exact Try.underlying3 | exact Try.underlying2 | exact Try.underlying40) rfl) hS (fun hc1 => ?_)
    clear hcl; have hcl := hc1; clear hc1; simp only [List.getElem_toArray, List.getElem_cons_zero, List.getElem_cons_succ, Act.put, List.setIfInBounds_toArray, List.set_cons_zero, List.set_cons_succ]
    refine wpAnyG_pure (i := 4) (v := .pointer (some ⟨p, 0, none⟩)) rfl rfl (by kernel_rfl) (by kernel_rfl) (by kernel_rfl) (fun _ _ _ h => h) (by decide) ⟨by rfl, fun w _ => (by go_simp; try (first | (simp only [IntKind.wrap_u32]; done) | rfl)), fun _ => rfl⟩ (.inr hS) ?_
    have hc1 := hcl.step (i := 4) (by kernel_rfl)
    clear hcl; have hcl := hc1; clear hc1; simp only [List.getElem_toArray, List.getElem_cons_zero, List.getElem_cons_succ, Act.put, List.setIfInBounds_toArray, List.set_cons_zero, List.set_cons_succ]
    refine wpAnyG_pure (i := 5) (v := .pointer (some ⟨p, 1, none⟩)) rfl rfl (by kernel_rfl) (by kernel_rfl) (by kernel_rfl) (fun _ _ _ h => h) (by decide) ⟨by rfl, fun w _ => (by go_simp; try (first | (simp only [IntKind.wrap_u32]; done) | rfl)), fun _ => rfl⟩ (.inr hS) ?_
    have hc1 := hcl.step (i := 5) (by kernel_rfl)
    clear hcl; have hcl := hc1; clear hc1; simp only [List.getElem_toArray, List.getElem_cons_zero, List.getElem_cons_succ, Act.put, List.setIfInBounds_toArray, List.set_cons_zero, List.set_cons_succ]
    refine wpAnyG_take (i := 6) 24 (v := .pointer (some ⟨b, 0, none⟩)) rfl rfl (by kernel_rfl) (by kernel_rfl) (by kernel_rfl) (fun _ _ _ h => h) (by kernel_rfl) (by decide) hcl (yields_old p1 lp (by exact rfl) (by exact rfl) (by exact rfl) (by first | exact Try.underlying63 | exact Try.underlying24 | exact Try.underlying3 | exact Try.underlying2 | exact Try.underlying40) rfl) hS (fun hc1 => ?_)
    clear hcl; have hcl := hc1; clear hc1; simp only [List.getElem_toArray, List.getElem_cons_zero, List.getElem_cons_succ, Act.put, List.setIfInBounds_toArray, List.set_cons_zero, List.set_cons_succ]
    refine wpAnyG_pure (i := 7) (v := .pointer (some ⟨R.r, 0, none⟩)) rfl rfl (by kernel_rfl) (by kernel_rfl) (by kernel_rfl) (fun _ _ _ h => h) (by decide) ⟨by rfl, fun w _ => (by go_simp; try (first | (simp only [IntKind.wrap_u32]; done) | rfl)), fun _ => rfl⟩ (.inr hS) ?_
    have hc1 := hcl.step (i := 7) (by kernel_rfl)
    clear hcl; have hcl := hc1; clear hc1; simp only [List.getElem_toArray, List.getElem_cons_zero, List.getElem_cons_succ, Act.put, List.setIfInBounds_toArray, List.set_cons_zero, List.set_cons_succ]
    refine wpAnyG_pure (i := 8) (v := .pointer (some ⟨R.r, 0, none⟩)) rfl rfl (by kernel_rfl) (by kernel_rfl) (by kernel_rfl) (fun _ _ _ h => h) (by decide) ⟨by rfl, fun w _ => (by go_simp; try (first | (simp only [IntKind.wrap_u32]; done) | rfl)), fun _ => rfl⟩ (.inr hS) ?_
    have hc1 := hcl.step (i := 8) (by kernel_rfl)
    clear hcl; have hcl := hc1; clear hc1; simp only [List.getElem_toArray, List.getElem_cons_zero, List.getElem_cons_succ, Act.put, List.setIfInBounds_toArray, List.set_cons_zero, List.set_cons_succ]
    refine wpAnyG_pure (i := 9) (v := .pointer (some ⟨R.r, 1, none⟩)) rfl rfl (by kernel_rfl) (by kernel_rfl) (by kernel_rfl) (fun _ _ _ h => h) (by decide) ⟨by rfl, fun w _ => (by go_simp; try (first | (simp only [IntKind.wrap_u32]; done) | rfl)), fun _ => rfl⟩ (.inr hS) ?_
    have hc1 := hcl.step (i := 9) (by kernel_rfl)
    clear hcl; have hcl := hc1; clear hc1; simp only [List.getElem_toArray, List.getElem_cons_zero, List.getElem_cons_succ, Act.put, List.setIfInBounds_toArray, List.set_cons_zero, List.set_cons_succ]
    refine wpAnyG_take (i := 10) 24 (v := .int .i64 (R.q : Int)) rfl rfl (by kernel_rfl) (by kernel_rfl) (by kernel_rfl) (fun _ _ _ h => h) (by kernel_rfl) (by decide) hcl (yields_old r1 lr (by exact rfl) (by exact rfl) (by exact rfl) (by first | exact Try.underlying63 | exact Try.underlying24 | exact Try.underlying3 | exact Try.underlying2 | exact Try.underlying40) rfl) hS (fun hc1 => ?_)
    clear hcl; have hcl := hc1; clear hc1; simp only [List.getElem_toArray, List.getElem_cons_zero, List.getElem_cons_succ, Act.put, List.setIfInBounds_toArray, List.set_cons_zero, List.set_cons_succ]
    refine wpAnyG_pure (i := 11) (v := .pointer (some ⟨R.r, 0, none⟩)) rfl rfl (by kernel_rfl) (by kernel_rfl) (by kernel_rfl) (fun _ _ _ h => h) (by decide) ⟨by rfl, fun w _ => (by go_simp; try (first | (simp only [IntKind.wrap_u32]; done) | rfl)), fun _ => rfl⟩ (.inr hS) ?_
    have hc1 := hcl.step (i := 11) (by kernel_rfl)
    clear hcl; have hcl := hc1; clear hc1; simp only [List.getElem_toArray, List.getElem_cons_zero, List.getElem_cons_succ, Act.put, List.setIfInBounds_toArray, List.set_cons_zero, List.set_cons_succ]
    refine wpAnyG_pure (i := 12) (v := .pointer (some ⟨R.r, 0, none⟩)) rfl rfl (by kernel_rfl) (by kernel_rfl) (by kernel_rfl) (fun _ _ _ h => h) (by decide) ⟨by rfl, fun w _ => (by go_simp; try (first | (simp only [IntKind.wrap_u32]; done) | rfl)), fun _ => rfl⟩ (.inr hS) ?_
    have hc1 := hcl.step (i := 12) (by kernel_rfl)
    clear hcl; have hcl := hc1; clear hc1; simp only [List.getElem_toArray, List.getElem_cons_zero, List.getElem_cons_succ, Act.put, List.setIfInBounds_toArray, List.set_cons_zero, List.set_cons_succ]
    refine wpAnyG_pure (i := 13) (v := .pointer (some ⟨R.r, 3, none⟩)) rfl rfl (by kernel_rfl) (by kernel_rfl) (by kernel_rfl) (fun _ _ _ h => h) (by decide) ⟨by rfl, fun w _ => (by go_simp; try (first | (simp only [IntKind.wrap_u32]; done) | rfl)), fun _ => rfl⟩ (.inr hS) ?_
    have hc1 := hcl.step (i := 13) (by kernel_rfl)
    clear hcl; have hcl := hc1; clear hc1; simp only [List.getElem_toArray, List.getElem_cons_zero, List.getElem_cons_succ, Act.put, List.setIfInBounds_toArray, List.set_cons_zero, List.set_cons_succ]
    refine wpAnyG_take (i := 14) 24 (v := .int .i64 R.s0) rfl rfl (by kernel_rfl) (by kernel_rfl) (by kernel_rfl) (fun _ _ _ h => h) (by kernel_rfl) (by decide) hcl (yields_old r3 lr (by exact rfl) (by exact rfl) (by exact rfl) (by first | exact Try.underlying63 | exact Try.underlying24 | exact Try.underlying3 | exact Try.underlying2 | exact Try.underlying40) rfl) hS (fun hc1 => ?_)
    clear hcl; have hcl := hc1; clear hc1; simp only [List.getElem_toArray, List.getElem_cons_zero, List.getElem_cons_succ, Act.put, List.setIfInBounds_toArray, List.set_cons_zero, List.set_cons_succ]
    refine wpAnyG_one (i := 15) (by kernel_rfl) rfl (fun K hK => ?_)
    go_simp
    refine ⟨trivial, (callsIn_wide.2 (k1 _ (HD1.out.below hS.below))).mono ?_⟩
    rintro e w5 ⟨rfl, hd⟩
    have HB := Lib.hid hS.below
    have HE := Lib.hid hd
    clear hS hd
    refine hK _ _ (.inl (by kernel_rfl)) ?_
    clear hK K hcl
    try simp only [List.getElem_toArray, List.getElem_cons_zero, List.getElem_cons_succ, Act.put, List.setIfInBounds_toArray, List.set_cons_zero, List.set_cons_succ]
    refine wpAnyG_pure (i := 16) (v := .tuple #[.bool true, .int .i64 0]) rfl rfl (by kernel_rfl) (by kernel_rfl) (by kernel_rfl) (fun _ _ _ h => h) (by decide) ⟨by rfl, fun w _ => (by go_simp; try (first | (simp only [IntKind.wrap_u32]; done) | rfl)), fun _ => rfl⟩ (.inl (by kernel_rfl)) ?_
    simp only [List.getElem_toArray, List.getElem_cons_zero, List.getElem_cons_succ, Act.put, List.setIfInBounds_toArray, List.set_cons_zero, List.set_cons_succ]
    refine wpAnyG_pure (i := 17) (v := .bool true) rfl rfl (by kernel_rfl) (by kernel_rfl) (by kernel_rfl) (fun _ _ _ h => h) (by decide) ⟨by rfl, fun w _ => (by go_simp; try (first | (simp only [IntKind.wrap_u32]; done) | rfl)), fun _ => rfl⟩ (.inl (by kernel_rfl)) ?_
    simp only [List.getElem_toArray, List.getElem_cons_zero, List.getElem_cons_succ, Act.put, List.setIfInBounds_toArray, List.set_cons_zero, List.set_cons_succ]
    refine wpAnyG_pure (i := 18) (v := .int .i64 0) rfl rfl (by kernel_rfl) (by kernel_rfl) (by kernel_rfl) (fun _ _ _ h => h) (by decide) ⟨by rfl, fun w _ => (by go_simp; try (first | (simp only [IntKind.wrap_u32]; done) | rfl)), fun _ => rfl⟩ (.inl (by kernel_rfl)) ?_
    simp only [List.getElem_toArray, List.getElem_cons_zero, List.getElem_cons_succ, Act.put, List.setIfInBounds_toArray, List.set_cons_zero, List.set_cons_succ]
    refine wpAnyG_pure (i := 19) (v := .bool true) rfl rfl (by kernel_rfl) (by kernel_rfl) (by kernel_rfl) (fun _ _ _ h => h) (by decide) ⟨by rfl, fun w _ => (by go_simp; try (first | (simp only [IntKind.wrap_u32]; done) | rfl)), fun _ => rfl⟩ (.inl (by kernel_rfl)) ?_
    simp only [List.getElem_toArray, List.getElem_cons_zero, List.getElem_cons_succ, Act.put, List.setIfInBounds_toArray, List.set_cons_zero, List.set_cons_succ]
    refine wpAnyG_pure (i := 20) (v := .int .i64 0) rfl rfl (by kernel_rfl) (by kernel_rfl) (by kernel_rfl) (fun _ _ _ h => h) (by decide) ⟨by rfl, fun w _ => (by go_simp; try (first | (simp only [IntKind.wrap_u32]; done) | rfl)), fun _ => rfl⟩ (.inl (by kernel_rfl)) ?_
    simp only [List.getElem_toArray, List.getElem_cons_zero, List.getElem_cons_succ, Act.put, List.setIfInBounds_toArray, List.set_cons_zero, List.set_cons_succ]
    refine wpAnyG_done (by kernel_rfl) ?_ _
    go_wp2
    refine bodyPost_ret (results_two rfl _ _ _) rfl ?_
    exact ⟨rfl, end_leaves HD.out HX2.out.1 HX2.out.2.1 HD1.out HX2.out.2.2.2 HB.out HE.out⟩
  · rw [decide_eq_false hs] at k1
    clear hs
    go_enter Try.func30, Try.ntmps30
    go_upto_region 2 with (first
    | fail)
    obtain ⟨W1, hW1⟩ : ∃ W1, W.setCell ⟨R.r, 2, none⟩ (.int .i64 0) = W1 := ⟨_, rfl⟩
    have HX1 := HX.out
    rw [hW1] at HX1 ⊢
    have HX2 := Lib.hid HX1
    clear HX1 HX r0 r1 r2 r3 z2 p1 hW1 lr lp
    have hx1 := HX2.out.2.2.2
    have h1 := HX2.out.2.2.1
    have r0 : W1.cell? ⟨R.r, 0, none⟩ = some (.pointer (some ⟨p, 0, none⟩)) := hx1.cell 0
    have r1 : W1.cell? ⟨R.r, 1, none⟩ = some (.int .i64 (R.q : Int)) := hx1.cell 1
    have r3 : W1.cell? ⟨R.r, 3, none⟩ = some (.int .i64 R.s0) := hx1.cell 3
    have p1 : W1.cell? ⟨p, 1, none⟩ = some (.pointer (some ⟨b, 0, none⟩)) := h1.box.cell 1
    have lr := hx1.lt
    have lp := h1.box.lt
    have H := Mem.start W1
    have HD1 := Lib.hid h1
    clear h1 hx1
    refine region_memk H 15 21 rfl (by kernel_rfl) (fun wr0 hcl hS => ?_)
    clear H
    refine wpAnyG_pure (i := 0) (v := .pointer (some ⟨R.r, 0, none⟩)) rfl rfl (by kernel_rfl) (by kernel_rfl) (by kernel_rfl) (fun _ _ _ h => h) (by decide) ⟨by rfl, fun w _ => (by go_simp; try (first | (simp only [IntKind.wrap_u32]; done) | rfl)), fun _ => rfl⟩ (.inr hS) ?_
    have hc1 := hcl.step (i := 0) (by kernel_rfl)
    clear hcl; have hcl := hc1; clear hc1; simp only [List.getElem_toArray, List.getElem_cons_zero, List.getElem_cons_succ, Act.put, List.setIfInBounds_toArray, List.set_cons_zero, List.set_cons_succ]
    refine wpAnyG_pure (i := 1) (v := .pointer (some ⟨R.r, 0, none⟩)) rfl rfl (by kernel_rfl) (by kernel_rfl) (by kernel_rfl) (fun _ _ _ h => h) (by decide) ⟨by rfl, fun w _ => (by go_simp; try (first | (simp only [IntKind.wrap_u32]; done) | rfl)), fun _ => rfl⟩ (.inr hS) ?_
    have hc1 := hcl.step (i := 1) (by kernel_rfl)
    clear hcl; have hcl := hc1; clear hc1; simp only [List.getElem_toArray, List.getElem_cons_zero, List.getElem_cons_succ, Act.put, List.setIfInBounds_toArray, List.set_cons_zero, List.set_cons_succ]
    refine wpAnyG_pure (i := 2) (v := .pointer (some ⟨R.r, 0, none⟩)) rfl rfl (by kernel_rfl) (by kernel_rfl) (by kernel_rfl) (fun _ _ _ h => h) (by decide) ⟨by rfl, fun w _ => (by go_simp; try (first | (simp only [IntKind.wrap_u32]; done) | rfl)), fun _ => rfl⟩ (.inr hS) ?_
    have hc1 := hcl.step (i := 2) (by kernel_rfl)
    clear hcl; have hcl := hc1; clear hc1; simp only [List.getElem_toArray, List.getElem_cons_zero, List.getElem_cons_succ, Act.put, List.setIfInBounds_toArray, List.set_cons_zero, List.set_cons_succ]
    refine wpAnyG_take (i := 3) 24 (v := .pointer (some ⟨p, 0, none⟩)) rfl rfl (by kernel_rfl) (by kernel_rfl) (by kernel_rfl) (fun _ _ _ h => h) (by kernel_rfl) (by decide) hcl (yields_old r0 lr (by exact rfl) (by exact rfl) (by exact rfl) (by first | exact Try.underlying63 | exact Try.underlying24 | exact Try.underlying3 | exact Try.underlying2 | exact Try.underlying40) rfl) hS (fun hc1 => ?_)
    clear hcl; have hcl := hc1; clear hc1; simp only [List.getElem_toArray, List.getElem_cons_zero, List.getElem_cons_succ, Act.put, List.setIfInBounds_toArray, List.set_cons_zero, List.set_cons_succ]
    refine wpAnyG_pure (i := 4) (v := .pointer (some ⟨p, 0, none⟩)) rfl rfl (by kernel_rfl) (by kernel_rfl) (by kernel_rfl) (fun _ _ _ h => h) (by decide) ⟨by rfl, fun w _ => (by go_simp; try (first | (simp only [IntKind.wrap_u32]; done) | rfl)), fun _ => rfl⟩ (.inr hS) ?_
    have hc1 := hcl.step (i := 4) (by kernel_rfl)
    clear hcl; have hcl := hc1; clear hc1; simp only [List.getElem_toArray, List.getElem_cons_zero, List.getElem_cons_succ, Act.put, List.setIfInBounds_toArray, List.set_cons_zero, List.set_cons_succ]
    refine wpAnyG_pure (i := 5) (v := .pointer (some ⟨p, 1, none⟩)) rfl rfl (by kernel_rfl) (by kernel_rfl) (by kernel_rfl) (fun _ _ _ h => h) (by decide) ⟨by rfl, fun w _ => (by go_simp; try (first | (simp only [IntKind.wrap_u32]; done) | rfl)), fun _ => rfl⟩ (.inr hS) ?_
    have hc1 := hcl.step (i := 5) (by kernel_rfl)
    clear hcl; have hcl := hc1; clear hc1; simp only [List.getElem_toArray, List.getElem_cons_zero, List.getElem_cons_succ, Act.put, List.setIfInBounds_toArray, List.set_cons_zero, List.set_cons_succ]
    refine wpAnyG_take (i := 6) 24 (v := .pointer (some ⟨b, 0, none⟩)) rfl rfl (by kernel_rfl) (by kernel_rfl) (by kernel_rfl) (fun _ _ _ h => h) (by kernel_rfl) (by decide) hcl (yields_old p1 lp (by exact rfl) (by exact rfl) (by exact rfl) (by first | exact Try.underlying63 | exact Try.underlying24 | exact Try.underlying3 | exact Try.underlying2 | exact Try.underlying40) rfl) hS (fun hc1 => ?_)
    clear hcl; have hcl := hc1; clear hc1; simp only [List.getElem_toArray, List.getElem_cons_zero, List.getElem_cons_succ, Act.put, List.setIfInBounds_toArray, List.set_cons_zero, List.set_cons_succ]
    refine wpAnyG_pure (i := 7) (v := .pointer (some ⟨R.r, 0, none⟩)) rfl rfl (by kernel_rfl) (by kernel_rfl) (by kernel_rfl) (fun _ _ _ h => h) (by decide) ⟨by rfl, fun w _ => (by go_simp; try (first | (simp only [IntKind.wrap_u32]; done) | rfl)), fun _ => rfl⟩ (.inr hS) ?_
    have hc1 := hcl.step (i := 7) (by kernel_rfl)
    clear hcl; have hcl := hc1; clear hc1; simp only [List.getElem_toArray, List.getElem_cons_zero, List.getElem_cons_succ, Act.put, List.setIfInBounds_toArray, List.set_cons_zero, List.set_cons_succ]
    refine wpAnyG_pure (i := 8) (v := .pointer (some ⟨R.r, 0, none⟩)) rfl rfl (by kernel_rfl) (by kernel_rfl) (by kernel_rfl) (fun _ _ _ h => h) (by decide) ⟨by rfl, fun w _ => (by go_simp; try (first | (simp only [IntKind.wrap_u32]; done) | rfl)), fun _ => rfl⟩ (.inr hS) ?_
    have hc1 := hcl.step (i := 8) (by kernel_rfl)
    clear hcl; have hcl := hc1; clear hc1; simp only [List.getElem_toArray, List.getElem_cons_zero, List.getElem_cons_succ, Act.put, List.setIfInBounds_toArray, List.set_cons_zero, List.set_cons_succ]
    refine wpAnyG_pure (i := 9) (v := .pointer (some ⟨R.r, 1, none⟩)) rfl rfl (by kernel_rfl) (by kernel_rfl) (by kernel_rfl) (fun _ _ _ h => h) (by decide) ⟨by rfl, fun w _ => (by go_simp; try (first | (simp only [IntKind.wrap_u32]; done) | rfl)), fun _ => rfl⟩ (.inr hS) ?_
    have hc1 := hcl.step (i := 9) (by kernel_rfl)
    clear hcl; have hcl := hc1; clear hc1; simp only [List.getElem_toArray, List.getElem_cons_zero, List.getElem_cons_succ, Act.put, List.setIfInBounds_toArray, List.set_cons_zero, List.set_cons_succ]
    refine wpAnyG_take (i := 10) 24 (v := .int .i64 (R.q : Int)) rfl rfl (by kernel_rfl) (by kernel_rfl) (by kernel_rfl) (fun _ _ _ h => h) (by kernel_rfl) (by decide) hcl (yields_old r1 lr (by exact rfl) (by exact rfl) (by exact rfl) (by first | exact Try.underlying63 | exact Try.underlying24 | exact Try.underlying3 | exact Try.underlying2 | exact Try.underlying40) rfl) hS (fun hc1 => ?_)
    clear hcl; have hcl := hc1; clear hc1; simp only [List.getElem_toArray, List.getElem_cons_zero, List.getElem_cons_succ, Act.put, List.setIfInBounds_toArray, List.set_cons_zero, List.set_cons_succ]
    refine wpAnyG_pure (i := 11) (v := .pointer (some ⟨R.r, 0, none⟩)) rfl rfl (by kernel_rfl) (by kernel_rfl) (by kernel_rfl) (fun _ _ _ h => h) (by decide) ⟨by rfl, fun w _ => (by go_simp; try (first | (simp only [IntKind.wrap_u32]; done) | rfl)), fun _ => rfl⟩ (.inr hS) ?_
    have hc1 := hcl.step (i := 11) (by kernel_rfl)
    clear hcl; have hcl := hc1; clear hc1; simp only [List.getElem_toArray, List.getElem_cons_zero, List.getElem_cons_succ, Act.put, List.setIfInBounds_toArray, List.set_cons_zero, List.set_cons_succ]
    refine wpAnyG_pure (i := 12) (v := .pointer (some ⟨R.r, 0, none⟩)) rfl rfl (by kernel_rfl) (by kernel_rfl) (by kernel_rfl) (fun _ _ _ h => h) (by decide) ⟨by rfl, fun w _ => (by go_simp; try (first | (simp only [IntKind.wrap_u32]; done) | rfl)), fun _ => rfl⟩ (.inr hS) ?_
    have hc1 := hcl.step (i := 12) (by kernel_rfl)
    clear hcl; have hcl := hc1; clear hc1; simp only [List.getElem_toArray, List.getElem_cons_zero, List.getElem_cons_succ, Act.put, List.setIfInBounds_toArray, List.set_cons_zero, List.set_cons_succ]
    refine wpAnyG_pure (i := 13) (v := .pointer (some ⟨R.r, 3, none⟩)) rfl rfl (by kernel_rfl) (by kernel_rfl) (by kernel_rfl) (fun _ _ _ h => h) (by decide) ⟨by rfl, fun w _ => (by go_simp; try (first | (simp only [IntKind.wrap_u32]; done) | rfl)), fun _ => rfl⟩ (.inr hS) ?_
    have hc1 := hcl.step (i := 13) (by kernel_rfl)
    clear hcl; have hcl := hc1; clear hc1; simp only [List.getElem_toArray, List.getElem_cons_zero, List.getElem_cons_succ, Act.put, List.setIfInBounds_toArray, List.set_cons_zero, List.set_cons_succ]
    refine wpAnyG_take (i := 14) 24 (v := .int .i64 R.s0) rfl rfl (by kernel_rfl) (by kernel_rfl) (by kernel_rfl) (fun _ _ _ h => h) (by kernel_rfl) (by decide) hcl (yields_old r3 lr (by exact rfl) (by exact rfl) (by exact rfl) (by first | exact Try.underlying63 | exact Try.underlying24 | exact Try.underlying3 | exact Try.underlying2 | exact Try.underlying40) rfl) hS (fun hc1 => ?_)
    clear hcl; have hcl := hc1; clear hc1; simp only [List.getElem_toArray, List.getElem_cons_zero, List.getElem_cons_succ, Act.put, List.setIfInBounds_toArray, List.set_cons_zero, List.set_cons_succ]
    refine wpAnyG_one (i := 15) (by kernel_rfl) rfl (fun K hK => ?_)
    go_simp
    refine ⟨trivial, (callsIn_wide.2 (k1 _ (HD1.out.below hS.below))).mono ?_⟩
    rintro e w5 ⟨rfl, hd⟩
    have HB := Lib.hid hS.below
    have HE := Lib.hid hd
    clear hS hd
    refine hK _ _ (.inl (by kernel_rfl)) ?_
    clear hK K hcl
    try simp only [List.getElem_toArray, List.getElem_cons_zero, List.getElem_cons_succ, Act.put, List.setIfInBounds_toArray, List.set_cons_zero, List.set_cons_succ]
    refine wpAnyG_pure (i := 16) (v := .tuple #[.bool false, .int .i64 0]) rfl rfl (by kernel_rfl) (by kernel_rfl) (by kernel_rfl) (fun _ _ _ h => h) (by decide) ⟨by rfl, fun w _ => (by go_simp; try (first | (simp only [IntKind.wrap_u32]; done) | rfl)), fun _ => rfl⟩ (.inl (by kernel_rfl)) ?_
    simp only [List.getElem_toArray, List.getElem_cons_zero, List.getElem_cons_succ, Act.put, List.setIfInBounds_toArray, List.set_cons_zero, List.set_cons_succ]
    refine wpAnyG_pure (i := 17) (v := .bool false) rfl rfl (by kernel_rfl) (by kernel_rfl) (by kernel_rfl) (fun _ _ _ h => h) (by decide) ⟨by rfl, fun w _ => (by go_simp; try (first | (simp only [IntKind.wrap_u32]; done) | rfl)), fun _ => rfl⟩ (.inl (by kernel_rfl)) ?_
    simp only [List.getElem_toArray, List.getElem_cons_zero, List.getElem_cons_succ, Act.put, List.setIfInBounds_toArray, List.set_cons_zero, List.set_cons_succ]
    refine wpAnyG_pure (i := 18) (v := .int .i64 0) rfl rfl (by kernel_rfl) (by kernel_rfl) (by kernel_rfl) (fun _ _ _ h => h) (by decide) ⟨by rfl, fun w _ => (by go_simp; try (first | (simp only [IntKind.wrap_u32]; done) | rfl)), fun _ => rfl⟩ (.inl (by kernel_rfl)) ?_
    simp only [List.getElem_toArray, List.getElem_cons_zero, List.getElem_cons_succ, Act.put, List.setIfInBounds_toArray, List.set_cons_zero, List.set_cons_succ]
    refine wpAnyG_pure (i := 19) (v := .bool false) rfl rfl (by kernel_rfl) (by kernel_rfl) (by kernel_rfl) (fun _ _ _ h => h) (by decide) ⟨by rfl, fun w _ => (by go_simp; try (first | (simp only [IntKind.wrap_u32]; done) | rfl)), fun _ => rfl⟩ (.inl (by kernel_rfl)) ?_
    simp only [List.getElem_toArray, List.getElem_cons_zero, List.getElem_cons_succ, Act.put, List.setIfInBounds_toArray, List.set_cons_zero, List.set_cons_succ]
    refine wpAnyG_pure (i := 20) (v := .int .i64 0) rfl rfl (by kernel_rfl) (by kernel_rfl) (by kernel_rfl) (fun _ _ _ h => h) (by decide) ⟨by rfl, fun w _ => (by go_simp; try (first | (simp only [IntKind.wrap_u32]; done) | rfl)), fun _ => rfl⟩ (.inl (by kernel_rfl)) ?_
    simp only [List.getElem_toArray, List.getElem_cons_zero, List.getElem_cons_succ, Act.put, List.setIfInBounds_toArray, List.set_cons_zero, List.set_cons_succ]
    refine wpAnyG_done (by kernel_rfl) ?_ _
    go_wp2
    refine bodyPost_ret (results_two rfl _ _ _) rfl ?_
    exact ⟨rfl, end_leaves HD.out HX2.out.1 HX2.out.2.1 HD1.out HX2.out.2.2.2 HB.out HE.out⟩
end Go.Proofs.Ytdhjdkhhhdcjdaa.Ta
end
/- The reader's Step. Conditions: the tally and its reader lie where their pointers say. -/
section
namespace Go.Proofs.Ytdhjdkhhhdcjdaa.Ta
set_option linter.unusedSimpArgs false
set_option linter.unusedVariables false
set_option maxRecDepth 100000
open Go.ChangeShapes Go.WideShapes Go.ChangeAt Go.RowKit

theorem sInfo : (Try.prog.info? 78).map (·.size) = some 8 := by kernel_rfl
abbrev stepsV (r : Nat) : Array Value := #[.func (.func 28) #[.pointer (some ⟨r, 0, none⟩)] #[], .func (.func 29) #[.pointer (some ⟨r, 0, none⟩)] #[], .func (.func 29) #[.pointer (some ⟨r, 0, none⟩)] #[], .func (.func 29) #[.pointer (some ⟨r, 0, none⟩)] #[], .func (.func 29) #[.pointer (some ⟨r, 0, none⟩)] #[], .func (.func 29) #[.pointer (some ⟨r, 0, none⟩)] #[], .func (.func 29) #[.pointer (some ⟨r, 0, none⟩)] #[], .func (.func 30) #[.pointer (some ⟨r, 0, none⟩)] #[]]
theorem steps_load (r : Nat) {m : Nat} (h0 : m ≠ 0) (h6 : m ≤ 6) : (stepsV r)[m]? = some (.func (.func 29) #[.pointer (some ⟨r, 0, none⟩)] #[]) := by
  match m, h0, h6 with
  | 1, _, _ => rfl
  | 2, _, _ => rfl
  | 3, _, _ => rfl
  | 4, _, _ => rfl
  | 5, _, _ => rfl
  | 6, _, _ => rfl
/-- behind a call: the box for the answer, the tally -/
theorem step_zero {W w1 w2 w3 : World} {own : Nat → Prop} {p N bx : Nat} {X' : TS} {v v' : Value} {e e' : Ending} (hb : Below W.heap.size W w1) (hd : DidF PAt12 w1 own p X' N v e w2) (hn : W.heap.size ≤ bx) (hx : bx < w1.heap.size) (hown : ¬ own bx) (hF : Foot (· = bx) w2 w3) (he : e' = .returned v') : DidF PAt12 W own p X' N v' e' w3 := by
  obtain ⟨_, ⟨own', h1, h2⟩, hf⟩ := hd
  have hz := hb.size
  have hbx : ¬ own' bx := fun e => by
    rcases h2 _ e with e | e
    · exact hown e
    · omega
  refine ⟨he, ⟨own', PAt12.pt.on h1 (fun i hi => hF.block i (PAt12.pt.lt h1 i hi) fun e => hbx (by rw [← show i = bx from e]; exact hi)) hF.size, fun i hi => (h2 i hi).imp id fun h => by omega⟩, ((Foot.of_below hb).trans' hf).trans hF fun i hi e => by have : i = bx := e; omega⟩
set_option maxHeartbeats 4000000 in
theorem step_oddP (W : World) (own : Nat → Prop) (p : Nat) (X : TS) (N : Nat) (R : RD) (hR : X.rd = some R) (hN : N ≤ 2000000) (h : PAt12 W own p X N) (h0 : R.at' = 0) (ho : sq X R.q % 2 = 1) : Calls Try.prog 14 #[.pointer (some ⟨R.r, 0, none⟩)] W (DidF PAt12 W own p X N (.tuple #[cv zero6, .bool false, .int .i64 111])) := by
  obtain ⟨oc, b, h⟩ := h
  obtain ⟨⟨c, hc⟩, hr1, hr2⟩ := h.rd R hR
  have hfr := h.fits.fr R hR
  have hown := h.rd' hR
  have HD := Lib.hid h
  have HR := Lib.hid (And.intro hR (And.intro hc (And.intro hfr h.lt)))
  have H := Mem.start W
  go_enter Try.func14, Try.ntmps14
  go_upto_region 1 with (first
    | ((with_reducible show wpList _ _ _ _ _ (World.alloc _ (.cells _ _))); refine mem_newb (l := []) H ?_; intro bx w3 hbk H2; try rw [← hbk]; clear hbk H; have H := H2; clear H2; simp only [List.cons_append, List.nil_append, List.set_cons_zero, List.set_cons_succ, List.setIfInBounds_toArray] at H))
  have hr9 := HR.out.2.1.box.below H.below HR.out.2.1.box.lt
  have hp9 := (HD.out.below H.below).box
  have m0 : w3.cell? ⟨R.r, 0, none⟩ = some (.pointer (some ⟨p, 0, none⟩)) := hr9.cell 0
  have m1 : w3.cell? ⟨p, 1, none⟩ = some (.pointer (some ⟨b, 0, none⟩)) := hp9.cell 1
  clear hr9 hp9
  go_upto_region 3 with (first
    | (go_at_call 27; refine (rmissing_no R.r p b w3 m0 m1).mono ?_; rintro e w4 ⟨rfl, hw⟩; rw [hw]; clear hw w4))
  clear m0 m1
  go_upto_region 4 with (first
    | ((with_reducible show wpList _ _ _ _ _ (World.alloc _ (.cells _ _))); refine mem_newb (l := [_]) H ?_; intro ba w3 hbk H2; try rw [← hbk]; clear hbk H; have H := H2; clear H2; simp only [List.cons_append, List.nil_append, List.set_cons_zero, List.set_cons_succ, List.setIfInBounds_toArray] at H)
    | ((with_reducible show wpList _ _ _ (⟨_, .store 78 _ _, _, _, _, _⟩ :: _) _ _); refine mem_store (i := 1) H (by first | exact wanted_none rfl | exact wanted_some rfl rfl rfl rfl) (by exact rfl) (by exact rfl) (by exact rfl) (by exact rfl) (by exact sInfo) (by exact rfl) (by exact rfl) ?_; intro w2 H2; clear H; have H := H2; clear H2; simp only [List.cons_append, List.nil_append, List.set_cons_zero, List.set_cons_succ, List.setIfInBounds_toArray] at H))
  have ga := H.at 1 rfl
  have gx := H.at 0 rfl
  have hbx := (H.held _ List.mem_cons_self).1
  have lx := gx.lt
  have hr3 := HR.out.2.1.box.below H.below HR.out.2.1.box.lt
  have hnx : ¬ own bx := fun e => by have := HR.out.2.2.2 _ e; omega
  have r2 : w2.cell? ⟨R.r, 2, none⟩ = some (.int .i64 (R.at' : Int)) := hr3.cell 2
  have HB := Lib.hid H.below
  have g0 : w2.cell? ⟨ba, 0, none⟩ = some (.func (.func 28) #[.pointer (some ⟨R.r, 0, none⟩)] #[]) := ga.cell 0
  have k1 := begin_odd w2 own oc p b X N R c hR hN (HD.out.below HB.out) { hc with box := hr3 } h0 ho
  rw [h0] at r2
  clear ga
  clear H hr3 h hc hfr hown hr1 hr2
  go_wp2_with (first
    | go_skip
    | (go_at_call 28; refine (k1).mono ?_; rintro e w5 hd; obtain ⟨rfl, hd0⟩ := id hd; clear hd0; have gx5 := gx.foot hd.2.2 hnx; have HE := Lib.hid hd; clear hd gx)
    | ((with_reducible show wpList _ _ _ (⟨_, .store 42 _ _, _, _, _, _⟩ :: _) _ _); refine store_held gx5 (by first | exact wanted_none rfl | exact wanted_some rfl rfl rfl rfl) (by exact rfl) (by exact rfl) (by exact rfl) (by exact cInfo) (by exact rfl) (by exact rfl) ?_; intro w7 g7 F7))
  refine bodyPost_ret (results_ctt rfl rfl (load_c6 (c := zero6) g7)) rfl ?_
  exact step_zero HB.out HE.out hbx lx hnx F7 rfl
set_option maxHeartbeats 4000000 in
theorem step_evenP (W : World) (own : Nat → Prop) (p : Nat) (X : TS) (N : Nat) (R : RD) (hR : X.rd = some R) (hN : N ≤ 2000000) (h : PAt12 W own p X N) (h0 : R.at' = 0) (ho : ¬ sq X R.q % 2 = 1) : Calls Try.prog 14 #[.pointer (some ⟨R.r, 0, none⟩)] W (DidF PAt12 W own p { X with rd := some { R with at' := 1, s0 := sq X R.q, l := [] } } N (.tuple #[cv zero6, .bool false, .int .i64 0])) := by
  obtain ⟨oc, b, h⟩ := h
  obtain ⟨⟨c, hc⟩, hr1, hr2⟩ := h.rd R hR
  have hfr := h.fits.fr R hR
  have hown := h.rd' hR
  have HD := Lib.hid h
  have HR := Lib.hid (And.intro hR (And.intro hc (And.intro hfr h.lt)))
  have H := Mem.start W
  go_enter Try.func14, Try.ntmps14
  go_upto_region 1 with (first
    | ((with_reducible show wpList _ _ _ _ _ (World.alloc _ (.cells _ _))); refine mem_newb (l := []) H ?_; intro bx w3 hbk H2; try rw [← hbk]; clear hbk H; have H := H2; clear H2; simp only [List.cons_append, List.nil_append, List.set_cons_zero, List.set_cons_succ, List.setIfInBounds_toArray] at H))
  have hr9 := HR.out.2.1.box.below H.below HR.out.2.1.box.lt
  have hp9 := (HD.out.below H.below).box
  have m0 : w3.cell? ⟨R.r, 0, none⟩ = some (.pointer (some ⟨p, 0, none⟩)) := hr9.cell 0
  have m1 : w3.cell? ⟨p, 1, none⟩ = some (.pointer (some ⟨b, 0, none⟩)) := hp9.cell 1
  clear hr9 hp9
  go_upto_region 3 with (first
    | (go_at_call 27; refine (rmissing_no R.r p b w3 m0 m1).mono ?_; rintro e w4 ⟨rfl, hw⟩; rw [hw]; clear hw w4))
  clear m0 m1
  go_upto_region 4 with (first
    | ((with_reducible show wpList _ _ _ _ _ (World.alloc _ (.cells _ _))); refine mem_newb (l := [_]) H ?_; intro ba w3 hbk H2; try rw [← hbk]; clear hbk H; have H := H2; clear H2; simp only [List.cons_append, List.nil_append, List.set_cons_zero, List.set_cons_succ, List.setIfInBounds_toArray] at H)
    | ((with_reducible show wpList _ _ _ (⟨_, .store 78 _ _, _, _, _, _⟩ :: _) _ _); refine mem_store (i := 1) H (by first | exact wanted_none rfl | exact wanted_some rfl rfl rfl rfl) (by exact rfl) (by exact rfl) (by exact rfl) (by exact rfl) (by exact sInfo) (by exact rfl) (by exact rfl) ?_; intro w2 H2; clear H; have H := H2; clear H2; simp only [List.cons_append, List.nil_append, List.set_cons_zero, List.set_cons_succ, List.setIfInBounds_toArray] at H))
  have ga := H.at 1 rfl
  have gx := H.at 0 rfl
  have hbx := (H.held _ List.mem_cons_self).1
  have lx := gx.lt
  have hr3 := HR.out.2.1.box.below H.below HR.out.2.1.box.lt
  have hnx : ¬ own bx := fun e => by have := HR.out.2.2.2 _ e; omega
  have r2 : w2.cell? ⟨R.r, 2, none⟩ = some (.int .i64 (R.at' : Int)) := hr3.cell 2
  have HB := Lib.hid H.below
  have g0 : w2.cell? ⟨ba, 0, none⟩ = some (.func (.func 28) #[.pointer (some ⟨R.r, 0, none⟩)] #[]) := ga.cell 0
  have k1 := begin_even w2 own oc p b X N R c hR hN (HD.out.below HB.out) { hc with box := hr3 } h0 ho
  rw [h0] at r2
  clear ga
  clear H hr3 h hc hfr hown hr1 hr2
  go_wp2_with (first
    | go_skip
    | (go_at_call 28; refine (k1).mono ?_; rintro e w5 hd; obtain ⟨rfl, hd0⟩ := id hd; clear hd0; have gx5 := gx.foot hd.2.2 hnx; have HE := Lib.hid hd; clear hd gx)
    | ((with_reducible show wpList _ _ _ (⟨_, .store 42 _ _, _, _, _, _⟩ :: _) _ _); refine store_held gx5 (by first | exact wanted_none rfl | exact wanted_some rfl rfl rfl rfl) (by exact rfl) (by exact rfl) (by exact rfl) (by exact cInfo) (by exact rfl) (by exact rfl) ?_; intro w7 g7 F7))
  refine bodyPost_ret (results_ctt rfl rfl (load_c6 (c := zero6) g7)) rfl ?_
  exact step_zero HB.out HE.out hbx lx hnx F7 rfl
set_option maxHeartbeats 4000000 in
theorem step_loadP (W : World) (own : Nat → Prop) (p : Nat) (X : TS) (N : Nat) (R : RD) (hR : X.rd = some R) (hN : N ≤ 2000000) (h : PAt12 W own p X N) (h0 : R.at' ≠ 0) (h6 : R.at' ≤ 6) : Calls Try.prog 14 #[.pointer (some ⟨R.r, 0, none⟩)] W (DidF PAt12 W own p { X with rd := some { R with at' := R.at' + 1, l := R.l ++ [(kq X R.q).get (R.at' - 1)] } } N (.tuple #[cv zero6, .bool false, .int .i64 0])) := by
  obtain ⟨oc, b, h⟩ := h
  obtain ⟨⟨c, hc⟩, hr1, hr2⟩ := h.rd R hR
  have hfr := h.fits.fr R hR
  have hown := h.rd' hR
  have HD := Lib.hid h
  have HR := Lib.hid (And.intro hR (And.intro hc (And.intro hfr h.lt)))
  have H := Mem.start W
  go_enter Try.func14, Try.ntmps14
  go_upto_region 1 with (first
    | ((with_reducible show wpList _ _ _ _ _ (World.alloc _ (.cells _ _))); refine mem_newb (l := []) H ?_; intro bx w3 hbk H2; try rw [← hbk]; clear hbk H; have H := H2; clear H2; simp only [List.cons_append, List.nil_append, List.set_cons_zero, List.set_cons_succ, List.setIfInBounds_toArray] at H))
  have hr9 := HR.out.2.1.box.below H.below HR.out.2.1.box.lt
  have hp9 := (HD.out.below H.below).box
  have m0 : w3.cell? ⟨R.r, 0, none⟩ = some (.pointer (some ⟨p, 0, none⟩)) := hr9.cell 0
  have m1 : w3.cell? ⟨p, 1, none⟩ = some (.pointer (some ⟨b, 0, none⟩)) := hp9.cell 1
  clear hr9 hp9
  go_upto_region 3 with (first
    | (go_at_call 27; refine (rmissing_no R.r p b w3 m0 m1).mono ?_; rintro e w4 ⟨rfl, hw⟩; rw [hw]; clear hw w4))
  clear m0 m1
  go_upto_region 4 with (first
    | ((with_reducible show wpList _ _ _ _ _ (World.alloc _ (.cells _ _))); refine mem_newb (l := [_]) H ?_; intro ba w3 hbk H2; try rw [← hbk]; clear hbk H; have H := H2; clear H2; simp only [List.cons_append, List.nil_append, List.set_cons_zero, List.set_cons_succ, List.setIfInBounds_toArray] at H)
    | ((with_reducible show wpList _ _ _ (⟨_, .store 78 _ _, _, _, _, _⟩ :: _) _ _); refine mem_store (i := 1) H (by first | exact wanted_none rfl | exact wanted_some rfl rfl rfl rfl) (by exact rfl) (by exact rfl) (by exact rfl) (by exact rfl) (by exact sInfo) (by exact rfl) (by exact rfl) ?_; intro w2 H2; clear H; have H := H2; clear H2; simp only [List.cons_append, List.nil_append, List.set_cons_zero, List.set_cons_succ, List.setIfInBounds_toArray] at H))
  have ga := H.at 1 rfl
  have gx := H.at 0 rfl
  have hbx := (H.held _ List.mem_cons_self).1
  have lx := gx.lt
  have hr3 := HR.out.2.1.box.below H.below HR.out.2.1.box.lt
  have hnx : ¬ own bx := fun e => by have := HR.out.2.2.2 _ e; omega
  have r2 : w2.cell? ⟨R.r, 2, none⟩ = some (.int .i64 (R.at' : Int)) := hr3.cell 2
  have HB := Lib.hid H.below
  have g0 : w2.cell? ⟨ba, R.at', none⟩ = some (.func (.func 29) #[.pointer (some ⟨R.r, 0, none⟩)] #[]) := (ga.cell R.at').trans (steps_load R.r h0 h6)
  have k1 := load_p w2 own oc p b X N R c hR hN (HD.out.below HB.out) { hc with box := hr3 } h0 h6
  have i0 : ¬ ((R.at' : Int) < 0) := by omega
  have i8 : ¬ 8 ≤ R.at' := by omega
  clear ga
  clear H hr3 h hc hfr hown hr1 hr2
  go_wp2_with (first
    | go_skip
    | (go_at_call 29; refine (k1).mono ?_; rintro e w5 hd; obtain ⟨rfl, hd0⟩ := id hd; clear hd0; have gx5 := gx.foot hd.2.2 hnx; have HE := Lib.hid hd; clear hd gx)
    | ((with_reducible show wpList _ _ _ (⟨_, .store 42 _ _, _, _, _, _⟩ :: _) _ _); refine store_held gx5 (by first | exact wanted_none rfl | exact wanted_some rfl rfl rfl rfl) (by exact rfl) (by exact rfl) (by exact rfl) (by exact cInfo) (by exact rfl) (by exact rfl) ?_; intro w7 g7 F7))
  refine bodyPost_ret (results_ctt rfl rfl (load_c6 (c := zero6) g7)) rfl ?_
  exact step_zero HB.out HE.out hbx lx hnx F7 rfl
theorem of6_of {p : Nat} {W : World} {R : RD} {c : C6} (h : RPt W p R c) (hl : R.l.length = 6) : c = of6 R.l := C6.ext' fun i hi => by
  have e : R.l[i]? = some (R.l[i]'(by omega)) := List.getElem?_eq_getElem (by omega)
  rw [of6, get_mk _ hi, List.getD_eq_getElem?_getD, e, h.got i _ e]
  rfl
set_option maxHeartbeats 4000000 in
theorem step_lateP (W : World) (own : Nat → Prop) (p : Nat) (X : TS) (N : Nat) (R : RD) (hR : X.rd = some R) (hN : N ≤ 2000000) (h : PAt12 W own p X N) (h0 : R.at' ≠ 0) (h6 : ¬ R.at' ≤ 6) (hs : ¬ sq X R.q = R.s0) : Calls Try.prog 14 #[.pointer (some ⟨R.r, 0, none⟩)] W (DidF PAt12 W own p { X with rd := some { R with at' := 0, l := [] } } N (.tuple #[cv zero6, .bool false, .int .i64 111])) := by
  obtain ⟨oc, b, h⟩ := h
  obtain ⟨⟨c, hc⟩, hr1, hr2⟩ := h.rd R hR
  have hfr := h.fits.fr R hR
  have hown := h.rd' hR
  have HD := Lib.hid h
  have HR := Lib.hid (And.intro hR (And.intro hc (And.intro hfr h.lt)))
  have H := Mem.start W
  go_enter Try.func14, Try.ntmps14
  go_upto_region 1 with (first
    | ((with_reducible show wpList _ _ _ _ _ (World.alloc _ (.cells _ _))); refine mem_newb (l := []) H ?_; intro bx w3 hbk H2; try rw [← hbk]; clear hbk H; have H := H2; clear H2; simp only [List.cons_append, List.nil_append, List.set_cons_zero, List.set_cons_succ, List.setIfInBounds_toArray] at H))
  have hr9 := HR.out.2.1.box.below H.below HR.out.2.1.box.lt
  have hp9 := (HD.out.below H.below).box
  have m0 : w3.cell? ⟨R.r, 0, none⟩ = some (.pointer (some ⟨p, 0, none⟩)) := hr9.cell 0
  have m1 : w3.cell? ⟨p, 1, none⟩ = some (.pointer (some ⟨b, 0, none⟩)) := hp9.cell 1
  clear hr9 hp9
  go_upto_region 3 with (first
    | (go_at_call 27; refine (rmissing_no R.r p b w3 m0 m1).mono ?_; rintro e w4 ⟨rfl, hw⟩; rw [hw]; clear hw w4))
  clear m0 m1
  go_upto_region 4 with (first
    | ((with_reducible show wpList _ _ _ _ _ (World.alloc _ (.cells _ _))); refine mem_newb (l := [_]) H ?_; intro ba w3 hbk H2; try rw [← hbk]; clear hbk H; have H := H2; clear H2; simp only [List.cons_append, List.nil_append, List.set_cons_zero, List.set_cons_succ, List.setIfInBounds_toArray] at H)
    | ((with_reducible show wpList _ _ _ (⟨_, .store 78 _ _, _, _, _, _⟩ :: _) _ _); refine mem_store (i := 1) H (by first | exact wanted_none rfl | exact wanted_some rfl rfl rfl rfl) (by exact rfl) (by exact rfl) (by exact rfl) (by exact rfl) (by exact sInfo) (by exact rfl) (by exact rfl) ?_; intro w2 H2; clear H; have H := H2; clear H2; simp only [List.cons_append, List.nil_append, List.set_cons_zero, List.set_cons_succ, List.setIfInBounds_toArray] at H))
  have ga := H.at 1 rfl
  have gx := H.at 0 rfl
  have hbx := (H.held _ List.mem_cons_self).1
  have lx := gx.lt
  have hr3 := HR.out.2.1.box.below H.below HR.out.2.1.box.lt
  have hnx : ¬ own bx := fun e => by have := HR.out.2.2.2 _ e; omega
  have r2 : w2.cell? ⟨R.r, 2, none⟩ = some (.int .i64 (R.at' : Int)) := hr3.cell 2
  have HB := Lib.hid H.below
  have h7 : R.at' = 7 := by have := hfr.at7; omega
  have g0 : w2.cell? ⟨ba, 7, none⟩ = some (.func (.func 30) #[.pointer (some ⟨R.r, 0, none⟩)] #[]) := ga.cell 7
  have k1 := end_p w2 own oc p b X N R c hR hN (HD.out.below HB.out) { hc with box := hr3 } (by omega)
  rw [h7] at r2
  clear ga
  have k2 := k1 false 111 (.inr ⟨rfl, rfl, hs⟩)
  clear H hr3 h hc hfr hown hr1 hr2 k1 h0 h6 h7 hs
  go_wp2_with (first
    | go_skip
    | (go_at_call 30; refine k2.mono ?_; rintro e w5 ⟨rfl, hd⟩; have gx5 := gx.foot (hd.did (rfl : Ending.returned (.bool false) = _)).2.2 hnx; have HE := Lib.hid hd; clear hd gx)
    | ((with_reducible show wpList _ _ _ (⟨_, .store 42 _ _, _, _, _, _⟩ :: _) _ _); refine store_held gx5 (by first | exact wanted_none rfl | exact wanted_some rfl rfl rfl rfl) (by exact rfl) (by exact rfl) (by exact rfl) (by exact cInfo) (by exact rfl) (by exact rfl) ?_; intro w7 g7 F7))
  refine bodyPost_ret (results_ctt rfl rfl (load_c6 (c := zero6) g7)) rfl ?_
  exact step_zero HB.out (HE.out.did (rfl : Ending.returned (.bool false) = _)) hbx lx hnx F7 rfl
theorem end_lt {W w' : World} {own : Nat → Prop} {p b N : Nat} {X : TS} {R : RD} {c : C6} (h : EndF W own p b X N R c w') : R.r < w'.heap.size := by
  obtain ⟨_, _, _, _, _, hx⟩ := h
  exact hx.lt
theorem end_get {W w' : World} {own : Nat → Prop} {p b N : Nat} {X : TS} {R : RD} {c : C6} (h : EndF W own p b X N R c w') (j : Nat) (hj : j < 6) : w'.cell? ⟨R.r, 4 + j, none⟩ = some (.int .u64 (c.get j)) := by
  obtain ⟨_, _, _, _, _, hx⟩ := h
  exact (hx.cell (4 + j)).trans (rcells_get hj)
set_option maxHeartbeats 4000000 in
theorem step_endP (W : World) (own : Nat → Prop) (p : Nat) (X : TS) (N : Nat) (R : RD) (hR : X.rd = some R) (hN : N ≤ 2000000) (h : PAt12 W own p X N) (h0 : R.at' ≠ 0) (h6 : ¬ R.at' ≤ 6) (hs : sq X R.q = R.s0) : Calls Try.prog 14 #[.pointer (some ⟨R.r, 0, none⟩)] W (DidF PAt12 W own p { X with rd := some { R with at' := 0, l := [] } } N (.tuple #[cv (of6 R.l), .bool true, .int .i64 0])) := by
  obtain ⟨oc, b, h⟩ := h
  obtain ⟨⟨c, hc⟩, hr1, hr2⟩ := h.rd R hR
  have hfr := h.fits.fr R hR
  have hown := h.rd' hR
  have HD := Lib.hid h
  have HR := Lib.hid (And.intro hR (And.intro hc (And.intro hfr h.lt)))
  have H := Mem.start W
  have hco := of6_of hc (by have := hfr.len h0; have := hfr.at7; omega)
  rw [← hco]
  clear hco
  go_enter Try.func14, Try.ntmps14
  go_upto_region 1 with (first
    | ((with_reducible show wpList _ _ _ _ _ (World.alloc _ (.cells _ _))); refine mem_newb (l := []) H ?_; intro bx w3 hbk H2; try rw [← hbk]; clear hbk H; have H := H2; clear H2; simp only [List.cons_append, List.nil_append, List.set_cons_zero, List.set_cons_succ, List.setIfInBounds_toArray] at H))
  have hr9 := HR.out.2.1.box.below H.below HR.out.2.1.box.lt
  have hp9 := (HD.out.below H.below).box
  have m0 : w3.cell? ⟨R.r, 0, none⟩ = some (.pointer (some ⟨p, 0, none⟩)) := hr9.cell 0
  have m1 : w3.cell? ⟨p, 1, none⟩ = some (.pointer (some ⟨b, 0, none⟩)) := hp9.cell 1
  clear hr9 hp9
  go_upto_region 3 with (first
    | (go_at_call 27; refine (rmissing_no R.r p b w3 m0 m1).mono ?_; rintro e w4 ⟨rfl, hw⟩; rw [hw]; clear hw w4))
  clear m0 m1
  go_upto_region 4 with (first
    | ((with_reducible show wpList _ _ _ _ _ (World.alloc _ (.cells _ _))); refine mem_newb (l := [_]) H ?_; intro ba w3 hbk H2; try rw [← hbk]; clear hbk H; have H := H2; clear H2; simp only [List.cons_append, List.nil_append, List.set_cons_zero, List.set_cons_succ, List.setIfInBounds_toArray] at H)
    | ((with_reducible show wpList _ _ _ (⟨_, .store 78 _ _, _, _, _, _⟩ :: _) _ _); refine mem_store (i := 1) H (by first | exact wanted_none rfl | exact wanted_some rfl rfl rfl rfl) (by exact rfl) (by exact rfl) (by exact rfl) (by exact rfl) (by exact sInfo) (by exact rfl) (by exact rfl) ?_; intro w2 H2; clear H; have H := H2; clear H2; simp only [List.cons_append, List.nil_append, List.set_cons_zero, List.set_cons_succ, List.setIfInBounds_toArray] at H))
  have ga := H.at 1 rfl
  have gx := H.at 0 rfl
  have hbx := (H.held _ List.mem_cons_self).1
  have lx := gx.lt
  have hr3 := HR.out.2.1.box.below H.below HR.out.2.1.box.lt
  have hnx : ¬ own bx := fun e => by have := HR.out.2.2.2 _ e; omega
  have r2 : w2.cell? ⟨R.r, 2, none⟩ = some (.int .i64 (R.at' : Int)) := hr3.cell 2
  have HB := Lib.hid H.below
  have h7 : R.at' = 7 := by have := hfr.at7; omega
  have g0 : w2.cell? ⟨ba, 7, none⟩ = some (.func (.func 30) #[.pointer (some ⟨R.r, 0, none⟩)] #[]) := ga.cell 7
  have k1 := end_p w2 own oc p b X N R c hR hN (HD.out.below HB.out) { hc with box := hr3 } (by omega)
  rw [h7] at r2
  clear ga
  have k2 := k1 true 0 (.inl ⟨rfl, rfl, hs⟩)
  clear H hr3 h hc hfr hown hr1 hr2 k1 h0 h6 h7 hs
  go_wp2_with (first
    | go_skip
    | (go_at_call 30; refine k2.mono ?_; rintro e w5 ⟨rfl, hd⟩; have gx5 := gx.foot (hd.did (rfl : Ending.returned (.bool false) = _)).2.2 hnx; have HE := Lib.hid hd; clear hd gx)
    | (go_at_call 31; refine (counts4_p R.r c w5 (end_lt HE.out) (end_get HE.out)).mono ?_; rintro e w6 ⟨rfl, hb⟩; have gx6 := gx5.below hb gx5.lt; have HB6 := Lib.hid hb; clear hb gx5)
    | ((with_reducible show wpList _ _ _ (⟨_, .store 42 _ _, _, _, _, _⟩ :: _) _ _); refine store_held gx6 (by first | exact wanted_none rfl | exact wanted_some rfl rfl rfl rfl) (by exact rfl) (by exact rfl) (by exact rfl) (by exact cInfo) (by exact rfl) (by exact rfl) ?_; intro w7 g7 F7))
  refine bodyPost_ret (results_ctt rfl rfl (load_c6 (c := c) g7)) rfl ?_
  exact step_zero HB.out ((HE.out.did (rfl : Ending.returned (.bool false) = _)).then_below PAt12.pt HB6.out (rfl : Ending.returned (.bool false) = _)) hbx lx hnx F7 rfl
end Go.Proofs.Ytdhjdkhhhdcjdaa.Ta
end
