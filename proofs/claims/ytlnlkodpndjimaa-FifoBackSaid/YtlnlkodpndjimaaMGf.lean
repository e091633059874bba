/-
  The program's small functions of fifos: missing, count, between, hasLen, bytesOf, trimmed, without, exceeded, admit, limitsOf. Conditions: the cells hold what is named. The program's exceeded, admit, limitsOf and New of fifos; where a fifo lies. Conditions: the cells hold what is named. A fifo whose cells are being changed one by one. Conditions: those that each theorem names.
-/
import Derived.Test.YtlnlkodpndjimaaMGe
/- The program's small functions of fifos: missing, count, between, hasLen, bytesOf, trimmed, without, exceeded, admit, limitsOf. Conditions: the cells hold what is named. -/
section
namespace Go.Proofs.Ytlnlkodpndjimaa.Fi
set_option linter.unusedSimpArgs false
set_option linter.unusedVariables false
set_option maxRecDepth 100000
open Go.ChangeShapes Go.WideShapes Go.ChangeAt Go.RowKit

theorem miss_no (p : Nat) (n : Int) (hn : n ≠ 0) (w : World) (c0 : w.cell? ⟨p, 0, none⟩ = some (.int .i64 n)) : Calls Try.prog 33 #[.pointer (some ⟨p, 0, none⟩)] w fun e w' => e = .returned (.bool false) ∧ Below w.heap.size w w' := by
  have H := Mem.start w
  have t1 : (n == 0) = false := by simpa using hn
  go_enter Try.func33, Try.ntmps33
  go_wp2
  refine bodyPost_ret (v := .bool false) (by simp [results, Try.results33, Sem.run_bind, Result.andThen]) rfl ?_
  exact ⟨rfl, H.below⟩
theorem miss_yes (w : World) : Calls Try.prog 33 #[.pointer none] w fun e w' => e = .returned (.bool true) ∧ Below w.heap.size w w' := by
  have H := Mem.start w
  go_enter Try.func33, Try.ntmps33
  go_wp2
  refine bodyPost_ret (v := .bool true) (by simp [results, Try.results33, Sem.run_bind, Result.andThen]) rfl ?_
  exact ⟨rfl, H.below⟩
theorem count_p (p : Nat) (A1 A2 : Option Addr) (n1 n2 a1 a2 : Nat) (h1 : n1 ≤ 100000) (h2 : n2 ≤ 100000) (w : World) (hp : p < w.heap.size) (cb : w.cell? ⟨p, 2, none⟩ = some (.slice A1 n1 a1)) (cu : w.cell? ⟨p, 3, none⟩ = some (.slice A2 n2 a2)) : Calls Try.prog 41 #[.pointer (some ⟨p, 0, none⟩)] w fun e w' => e = .returned (.int .i64 ((n1 + n2 : Nat) : Int)) ∧ Below w.heap.size w w' := by
  have H := Mem.start w
  have w1 : IntKind.i64.wrap ((n1 : Int) + (n2 : Int)) = ((n1 + n2 : Nat) : Int) := by rw [wrap_id (by omega) (by omega)]; omega
  go_enter Try.func41, Try.ntmps41
  go_upto_region 1 with (fail)
  refine region_mem H 12 rfl (by kernel_rfl) (fun wr hS => ?_)
  clear H
  refine wpAnyR_take (i := 0) (v := .pointer (some ⟨p, 0, none⟩)) rfl rfl (by kernel_rfl) (by kernel_rfl) (by kernel_rfl) (fun _ _ _ h => h) (Nat.le_refl _) ⟨by rfl, fun w _ => (by go_simp; try (first | (simp only [IntKind.wrap_u32]; done) | rfl)), fun _ => rfl⟩ hS ?_
  simp only [List.getElem_toArray, List.getElem_cons_zero, List.getElem_cons_succ, Act.put, List.setIfInBounds_toArray, List.set_cons_zero, List.set_cons_succ]
  refine wpAnyR_take (i := 1) (v := .pointer (some ⟨p, 0, none⟩)) rfl rfl (by kernel_rfl) (by kernel_rfl) (by kernel_rfl) (fun _ _ _ h => h) (Nat.le_refl _) ⟨by rfl, fun w _ => (by go_simp; try (first | (simp only [IntKind.wrap_u32]; done) | rfl)), fun _ => rfl⟩ hS ?_
  simp only [List.getElem_toArray, List.getElem_cons_zero, List.getElem_cons_succ, Act.put, List.setIfInBounds_toArray, List.set_cons_zero, List.set_cons_succ]
  refine wpAnyR_take (i := 2) (v := .pointer (some ⟨p, 2, none⟩)) rfl rfl (by kernel_rfl) (by kernel_rfl) (by kernel_rfl) (fun _ _ _ h => h) (Nat.le_refl _) ⟨by rfl, fun w _ => (by go_simp; try (first | (simp only [IntKind.wrap_u32]; done) | rfl)), fun _ => rfl⟩ hS ?_
  simp only [List.getElem_toArray, List.getElem_cons_zero, List.getElem_cons_succ, Act.put, List.setIfInBounds_toArray, List.set_cons_zero, List.set_cons_succ]
  refine wpAnyR_take (i := 3) (v := .slice A1 n1 a1) rfl rfl (by kernel_rfl) (by kernel_rfl) (by kernel_rfl) (fun _ _ _ h => h) (Nat.le_refl _) (yields_old cb hp (by exact rfl) (by exact rfl) (by exact rfl) (by first | exact Try.underlying32 | exact Try.underlying3 | exact Try.underlying41) rfl) hS ?_
  simp only [List.getElem_toArray, List.getElem_cons_zero, List.getElem_cons_succ, Act.put, List.setIfInBounds_toArray, List.set_cons_zero, List.set_cons_succ]
  refine wpAnyR_take (i := 4) (v := .int .i64 n1) rfl rfl (by kernel_rfl) (by kernel_rfl) (by kernel_rfl) (fun _ _ _ h => h) (Nat.le_refl _) ⟨by rfl, fun w _ => (by go_simp; try (first | (simp only [IntKind.wrap_u32]; done) | rfl)), fun _ => rfl⟩ hS ?_
  simp only [List.getElem_toArray, List.getElem_cons_zero, List.getElem_cons_succ, Act.put, List.setIfInBounds_toArray, List.set_cons_zero, List.set_cons_succ]
  refine wpAnyR_take (i := 5) (v := .pointer (some ⟨p, 0, none⟩)) rfl rfl (by kernel_rfl) (by kernel_rfl) (by kernel_rfl) (fun _ _ _ h => h) (Nat.le_refl _) ⟨by rfl, fun w _ => (by go_simp; try (first | (simp only [IntKind.wrap_u32]; done) | rfl)), fun _ => rfl⟩ hS ?_
  simp only [List.getElem_toArray, List.getElem_cons_zero, List.getElem_cons_succ, Act.put, List.setIfInBounds_toArray, List.set_cons_zero, List.set_cons_succ]
  refine wpAnyR_take (i := 6) (v := .pointer (some ⟨p, 0, none⟩)) rfl rfl (by kernel_rfl) (by kernel_rfl) (by kernel_rfl) (fun _ _ _ h => h) (Nat.le_refl _) ⟨by rfl, fun w _ => (by go_simp; try (first | (simp only [IntKind.wrap_u32]; done) | rfl)), fun _ => rfl⟩ hS ?_
  simp only [List.getElem_toArray, List.getElem_cons_zero, List.getElem_cons_succ, Act.put, List.setIfInBounds_toArray, List.set_cons_zero, List.set_cons_succ]
  refine wpAnyR_take (i := 7) (v := .pointer (some ⟨p, 3, none⟩)) rfl rfl (by kernel_rfl) (by kernel_rfl) (by kernel_rfl) (fun _ _ _ h => h) (Nat.le_refl _) ⟨by rfl, fun w _ => (by go_simp; try (first | (simp only [IntKind.wrap_u32]; done) | rfl)), fun _ => rfl⟩ hS ?_
  simp only [List.getElem_toArray, List.getElem_cons_zero, List.getElem_cons_succ, Act.put, List.setIfInBounds_toArray, List.set_cons_zero, List.set_cons_succ]
  refine wpAnyR_take (i := 8) (v := .slice A2 n2 a2) rfl rfl (by kernel_rfl) (by kernel_rfl) (by kernel_rfl) (fun _ _ _ h => h) (Nat.le_refl _) (yields_old cu hp (by exact rfl) (by exact rfl) (by exact rfl) (by first | exact Try.underlying32 | exact Try.underlying3 | exact Try.underlying41) rfl) hS ?_
  simp only [List.getElem_toArray, List.getElem_cons_zero, List.getElem_cons_succ, Act.put, List.setIfInBounds_toArray, List.set_cons_zero, List.set_cons_succ]
  refine wpAnyR_take (i := 9) (v := .int .i64 n2) rfl rfl (by kernel_rfl) (by kernel_rfl) (by kernel_rfl) (fun _ _ _ h => h) (Nat.le_refl _) ⟨by rfl, fun w _ => (by go_simp; try (first | (simp only [IntKind.wrap_u32]; done) | rfl)), fun _ => rfl⟩ hS ?_
  simp only [List.getElem_toArray, List.getElem_cons_zero, List.getElem_cons_succ, Act.put, List.setIfInBounds_toArray, List.set_cons_zero, List.set_cons_succ]
  refine wpAnyR_take (i := 10) (v := .int .i64 ((n1 + n2 : Nat) : Int)) rfl rfl (by kernel_rfl) (by kernel_rfl) (by kernel_rfl) (fun _ _ _ h => h) (Nat.le_refl _) ⟨by rfl, fun w _ => (by go_simp; try (first | (simp only [IntKind.wrap_u32]; done) | rfl | exact w1)), fun _ => rfl⟩ hS ?_
  simp only [List.getElem_toArray, List.getElem_cons_zero, List.getElem_cons_succ, Act.put, List.setIfInBounds_toArray, List.set_cons_zero, List.set_cons_succ]
  refine wpAnyG_one (i := 11) (by kernel_rfl) rfl (fun K hK => ?_)
  go_simp
  refine hK _ _ (.inr hS) ?_
  clear hK K
  refine wpAnyG_done (by kernel_rfl) ?_ _
  have H := hS
  clear hS
  go_wp2
  go_ret
  exact ⟨rfl, H.below⟩
theorem btw_p (a b n : Int) (v : Bool) (hv : (decide (a ≤ n) && decide (n ≤ b)) = v) (w : World) : Calls Try.prog 42 #[.int .i64 a, .int .i64 b, .int .i64 n] w fun e w' => e = .returned (.bool v) ∧ Below w.heap.size w w' := by
  have H := Mem.start w
  subst hv
  by_cases h : a ≤ n
  · have t1 : decide (a ≤ n) = true := decide_eq_true h
    rw [t1, Bool.true_and]
    go_enter Try.func42, Try.ntmps42
    go_wp2
    go_ret
    exact ⟨rfl, H.below⟩
  · have t1 : decide (a ≤ n) = false := decide_eq_false h
    rw [t1, Bool.false_and]
    go_enter Try.func42, Try.ntmps42
    go_wp2
    go_ret
    exact ⟨rfl, H.below⟩
theorem hasLen_p (p : PV) (w : World) : Calls Try.prog 39 #[pv p] w fun e w' => e = .returned (.bool (okP p)) ∧ Below w.heap.size w w' := by
  have H := Mem.start w
  unfold okP
  by_cases h1 : 1 ≤ p.len
  · have t1 : decide (1 ≤ p.len) = true := decide_eq_true h1
    go_enter Try.func39, Try.ntmps39
    go_wp2_with (first
    | go_skip
    | ((with_reducible show wpList _ _ _ _ _ (World.alloc _ (.cells _ _))); refine mem_new H ?_; intro w2 H2; clear H; have H := H2; clear H2; simp only [List.cons_append, List.nil_append, List.set_cons_zero, List.set_cons_succ, List.setIfInBounds_toArray] at H)
    | ((with_reducible show wpList _ _ _ (⟨_, .load _ _, _, _, _, _⟩ :: _) _ _); refine mem_loadf (i := 0) H (by first | exact wanted_none rfl | exact wanted_some rfl rfl rfl rfl) (by exact rfl) (by exact rfl) (by exact rfl) (by first | exact Try.underlying32 | exact Try.underlying3 | exact Try.underlying41) rfl (by exact rfl) ?_))
    go_ret
    exact ⟨by simp [h1] <;> omega, H.below⟩
  · have t1 : decide (1 ≤ p.len) = false := decide_eq_false h1
    go_enter Try.func39, Try.ntmps39
    go_wp2_with (first
    | go_skip
    | ((with_reducible show wpList _ _ _ _ _ (World.alloc _ (.cells _ _))); refine mem_new H ?_; intro w2 H2; clear H; have H := H2; clear H2; simp only [List.cons_append, List.nil_append, List.set_cons_zero, List.set_cons_succ, List.setIfInBounds_toArray] at H)
    | ((with_reducible show wpList _ _ _ (⟨_, .load _ _, _, _, _, _⟩ :: _) _ _); refine mem_loadf (i := 0) H (by first | exact wanted_none rfl | exact wanted_some rfl rfl rfl rfl) (by exact rfl) (by exact rfl) (by exact rfl) (by first | exact Try.underlying32 | exact Try.underlying3 | exact Try.underlying41) rfl (by exact rfl) ?_))
    go_ret
    exact ⟨by simp [h1] <;> omega, H.below⟩
set_option maxHeartbeats 2000000 in
theorem bytesOf_p (A : Option Addr) (n c : Nat) (l : List PV) (W : World) (hQ : Que W (.slice A n c) l) (hn : l.length = n) (h5 : n ≤ 5000) (hf : ∀ p, p ∈ l → p.Fits) : Calls Try.prog 36 #[.slice A n c] W fun e w' => e = .returned (.int .i64 (bytes l)) ∧ Below W.heap.size W w' := by
  have H := Mem.start W
  have HQ := Lib.hid hQ
  have HN := Lib.hid hn
  have HF := Lib.hid hf
  clear hQ hn hf
  go_enter Try.func36, Try.ntmps36
  go_wp2
  go_loopw [3, 8] (fun s i wr => ∃ k : Nat, k ≤ n ∧ i = .int .i64 k ∧ s = .int .i64 (bytes (l.take k)) ∧ Mem W wr []) (fun _ i _ => n - (intOf i).toNat)
  case atStart => exact ⟨0, Nat.zero_le _, rfl, rfl, H⟩
  case round =>
    clear H
    obtain ⟨k, hk, rfl, rfl, H⟩ := hrel
    by_cases hlt : k < n
    · obtain ⟨y, hy⟩ : ∃ y, l[k]? = some y := ⟨l[k]'(by have := HN.out; omega), List.getElem?_eq_getElem _⟩
      obtain ⟨g, off, hA, hg, hc⟩ := HQ.out.at hy
      have r0 := range9 hc
      have r1 : wr.rangeAt g (off + k * 9) (pvCs y) := fun j v hv => (H.old (p := ⟨g, off + k * 9 + j, none⟩) hg).trans (r0 j v hv)
      have HB := Lib.hid (bytes_take hy)
      have hb1 : -1 ≤ bytes (l.take k) ∧ bytes (l.take k) ≤ 5000 * 4294967295 := bytes_bd HF.out hk h5
      have hy2 := (HF.out y (List.mem_of_getElem? hy)).len
      obtain ⟨S, hS⟩ : ∃ S, bytes (l.take k) = S := ⟨_, rfl⟩
      rw [hS] at hb1
      have HB2 := Lib.hid (HB.out.trans (by rw [hS]))
      have HS := Lib.hid hS
      rw [hS]
      subst hA
      clear hS HB hy hc r0
      go_wp2_with (first
    | go_skip
    | go_skip
    | ((with_reducible show wpList _ _ _ (⟨_, .load 37 _, _, _, _, _⟩ :: _) _ _); refine wpList_load_mid rfl 37 (.tmp 10) rfl g (off + k * 9) rfl (pvCs y) _ r1 Try.underlying37 rfl pkInfo ?_)
    | ((with_reducible show wpList _ _ _ _ _ (World.alloc _ (.cells _ _))); refine mem_new H ?_; intro w2 H2; clear H; have H := H2; clear H2; simp only [List.cons_append, List.nil_append, List.set_cons_zero, List.set_cons_succ, List.setIfInBounds_toArray] at H)
    | ((with_reducible show wpList _ _ _ (⟨_, .store 37 _ _, _, _, _, _⟩ :: _) _ _); refine mem_store (i := 0) H (by first | exact wanted_none rfl | exact wanted_some rfl rfl rfl rfl) (by exact rfl) (by exact rfl) (by exact rfl) (by exact rfl) (by exact pkInfo) (by exact rfl) (by exact rfl) ?_; intro w2 H2; clear H; have H := H2; clear H2; simp only [List.cons_append, List.nil_append, List.set_cons_zero, List.set_cons_succ, List.setIfInBounds_toArray] at H)
    | ((with_reducible show wpList _ _ _ (⟨_, .load _ _, _, _, _, _⟩ :: _) _ _); refine mem_loadf (i := 0) H (by first | exact wanted_none rfl | exact wanted_some rfl rfl rfl rfl) (by exact rfl) (by exact rfl) (by exact rfl) (by first | exact Try.underlying32 | exact Try.underlying3 | exact Try.underlying41) rfl (by exact rfl) ?_))
      go_roundw
      case rel => exact ⟨k + 1, by omega, by go_num, by rw [HB2.out], H.drop 0⟩
      case measure => simp [intOf]; omega
    · obtain rfl : k = n := by omega
      go_wp2
      go_ret
      exact ⟨by rw [List.take_of_length_le (by have := HN.out; omega)]; rfl, H.below⟩
theorem trimmed_p (A : Option Addr) (n c : Nat) (hnc : n ≤ c) (hc : c ≤ maxLen) (w : World) : Calls Try.prog 38 #[.slice A n c] w fun e w' => e = .returned (.slice A n n) ∧ Below w.heap.size w w' := by
  have H := Mem.start w
  unfold maxLen at hc
  go_enter Try.func38, Try.ntmps38
  go_wp2
  go_ret
  exact ⟨rfl, H.below⟩
theorem wo_le (k : Nat) (A1 A2 : Option Addr) (n1 n2 a1 a2 : Nat) (hk : k ≤ n1) (h1 : n1 ≤ a1) (ha1 : a1 ≤ maxLen) (w : World) : Calls Try.prog 35 #[.int .i64 k, .slice A1 n1 a1, .slice A2 n2 a2] w fun e w' => e = .returned (.tuple #[.slice A1 (n1 - k) a1, .slice A2 n2 a2]) ∧ Below w.heap.size w w' := by
  have H := Mem.start w
  unfold maxLen at ha1
  go_enter Try.func35, Try.ntmps35
  go_wp2
  refine bodyPost_ret (results_two rfl _ _ _) rfl ?_
  exact ⟨rfl, H.below⟩
theorem wo_mid (k j : Nat) (A1 : Option Addr) (g off n1 n2 a1 a2 : Nat) (hj : k = n1 + j) (hj1 : 1 ≤ j) (hj2 : j ≤ n2) (hc : j < a2) (h1 : n1 ≤ a1) (ha1 : a1 ≤ maxLen) (h2 : n2 ≤ a2) (ha2 : a2 ≤ maxLen) (w : World) : Calls Try.prog 35 #[.int .i64 k, .slice A1 n1 a1, .slice (some ⟨g, off, none⟩) n2 a2] w fun e w' => e = .returned (.tuple #[.slice A1 0 a1, .slice (some ⟨g, off + j * 9, none⟩) (n2 - j) (a2 - j)]) ∧ Below w.heap.size w w' := by
  have H := Mem.start w
  unfold maxLen at ha1 ha2
  have w1 : IntKind.i64.wrap ((k : Int) - (n1 : Int)) = (j : Int) := by rw [wrap_id (by omega) (by omega)]; omega
  have t1 : decide ((k : Int) ≤ (n1 : Int)) = false := decide_eq_false (by omega)
  have hlt : n1 < k := by omega
  have hlt2 : ¬ (k : Int) ≤ (n1 : Int) := by omega
  clear hj
  go_enter Try.func35, Try.ntmps35
  go_upto_region 3 with (fail)
  refine region_mem H 10 rfl (by kernel_rfl) (fun wr hS => ?_)
  clear H
  refine wpAnyR_take (i := 0) (v := .slice A1 n1 a1) rfl rfl (by kernel_rfl) (by kernel_rfl) (by kernel_rfl) (fun _ _ _ h => h) (Nat.le_refl _) ⟨by rfl, fun w _ => (by go_simp; try (first | (simp only [IntKind.wrap_u32]; done) | rfl)), fun _ => rfl⟩ hS ?_
  simp only [List.getElem_toArray, List.getElem_cons_zero, List.getElem_cons_succ, Act.put, List.setIfInBounds_toArray, List.set_cons_zero, List.set_cons_succ]
  refine wpAnyR_take (i := 1) (v := .slice A1 0 a1) rfl rfl (by kernel_rfl) (by kernel_rfl) (by kernel_rfl) (fun _ _ _ h => h) (Nat.le_refl _) ⟨by rfl, fun w _ => (by go_simp; try (first | (simp only [IntKind.wrap_u32]; done) | rfl)), fun _ => rfl⟩ hS ?_
  simp only [List.getElem_toArray, List.getElem_cons_zero, List.getElem_cons_succ, Act.put, List.setIfInBounds_toArray, List.set_cons_zero, List.set_cons_succ]
  refine wpAnyR_take (i := 2) (v := .slice (some ⟨g, off, none⟩) n2 a2) rfl rfl (by kernel_rfl) (by kernel_rfl) (by kernel_rfl) (fun _ _ _ h => h) (Nat.le_refl _) ⟨by rfl, fun w _ => (by go_simp; try (first | (simp only [IntKind.wrap_u32]; done) | rfl)), fun _ => rfl⟩ hS ?_
  simp only [List.getElem_toArray, List.getElem_cons_zero, List.getElem_cons_succ, Act.put, List.setIfInBounds_toArray, List.set_cons_zero, List.set_cons_succ]
  refine wpAnyR_take (i := 3) (v := .int .i64 k) rfl rfl (by kernel_rfl) (by kernel_rfl) (by kernel_rfl) (fun _ _ _ h => h) (Nat.le_refl _) ⟨by rfl, fun w _ => (by go_simp; try (first | (simp only [IntKind.wrap_u32]; done) | rfl)), fun _ => rfl⟩ hS ?_
  simp only [List.getElem_toArray, List.getElem_cons_zero, List.getElem_cons_succ, Act.put, List.setIfInBounds_toArray, List.set_cons_zero, List.set_cons_succ]
  refine wpAnyR_take (i := 4) (v := .slice A1 n1 a1) rfl rfl (by kernel_rfl) (by kernel_rfl) (by kernel_rfl) (fun _ _ _ h => h) (Nat.le_refl _) ⟨by rfl, fun w _ => (by go_simp; try (first | (simp only [IntKind.wrap_u32]; done) | rfl)), fun _ => rfl⟩ hS ?_
  simp only [List.getElem_toArray, List.getElem_cons_zero, List.getElem_cons_succ, Act.put, List.setIfInBounds_toArray, List.set_cons_zero, List.set_cons_succ]
  refine wpAnyR_take (i := 5) (v := .int .i64 n1) rfl rfl (by kernel_rfl) (by kernel_rfl) (by kernel_rfl) (fun _ _ _ h => h) (Nat.le_refl _) ⟨by rfl, fun w _ => (by go_simp; try (first | (simp only [IntKind.wrap_u32]; done) | rfl)), fun _ => rfl⟩ hS ?_
  simp only [List.getElem_toArray, List.getElem_cons_zero, List.getElem_cons_succ, Act.put, List.setIfInBounds_toArray, List.set_cons_zero, List.set_cons_succ]
  refine wpAnyR_take (i := 6) (v := .int .i64 j) rfl rfl (by kernel_rfl) (by kernel_rfl) (by kernel_rfl) (fun _ _ _ h => h) (Nat.le_refl _) ⟨by rfl, fun w _ => (by go_simp; try (first | (simp only [IntKind.wrap_u32]; done) | rfl | exact w1)), fun _ => rfl⟩ hS ?_
  simp only [List.getElem_toArray, List.getElem_cons_zero, List.getElem_cons_succ, Act.put, List.setIfInBounds_toArray, List.set_cons_zero, List.set_cons_succ]
  refine wpAnyR_take (i := 7) (v := .slice (some ⟨g, off + j * 9, none⟩) (n2 - j) (a2 - j)) rfl rfl (by kernel_rfl) (by kernel_rfl) (by kernel_rfl) (fun _ _ _ h => h) (Nat.le_refl _) ⟨by rfl, fun w _ => (by go_simp; try (first | (simp only [IntKind.wrap_u32]; done) | rfl | (simp; done) | omega | (simp; omega))), fun _ => rfl⟩ hS ?_
  simp only [List.getElem_toArray, List.getElem_cons_zero, List.getElem_cons_succ, Act.put, List.setIfInBounds_toArray, List.set_cons_zero, List.set_cons_succ]
  refine wpAnyG_one (i := 8) (by kernel_rfl) rfl (fun K hK => ?_)
  go_simp
  refine hK _ _ (.inr hS) ?_
  clear hK K
  refine wpAnyG_one (i := 9) (by kernel_rfl) rfl (fun K hK => ?_)
  go_simp
  refine hK _ _ (.inr hS) ?_
  clear hK K
  refine wpAnyG_done (by kernel_rfl) ?_ _
  have H := hS
  clear hS
  go_wp2
  refine bodyPost_ret (results_two rfl _ _ _) rfl ?_
  exact ⟨rfl, H.below⟩
theorem wo_end (k j : Nat) (A1 : Option Addr) (g off n1 n2 a1 a2 : Nat) (hj : k = n1 + j) (hj1 : 1 ≤ j) (hj2 : j ≤ n2) (hc : j = a2) (h1 : n1 ≤ a1) (ha1 : a1 ≤ maxLen) (h2 : n2 ≤ a2) (ha2 : a2 ≤ maxLen) (w : World) : Calls Try.prog 35 #[.int .i64 k, .slice A1 n1 a1, .slice (some ⟨g, off, none⟩) n2 a2] w fun e w' => e = .returned (.tuple #[.slice A1 0 a1, .slice (some ⟨g, off, none⟩) 0 0]) ∧ Below w.heap.size w w' := by
  have H := Mem.start w
  unfold maxLen at ha1 ha2
  have w1 : IntKind.i64.wrap ((k : Int) - (n1 : Int)) = (j : Int) := by rw [wrap_id (by omega) (by omega)]; omega
  have t1 : decide ((k : Int) ≤ (n1 : Int)) = false := decide_eq_false (by omega)
  have hlt : n1 < k := by omega
  have hlt2 : ¬ (k : Int) ≤ (n1 : Int) := by omega
  clear hj
  obtain rfl : n2 = j := by omega
  obtain rfl : n2 = a2 := hc
  go_enter Try.func35, Try.ntmps35
  go_upto_region 3 with (fail)
  refine region_mem H 10 rfl (by kernel_rfl) (fun wr hS => ?_)
  clear H
  refine wpAnyR_take (i := 0) (v := .slice A1 n1 a1) rfl rfl (by kernel_rfl) (by kernel_rfl) (by kernel_rfl) (fun _ _ _ h => h) (Nat.le_refl _) ⟨by rfl, fun w _ => (by go_simp; try (first | (simp only [IntKind.wrap_u32]; done) | rfl)), fun _ => rfl⟩ hS ?_
  simp only [List.getElem_toArray, List.getElem_cons_zero, List.getElem_cons_succ, Act.put, List.setIfInBounds_toArray, List.set_cons_zero, List.set_cons_succ]
  refine wpAnyR_take (i := 1) (v := .slice A1 0 a1) rfl rfl (by kernel_rfl) (by kernel_rfl) (by kernel_rfl) (fun _ _ _ h => h) (Nat.le_refl _) ⟨by rfl, fun w _ => (by go_simp; try (first | (simp only [IntKind.wrap_u32]; done) | rfl)), fun _ => rfl⟩ hS ?_
  simp only [List.getElem_toArray, List.getElem_cons_zero, List.getElem_cons_succ, Act.put, List.setIfInBounds_toArray, List.set_cons_zero, List.set_cons_succ]
  refine wpAnyR_take (i := 2) (v := .slice (some ⟨g, off, none⟩) n2 n2) rfl rfl (by kernel_rfl) (by kernel_rfl) (by kernel_rfl) (fun _ _ _ h => h) (Nat.le_refl _) ⟨by rfl, fun w _ => (by go_simp; try (first | (simp only [IntKind.wrap_u32]; done) | rfl)), fun _ => rfl⟩ hS ?_
  simp only [List.getElem_toArray, List.getElem_cons_zero, List.getElem_cons_succ, Act.put, List.setIfInBounds_toArray, List.set_cons_zero, List.set_cons_succ]
  refine wpAnyR_take (i := 3) (v := .int .i64 k) rfl rfl (by kernel_rfl) (by kernel_rfl) (by kernel_rfl) (fun _ _ _ h => h) (Nat.le_refl _) ⟨by rfl, fun w _ => (by go_simp; try (first | (simp only [IntKind.wrap_u32]; done) | rfl)), fun _ => rfl⟩ hS ?_
  simp only [List.getElem_toArray, List.getElem_cons_zero, List.getElem_cons_succ, Act.put, List.setIfInBounds_toArray, List.set_cons_zero, List.set_cons_succ]
  refine wpAnyR_take (i := 4) (v := .slice A1 n1 a1) rfl rfl (by kernel_rfl) (by kernel_rfl) (by kernel_rfl) (fun _ _ _ h => h) (Nat.le_refl _) ⟨by rfl, fun w _ => (by go_simp; try (first | (simp only [IntKind.wrap_u32]; done) | rfl)), fun _ => rfl⟩ hS ?_
  simp only [List.getElem_toArray, List.getElem_cons_zero, List.getElem_cons_succ, Act.put, List.setIfInBounds_toArray, List.set_cons_zero, List.set_cons_succ]
  refine wpAnyR_take (i := 5) (v := .int .i64 n1) rfl rfl (by kernel_rfl) (by kernel_rfl) (by kernel_rfl) (fun _ _ _ h => h) (Nat.le_refl _) ⟨by rfl, fun w _ => (by go_simp; try (first | (simp only [IntKind.wrap_u32]; done) | rfl)), fun _ => rfl⟩ hS ?_
  simp only [List.getElem_toArray, List.getElem_cons_zero, List.getElem_cons_succ, Act.put, List.setIfInBounds_toArray, List.set_cons_zero, List.set_cons_succ]
  refine wpAnyR_take (i := 6) (v := .int .i64 n2) rfl rfl (by kernel_rfl) (by kernel_rfl) (by kernel_rfl) (fun _ _ _ h => h) (Nat.le_refl _) ⟨by rfl, fun w _ => (by go_simp; try (first | (simp only [IntKind.wrap_u32]; done) | rfl | exact w1)), fun _ => rfl⟩ hS ?_
  simp only [List.getElem_toArray, List.getElem_cons_zero, List.getElem_cons_succ, Act.put, List.setIfInBounds_toArray, List.set_cons_zero, List.set_cons_succ]
  refine wpAnyR_take (i := 7) (v := .slice (some ⟨g, off, none⟩) 0 0) rfl rfl (by kernel_rfl) (by kernel_rfl) (by kernel_rfl) (fun _ _ _ h => h) (Nat.le_refl _) ⟨by rfl, fun w _ => (by go_simp; try (first | (simp only [IntKind.wrap_u32]; done) | rfl | (simp; done) | omega | (simp; omega))), fun _ => rfl⟩ hS ?_
  simp only [List.getElem_toArray, List.getElem_cons_zero, List.getElem_cons_succ, Act.put, List.setIfInBounds_toArray, List.set_cons_zero, List.set_cons_succ]
  refine wpAnyG_one (i := 8) (by kernel_rfl) rfl (fun K hK => ?_)
  go_simp
  refine hK _ _ (.inr hS) ?_
  clear hK K
  refine wpAnyG_one (i := 9) (by kernel_rfl) rfl (fun K hK => ?_)
  go_simp
  refine hK _ _ (.inr hS) ?_
  clear hK K
  refine wpAnyG_done (by kernel_rfl) ?_ _
  have H := hS
  clear hS
  go_wp2
  refine bodyPost_ret (results_two rfl _ _ _) rfl ?_
  exact ⟨rfl, H.below⟩
end Go.Proofs.Ytlnlkodpndjimaa.Fi
end
/- The program's exceeded, admit, limitsOf and New of fifos; where a fifo lies. Conditions: the cells hold what is named. -/
section
namespace Go.Proofs.Ytlnlkodpndjimaa.Fi
set_option linter.unusedSimpArgs false
set_option linter.unusedVariables false
set_option maxRecDepth 100000
open Go.ChangeShapes Go.WideShapes Go.ChangeAt Go.RowKit

theorem limInfo : (Try.prog.info? 58).map (·.size) = some 2 := by kernel_rfl
theorem exc_p (p : Nat) (n b k h : Int) (w : World) (c0 : w.cell? ⟨p, 0, none⟩ = some (.int .i64 n)) (c1 : w.cell? ⟨p, 1, none⟩ = some (.int .i64 b)) : Calls Try.prog 45 #[.pointer (some ⟨p, 0, none⟩), .int .i64 k, .int .i64 h] w fun e w' => e = .returned (.bool (decide (n < k) || decide (b < h))) ∧ Below w.heap.size w w' := by
  have H := Mem.start w
  by_cases h1 : n < k
  · rw [decide_eq_true h1, Bool.true_or]
    have t1 : decide (k > n) = true := decide_eq_true h1
    go_enter Try.func45, Try.ntmps45
    go_wp2
    go_ret
    exact ⟨rfl, H.below⟩
  · rw [decide_eq_false h1, Bool.false_or]
    have t1 : decide (k > n) = false := decide_eq_false h1
    by_cases h2 : b < h
    · rw [decide_eq_true h2]
      have t2 : decide (h > b) = true := decide_eq_true h2
      go_enter Try.func45, Try.ntmps45
      go_wp2
      go_ret
      exact ⟨rfl, H.below⟩
    · rw [decide_eq_false h2]
      have t2 : decide (h > b) = false := decide_eq_false h2
      go_enter Try.func45, Try.ntmps45
      go_wp2
      go_ret
      exact ⟨rfl, H.below⟩
theorem admit_p (p : Nat) (n b k h m E : Int) (hE : (if n ≤ k then 100 else if b < h + m then 101 else 0) = E) (hb : 0 ≤ b ∧ b ≤ 1073741824) (hh : 0 ≤ h ∧ h ≤ 5000 * 4294967295) (w : World) (c0 : w.cell? ⟨p, 0, none⟩ = some (.int .i64 n)) (c1 : w.cell? ⟨p, 1, none⟩ = some (.int .i64 b)) : Calls Try.prog 40 #[.pointer (some ⟨p, 0, none⟩), .int .i64 k, .int .i64 h, .int .i64 m] w fun e w' => e = .returned (.int .i64 E) ∧ Below w.heap.size w w' := by
  have H := Mem.start w
  have w1 : IntKind.i64.wrap (b - h) = b - h := wrap_id (by omega) (by omega)
  by_cases h1 : n ≤ k
  · rw [if_pos h1] at hE
    subst hE
    have t1 : decide (k ≥ n) = true := decide_eq_true h1
    go_enter Try.func40, Try.ntmps40
    go_wp2
    go_ret
    exact ⟨rfl, H.below⟩
  · rw [if_neg h1] at hE
    have t1 : decide (k ≥ n) = false := decide_eq_false h1
    by_cases h2 : b < h + m
    · rw [if_pos h2] at hE
      subst hE
      have t2 : decide (m > b - h) = true := decide_eq_true (by omega)
      go_enter Try.func40, Try.ntmps40
      go_wp2
      go_ret
      exact ⟨rfl, H.below⟩
    · rw [if_neg h2] at hE
      subst hE
      have t2 : decide (m > b - h) = false := decide_eq_false (by omega)
      go_enter Try.func40, Try.ntmps40
      go_wp2
      go_ret
      exact ⟨rfl, H.below⟩
theorem okN_and (n b : Int) : okN n b = ((decide (1 ≤ n) && decide (n ≤ 1000)) && (decide (1 ≤ b) && decide (b ≤ 1073741824))) := by simp [okN, Bool.and_assoc]
theorem limOf_no (n b : Int) (h : okN n b = false) (w : World) : Calls Try.prog 25 #[.int .i64 n, .int .i64 b] w fun e w' => e = .returned (.tuple #[.agg #[.int .i64 0, .int .i64 0], .int .i64 2]) ∧ Below w.heap.size w w' := by
  have H := Mem.start w
  rw [okN_and] at h
  cases h1 : (decide (1 ≤ n) && decide (n ≤ 1000)) with
  | false =>
    have k1 := btw_p 1 1000 n _ h1
    clear h h1
    go_enter Try.func25, Try.ntmps25
    go_wp2_with (first
    | go_skip
    | go_skip
    | ((with_reducible show wpList _ _ _ _ _ (World.alloc _ (.cells _ _))); refine mem_new H ?_; intro w2 H2; clear H; have H := H2; clear H2; simp only [List.cons_append, List.nil_append, List.set_cons_zero, List.set_cons_succ, List.setIfInBounds_toArray] at H)
    | (go_at_call 42; refine (k1 _).mono ?_; rintro e w2 ⟨rfl, hb⟩; have H2 := H.call hb; clear H hb; have H := H2; clear H2)
    | ((with_reducible show wpList _ _ _ (⟨_, .store 58 _ _, _, _, _, _⟩ :: _) _ _); refine mem_store (i := 0) H (by first | exact wanted_none rfl | exact wanted_some rfl rfl rfl rfl) (by exact rfl) (by exact rfl) (by exact rfl) (by exact rfl) (by exact limInfo) (by exact rfl) (by exact rfl) ?_; intro w2 H2; clear H; have H := H2; clear H2; simp only [List.cons_append, List.nil_append, List.set_cons_zero, List.set_cons_succ, List.setIfInBounds_toArray] at H))
    refine bodyPost_ret (results_ct rfl rfl (run_loadVar_row _ _ _ _ _ (0, 0) _ (H.at 0 rfl) Try.underlying58 rfl limInfo)) rfl ?_
    exact ⟨rfl, H.below⟩
  | true =>
    rw [h1, Bool.true_and] at h
    have k1 := btw_p 1 1000 n _ h1
    have k2 := btw_p 1 1073741824 b _ h
    clear h h1
    go_enter Try.func25, Try.ntmps25
    go_upto_region 1 with (first | ((with_reducible show wpList _ _ _ _ _ (World.alloc _ (.cells _ _))); refine mem_new H ?_; intro w2 H2; clear H; have H := H2; clear H2; simp only [List.cons_append, List.nil_append, List.set_cons_zero, List.set_cons_succ, List.setIfInBounds_toArray] at H))
    go_wp2_with (first
    | go_skip
    | go_skip
    | (go_at_call 42; refine (k1 _).mono ?_; rintro e w2 ⟨rfl, hb⟩; have H2 := H.call hb; clear H hb k1; have H := H2; clear H2)
    | (go_at_call 42; refine (k2 _).mono ?_; rintro e w2 ⟨rfl, hb⟩; have H2 := H.call hb; clear H hb; have H := H2; clear H2)
    | ((with_reducible show wpList _ _ _ (⟨_, .store 58 _ _, _, _, _, _⟩ :: _) _ _); refine mem_store (i := 0) H (by first | exact wanted_none rfl | exact wanted_some rfl rfl rfl rfl) (by exact rfl) (by exact rfl) (by exact rfl) (by exact rfl) (by exact limInfo) (by exact rfl) (by exact rfl) ?_; intro w2 H2; clear H; have H := H2; clear H2; simp only [List.cons_append, List.nil_append, List.set_cons_zero, List.set_cons_succ, List.setIfInBounds_toArray] at H))
    refine bodyPost_ret (results_ct rfl rfl (run_loadVar_row _ _ _ _ _ (0, 0) _ (H.at 0 rfl) Try.underlying58 rfl limInfo)) rfl ?_
    exact ⟨rfl, H.below⟩
theorem limOf_yes (n b : Int) (h : okN n b = true) (w : World) : Calls Try.prog 25 #[.int .i64 n, .int .i64 b] w fun e w' => e = .returned (.tuple #[.agg #[.int .i64 n, .int .i64 b], .int .i64 0]) ∧ Below w.heap.size w w' := by
  have H := Mem.start w
  rw [okN_and, Bool.and_eq_true] at h
  have k1 := btw_p 1 1000 n _ h.1
  have k2 := btw_p 1 1073741824 b _ h.2
  clear h
  go_enter Try.func25, Try.ntmps25
  go_upto_region 1 with (first | ((with_reducible show wpList _ _ _ _ _ (World.alloc _ (.cells _ _))); refine mem_new H ?_; intro w2 H2; clear H; have H := H2; clear H2; simp only [List.cons_append, List.nil_append, List.set_cons_zero, List.set_cons_succ, List.setIfInBounds_toArray] at H))
  go_wp2_with (first
    | go_skip
    | go_skip
    | (go_at_call 42; refine (k1 _).mono ?_; rintro e w2 ⟨rfl, hb⟩; have H2 := H.call hb; clear H hb k1; have H := H2; clear H2)
    | (go_at_call 42; refine (k2 _).mono ?_; rintro e w2 ⟨rfl, hb⟩; have H2 := H.call hb; clear H hb; have H := H2; clear H2)
    | ((with_reducible show wpList _ _ _ (⟨_, .store 58 _ _, _, _, _, _⟩ :: _) _ _); refine mem_store (i := 0) H (by first | exact wanted_none rfl | exact wanted_some rfl rfl rfl rfl) (by exact rfl) (by exact rfl) (by exact rfl) (by exact rfl) (by exact limInfo) (by exact rfl) (by exact rfl) ?_; intro w2 H2; clear H; have H := H2; clear H2; simp only [List.cons_append, List.nil_append, List.set_cons_zero, List.set_cons_succ, List.setIfInBounds_toArray] at H))
  refine bodyPost_ret (results_ct rfl rfl (run_loadVar_row _ _ _ _ _ (0, 0) _ (H.at 0 rfl) Try.underlying58 rfl limInfo)) rfl ?_
  exact ⟨rfl, H.below⟩
/-- cut at the beginning -/
theorem Que.drop {W : World} {g off n c : Nat} {l : List PV} (h : Que W (.slice (some ⟨g, off, none⟩) n c) l) {j : Nat} (hj : j ≤ l.length) : (j < c → Que W (.slice (some ⟨g, off + j * 9, none⟩) (n - j) (c - j)) (l.drop j)) ∧ (j = c → Que W (.slice (some ⟨g, off, none⟩) 0 0) (l.drop j)) := by
  rcases h with ⟨e, _⟩ | ⟨g', off', cap, cs, e, h1, h2, h3, h4, h5⟩
  · cases e
  · cases e
    have hl : (l.drop j).length = l.length - j := List.length_drop
    constructor
    · intro hc
      refine .inr ⟨g, off + j * 9, c - j, cs, by rw [hl], h1, by omega, by omega, by omega, fun i u hi => ?_⟩
      have hp : (pvs (l.take j)).length = j * 9 := by rw [pvs_len, List.length_take]; omega
      have := h5 (j * 9 + i) u (by
        rw [← List.take_append_drop j l, pvs_append, List.getElem?_append_right (by omega), hp, Nat.add_sub_cancel_left]
        exact hi)
      rwa [← Nat.add_assoc] at this
    · intro hc
      have e0 : l.drop j = [] := List.drop_of_length_le (by omega)
      rw [e0]
      exact .inr ⟨g, off, 0, cs, rfl, h1, by simp, by omega, by omega, fun i u hi => by simp [pvs] at hi⟩
/-- without the room behind it -/
theorem Que.trim {W : World} {A : Option Addr} {n c : Nat} {l : List PV} (h : Que W (.slice A n c) l) : Que W (.slice A n n) l := by
  rcases h with ⟨e, rfl⟩ | ⟨g, off, cap, cs, e, h1, h2, h3, h4, h5⟩
  · cases e
    exact .inl ⟨rfl, rfl⟩
  · cases e
    refine .inr ⟨g, off, l.length, cs, rfl, h1, Nat.le_refl _, by omega, ?_, h5⟩
    have : l.length * 9 ≤ c * 9 := Nat.mul_le_mul_right _ h2
    omega
/-- a slice of one packet that was just laid -/
theorem Que.one {W : World} {g : Nat} {q : PV} (h : Held W g 37 (pvCs q).toArray) : Que W (.slice (some ⟨g, 0, none⟩) 1 1) [q] :=
  .inr ⟨g, 0, 1, _, rfl, h, Nat.le_refl _, by decide, by simp, fun j u hj => by rw [pvs_one] at hj; simpa using hj⟩
/-- the two slices of a fifo, and what they hold -/
structure QParts where
  vb : Value
  vu : Value
  B : List PV
  U : List PV
/-- a fifo lies at block p -/
structure QAt (W : World) (own : Nat → Prop) (p : Nat) (s : FF) (N : Nat) (x : QParts) : Prop where
  box : Held W p 62 #[.int .i64 s.n, .int .i64 s.b, x.vb, x.vu, .int .i64 (Fi.bytes s.l)]
  rb : Que W x.vb x.B
  ru : Que W x.vu x.U
  eq : s.l = x.B.reverse ++ x.U
  op : own p
  ob : ∀ i, qb x.vb i → own i ∧ i ≠ p
  ou : ∀ i, qb x.vu i → own i ∧ i ≠ p
  sep : ∀ i, qb x.vb i → ¬ qb x.vu i
  lt : ∀ i, own i → i < W.heap.size
  len : s.l.length ≤ N
  ok : okN s.n s.b = true
  fits : ∀ q, q ∈ s.l → q.Fits
  sz : Sz s.l
def PAt10 : PT := fun W own p s N => ∃ x, QAt W own p s N x
section
variable {W W' : World} {own : Nat → Prop} {p : Nat} {s : FF} {N : Nat} {x : QParts}
theorem QAt.on (h : QAt W own p s N x) (hs : ∀ i, own i → W'.heap[i]? = W.heap[i]?) (hz : W.heap.size ≤ W'.heap.size) : QAt W' own p s N x :=
  { h with
    box := (hs p h.op).trans h.box
    rb := h.rb.on fun i hi => hs i (h.ob i hi).1
    ru := h.ru.on fun i hi => hs i (h.ou i hi).1
    lt := fun i hi => Nat.lt_of_lt_of_le (h.lt i hi) hz }
theorem QAt.below (h : QAt W own p s N x) (hb : Below W.heap.size W W') : QAt W' own p s N x := h.on (fun i hi => hb.block i (h.lt i hi)) hb.size
theorem QAt.mono (h : QAt W own p s N x) {M : Nat} (hM : N ≤ M) : QAt W own p s M x := { h with len := Nat.le_trans h.len hM }
theorem QAt.len2 (h : QAt W own p s N x) : x.B.length + x.U.length = s.l.length := by rw [h.eq]; simp
theorem QAt.nn (h : QAt W own p s N x) : s.n ≠ 0 ∧ 1 ≤ s.n ∧ s.n ≤ 1000 ∧ 1 ≤ s.b ∧ s.b ≤ 1073741824 := by
  have := h.ok
  simp [okN] at this
  omega
/-- what the cells hold, the slices opened -/
theorem QAt.cells (h : QAt W own p s N x) : ∃ A1 a1 A2 a2, x.vb = .slice A1 x.B.length a1 ∧ x.vu = .slice A2 x.U.length a2 ∧ x.B.length ≤ a1 ∧ a1 ≤ maxLen ∧ x.U.length ≤ a2 ∧ a2 ≤ maxLen ∧
    W.cell? ⟨p, 0, none⟩ = some (.int .i64 s.n) ∧ W.cell? ⟨p, 1, none⟩ = some (.int .i64 s.b) ∧ W.cell? ⟨p, 2, none⟩ = some (.slice A1 x.B.length a1) ∧ W.cell? ⟨p, 3, none⟩ = some (.slice A2 x.U.length a2) ∧ W.cell? ⟨p, 4, none⟩ = some (.int .i64 (Fi.bytes s.l)) := by
  obtain ⟨A1, a1, e1, h1, h2⟩ := h.rb.shape
  obtain ⟨A2, a2, e2, h3, h4⟩ := h.ru.shape
  exact ⟨A1, a1, A2, a2, e1, e2, h1, h2, h3, h4, h.box.cell 0, h.box.cell 1, by rw [← e1]; exact h.box.cell 2, by rw [← e2]; exact h.box.cell 3, h.box.cell 4⟩
end
theorem PAt10.pt : PtOk PAt10 := ⟨fun ⟨x, h⟩ h1 h2 => ⟨x, h.on h1 h2⟩, fun ⟨x, h⟩ i hi => h.lt i hi⟩
theorem newP_no (n b : Int) (W : World) (h : okN n b = false) : Calls Try.prog 11 #[.int .i64 n, .int .i64 b] W fun e w' => e = .returned (.tuple #[.pointer none, .int .i64 2]) ∧ Below W.heap.size W w' := by
  have H := Mem.start W
  have k1 := fun w => limOf_no n b h w
  clear h
  go_enter Try.func11, Try.ntmps11
  go_wp2_with (first
    | go_skip
    | go_skip
    | (go_at_call 25; refine (k1 _).mono ?_; rintro e w2 ⟨rfl, hb⟩; have H2 := H.call hb; clear H hb; have H := H2; clear H2)
    | ((with_reducible show wpList _ _ _ _ _ (World.alloc _ (.cells _ _))); refine mem_new H ?_; intro w2 H2; clear H; have H := H2; clear H2; simp only [List.cons_append, List.nil_append, List.set_cons_zero, List.set_cons_succ, List.setIfInBounds_toArray] at H)
    | ((with_reducible show wpList _ _ _ (⟨_, .store 58 _ _, _, _, _, _⟩ :: _) _ _); refine mem_store (i := 0) H (by first | exact wanted_none rfl | exact wanted_some rfl rfl rfl rfl) (by exact rfl) (by exact rfl) (by exact rfl) (by exact rfl) (by exact limInfo) (by exact rfl) (by exact rfl) ?_; intro w2 H2; clear H; have H := H2; clear H2; simp only [List.cons_append, List.nil_append, List.set_cons_zero, List.set_cons_succ, List.setIfInBounds_toArray] at H))
  refine bodyPost_ret (results_two rfl _ _ _) rfl ?_
  exact ⟨rfl, H.below⟩
theorem newP_yes (n b : Int) (W : World) (h : okN n b = true) : Calls Try.prog 11 #[.int .i64 n, .int .i64 b] W (NewF PAt10 W ⟨[], n, b⟩) := by
  have H := Mem.start W
  have HO := Lib.hid h
  have k1 := fun w => limOf_yes n b h w
  clear h
  go_enter Try.func11, Try.ntmps11
  go_upto_region 4 with (first
    | go_skip
    | (go_at_call 25; refine (k1 _).mono ?_; rintro e w2 ⟨rfl, hb⟩; have H2 := H.call hb; clear H hb; have H := H2; clear H2)
    | ((with_reducible show wpList _ _ _ _ _ (World.alloc _ (.cells _ _))); refine mem_new H ?_; intro w2 H2; clear H; have H := H2; clear H2; simp only [List.cons_append, List.nil_append, List.set_cons_zero, List.set_cons_succ, List.setIfInBounds_toArray] at H)
    | ((with_reducible show wpList _ _ _ (⟨_, .store 58 _ _, _, _, _, _⟩ :: _) _ _); refine mem_store (i := 0) H (by first | exact wanted_none rfl | exact wanted_some rfl rfl rfl rfl) (by exact rfl) (by exact rfl) (by exact rfl) (by exact rfl) (by exact limInfo) (by exact rfl) (by exact rfl) ?_; intro w2 H2; clear H; have H := H2; clear H2; simp only [List.cons_append, List.nil_append, List.set_cons_zero, List.set_cons_succ, List.setIfInBounds_toArray] at H))
  go_wp2_with (first
    | go_skip
    | go_skip
    | ((with_reducible show wpList _ _ _ (⟨_, .load 58 _, _, _, _, _⟩ :: _) _ _); refine mem_load (i := 0) H (by first | exact wanted_none rfl | exact wanted_some rfl rfl rfl rfl) (by exact rfl) (by exact rfl) (by exact rfl) Try.underlying58 rfl (by exact limInfo) ?_))
  refine bodyPost_ret (results_two rfl _ _ _) rfl ?_
  have HA := H.alloc 62 #[.int .i64 n, .int .i64 b, .slice none 0 0, .slice none 0 0, .int .i64 0]
  have hh := HA.held _ (List.mem_append_right _ List.mem_cons_self)
  have hb := HA.below
  exact ⟨_, fun i => i = w2.heap.size, rfl, ⟨⟨.slice none 0 0, .slice none 0 0, [], []⟩, ⟨hh.2, .inl ⟨rfl, rfl⟩, .inl ⟨rfl, rfl⟩, rfl, rfl, (fun i hi => by obtain ⟨_, _, _, _, e⟩ := hi; cases e), (fun i hi => by obtain ⟨_, _, _, _, e⟩ := hi; cases e), (fun i hi => by obtain ⟨_, _, _, _, e⟩ := hi; cases e), (fun i e => by rw [e]; exact hh.2.lt), Nat.le_refl _, HO.out, (fun q hq => by cases hq), (fun q hq => by cases hq)⟩⟩, hb, fun i e => by rw [e]; exact hh.1⟩
end Go.Proofs.Ytlnlkodpndjimaa.Fi
end
/- A fifo whose cells are being changed one by one. Conditions: those that each theorem names. -/
section
namespace Go.Proofs.Ytlnlkodpndjimaa.Fi
set_option linter.unusedSimpArgs false
set_option linter.unusedVariables false
set_option maxRecDepth 100000
open Go.ChangeShapes Go.WideShapes Go.ChangeAt Go.RowKit

/-- a fifo at block p, of which the cells are being changed -/
structure QL (W : World) (own : Nat → Prop) (p : Nat) (n b : Int) (x : QParts) (hd : Int) : Prop where
  box : Held W p 62 #[.int .i64 n, .int .i64 b, x.vb, x.vu, .int .i64 hd]
  rb : Que W x.vb x.B
  ru : Que W x.vu x.U
  op : own p
  ob : ∀ i, qb x.vb i → own i ∧ i ≠ p
  ou : ∀ i, qb x.vu i → own i ∧ i ≠ p
  sep : ∀ i, qb x.vb i → ¬ qb x.vu i
  lt : ∀ i, own i → i < W.heap.size
section
variable {W W' W2 : World} {own : Nat → Prop} {p : Nat} {s : FF} {N : Nat} {x : QParts} {n b hd : Int}
theorem QAt.ql (h : QAt W own p s N x) : QL W own p s.n s.b x (Fi.bytes s.l) := ⟨h.box, h.rb, h.ru, h.op, h.ob, h.ou, h.sep, h.lt⟩
theorem QL.at (h : QL W own p s.n s.b x hd) (e : hd = Fi.bytes s.l) (eq : s.l = x.B.reverse ++ x.U) (len : s.l.length ≤ N) (ok : okN s.n s.b = true) (fits : ∀ q, q ∈ s.l → q.Fits) (sz : Sz s.l) : QAt W own p s N x := ⟨e ▸ h.box, h.rb, h.ru, eq, h.op, h.ob, h.ou, h.sep, h.lt, len, ok, fits, sz⟩
theorem QL.on (h : QL W own p n b x hd) (hs : ∀ i, own i → W'.heap[i]? = W.heap[i]?) (hz : W.heap.size ≤ W'.heap.size) : QL W' own p n b x hd :=
  { h with
    box := (hs p h.op).trans h.box
    rb := h.rb.on fun i hi => hs i (h.ob i hi).1
    ru := h.ru.on fun i hi => hs i (h.ou i hi).1
    lt := fun i hi => Nat.lt_of_lt_of_le (h.lt i hi) hz }
theorem QL.below (h : QL W own p n b x hd) (hb : Below W.heap.size W W') : QL W' own p n b x hd := h.on (fun i hi => hb.block i (h.lt i hi)) hb.size
theorem size_setCell (w : World) (a : Addr) (v : Value) : (w.setCell a v).heap.size = w.heap.size := by simp [World.setCell]
/-- its bytes are another -/
theorem QL.setH (h : QL W own p n b x hd) (hd' : Int) : QL (W.setCell ⟨p, 4, none⟩ (.int .i64 hd')) own p n b x hd' ∧ Foot own W (W.setCell ⟨p, 4, none⟩ (.int .i64 hd')) := by
  refine ⟨{ h with box := ?_, rb := h.rb.on fun i hi => block_set _ _ _ _ _ (h.ob i hi).2, ru := h.ru.on fun i hi => block_set _ _ _ _ _ (h.ou i hi).2, lt := fun i hi => ?_ }, (Foot.refl own W).setCell (fun _ => h.op) _⟩
  · have := h.box.set 4 (.int .i64 hd')
    simpa using this
  · rw [size_setCell]
    exact h.lt i hi
/-- its maxima are others -/
theorem QL.setN (h : QL W own p n b x hd) (n' b' : Int) : QL ((W.setCell ⟨p, 0, none⟩ (.int .i64 n')).setCell ⟨p, 1, none⟩ (.int .i64 b')) own p n' b' x hd ∧ Foot own W ((W.setCell ⟨p, 0, none⟩ (.int .i64 n')).setCell ⟨p, 1, none⟩ (.int .i64 b')) := by
  refine ⟨{ h with box := ?_, rb := h.rb.on fun i hi => (block_set _ _ _ _ _ (h.ob i hi).2).trans (block_set _ _ _ _ _ (h.ob i hi).2), ru := h.ru.on fun i hi => (block_set _ _ _ _ _ (h.ou i hi).2).trans (block_set _ _ _ _ _ (h.ou i hi).2), lt := fun i hi => ?_ }, ((Foot.refl own W).setCell (fun _ => h.op) _).setCell (fun _ => h.op) _⟩
  · have := (h.box.set 0 (.int .i64 n')).set 1 (.int .i64 b')
    simpa using this
  · rw [size_setCell, size_setCell]
    exact h.lt i hi
/-- what was put is another row -/
theorem QL.setU (h : QL W own p n b x hd) {v2 : Value} {L2 : List PV} (hF : Foot (qb x.vu) W W2) (hq : Que W2 v2 L2) (hb : ∀ i, qb v2 i → qb x.vu i ∨ W.heap.size ≤ i) :
    QL (W2.setCell ⟨p, 3, none⟩ v2) (fun i => own i ∨ qb v2 i) p n b ⟨x.vb, v2, x.B, L2⟩ hd ∧ Foot own W (W2.setCell ⟨p, 3, none⟩ v2) := by
  have hp := h.box.lt
  have hnp : ¬ qb x.vu p := fun e => (h.ou p e).2 rfl
  have hvp : ∀ i, qb v2 i → i ≠ p := fun i hi e => by
    subst e
    rcases hb i hi with h1 | h1
    · exact hnp h1
    · omega
  have hbx : Held W2 p _ _ := (hF.block p hp hnp).trans h.box
  refine ⟨⟨?_, ?_, ?_, .inl h.op, fun i hi => ⟨.inl (h.ob i hi).1, (h.ob i hi).2⟩, fun i hi => ⟨.inr hi, hvp i hi⟩, fun i h1 h2 => ?_, ?_⟩, ?_⟩
  · have := hbx.set 3 v2
    simpa using this
  · exact h.rb.on fun i hi => (block_set _ _ _ _ _ (h.ob i hi).2).trans (hF.block i (h.rb.lt hi) (h.sep i hi))
  · exact hq.on fun i hi => block_set _ _ _ _ _ (hvp i hi)
  · rcases hb i h2 with e | e
    · exact h.sep i h1 e
    · have := h.rb.lt h1
      omega
  · rintro i (hi | hi)
    · rw [size_setCell]
      exact Nat.lt_of_lt_of_le (h.lt i hi) hF.size
    · rw [size_setCell]
      exact hq.lt hi
  · exact (hF.mono fun i _ hi => (h.ou i hi).1).setCell (fun _ => h.op) v2
/-- what was put back is another row -/
theorem QL.setB (h : QL W own p n b x hd) {v2 : Value} {L2 : List PV} (hF : Foot (qb x.vb) W W2) (hq : Que W2 v2 L2) (hb : ∀ i, qb v2 i → qb x.vb i ∨ W.heap.size ≤ i) :
    QL (W2.setCell ⟨p, 2, none⟩ v2) (fun i => own i ∨ qb v2 i) p n b ⟨v2, x.vu, L2, x.U⟩ hd ∧ Foot own W (W2.setCell ⟨p, 2, none⟩ v2) := by
  have hp := h.box.lt
  have hnp : ¬ qb x.vb p := fun e => (h.ob p e).2 rfl
  have hvp : ∀ i, qb v2 i → i ≠ p := fun i hi e => by
    subst e
    rcases hb i hi with h1 | h1
    · exact hnp h1
    · omega
  have hbx : Held W2 p _ _ := (hF.block p hp hnp).trans h.box
  refine ⟨⟨?_, ?_, ?_, .inl h.op, fun i hi => ⟨.inr hi, hvp i hi⟩, fun i hi => ⟨.inl (h.ou i hi).1, (h.ou i hi).2⟩, fun i h1 h2 => ?_, ?_⟩, ?_⟩
  · have := hbx.set 2 v2
    simpa using this
  · exact hq.on fun i hi => block_set _ _ _ _ _ (hvp i hi)
  · exact h.ru.on fun i hi => (block_set _ _ _ _ _ (h.ou i hi).2).trans (hF.block i (h.ru.lt hi) (fun e => h.sep i e hi))
  · rcases hb i h1 with e | e
    · exact h.sep i e h2
    · have := h.ru.lt h2
      omega
  · rintro i (hi | hi)
    · rw [size_setCell]
      exact Nat.lt_of_lt_of_le (h.lt i hi) hF.size
    · rw [size_setCell]
      exact hq.lt hi
  · exact (hF.mono fun i _ hi => (h.ob i hi).1).setCell (fun _ => h.op) v2
end
/-- what a slice of one packet has -/
theorem bytesOf_one (q : PV) (hq : q.Fits) (w : World) (g : Nat) (hh : Held w g 37 (pvCs q).toArray) : Calls Try.prog 36 #[.slice (some ⟨g, 0, none⟩) 1 1] w fun e w' => e = .returned (.int .i64 q.len) ∧ Below w.heap.size w w' := by
  have := bytesOf_p (some ⟨g, 0, none⟩) 1 1 [q] w (Que.one hh) rfl (by omega) (fun p hp => by rw [List.mem_singleton.1 hp]; exact hq)
  rwa [show Fi.bytes [q] = q.len by simp [Fi.bytes]] at this
end Go.Proofs.Ytlnlkodpndjimaa.Fi
end
