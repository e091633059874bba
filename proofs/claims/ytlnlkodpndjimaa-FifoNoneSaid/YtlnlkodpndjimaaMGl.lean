/-
  The program's Limits of fifos. Conditions: the fifo lies where its pointer says, two thousand packets at most. The program's fifos do what the interface says. Conditions: as the interface says.
-/
import Derived.Test.YtlnlkodpndjimaaMGk
/- The program's Limits of fifos. Conditions: the fifo lies where its pointer says, two thousand packets at most. -/
section
namespace Go.Proofs.Ytlnlkodpndjimaa.Fi
set_option linter.unusedSimpArgs false
set_option linter.unusedVariables false
set_option maxRecDepth 100000
open Go.ChangeShapes Go.WideShapes Go.ChangeAt Go.RowKit

theorem bytes_rev (l : List PV) : Fi.bytes l.reverse = Fi.bytes l := by
  induction l with
  | nil => rfl
  | cons a l ih =>
    rw [List.reverse_cons, bytes_append, bytes_cons, ih]
    simp [Fi.bytes]
    omega
theorem limP_nil (n b : Int) (W : World) : Calls Try.prog 20 #[.pointer none, .int .i64 n, .int .i64 b] W fun e w' => e = .returned (.tuple #[.slice none 0 0, .int .i64 1]) ∧ Below W.heap.size W w' := by
  have H := Mem.start W
  go_enter Try.func20, Try.ntmps20
  go_wp2_with (first
    | go_skip
    | go_skip
    | (go_at_call 33; refine (miss_yes _).mono ?_; rintro e w2 ⟨rfl, hb⟩; have H2 := H.call hb; clear H hb; have H := H2; clear H2))
  refine bodyPost_ret (results_two rfl _ _ _) rfl ?_
  exact ⟨rfl, H.below⟩
theorem limP_no (W : World) (own : Nat → Prop) (p : Nat) (s : FF) (N : Nat) (x : QParts) (h : QAt W own p s N x) (n b : Int) (hok : okN n b = false) : Calls Try.prog 20 #[.pointer (some ⟨p, 0, none⟩), .int .i64 n, .int .i64 b] W fun e w' => e = .returned (.tuple #[.slice none 0 0, .int .i64 2]) ∧ Below W.heap.size W w' := by
  have H := Mem.start W
  have hnn := h.nn
  have km := fun w (hb : Below W.heap.size W w) => miss_no p s.n hnn.1 w ((h.below hb).box.cell 0)
  have k1 := fun w => limOf_no n b hok w
  clear h hok
  go_enter Try.func20, Try.ntmps20
  go_wp2_with (first
    | go_skip
    | go_skip
    | (go_at_call 33; refine (km _ H.below).mono ?_; rintro e w2 ⟨rfl, hb⟩; have H2 := H.call hb; clear H hb; have H := H2; clear H2)
    | (go_at_call 25; refine (k1 _).mono ?_; rintro e w2 ⟨rfl, hb⟩; have H2 := H.call hb; clear H hb; have H := H2; clear H2)
    | ((with_reducible show wpList _ _ _ _ _ (World.alloc _ (.cells _ _))); refine mem_new H ?_; intro w2 H2; clear H; have H := H2; clear H2; simp only [List.cons_append, List.nil_append, List.set_cons_zero, List.set_cons_succ, List.setIfInBounds_toArray] at H)
    | ((with_reducible show wpList _ _ _ (⟨_, .store 58 _ _, _, _, _, _⟩ :: _) _ _); refine mem_store (i := 0) H (by first | exact wanted_none rfl | exact wanted_some rfl rfl rfl rfl) (by exact rfl) (by exact rfl) (by exact rfl) (by exact rfl) (by exact limInfo) (by exact rfl) (by exact rfl) ?_; intro w2 H2; clear H; have H := H2; clear H2; simp only [List.cons_append, List.nil_append, List.set_cons_zero, List.set_cons_succ, List.setIfInBounds_toArray] at H))
  refine bodyPost_ret (results_two rfl _ _ _) rfl ?_
  exact ⟨rfl, H.below⟩
set_option maxHeartbeats 2000000 in
theorem limP_core (W : World) (own : Nat → Prop) (p : Nat) (s : FF) (N : Nat) (x : QParts) (h : QAt W own p s N x) (hN : N ≤ 2000) (n b : Int) (hok : okN n b = true) (kpn k : Nat) (hkp : Fi.kp s.l n b s.l.length = kpn) (hk : s.l.length - kpn = k) (C1 C2 : Option Addr) (m1 d1 m2 d2 : Nat) (L1 L2 : List PV)
    (kw : ∀ w, Calls Try.prog 35 #[.int .i64 k, x.vu, x.vb] w fun e w' => e = .returned (.tuple #[.slice C2 m2 d2, .slice C1 m1 d1]) ∧ Below w.heap.size w w') (hr1 : Que W (.slice C1 m1 d1) L1) (hr2 : Que W (.slice C2 m2 d2) L2) (hs1 : ∀ i, qb (.slice C1 m1 m1) i → qb x.vb i) (hs2 : ∀ i, qb (.slice C2 m2 m2) i → qb x.vu i) (heq : s.l.take kpn = L1.reverse ++ L2)
    (b1 : m1 ≤ d1) (b2 : m2 ≤ d2) (e1 : d1 ≤ maxLen) (e2 : d2 ≤ maxLen) :
    Calls Try.prog 20 #[.pointer (some ⟨p, 0, none⟩), .int .i64 n, .int .i64 b] W (TellsF PAt10 W own p ⟨s.l.take kpn, n, b⟩ N (s.l.drop kpn).reverse (fun v => .tuple #[v, .int .i64 0])) := by
  have H := Mem.start W
  have HD := Lib.hid h
  have hp := h.box.lt
  have hnn := h.nn
  have km := fun w (hb : Below W.heap.size W w) => miss_no p s.n hnn.1 w ((h.below hb).box.cell 0)
  have k1 := fun w => limOf_yes n b hok w
  have hkl : kpn ≤ s.l.length := by rw [← hkp]; exact kp_le _ _ _ _
  have hbd := sum_bd h.sz h.len (by omega)
  obtain ⟨S, hS1⟩ : ∃ S, Fi.bytes s.l = S := ⟨_, rfl⟩
  have HS := Lib.hid hS1
  rw [hS1] at hbd
  obtain ⟨O, hO⟩ : ∃ O, (s.l.drop kpn).reverse = O := ⟨_, rfl⟩
  have hOl : O.length = k := by rw [← hO, List.length_reverse, List.length_drop]; exact hk
  have hOb : Fi.bytes O + Fi.bytes (s.l.take kpn) = S := by
    rw [← hO, bytes_rev, ← hS1]
    conv => rhs; rw [← List.take_append_drop kpn s.l, bytes_append]
    omega
  have hTb := sum_bd (l := s.l.take kpn) (fun z hz => h.sz z (List.mem_of_mem_take hz)) (N := 2000) (by rw [List.length_take]; have := h.len; omega) (by omega)
  obtain ⟨T, hT⟩ : ∃ T, Fi.bytes (s.l.take kpn) = T := ⟨_, rfl⟩
  obtain ⟨Y, hY⟩ : ∃ Y, Fi.bytes O = Y := ⟨_, rfl⟩
  rw [hT] at hTb hOb
  rw [hY] at hOb
  have hOs : Sz O := fun z hz => by rw [← hO, List.mem_reverse] at hz; exact h.sz z (List.mem_of_mem_drop hz)
  have hYb := sum_bd hOs (N := 2000) (by rw [hOl]; have := h.len; omega) (by omega)
  rw [hY] at hYb
  have hOf : ∀ z, z ∈ O → z.Fits := fun z hz => by rw [← hO, List.mem_reverse] at hz; exact h.fits z (List.mem_of_mem_drop hz)
  have hk5 : k ≤ 2000 := by have := h.len; omega
  have w1 : IntKind.i64.wrap (S - Y) = T := by rw [wrap_id (by omega) (by omega)]; omega
  rw [hO]
  have HK := Lib.hid (And.intro hok (And.intro hkp (And.intro hO (And.intro hOl (And.intro hT (And.intro hY (And.intro hOf heq)))))))
  have HR := Lib.hid (And.intro hr1 (And.intro hr2 (And.intro hs1 hs2)))
  have HO5 := Lib.hid (show O.length ≤ 5000 by omega)
  clear h hok hkp hk hS1 hO hOl hT hY hOs hOf heq hr1 hr2 hs1 hs2 hkl hnn
  go_enter Try.func20, Try.ntmps20
  go_upto_region 6 with (first
    | go_skip
    | (go_at_call 33; refine (km _ H.below).mono ?_; rintro e w2 ⟨rfl, hb⟩; have H2 := H.call hb; clear H hb; have H := H2; clear H2)
    | (go_at_call 25; refine (k1 _).mono ?_; rintro e w2 ⟨rfl, hb⟩; have H2 := H.call hb; clear H hb; have H := H2; clear H2)
    | ((with_reducible show wpList _ _ _ _ _ (World.alloc _ (.cells _ _))); refine mem_newb H ?_; intro bl w3 hbk H2; try rw [← hbk]; clear hbk H; have H := H2; clear H2; simp only [List.cons_append, List.nil_append, List.set_cons_zero, List.set_cons_succ, List.setIfInBounds_toArray] at H)
    | ((with_reducible show wpList _ _ _ (⟨_, .store 58 _ _, _, _, _, _⟩ :: _) _ _); refine mem_store (i := 0) H (by first | exact wanted_none rfl | exact wanted_some rfl rfl rfl rfl) (by exact rfl) (by exact rfl) (by exact rfl) (by exact rfl) (by exact limInfo) (by exact rfl) (by exact rfl) ?_; intro w2 H2; clear H; have H := H2; clear H2; simp only [List.cons_append, List.nil_append, List.set_cons_zero, List.set_cons_succ, List.setIfInBounds_toArray] at H))
  clear km k1
  have D6 := HD.out.below H.below
  have HB6 := Lib.hid H.below
  have hp6 := D6.box.lt
  have c0w := D6.box.cell 0
  have c1w := D6.box.cell 1
  have f0w := D6.box.frozen 0
  have f1w := D6.box.frozen 1
  simp only [List.getElem?_toArray, List.getElem?_cons_zero, List.getElem?_cons_succ] at c0w c1w
  have HD6 := Lib.hid D6
  clear D6
  go_upto_region 7 with (first | go_skip | ((with_reducible show wpList _ _ _ (⟨_, .load 58 _, _, _, _, _⟩ :: _) _ _); refine mem_load (i := 0) H (by first | exact wanted_none rfl | exact wanted_some rfl rfl rfl rfl) (by exact rfl) (by exact rfl) (by exact rfl) Try.underlying58 rfl (by exact limInfo) ?_))
  obtain ⟨X1, X2⟩ := HD6.out.ql.setN n b
  have HPW : Foot (· = p) W ((w2.setCell ⟨p, 0, none⟩ (.int .i64 n)).setCell ⟨p, 1, none⟩ (.int .i64 b)) := (Foot.of_below (B := (· = p)) HB6.out).trans' (((Foot.refl (fun i => i = p) w2).setCell (p := ⟨p, 0, none⟩) (fun _ => rfl) (.int .i64 n)).setCell (p := ⟨p, 1, none⟩) (fun _ => rfl) (.int .i64 b))
  generalize ((w2.setCell ⟨p, 0, none⟩ (.int .i64 n)).setCell ⟨p, 1, none⟩ (.int .i64 b)) = W7 at X1 X2 HPW ⊢
  have D7 : QAt W7 own p ⟨s.l, n, b⟩ N x := X1.at (s := ⟨s.l, n, b⟩) rfl HD.out.eq HD.out.len HK.out.1 HD.out.fits HD.out.sz
  have ko := over_q W7 own p ⟨s.l, n, b⟩ N x D7 hN
  simp only [HK.out.2.1, HK.out.2.2.1] at ko
  have HD7 := Lib.hid D7
  have HF7 := Lib.hid ((Foot.of_below (B := own) HB6.out).trans' X2)
  have HX1 := Lib.hid X1
  have HP7 := Lib.hid HPW
  clear H c0w c1w f0w f1w X1 X2 D7 hp6 HPW
  go_upto_region 8 with (first | go_skip | (go_at_call 37; refine ko.mono ?_; rintro e w8 ⟨va, rfl, hqa, hna, hb8⟩; obtain ⟨Ao, co, hva, hoc, _⟩ := hqa.shape; rw [HK.out.2.2.2.1] at hva hoc; subst hva))
  clear ko
  have hlt7 : ∀ i, own i → i < W7.heap.size := HD7.out.lt
  have HA := Lib.hid (show Que w8 (.slice Ao k co) O ∧ (∀ i, qb (.slice Ao k co) i → ¬ own i ∧ W7.heap.size ≤ i) from ⟨hqa, fun i hi => ⟨fun e => by have := hlt7 i e; have := hna i hi; omega, hna i hi⟩⟩)
  have b8 := HX1.out.box.below hb8 HX1.out.box.lt
  have cb := b8.cell 2
  have cu := b8.cell 3
  simp only [List.getElem?_toArray, List.getElem?_cons_zero, List.getElem?_cons_succ] at cb cu
  have hp8 := b8.lt
  have HB8 := Lib.hid b8
  have HF8 := Lib.hid (HF7.out.trans' (Foot.of_below (B := own) hb8))
  have HQ8 := Lib.hid (HX1.out.below hb8)
  have HP8 := Lib.hid (HP7.out.trans' (Foot.of_below (B := (· = p)) hb8))
  have hzz := HF7.out.size
  have HWZ := Lib.hid hzz
  have H := Mem.start w8
  clear hqa hna hb8 b8 hlt7 hzz
  refine region_mem H 16 rfl (by kernel_rfl) (fun wr hS => ?_)
  clear H
  refine wpAnyR_take (i := 0) (v := .slice Ao k co) rfl rfl (by kernel_rfl) (by kernel_rfl) (by kernel_rfl) (fun _ _ _ h => h) (Nat.le_refl _) ⟨by rfl, fun w _ => (by go_simp; try (first | (simp only [IntKind.wrap_u32]; done) | rfl)), fun _ => rfl⟩ hS ?_
  simp only [List.getElem_toArray, List.getElem_cons_zero, List.getElem_cons_succ, Act.put, List.setIfInBounds_toArray, List.set_cons_zero, List.set_cons_succ]
  refine wpAnyR_take (i := 1) (v := .int .i64 k) rfl rfl (by kernel_rfl) (by kernel_rfl) (by kernel_rfl) (fun _ _ _ h => h) (Nat.le_refl _) ⟨by rfl, fun w _ => (by go_simp; try (first | (simp only [IntKind.wrap_u32]; done) | rfl)), fun _ => rfl⟩ hS ?_
  simp only [List.getElem_toArray, List.getElem_cons_zero, List.getElem_cons_succ, Act.put, List.setIfInBounds_toArray, List.set_cons_zero, List.set_cons_succ]
  refine wpAnyR_take (i := 2) (v := .pointer (some ⟨p, 0, none⟩)) rfl rfl (by kernel_rfl) (by kernel_rfl) (by kernel_rfl) (fun _ _ _ h => h) (Nat.le_refl _) ⟨by rfl, fun w _ => (by go_simp; try (first | (simp only [IntKind.wrap_u32]; done) | rfl)), fun _ => rfl⟩ hS ?_
  simp only [List.getElem_toArray, List.getElem_cons_zero, List.getElem_cons_succ, Act.put, List.setIfInBounds_toArray, List.set_cons_zero, List.set_cons_succ]
  refine wpAnyR_take (i := 3) (v := .pointer (some ⟨p, 0, none⟩)) rfl rfl (by kernel_rfl) (by kernel_rfl) (by kernel_rfl) (fun _ _ _ h => h) (Nat.le_refl _) ⟨by rfl, fun w _ => (by go_simp; try (first | (simp only [IntKind.wrap_u32]; done) | rfl)), fun _ => rfl⟩ hS ?_
  simp only [List.getElem_toArray, List.getElem_cons_zero, List.getElem_cons_succ, Act.put, List.setIfInBounds_toArray, List.set_cons_zero, List.set_cons_succ]
  refine wpAnyR_take (i := 4) (v := .pointer (some ⟨p, 3, none⟩)) rfl rfl (by kernel_rfl) (by kernel_rfl) (by kernel_rfl) (fun _ _ _ h => h) (Nat.le_refl _) ⟨by rfl, fun w _ => (by go_simp; try (first | (simp only [IntKind.wrap_u32]; done) | rfl)), fun _ => rfl⟩ hS ?_
  simp only [List.getElem_toArray, List.getElem_cons_zero, List.getElem_cons_succ, Act.put, List.setIfInBounds_toArray, List.set_cons_zero, List.set_cons_succ]
  refine wpAnyR_take (i := 5) (v := x.vu) rfl rfl (by kernel_rfl) (by kernel_rfl) (by kernel_rfl) (fun _ _ _ h => h) (Nat.le_refl _) (yields_old cu hp8 (by exact rfl) (by exact rfl) (by exact rfl) (by first | exact Try.underlying32 | exact Try.underlying3 | exact Try.underlying41) rfl) hS ?_
  simp only [List.getElem_toArray, List.getElem_cons_zero, List.getElem_cons_succ, Act.put, List.setIfInBounds_toArray, List.set_cons_zero, List.set_cons_succ]
  refine wpAnyR_take (i := 6) (v := .pointer (some ⟨p, 0, none⟩)) rfl rfl (by kernel_rfl) (by kernel_rfl) (by kernel_rfl) (fun _ _ _ h => h) (Nat.le_refl _) ⟨by rfl, fun w _ => (by go_simp; try (first | (simp only [IntKind.wrap_u32]; done) | rfl)), fun _ => rfl⟩ hS ?_
  simp only [List.getElem_toArray, List.getElem_cons_zero, List.getElem_cons_succ, Act.put, List.setIfInBounds_toArray, List.set_cons_zero, List.set_cons_succ]
  refine wpAnyR_take (i := 7) (v := .pointer (some ⟨p, 0, none⟩)) rfl rfl (by kernel_rfl) (by kernel_rfl) (by kernel_rfl) (fun _ _ _ h => h) (Nat.le_refl _) ⟨by rfl, fun w _ => (by go_simp; try (first | (simp only [IntKind.wrap_u32]; done) | rfl)), fun _ => rfl⟩ hS ?_
  simp only [List.getElem_toArray, List.getElem_cons_zero, List.getElem_cons_succ, Act.put, List.setIfInBounds_toArray, List.set_cons_zero, List.set_cons_succ]
  refine wpAnyR_take (i := 8) (v := .pointer (some ⟨p, 2, none⟩)) rfl rfl (by kernel_rfl) (by kernel_rfl) (by kernel_rfl) (fun _ _ _ h => h) (Nat.le_refl _) ⟨by rfl, fun w _ => (by go_simp; try (first | (simp only [IntKind.wrap_u32]; done) | rfl)), fun _ => rfl⟩ hS ?_
  simp only [List.getElem_toArray, List.getElem_cons_zero, List.getElem_cons_succ, Act.put, List.setIfInBounds_toArray, List.set_cons_zero, List.set_cons_succ]
  refine wpAnyR_take (i := 9) (v := x.vb) rfl rfl (by kernel_rfl) (by kernel_rfl) (by kernel_rfl) (fun _ _ _ h => h) (Nat.le_refl _) (yields_old cb hp8 (by exact rfl) (by exact rfl) (by exact rfl) (by first | exact Try.underlying32 | exact Try.underlying3 | exact Try.underlying41) rfl) hS ?_
  simp only [List.getElem_toArray, List.getElem_cons_zero, List.getElem_cons_succ, Act.put, List.setIfInBounds_toArray, List.set_cons_zero, List.set_cons_succ]
  refine wpAnyG_one (i := 10) (by kernel_rfl) rfl (fun K hK => ?_)
  go_simp
  refine ⟨trivial, (callsIn_wide.2 (kw _)).mono ?_⟩
  rintro e w5 ⟨rfl, hb⟩
  have hS5 := hS.call hb
  clear hb hS
  have hS := hS5
  clear hS5
  refine hK _ _ (.inr hS) ?_
  clear hK K
  refine wpAnyR_take (i := 11) (v := .tuple #[.slice C2 m2 d2, .slice C1 m1 d1]) rfl rfl (by kernel_rfl) (by kernel_rfl) (by kernel_rfl) (fun _ _ _ h => h) (Nat.le_refl _) ⟨by rfl, fun w _ => (by go_simp; try (first | (simp only [IntKind.wrap_u32]; done) | rfl)), fun _ => rfl⟩ hS ?_
  simp only [List.getElem_toArray, List.getElem_cons_zero, List.getElem_cons_succ, Act.put, List.setIfInBounds_toArray, List.set_cons_zero, List.set_cons_succ]
  refine wpAnyR_take (i := 12) (v := .slice C2 m2 d2) rfl rfl (by kernel_rfl) (by kernel_rfl) (by kernel_rfl) (fun _ _ _ h => h) (Nat.le_refl _) ⟨by rfl, fun w _ => (by go_simp; try (first | (simp only [IntKind.wrap_u32]; done) | rfl)), fun _ => rfl⟩ hS ?_
  simp only [List.getElem_toArray, List.getElem_cons_zero, List.getElem_cons_succ, Act.put, List.setIfInBounds_toArray, List.set_cons_zero, List.set_cons_succ]
  refine wpAnyR_take (i := 13) (v := .slice C1 m1 d1) rfl rfl (by kernel_rfl) (by kernel_rfl) (by kernel_rfl) (fun _ _ _ h => h) (Nat.le_refl _) ⟨by rfl, fun w _ => (by go_simp; try (first | (simp only [IntKind.wrap_u32]; done) | rfl)), fun _ => rfl⟩ hS ?_
  simp only [List.getElem_toArray, List.getElem_cons_zero, List.getElem_cons_succ, Act.put, List.setIfInBounds_toArray, List.set_cons_zero, List.set_cons_succ]
  refine wpAnyG_one (i := 14) (by kernel_rfl) rfl (fun K hK => ?_)
  go_simp
  refine hK _ _ (.inr hS) ?_
  clear hK K
  refine wpAnyG_one (i := 15) (by kernel_rfl) rfl (fun K hK => ?_)
  go_simp
  refine hK _ _ (.inr hS) ?_
  clear hK K
  refine wpAnyG_done (by kernel_rfl) ?_ _
  have H := hS
  clear hS
  clear cb cu kw
  have b9 := HB8.out.below H.below HB8.out.lt
  have c2w := b9.cell 2
  have c3w := b9.cell 3
  have f2w := b9.frozen 2
  have f3w := b9.frozen 3
  simp only [List.getElem?_toArray, List.getElem?_cons_zero, List.getElem?_cons_succ] at c2w c3w
  clear b9
  go_upto_region 10 with (first
    | go_skip
    | (go_at_call 38; refine (trimmed_p _ _ _ (by first | exact b1 | exact b2) (by first | exact e1 | exact e2) _).mono ?_; rintro e w9 ⟨rfl, hb⟩; have H2 := H.call hb; clear H hb c2w c3w f2w f3w; have H := H2; clear H2; have b9 := HB8.out.below H.below HB8.out.lt; have c2w := b9.cell 2; have c3w := b9.cell 3; have f2w := b9.frozen 2; have f3w := b9.frozen 3; simp only [List.getElem?_toArray, List.getElem?_cons_zero, List.getElem?_cons_succ] at c2w c3w; clear b9))
  have hb9 := H.below
  have b9 := HB8.out.below hb9 HB8.out.lt
  have FP := HP8.out.trans' (Foot.of_below (B := (· = p)) hb9)
  have hR1 : Que w9 (.slice C1 m1 m1) L1 := (HR.out.1.trim).on fun i hi => FP.block i ((HR.out.1.trim).lt hi) (HD.out.ob i (HR.out.2.2.1 i hi)).2
  have hR2 : Que w9 (.slice C2 m2 m2) L2 := (HR.out.2.1.trim).on fun i hi => FP.block i ((HR.out.2.1.trim).lt hi) (HD.out.ou i (HR.out.2.2.2 i hi)).2
  have ltw : ∀ i, own i → i < w9.heap.size := fun i hi => Nat.lt_of_lt_of_le (HD.out.lt i hi) FP.size
  obtain ⟨X1, X2⟩ := mkUB (v1 := .slice C1 m1 m1) (v2 := .slice C2 m2 m2) b9 HD.out.op ltw hR1 hR2 (fun i hi => HD.out.ob i (HR.out.2.2.1 i hi)) (fun i hi => HD.out.ou i (HR.out.2.2.2 i hi)) (fun i h1 h2 => HD.out.sep i (HR.out.2.2.1 i h1) (HR.out.2.2.2 i h2))
  generalize ((w9.setCell ⟨p, 3, none⟩ (.slice C2 m2 m2)).setCell ⟨p, 2, none⟩ (.slice C1 m1 m1)) = W10 at X1 X2 ⊢
  have FT := ((Foot.of_below (B := own) hb9).trans' X2)
  have HX10 := Lib.hid X1
  have HFX := Lib.hid (HF8.out.trans' FT)
  have HA10 := Lib.hid (show Que W10 (.slice Ao k co) O ∧ W.heap.size ≤ W10.heap.size from ⟨HA.out.1.on fun i hi => FT.block i (HA.out.1.lt hi) (HA.out.2 i hi).1, Nat.le_trans HF8.out.size FT.size⟩)
  have ch := X1.box.cell 4
  simp only [List.getElem?_toArray, List.getElem?_cons_zero, List.getElem?_cons_succ, HS.out] at ch
  have hp10 := X1.box.lt
  have kb := fun w (hb : Below W10.heap.size W10 w) => bytesOf_p Ao k co O w (HA10.out.1.on fun i hi => hb.block i (HA10.out.1.lt hi)) HK.out.2.2.2.1 (by omega) HK.out.2.2.2.2.2.2.1
  simp only [HK.out.2.2.2.2.2.1] at kb
  clear H hb9 b9 FP hR1 hR2 ltw X1 X2 FT c2w c3w f2w f3w
  have H := Mem.start W10
  refine region_memk H 9 10 rfl (by kernel_rfl) (fun wr0 hcl hS => ?_)
  clear H
  refine wpAnyG_pure (i := 0) (v := .pointer (some ⟨p, 0, none⟩)) rfl rfl (by kernel_rfl) (by kernel_rfl) (by kernel_rfl) (fun _ _ _ h => h) (by decide) ⟨by rfl, fun w _ => (by go_simp; try (first | (simp only [IntKind.wrap_u32]; done) | rfl)), fun _ => rfl⟩ (.inr hS) ?_
  have hc1 := hcl.step (i := 0) (by kernel_rfl)
  clear hcl; have hcl := hc1; clear hc1; simp only [List.getElem_toArray, List.getElem_cons_zero, List.getElem_cons_succ, Act.put, List.setIfInBounds_toArray, List.set_cons_zero, List.set_cons_succ]
  refine wpAnyG_pure (i := 1) (v := .pointer (some ⟨p, 0, none⟩)) rfl rfl (by kernel_rfl) (by kernel_rfl) (by kernel_rfl) (fun _ _ _ h => h) (by decide) ⟨by rfl, fun w _ => (by go_simp; try (first | (simp only [IntKind.wrap_u32]; done) | rfl)), fun _ => rfl⟩ (.inr hS) ?_
  have hc1 := hcl.step (i := 1) (by kernel_rfl)
  clear hcl; have hcl := hc1; clear hc1; simp only [List.getElem_toArray, List.getElem_cons_zero, List.getElem_cons_succ, Act.put, List.setIfInBounds_toArray, List.set_cons_zero, List.set_cons_succ]
  refine wpAnyG_pure (i := 2) (v := .pointer (some ⟨p, 4, none⟩)) rfl rfl (by kernel_rfl) (by kernel_rfl) (by kernel_rfl) (fun _ _ _ h => h) (by decide) ⟨by rfl, fun w _ => (by go_simp; try (first | (simp only [IntKind.wrap_u32]; done) | rfl)), fun _ => rfl⟩ (.inr hS) ?_
  have hc1 := hcl.step (i := 2) (by kernel_rfl)
  clear hcl; have hcl := hc1; clear hc1; simp only [List.getElem_toArray, List.getElem_cons_zero, List.getElem_cons_succ, Act.put, List.setIfInBounds_toArray, List.set_cons_zero, List.set_cons_succ]
  refine wpAnyG_take (i := 3) 6 (v := .int .i64 S) rfl rfl (by kernel_rfl) (by kernel_rfl) (by kernel_rfl) (fun _ _ _ h => h) (by kernel_rfl) (by decide) hcl (yields_old ch hp10 (by exact rfl) (by exact rfl) (by exact rfl) (by first | exact Try.underlying32 | exact Try.underlying3 | exact Try.underlying41) rfl) hS (fun hc1 => ?_)
  clear hcl; have hcl := hc1; clear hc1; simp only [List.getElem_toArray, List.getElem_cons_zero, List.getElem_cons_succ, Act.put, List.setIfInBounds_toArray, List.set_cons_zero, List.set_cons_succ]
  refine wpAnyG_pure (i := 4) (v := .slice Ao k co) rfl rfl (by kernel_rfl) (by kernel_rfl) (by kernel_rfl) (fun _ _ _ h => h) (by decide) ⟨by rfl, fun w _ => (by go_simp; try (first | (simp only [IntKind.wrap_u32]; done) | rfl)), fun _ => rfl⟩ (.inr hS) ?_
  have hc1 := hcl.step (i := 4) (by kernel_rfl)
  clear hcl; have hcl := hc1; clear hc1; simp only [List.getElem_toArray, List.getElem_cons_zero, List.getElem_cons_succ, Act.put, List.setIfInBounds_toArray, List.set_cons_zero, List.set_cons_succ]
  refine wpAnyG_one (i := 5) (by kernel_rfl) rfl (fun K hK => ?_)
  go_simp
  refine ⟨trivial, (callsIn_wide.2 (kb _ hS.below)).mono ?_⟩
  rintro e w5 ⟨rfl, hb⟩
  have hS5 := hS.call hb
  clear hb hS
  have hS := hS5
  clear hS5
  refine hK _ _ (.inr hS) ?_
  clear hK K
  have hc1 := hcl.step (i := 5) (by kernel_rfl)
  clear hcl; have hcl := hc1; clear hc1
  refine wpAnyG_pure (i := 6) (v := .int .i64 T) rfl rfl (by kernel_rfl) (by kernel_rfl) (by kernel_rfl) (fun _ _ _ h => h) (by decide) ⟨by rfl, fun w _ => (by go_simp; try (first | exact w1 | rfl)), fun _ => rfl⟩ (.inr hS) ?_
  have hc1 := hcl.step (i := 6) (by kernel_rfl)
  clear hcl; have hcl := hc1; clear hc1; simp only [List.getElem_toArray, List.getElem_cons_zero, List.getElem_cons_succ, Act.put, List.setIfInBounds_toArray, List.set_cons_zero, List.set_cons_succ]
  refine wpAnyG_one (i := 7) (by kernel_rfl) rfl (fun K hK => ?_)
  go_simp
  refine hK _ _ (.inr hS) ?_
  clear hK K
  refine wpAnyG_one (i := 8) (by kernel_rfl) rfl (fun K hK => ?_)
  go_simp
  refine hK _ _ (.inr hS) ?_
  clear hK K
  have hB11 := hS.below
  have D11 := HX10.out.below hS.below
  have F11 := Foot.of_below (B := own) hS.below
  have b11 := D11.box.cell 4
  have f11 := D11.box.frozen 4
  generalize w5 = wr1 at hS hB11 D11 F11 b11 f11 ⊢
  refine wpAnyG_one (i := 9) (by kernel_rfl) rfl (fun K hK => ?_)
  refine wpIn_store_old (b := p) (j := 4) (v := .int .i64 T) b11 f11 rfl (by exact rfl) (by exact rfl) (by exact intInfo) rfl ?_
  refine hK _ _ (.inl (by kernel_rfl)) ?_
  clear hK K hS hcl
  refine wpAnyG_done (by kernel_rfl) ?_ _
  obtain ⟨DL, FL⟩ := D11.setH T
  have HDL := Lib.hid DL
  have HFL := Lib.hid ((HFX.out.trans' F11).trans' FL)
  have HAL := Lib.hid (show Que (wr1.setCell ⟨p, 4, none⟩ (.int .i64 T)) (.slice Ao k co) O from (HA10.out.1.on fun i hi => hB11.block i (HA10.out.1.lt hi)).on fun i hi => block_set _ _ _ _ _ (fun e => (HA.out.2 i hi).1 (by rw [e]; exact HD.out.op)))
  clear DL FL D11 F11 hB11 kb b11 f11
  go_wp2
  refine bodyPost_ret (results_two rfl _ _ _) rfl ?_
  refine ⟨.slice Ao k co, rfl, HAL.out, ⟨own, ⟨_, HDL.out.at (s := ⟨s.l.take kpn, n, b⟩) HK.out.2.2.2.2.1.symm HK.out.2.2.2.2.2.2.2 ?_ HK.out.1 (fun y hy => HD.out.fits y (List.mem_of_mem_take hy)) (fun y hy => HD.out.sz y (List.mem_of_mem_take hy))⟩, fun i hi => .inl hi, fun i hi => ⟨(HA.out.2 i hi).1, .inr (Nat.le_trans HWZ.out (HA.out.2 i hi).2)⟩⟩, HFL.out⟩
  show (s.l.take kpn).length ≤ N
  rw [List.length_take]
  have := HD.out.len
  omega
theorem limP_d (W : World) (own : Nat → Prop) (p : Nat) (s : FF) (N : Nat) (h : PAt10 W own p s N) (hN : N ≤ 2000) (n b : Int) : Calls Try.prog 20 #[.pointer (some ⟨p, 0, none⟩), .int .i64 n, .int .i64 b] W (TellsF PAt10 W own p (limS s n b) N (limV s n b) (fun v => .tuple #[v, .int .i64 (limE n b)])) := by
  obtain ⟨x, h⟩ := h
  unfold limS limV limE
  cases hok : okN n b with
  | false =>
    rw [if_neg (by decide), if_neg (by decide), if_neg (by decide)]
    refine (limP_no W own p s N x h n b hok).mono ?_
    rintro e w' ⟨rfl, hb⟩
    refine ⟨.slice none 0 0, rfl, Que.nil _, ⟨own, ⟨x, h.below hb⟩, fun i hi => .inl hi, fun i hi => ?_⟩, Foot.of_below hb⟩
    obtain ⟨_, _, _, _, e⟩ := hi
    cases e
  | true =>
    rw [if_pos rfl, if_pos rfl, if_pos rfl]
    obtain ⟨kpn, hkp⟩ : ∃ kpn, Fi.kp s.l n b s.l.length = kpn := ⟨_, rfl⟩
    have hkl : kpn ≤ s.l.length := by rw [← hkp]; exact kp_le _ _ _ _
    rw [hkp]
    have hl : s.l = x.B.reverse ++ x.U := h.eq
    have hln := h.len2
    obtain ⟨A1, a1, hv1, hl1, hm1⟩ := h.rb.shape
    obtain ⟨A2, a2, hv2, hl2, hm2⟩ := h.ru.shape
    have hr1 := h.rb
    have hr2 := h.ru
    rw [hv1] at hr1
    rw [hv2] at hr2
    have hqbs : ∀ A n c n' c' i, qb (.slice A n c) i → qb (.slice A n' c') i := by
      rintro A n c n' c' i ⟨o, m, n0, c0, e⟩
      cases e
      exact ⟨_, _, _, _, rfl⟩
    by_cases hc : s.l.length - kpn ≤ x.U.length
    · have hcl : (x.U.take (x.U.length - (s.l.length - kpn))).length = x.U.length - (s.l.length - kpn) := by rw [List.length_take]; omega
      refine limP_core W own p s N x h hN n b hok kpn _ hkp rfl A1 A2 x.B.length a1 (x.U.length - (s.l.length - kpn)) a2 x.B (x.U.take (x.U.length - (s.l.length - kpn))) (fun w => ?_) hr1 (hr2.take (Nat.sub_le _ _)) (by rw [hv1]; exact fun i hi => hqbs _ _ _ _ _ i hi) (by rw [hv2]; exact fun i hi => hqbs _ _ _ _ _ i hi) ?_ hl1 (by omega) hm1 hm2
      · rw [hv1, hv2]
        exact wo_le _ A2 A1 x.U.length x.B.length a2 a1 hc hl2 hm2 w
      · rw [hl, List.take_append, List.length_reverse]
        have e1 : x.B.reverse.take kpn = x.B.reverse := List.take_of_length_le (by rw [List.length_reverse]; omega)
        rw [e1, ← hl, show kpn - x.B.length = x.U.length - (s.l.length - kpn) by omega]
    · obtain ⟨j, hj⟩ : ∃ j, s.l.length - kpn = x.U.length + j := ⟨s.l.length - kpn - x.U.length, by omega⟩
      have hBn : j ≤ x.B.length := by omega
      have heq : s.l.take kpn = (x.B.drop j).reverse ++ [] := by
        rw [List.append_nil, hl, List.take_append_of_le_length (by rw [List.length_reverse]; omega), List.take_reverse, show x.B.length - kpn = j by omega]
      have hz := hr2.take (k := 0) (Nat.zero_le _)
      rw [List.take_zero] at hz
      rcases hr1 with ⟨_, e⟩ | ⟨g, off, cap, cs, e, _⟩
      · rw [e] at hBn
        simp at hBn
        omega
      · obtain ⟨rfl, _, rfl⟩ : A1 = some ⟨g, off, none⟩ ∧ x.B.length = x.B.length ∧ a1 = cap := by
          injection e with e1 e2 e3
          exact ⟨e1, rfl, e3⟩
        have hr1 := h.rb
        rw [hv1] at hr1
        have hd := hr1.drop hBn
        by_cases hc2 : j < a1
        · refine limP_core W own p s N x h hN n b hok kpn _ hkp rfl (some ⟨g, off + j * 9, none⟩) A2 (x.B.length - j) (a1 - j) 0 a2 (x.B.drop j) [] (fun w => ?_) (hd.1 hc2) hz (by rw [hv1]; rintro i ⟨_, _, _, _, e⟩; cases e; exact ⟨_, _, _, _, rfl⟩) (by rw [hv2]; exact fun i hi => hqbs _ _ _ _ _ i hi) heq (by omega) (Nat.zero_le _) (by omega) hm2
          rw [hv1, hv2, hj]
          exact wo_mid _ j A2 g off x.U.length x.B.length a2 a1 rfl (by omega) hBn hc2 hl2 hm2 hl1 hm1 w
        · refine limP_core W own p s N x h hN n b hok kpn _ hkp rfl (some ⟨g, off, none⟩) A2 0 0 0 a2 (x.B.drop j) [] (fun w => ?_) (hd.2 (by omega)) hz (by rw [hv1]; exact fun i hi => hqbs _ _ _ _ _ i hi) (by rw [hv2]; exact fun i hi => hqbs _ _ _ _ _ i hi) heq (by omega) (Nat.zero_le _) (by omega) hm2
          rw [hv1, hv2, hj]
          exact wo_end _ j A2 g off x.U.length x.B.length a2 a1 rfl (by omega) hBn (by omega) hl2 hm2 hl1 hm1 w
end Go.Proofs.Ytlnlkodpndjimaa.Fi
end
/- The program's fifos do what the interface says. Conditions: as the interface says. -/
section
namespace Go.Proofs.Ytlnlkodpndjimaa.Fi
set_option linter.unusedSimpArgs false
set_option linter.unusedVariables false
set_option maxRecDepth 100000
open Go.ChangeShapes Go.WideShapes Go.ChangeAt Go.RowKit

theorem pfifo : PFifo PAt10 where
  pt := PAt10.pt
  ok := fun ⟨x, h⟩ => ⟨h.len, h.ok, h.fits, h.sz⟩
  new_no := fun n b W h => newP_no n b W h
  new_yes := fun n b W h => newP_yes n b W h
  put := fun W own p s N h hN q hq => putP_d W own p s N h hN q hq
  back := fun W own p s N h hN q hq => backP_d W own p s N h hN q hq
  first := fun W own p s N h hN => firstP_d W own p s N h hN
  take := fun W own p s N h hN => takeP_d W own p s N h hN
  limits := fun W own p s N h hN n b => limP_d W own p s N h hN n b
  drain := fun W own p s N h hN => drainP_d W own p s N h hN
  all := fun W own p s N h hN => allP_d W own p s N h hN
  bytes := fun W own p s N h hN => bytesP_d W own p s N h hN
  nil_put := fun q W hq => putP_nil q W hq
  nil_back := fun q W hq => backP_nil q W hq
  nil_first := fun W => (firstP_nil W).mono fun e w' h => ⟨⟨_, h.1⟩, h.2⟩
  nil_take := fun W => takeP_nil W
  nil_limits := fun n b W => (limP_nil n b W).mono fun e w' h => ⟨⟨_, h.1⟩, h.2⟩
  nil_drain := fun W => (drainP_nil W).mono fun e w' h => ⟨⟨_, _, h.1⟩, h.2⟩
  nil_all := fun W => (allP_nil W).mono fun e w' h => ⟨⟨_, _, h.1⟩, h.2⟩
  nil_bytes := fun W => bytesP_nil W
end Go.Proofs.Ytlnlkodpndjimaa.Fi
end
