/-
  The document's Set of layer 6. Conditions: those that each theorem names.
-/
import Derived.Test.YtbnfjppidmiheaaWheelC
import Derived.Deep.DeepCutAuto
import Derived.Laws.AppendOwnNone
namespace Go.Proofs.Ytbnfjppidmiheaa
set_option linter.unusedSimpArgs false
set_option linter.unusedVariables false
open Go.ChangeShapes Go.WideShapes Go.ChangeAt Go.RowKit

theorem tmInfo : (Try.prog.info? 41).map (·.size) = some 2 := by kernel_rfl
theorem ins_take {t : Tm} : ∀ {l : List Tm} {k : Nat}, (∀ j x, j < k → l[j]? = some x → Tm.bef x t = true) → (∀ x, l[k]? = some x → Tm.bef x t = false) → Tm.ins t l = l.take k ++ t :: l.drop k
  | [], k, _, _ => by simp [Tm.ins]
  | a :: l, 0, _, h2 => by
    have e := h2 a rfl
    unfold Tm.ins
    rw [List.takeWhile_cons, List.dropWhile_cons, e]
    rfl
  | a :: l, k + 1, h1, h2 => by
    have e := h1 0 a (by omega) rfl
    have ih := ins_take (t := t) (l := l) (k := k) (fun j x hj hg => h1 (j + 1) x (by omega) (by simpa using hg)) (fun x hg => h2 x (by simpa using hg))
    unfold Tm.ins at *
    rw [List.takeWhile_cons, List.dropWhile_cons, e, List.take_succ_cons, List.drop_succ_cons, List.cons_append, ← ih]
    rfl
theorem row_tms {w : World} {base g c : Nat} {R : List Tm} (h : w.ownsRow base 41 2 (.slice (some ⟨g, 0, none⟩) R.length c) R.length (tmCs R)) : Tms w g 0 R := ⟨fun k t hk => by
  obtain ⟨k1, k2⟩ := tmCs_get hk
  have e := h.cells (g := g) rfl
  have e1 := e _ _ k1
  have e2 := e _ _ k2
  rw [addr_add] at e1 e2
  rw [Nat.zero_add]
  exact ⟨e1, e2⟩⟩
theorem addr_add2 (q o n : Nat) : (⟨q, o, none⟩ : Addr).add n = ⟨q, o + n, none⟩ := by
  unfold Addr.add
  split
  all_goals first | (simp; done) | rfl
theorem tms_cells {w : World} {b : Nat} : ∀ {l : List Tm} {o : Nat}, Tms w b o l → ∀ j u, (tmCs l)[j]? = some u → w.cell? ((⟨b, o, none⟩ : Addr).add j) = some u
  | [], _, _, j, u, hu => by cases hu
  | a :: l, o, h, 0, u, hu => by
    cases hu
    rw [addr_add2]
    have := (h.cell 0 a rfl).1
    simpa using this
  | a :: l, o, h, 1, u, hu => by
    cases hu
    rw [addr_add2]
    have := (h.cell 0 a rfl).2
    simpa using this
  | a :: l, o, h, j + 2, u, hu => by
    have h' := tms_cells (l := l) (o := o + 2) ⟨fun k t hk => by
      have := h.cell (k + 1) t (by simpa using hk)
      rw [show o + (k + 1) * 2 = o + 2 + k * 2 by omega] at this
      exact this⟩ j u (by simpa [tmCs, tmC] using hu)
    rw [addr_add2] at h' ⊢
    rw [show o + (j + 2) = o + 2 + j by omega]
    exact h'
theorem Mem.grown {w0 W W' : World} {l : List (Nat × TypeId × Array Value)} {row : Option Nat} (h : Mem w0 W l) (hg : W.grownBy W' row) (hr : ∀ j, row = some j → w0.heap.size ≤ j ∧ ∀ q, q ∈ l → q.1 ≠ j) : Mem w0 W' l :=
  ⟨h.below.grown hg h.below.size (fun j ej => (hr j ej).1), fun q hq => ⟨(h.held q hq).1, (hg.block q.1 (h.held q hq).2.lt (fun e => (hr q.1 e.symm).2 q hq rfl)).trans (h.held q hq).2⟩, h.inc⟩
set_option maxRecDepth 100000 in
set_option maxHeartbeats 4000000 in
theorem set_r (W : World) (p : Nat) (s : WS) (at_ key : Int) (ha : 0 ≤ at_ ∧ at_ ≤ 18446744073709551615) (h : WhR W p s) (hok : s.Ok) : Calls Try.prog 13 #[.pointer (some ⟨p, 0, none⟩), .int .u64 at_, .int .i64 key] W fun e w' =>
    e = .returned (.int .i64 (s.setE at_ key)) ∧ WhR w' p (s.set at_ key) ∧ Foot (· = p) W w' := by
  obtain ⟨i0, hi, hz0, hz1, hz2⟩ := infoTm_parts
  by_cases h50 : 9223372036854775807 < at_
  · have e50 : s.setE at_ key = 50 := if_pos h50
    rw [WS.set_no (by rw [e50]; decide), e50]
    have e1 : decide (9223372036854775807 < at_) = true := decide_eq_true h50
    clear e50
    go_enter Try.func13, Try.ntmps13
    go_wp2
    go_ret
    exact ⟨rfl, h, Foot.refl _ _⟩
  · have e1 : decide (9223372036854775807 < at_) = false := decide_eq_false h50
    have HWH := Lib.hid h
    obtain ⟨v, n, g, hv, hn, hne⟩ := h.box
    obtain ⟨A, b, o, cap, rfl, h2, h3, h4, h5⟩ := hv
    have c0 : W.cell? ⟨p, 0, none⟩ = some (.slice A s.l.length cap) := g.cell 0
    have lp := g.lt
    have hwo := without_r A b o cap s.l key hok.len W (fun h0 => by rcases h4 with ⟨_, rfl⟩ | ⟨h4, _⟩; omega; exact h4) (fun h0 => by rcases h4 with ⟨_, rfl⟩ | ⟨_, h4⟩ <;> omega) h5
    have hE : s.setE at_ key = if 1000 ≤ (Tm.wo s.l key).length then 100 else 0 := if_neg h50
    have hSY := fun h0 => WS.set_yes (s := s) (at_ := at_) (key := key) h0
    have hSN := fun h0 => WS.set_no (s := s) (at_ := at_) (key := key) h0
    obtain ⟨R, hR⟩ : ∃ R, Tm.wo s.l key = R := ⟨_, rfl⟩
    rw [hR] at hwo hE hSY
    obtain ⟨m, hm⟩ : ∃ m, R.length = m := ⟨_, rfl⟩
    have HM := Lib.hid hm
    rw [hm] at hwo hE
    clear h4 h5 hR hm h hne h2 h3
    by_cases h100 : 1000 ≤ m
    · have e100 : s.setE at_ key = 100 := by rw [hE, if_pos h100]
      rw [hSN (by rw [e100]; decide), e100]
      have e2 : decide ((1000 : Int) ≤ m) = true := decide_eq_true (by omega)
      clear e100 hSY hSN hE
      go_enter Try.func13, Try.ntmps13
      go_wp2_with (go_at_call 24; refine hwo.mono ?_; rintro e w1 ⟨v1, rfl, hown, hB⟩; obtain ⟨a1, c1, rfl⟩ := ownsRow_len hown)
      go_ret
      exact ⟨rfl, HWH.out.below hB, Foot.of_below hB⟩
    · have e0 : s.setE at_ key = 0 := by rw [hE, if_neg h100]
      rw [hSY e0, e0]
      have e2 : decide ((1000 : Int) ≤ m) = false := decide_eq_false (by omega)
      clear e0 hSY hSN hE HWH
      go_enter Try.func13, Try.ntmps13
      go_upto_region 6 with (go_at_call 24; refine hwo.mono ?_; rintro e w1 ⟨v1, rfl, hown, hB⟩; obtain ⟨a1, c1, rfl⟩ := ownsRow_len hown)
      have H := Mem.start w1
      clear hwo c0
      go_upto_region 8 with (first
        | ((with_reducible show wpList _ _ _ _ _ (World.alloc _ (.cells _ _))); refine mem_newb H ?_; intro bt w3 hbk H2; try rw [← hbk]; clear hbk H; have H := H2; clear H2; simp only [List.cons_append, List.nil_append, List.set_cons_zero, List.set_cons_succ, List.setIfInBounds_toArray] at H)
        | ((with_reducible show wpList _ _ _ (⟨_, .store 41 _ _, _, _, _, _⟩ :: _) _ _); refine mem_store (i := 0) H (by first | exact wanted_none rfl | exact wanted_some rfl rfl rfl rfl) (by exact rfl) (by exact rfl) (by exact rfl) (by exact rfl) (by exact tmInfo) (by exact rfl) (by exact rfl) ?_; intro w2 H2; clear H; have H := H2; clear H2; simp only [List.cons_append, List.nil_append, List.set_cons_zero, List.set_cons_succ, List.setIfInBounds_toArray] at H))
      go_wp2
      go_loopw [9] (fun i wr => ∃ k : Nat, k ≤ m ∧ i = .int .i64 k ∧ (∀ j x, j < k → R[j]? = some x → Tm.bef x (at_, key) = true) ∧ Mem w1 wr [(bt, 41, #[.int .u64 at_, .int .i64 key])]) (fun i _ => m - (intOf i).toNat)
      case atStart => exact ⟨0, Nat.zero_le _, rfl, (fun j x hj => by omega), H⟩
      case round =>
        clear H
        obtain ⟨k, hk, rfl, hall, H⟩ := hrel
        have hB1 := hB.size
        by_cases hlt : k < m
        · obtain ⟨x, hx⟩ : ∃ x, R[k]? = some x := ⟨R[k]'(by rw [HM.out]; exact hlt), List.getElem?_eq_getElem _⟩
          rcases hown.2 with ⟨_, hm0⟩ | ⟨gg, cap', cur, hsome, hgb, hgc, hcc, hcm, -, -⟩
          · omega
          obtain ⟨rfl, -, rfl⟩ : a1 = some ⟨gg, 0, none⟩ ∧ True ∧ c1 = cap' := by cases hsome; exact ⟨rfl, trivial, rfl⟩
          clear hsome
          have hgl : gg < w1.heap.size := (Array.getElem?_eq_some_iff.1 hgc).1
          have hT : Tms w1 gg 0 R := row_tms (c := c1) (by rw [HM.out]; exact hown)
          obtain ⟨x0, x1⟩ := hT.cell k x hx
          rw [Nat.zero_add] at x0 x1
          have hbef := fun w => before_r x (at_, key) w
          obtain ⟨bv, hbv⟩ : ∃ v, Tm.bef x (at_, key) = v := ⟨_, rfl⟩
          rw [hbv] at hbef
          have HH := Lib.hid (And.intro hall (And.intro hx hbv))
          clear hall hx hbv
          go_upto_region 8 with (fail)
          refine region_mem H 12 rfl (by kernel_rfl) (fun wr hS => ?_)
          clear H
          refine wpAnyR_take (i := 0) (v := .int .i64 k) rfl rfl (by kernel_rfl) (by kernel_rfl) (by kernel_rfl) (fun _ _ _ h => h) (Nat.le_refl _) ⟨by rfl, fun w _ => (by go_simp; try (first | (simp only [IntKind.wrap_u32]; done) | rfl)), fun _ => rfl⟩ hS ?_
          simp only [List.getElem_toArray, List.getElem_cons_zero, List.getElem_cons_succ, Act.put, List.setIfInBounds_toArray, List.set_cons_zero, List.set_cons_succ]
          refine wpAnyR_take (i := 1) (v := .slice (some ⟨gg, 0, none⟩) m c1) rfl rfl (by kernel_rfl) (by kernel_rfl) (by kernel_rfl) (fun _ _ _ h => h) (Nat.le_refl _) ⟨by rfl, fun w _ => (by go_simp; try (first | (simp only [IntKind.wrap_u32]; done) | rfl)), fun _ => rfl⟩ hS ?_
          simp only [List.getElem_toArray, List.getElem_cons_zero, List.getElem_cons_succ, Act.put, List.setIfInBounds_toArray, List.set_cons_zero, List.set_cons_succ]
          refine wpAnyR_take (i := 2) (v := .int .i64 m) rfl rfl (by kernel_rfl) (by kernel_rfl) (by kernel_rfl) (fun _ _ _ h => h) (Nat.le_refl _) ⟨by rfl, fun w _ => (by go_simp; try (first | (simp only [IntKind.wrap_u32]; done) | rfl)), fun _ => rfl⟩ hS ?_
          simp only [List.getElem_toArray, List.getElem_cons_zero, List.getElem_cons_succ, Act.put, List.setIfInBounds_toArray, List.set_cons_zero, List.set_cons_succ]
          refine wpAnyR_take (i := 3) (v := .bool true) rfl rfl (by kernel_rfl) (by kernel_rfl) (by kernel_rfl) (fun _ _ _ h => h) (Nat.le_refl _) ⟨by rfl, fun w _ => (by go_simp; try (first | (simp only [IntKind.wrap_u32]; done) | rfl)), fun _ => rfl⟩ hS ?_
          simp only [List.getElem_toArray, List.getElem_cons_zero, List.getElem_cons_succ, Act.put, List.setIfInBounds_toArray, List.set_cons_zero, List.set_cons_succ]
          refine wpAnyR_take (i := 4) (v := .bool true) rfl rfl (by kernel_rfl) (by kernel_rfl) (by kernel_rfl) (fun _ _ _ h => h) (Nat.le_refl _) ⟨by rfl, fun w _ => (by go_simp; try (first | (simp only [IntKind.wrap_u32]; done) | rfl)), fun _ => rfl⟩ hS ?_
          simp only [List.getElem_toArray, List.getElem_cons_zero, List.getElem_cons_succ, Act.put, List.setIfInBounds_toArray, List.set_cons_zero, List.set_cons_succ]
          refine wpAnyR_take (i := 5) (v := .slice (some ⟨gg, 0, none⟩) m c1) rfl rfl (by kernel_rfl) (by kernel_rfl) (by kernel_rfl) (fun _ _ _ h => h) (Nat.le_refl _) ⟨by rfl, fun w _ => (by go_simp; try (first | (simp only [IntKind.wrap_u32]; done) | rfl)), fun _ => rfl⟩ hS ?_
          simp only [List.getElem_toArray, List.getElem_cons_zero, List.getElem_cons_succ, Act.put, List.setIfInBounds_toArray, List.set_cons_zero, List.set_cons_succ]
          refine wpAnyR_take (i := 6) (v := .int .i64 k) rfl rfl (by kernel_rfl) (by kernel_rfl) (by kernel_rfl) (fun _ _ _ h => h) (Nat.le_refl _) ⟨by rfl, fun w _ => (by go_simp; try (first | (simp only [IntKind.wrap_u32]; done) | rfl)), fun _ => rfl⟩ hS ?_
          simp only [List.getElem_toArray, List.getElem_cons_zero, List.getElem_cons_succ, Act.put, List.setIfInBounds_toArray, List.set_cons_zero, List.set_cons_succ]
          refine wpAnyR_take (i := 7) (v := .pointer (some ⟨gg, k * 2, none⟩)) rfl rfl (by kernel_rfl) (by kernel_rfl) (by kernel_rfl) (fun _ _ _ h => h) (Nat.le_refl _) ⟨by rfl, fun w _ => (by go_simp; try (first | (simp only [IntKind.wrap_u32]; done) | rfl)), fun _ => rfl⟩ hS ?_
          simp only [List.getElem_toArray, List.getElem_cons_zero, List.getElem_cons_succ, Act.put, List.setIfInBounds_toArray, List.set_cons_zero, List.set_cons_succ]
          refine wpAnyR_take (i := 8) (v := tm x) rfl rfl (by kernel_rfl) (by kernel_rfl) (by kernel_rfl) (fun _ _ _ h => h) (Nat.le_refl _) ⟨by rfl, fun w hR => (by have y0 := (Mem.old hR (p := ⟨gg, k * 2, none⟩) hgl).trans x0; have y1 := (Mem.old hR (p := ⟨gg, k * 2 + 1, none⟩) hgl).trans x1; go_simp; try rfl), fun _ => rfl⟩ hS ?_
          simp only [List.getElem_toArray, List.getElem_cons_zero, List.getElem_cons_succ, Act.put, List.setIfInBounds_toArray, List.set_cons_zero, List.set_cons_succ]
          refine wpAnyR_take (i := 9) (v := .agg #[.int .u64 at_, .int .i64 key]) rfl rfl (by kernel_rfl) (by kernel_rfl) (by kernel_rfl) (fun _ _ _ h => h) (Nat.le_refl _) (yields_held (fun w h => h.at 0 rfl) (by exact rfl) (by exact rfl) (by exact rfl) Try.underlying41 rfl tmInfo) hS ?_
          simp only [List.getElem_toArray, List.getElem_cons_zero, List.getElem_cons_succ, Act.put, List.setIfInBounds_toArray, List.set_cons_zero, List.set_cons_succ]
          refine wpAnyG_one (i := 10) (by kernel_rfl) rfl (fun K hK => ?_)
          go_simp
          refine ⟨trivial, (callsIn_wide.2 (hbef _)).mono ?_⟩
          rintro e w5 ⟨rfl, hb⟩
          have hS5 := hS.call hb
          clear hb hS
          have hS := hS5
          clear hS5
          refine hK _ _ (.inr hS) ?_
          clear hK K
          refine wpAnyG_one (i := 11) (by kernel_rfl) rfl (fun K hK => ?_)
          go_simp
          refine hK _ _ (.inr hS) ?_
          clear hK K
          refine wpAnyG_done (by kernel_rfl) ?_ _
          have H := hS
          clear hS
          cases bv
          · have g5 : Held w5 p 30 #[.slice A s.l.length cap, .int .u64 s.clk] := g.below (hB.trans (H.below.mono hB1)) lp
            have hs5 := H.below.size
            have hbt := (H.at 0 rfl).lt
            have hb5 := H.at 0 rfl
            have T5 : Tms w5 gg 0 R := hT.below H.below hgl
            have z0 : k ≤ 1000 := by omega
            have HT5 := Lib.hid T5
            clear T5 hT
            go_upto_region 12 with (at_builtin; refine wpList_append_own _ rfl _ _ 28 rfl w5.heap.size 41 i0 _ 2 16 Try.underlying28 hi hz0 hz1 hz2 rfl (by decide) (.slice none 0 0) 0 [] rfl (World.ownsRow_nil _ _ _ _) ⟨gg, 0, none⟩ k c1 (tmCs (R.take k)) rfl (by rw [tmCs_length, List.length_take, HM.out]; omega) (tms_cells (HT5.out.take k)) (tmCs_one _) (by simp [maxLen]; try omega) (by omega) (Nat.le_refl _) ?_; intro v2 w2 own2 grow2 _)
            rw [Nat.zero_add, List.nil_append] at own2
            have B2 : Below w5.heap.size w5 w2 := (Below.refl _ _).grown grow2 (Nat.le_refl _) (fun j ej => by cases ej)
            have b2 := hb5.below B2 hbt
            have y0 : w2.cell? ⟨bt, 0, none⟩ = some (.int .u64 at_) := b2.cell 0
            have y1 : w2.cell? ⟨bt, 1, none⟩ = some (.int .i64 key) := b2.cell 1
            have s2 := B2.size
            go_upto_region 13 with (at_builtin; refine wpList_append_own _ rfl _ _ 28 rfl w5.heap.size 41 i0 _ 2 16 Try.underlying28 hi hz0 hz1 hz2 rfl (by decide) v2 k (tmCs (R.take k)) rfl (own2.alloc _) ⟨w2.heap.size, 0, none⟩ 1 1 (tmC (at_, key)) rfl rfl (fun j u hu => by rw [addr_add]; exact ((Held.new w2 41 #[.int .u64 at_, .int .i64 key]).cell j).trans (by simpa [tmC] using hu)) (fun u hu => tmCs_one [(at_, key)] u (by simpa [tmCs] using hu)) (by simp [maxLen]; try omega) (by omega) (by simp; try omega) ?_; intro v3 w3 own3 grow3 _)
            have B3 : Below w5.heap.size w5 w3 := (B2.alloc s2 _).grown grow3 (by simp; try omega) (fun j ej => (own2.lt j ej).1)
            have s3 := B3.size
            clear y0 y1 b2
            go_wp2_with (at_builtin; refine wpList_append_own _ rfl _ _ 28 rfl w5.heap.size 41 i0 _ 2 16 Try.underlying28 hi hz0 hz1 hz2 rfl (by decide) v3 (k + 1) (tmCs (R.take k) ++ tmC (at_, key)) rfl own3 ⟨gg, k * 2, none⟩ (m - k) (c1 - k) (tmCs (R.drop k)) rfl (by rw [tmCs_length, List.length_drop, HM.out]) (fun j u hu => by have q := tms_cells ((HT5.out.below B3 (by omega)).drop k) j u hu; rw [Nat.zero_add] at q; exact q) (tmCs_one _) (by simp [maxLen]; try omega) (by omega) s3 ?_; intro v4 w4 own4 grow4 _; have B4 : Below w5.heap.size w5 w4 := B3.grown grow4 s3 (fun j ej => (own3.lt j ej).1); have g4 := g5.below B4 g5.lt; have f4 := g4.frozen 0; have c4 : w4.cell? ⟨p, 0, none⟩ = some (.slice A s.l.length cap) := g4.cell 0; obtain ⟨a4, c4', rfl⟩ := ownsRow_len own4)
            go_ret
            have hins := ins_take (t := (at_, key)) (l := R) (k := k) HH.out.1 (fun x' hx' => by rw [HH.out.2.1] at hx'; cases hx'; exact HH.out.2.2)
            have hlen : (Tm.ins (at_, key) R).length = k + 1 + (m - k) := by rw [hins, List.length_append, List.length_cons, List.length_take, List.length_drop, HM.out]; omega
            have hcs : tmCs (Tm.ins (at_, key) R) = tmCs (R.take k) ++ tmC (at_, key) ++ tmCs (R.drop k) := by rw [hins]; simp [tmCs]
            rw [← hcs, ← hlen] at own4
            rw [← hlen]
            have hne4 : ∀ b', (Value.slice a4 (Tm.ins (at_, key) R).length c4').ownBlock = some b' → b' ≠ p := fun b' hb' => by have := (own4.lt b' hb').1; omega
            refine ⟨rfl, ⟨_, w4.heap.size, g4.set 0 _, ?_, ?_, hne4⟩, ?_⟩
            · exact (SlT.of_row own4).cellset hne4
            · simp [World.setCell]
            · exact Foot.setCell (B := (· = p)) ((Foot.of_below (hB.trans (H.below.mono hB1))).trans' (Foot.of_below B4)) (p := ⟨p, 0, none⟩) (fun _ => rfl) _
          · go_wp2
            go_roundw
            case rel =>
              refine ⟨k + 1, by omega, by go_num, fun j x' hj hj2 => ?_, H⟩
              by_cases hjk : j = k
              · subst hjk
                rw [HH.out.2.1] at hj2
                cases hj2
                exact HH.out.2.2
              · exact HH.out.1 j x' (by omega) hj2
            case measure => simp [intOf]; omega
        · obtain rfl : k = m := by omega
          clear hlt
          have HH := Lib.hid hall
          clear hall
          go_upto_region 8 with (fail)
          go_quiet (fail)
          have H2 := H.drewN nq
          clear H
          generalize World.drewN _ nq = w5 at H2 ⊢
          have H := H2
          clear H2
          rcases hown.2 with ⟨hnil, hm0⟩ | ⟨gg, cap', cur, hsome, hgb, hgc, hcc, hcm, -, -⟩
          · obtain rfl : k = 0 := hm0
            obtain ⟨rfl, -, rfl⟩ : a1 = none ∧ True ∧ c1 = 0 := by cases hnil; exact ⟨rfl, trivial, rfl⟩
            clear hnil
            have g5 : Held w5 p 30 #[.slice A s.l.length cap, .int .u64 s.clk] := g.below (hB.trans (H.below.mono hB1)) lp
            have hs5 := H.below.size
            have hbt := (H.at 0 rfl).lt
            have hb5 := H.at 0 rfl
            go_upto_region 12 with (at_builtin; (refine wpList_append_own_none rfl _ _ 28 rfl w5.heap.size 41 i0 2 Try.underlying28 hi (.slice none 0 0) 0 [] rfl (World.ownsRow_nil _ _ _ _) rfl ?_))
            have own2 : w5.ownsRow w5.heap.size 41 2 (.slice none 0 0) 0 [] := World.ownsRow_nil _ _ _ _
            have B2 : Below w5.heap.size w5 w5 := Below.refl _ _
            have b2 := hb5.below B2 hbt
            have y0 : w5.cell? ⟨bt, 0, none⟩ = some (.int .u64 at_) := b2.cell 0
            have y1 : w5.cell? ⟨bt, 1, none⟩ = some (.int .i64 key) := b2.cell 1
            have s2 := B2.size
            go_upto_region 13 with (at_builtin; refine wpList_append_own _ rfl _ _ 28 rfl w5.heap.size 41 i0 _ 2 16 Try.underlying28 hi hz0 hz1 hz2 rfl (by decide) (.slice none 0 0) 0 [] rfl (own2.alloc _) ⟨w5.heap.size, 0, none⟩ 1 1 (tmC (at_, key)) rfl rfl (fun j u hu => by rw [addr_add]; exact ((Held.new w5 41 #[.int .u64 at_, .int .i64 key]).cell j).trans (by simpa [tmC] using hu)) (fun u hu => tmCs_one [(at_, key)] u (by simpa [tmCs] using hu)) (by simp [maxLen]; try omega) (by omega) (by simp; try omega) ?_; intro v3 w3 own3 grow3 _)
            have B3 : Below w5.heap.size w5 w3 := (B2.alloc s2 _).grown grow3 (by simp; try omega) (fun j ej => (own2.lt j ej).1)
            have s3 := B3.size
            clear y0 y1 b2
            have own4 := own3
            rw [Nat.zero_add, List.nil_append] at own4
            have g4 := g5.below B3 g5.lt; have f4 := g4.frozen 0; have c4 : w3.cell? ⟨p, 0, none⟩ = some (.slice A s.l.length cap) := g4.cell 0; obtain ⟨a4, c4', rfl⟩ := ownsRow_len own4
            have B4 := B3
            go_wp2_with (at_builtin; (refine wpList_append_own_none rfl _ _ 28 rfl w5.heap.size 41 i0 2 Try.underlying28 hi _ (0 + 1) ([] ++ tmC (at_, key)) rfl own3 rfl ?_))
            go_ret
            have hR0 : R = [] := List.eq_nil_of_length_eq_zero HM.out
            have hlen : (Tm.ins (at_, key) R).length = 1 := by rw [hR0]; rfl
            have hcs : tmCs (Tm.ins (at_, key) R) = tmC (at_, key) := by rw [hR0]; rfl
            rw [← hcs, ← hlen] at own4
            rw [← hlen]
            have hne4 : ∀ b', (Value.slice a4 (Tm.ins (at_, key) R).length c4').ownBlock = some b' → b' ≠ p := fun b' hb' => by have := (own4.lt b' hb').1; omega
            refine ⟨rfl, ⟨_, w3.heap.size, g4.set 0 _, ?_, ?_, hne4⟩, ?_⟩
            · exact (SlT.of_row own4).cellset hne4
            · simp [World.setCell]
            · exact Foot.setCell (B := (· = p)) ((Foot.of_below (hB.trans (H.below.mono hB1))).trans' (Foot.of_below B4)) (p := ⟨p, 0, none⟩) (fun _ => rfl) _
          · obtain ⟨rfl, -, rfl⟩ : a1 = some ⟨gg, 0, none⟩ ∧ True ∧ c1 = cap' := by cases hsome; exact ⟨rfl, trivial, rfl⟩
            clear hsome
            have hgl : gg < w1.heap.size := (Array.getElem?_eq_some_iff.1 hgc).1
            have hT : Tms w1 gg 0 R := row_tms (c := c1) (by rw [HM.out]; exact hown)
            by_cases hck : c1 = k
            · subst hck
              have g5 : Held w5 p 30 #[.slice A s.l.length cap, .int .u64 s.clk] := g.below (hB.trans (H.below.mono hB1)) lp
              have hs5 := H.below.size
              have hbt := (H.at 0 rfl).lt
              have hb5 := H.at 0 rfl
              have T5 : Tms w5 gg 0 R := hT.below H.below hgl
              have z0 : c1 ≤ 1000 := by omega
              have HT5 := Lib.hid T5
              clear T5 hT
              go_upto_region 12 with (at_builtin; refine wpList_append_own _ rfl _ _ 28 rfl w5.heap.size 41 i0 _ 2 16 Try.underlying28 hi hz0 hz1 hz2 rfl (by decide) (.slice none 0 0) 0 [] rfl (World.ownsRow_nil _ _ _ _) ⟨gg, 0, none⟩ c1 c1 (tmCs (R.take c1)) rfl (by rw [tmCs_length, List.length_take, HM.out]; omega) (tms_cells (HT5.out.take c1)) (tmCs_one _) (by simp [maxLen]; try omega) (by omega) (Nat.le_refl _) ?_; intro v2 w2 own2 grow2 _)
              rw [Nat.zero_add, List.nil_append] at own2
              have B2 : Below w5.heap.size w5 w2 := (Below.refl _ _).grown grow2 (Nat.le_refl _) (fun j ej => by cases ej)
              have b2 := hb5.below B2 hbt
              have y0 : w2.cell? ⟨bt, 0, none⟩ = some (.int .u64 at_) := b2.cell 0
              have y1 : w2.cell? ⟨bt, 1, none⟩ = some (.int .i64 key) := b2.cell 1
              have s2 := B2.size
              go_upto_region 13 with (at_builtin; refine wpList_append_own _ rfl _ _ 28 rfl w5.heap.size 41 i0 _ 2 16 Try.underlying28 hi hz0 hz1 hz2 rfl (by decide) v2 c1 (tmCs (R.take c1)) rfl (own2.alloc _) ⟨w2.heap.size, 0, none⟩ 1 1 (tmC (at_, key)) rfl rfl (fun j u hu => by rw [addr_add]; exact ((Held.new w2 41 #[.int .u64 at_, .int .i64 key]).cell j).trans (by simpa [tmC] using hu)) (fun u hu => tmCs_one [(at_, key)] u (by simpa [tmCs] using hu)) (by simp [maxLen]; try omega) (by omega) (by simp; try omega) ?_; intro v3 w3 own3 grow3 _)
              have B3 : Below w5.heap.size w5 w3 := (B2.alloc s2 _).grown grow3 (by simp; try omega) (fun j ej => (own2.lt j ej).1)
              have s3 := B3.size
              clear y0 y1 b2
              go_wp2_with (at_builtin; refine wpList_append_own _ rfl _ _ 28 rfl w5.heap.size 41 i0 _ 2 16 Try.underlying28 hi hz0 hz1 hz2 rfl (by decide) v3 (c1 + 1) (tmCs (R.take c1) ++ tmC (at_, key)) rfl own3 ⟨gg, 0, none⟩ 0 0 (tmCs (R.drop c1)) rfl (by rw [tmCs_length, List.length_drop, HM.out]; omega) (fun j u hu => by rw [List.drop_of_length_le (by rw [HM.out]; omega)] at hu; cases hu) (tmCs_one _) (by simp [maxLen]; try omega) (by omega) s3 ?_; intro v4 w4 own4 grow4 _; have B4 : Below w5.heap.size w5 w4 := B3.grown grow4 s3 (fun j ej => (own3.lt j ej).1); have g4 := g5.below B4 g5.lt; have f4 := g4.frozen 0; have c4 : w4.cell? ⟨p, 0, none⟩ = some (.slice A s.l.length cap) := g4.cell 0; obtain ⟨a4, c4', rfl⟩ := ownsRow_len own4)
              go_ret
              have hins := ins_take (t := (at_, key)) (l := R) (k := c1) HH.out (fun x' hx' => by rw [List.getElem?_eq_none (by rw [HM.out]; omega)] at hx'; cases hx')
              have hlen : (Tm.ins (at_, key) R).length = c1 + 1 + 0 := by rw [hins, List.length_append, List.length_cons, List.length_take, List.length_drop, HM.out]; omega
              have hcs : tmCs (Tm.ins (at_, key) R) = tmCs (R.take c1) ++ tmC (at_, key) ++ tmCs (R.drop c1) := by rw [hins]; simp [tmCs]
              rw [← hcs, ← hlen] at own4
              rw [← hlen]
              have hne4 : ∀ b', (Value.slice a4 (Tm.ins (at_, key) R).length c4').ownBlock = some b' → b' ≠ p := fun b' hb' => by have := (own4.lt b' hb').1; omega
              refine ⟨rfl, ⟨_, w4.heap.size, g4.set 0 _, ?_, ?_, hne4⟩, ?_⟩
              · exact (SlT.of_row own4).cellset hne4
              · simp [World.setCell]
              · exact Foot.setCell (B := (· = p)) ((Foot.of_below (hB.trans (H.below.mono hB1))).trans' (Foot.of_below B4)) (p := ⟨p, 0, none⟩) (fun _ => rfl) _
            · have g5 : Held w5 p 30 #[.slice A s.l.length cap, .int .u64 s.clk] := g.below (hB.trans (H.below.mono hB1)) lp
              have hs5 := H.below.size
              have hbt := (H.at 0 rfl).lt
              have hb5 := H.at 0 rfl
              have T5 : Tms w5 gg 0 R := hT.below H.below hgl
              have z0 : k ≤ 1000 := by omega
              have HT5 := Lib.hid T5
              clear T5 hT
              go_upto_region 12 with (at_builtin; refine wpList_append_own _ rfl _ _ 28 rfl w5.heap.size 41 i0 _ 2 16 Try.underlying28 hi hz0 hz1 hz2 rfl (by decide) (.slice none 0 0) 0 [] rfl (World.ownsRow_nil _ _ _ _) ⟨gg, 0, none⟩ k c1 (tmCs (R.take k)) rfl (by rw [tmCs_length, List.length_take, HM.out]; omega) (tms_cells (HT5.out.take k)) (tmCs_one _) (by simp [maxLen]; try omega) (by omega) (Nat.le_refl _) ?_; intro v2 w2 own2 grow2 _)
              rw [Nat.zero_add, List.nil_append] at own2
              have B2 : Below w5.heap.size w5 w2 := (Below.refl _ _).grown grow2 (Nat.le_refl _) (fun j ej => by cases ej)
              have b2 := hb5.below B2 hbt
              have y0 : w2.cell? ⟨bt, 0, none⟩ = some (.int .u64 at_) := b2.cell 0
              have y1 : w2.cell? ⟨bt, 1, none⟩ = some (.int .i64 key) := b2.cell 1
              have s2 := B2.size
              go_upto_region 13 with (at_builtin; refine wpList_append_own _ rfl _ _ 28 rfl w5.heap.size 41 i0 _ 2 16 Try.underlying28 hi hz0 hz1 hz2 rfl (by decide) v2 k (tmCs (R.take k)) rfl (own2.alloc _) ⟨w2.heap.size, 0, none⟩ 1 1 (tmC (at_, key)) rfl rfl (fun j u hu => by rw [addr_add]; exact ((Held.new w2 41 #[.int .u64 at_, .int .i64 key]).cell j).trans (by simpa [tmC] using hu)) (fun u hu => tmCs_one [(at_, key)] u (by simpa [tmCs] using hu)) (by simp [maxLen]; try omega) (by omega) (by simp; try omega) ?_; intro v3 w3 own3 grow3 _)
              have B3 : Below w5.heap.size w5 w3 := (B2.alloc s2 _).grown grow3 (by simp; try omega) (fun j ej => (own2.lt j ej).1)
              have s3 := B3.size
              clear y0 y1 b2
              go_wp2_with (at_builtin; refine wpList_append_own _ rfl _ _ 28 rfl w5.heap.size 41 i0 _ 2 16 Try.underlying28 hi hz0 hz1 hz2 rfl (by decide) v3 (k + 1) (tmCs (R.take k) ++ tmC (at_, key)) rfl own3 ⟨gg, k * 2, none⟩ 0 (c1 - k) (tmCs (R.drop k)) rfl (by rw [tmCs_length, List.length_drop, HM.out]; omega) (fun j u hu => by rw [List.drop_of_length_le (by rw [HM.out]; omega)] at hu; cases hu) (tmCs_one _) (by simp [maxLen]; try omega) (by omega) s3 ?_; intro v4 w4 own4 grow4 _; have B4 : Below w5.heap.size w5 w4 := B3.grown grow4 s3 (fun j ej => (own3.lt j ej).1); have g4 := g5.below B4 g5.lt; have f4 := g4.frozen 0; have c4 : w4.cell? ⟨p, 0, none⟩ = some (.slice A s.l.length cap) := g4.cell 0; obtain ⟨a4, c4', rfl⟩ := ownsRow_len own4)
              go_ret
              have hins := ins_take (t := (at_, key)) (l := R) (k := k) HH.out (fun x' hx' => by rw [List.getElem?_eq_none (by rw [HM.out]; omega)] at hx'; cases hx')
              have hlen : (Tm.ins (at_, key) R).length = k + 1 + 0 := by rw [hins, List.length_append, List.length_cons, List.length_take, List.length_drop, HM.out]; omega
              have hcs : tmCs (Tm.ins (at_, key) R) = tmCs (R.take k) ++ tmC (at_, key) ++ tmCs (R.drop k) := by rw [hins]; simp [tmCs]
              rw [← hcs, ← hlen] at own4
              rw [← hlen]
              have hne4 : ∀ b', (Value.slice a4 (Tm.ins (at_, key) R).length c4').ownBlock = some b' → b' ≠ p := fun b' hb' => by have := (own4.lt b' hb').1; omega
              refine ⟨rfl, ⟨_, w4.heap.size, g4.set 0 _, ?_, ?_, hne4⟩, ?_⟩
              · exact (SlT.of_row own4).cellset hne4
              · simp [World.setCell]
              · exact Foot.setCell (B := (· = p)) ((Foot.of_below (hB.trans (H.below.mono hB1))).trans' (Foot.of_below B4)) (p := ⟨p, 0, none⟩) (fun _ => rfl) _
end Go.Proofs.Ytbnfjppidmiheaa
