/-
  The contracts of wheel's heap: sink. Conditions: those that each theorem names.
-/
import Derived.Test.YtbnfjppidmiheaaWheelQ
namespace Go.Proofs.Ytbnfjppidmiheaa
set_option linter.unusedSimpArgs false
set_option linter.unusedVariables false
open Go.ChangeShapes Go.WideShapes Go.ChangeAt Go.RowKit Go.Maps

/-- a heap's timers, in a block of its own -/
def Hp (W : World) (g cap : Nat) (L : List Tm) : Prop := W.ownsRow 0 41 2 (.slice (some ⟨g, 0, none⟩) L.length cap) L.length (tmCs L)
theorem Hp.out {W : World} {g cap : Nat} {L : List Tm} (h : Hp W g cap L) : ∃ cur, Held W g 41 cur ∧ L.length ≤ cap ∧ cap ≤ maxLen ∧ cur.size = cap * 2 ∧ cur.toList.take (L.length * 2) = tmCs L := by
  rcases h.2 with ⟨h1, _⟩ | ⟨g', cap', cur, h1, _, h2, h3, h4, h5, h6⟩
  · cases h1
  · cases h1
    exact ⟨cur, h2, h3, h4, h5, h6⟩
theorem Hp.mk {W : World} {g cap : Nat} {L : List Tm} {cur : Array Value} (h1 : Held W g 41 cur) (h2 : L.length ≤ cap) (h3 : cap ≤ maxLen) (h4 : cur.size = cap * 2) (h5 : cur.toList.take (L.length * 2) = tmCs L) : Hp W g cap L :=
  ⟨tmCs_length L, .inr ⟨g, cap, cur, rfl, Nat.zero_le _, h1, h2, h3, h4, h5⟩⟩
theorem Hp.lt {W : World} {g cap : Nat} {L : List Tm} (h : Hp W g cap L) : g < W.heap.size := by
  obtain ⟨cur, h1, _⟩ := h.out
  exact h1.lt
theorem Hp.same {W W' : World} {g cap : Nat} {L : List Tm} (h : Hp W g cap L) (e : W'.heap[g]? = W.heap[g]?) : Hp W' g cap L := by
  obtain ⟨cur, h1, h2, h3, h4, h5⟩ := h.out
  exact Hp.mk (e.trans h1) h2 h3 h4 h5
theorem Hp.below {W W' : World} {g cap n : Nat} {L : List Tm} (h : Hp W g cap L) (hb : Below n W W') (hg : g < n) : Hp W' g cap L := h.same (hb.block g hg)
theorem Hp.cell {W : World} {g cap : Nat} {L : List Tm} (h : Hp W g cap L) {k : Nat} {t : Tm} (hk : L[k]? = some t) : W.cell? ⟨g, k * 2, none⟩ = some (.int .u64 t.1) ∧ W.cell? ⟨g, k * 2 + 1, none⟩ = some (.int .i64 t.2) := by
  have := (row_tms h).cell k t hk
  rwa [Nat.zero_add] at this
theorem Hp.frozen {W : World} {g cap : Nat} {L : List Tm} (h : Hp W g cap L) (j : Nat) : W.frozen? ⟨g, j, none⟩ = false := by
  obtain ⟨cur, h1, _⟩ := h.out
  exact h1.frozen j
theorem Hp.there {W : World} {g cap : Nat} {L : List Tm} (h : Hp W g cap L) {k : Nat} (hk : k < L.length) : W.there g (k * 2) 2 := fun j hj => by
  obtain ⟨h1, h2⟩ := h.cell (List.getElem?_eq_getElem hk)
  refine ⟨?_, h.frozen _⟩
  rcases (show j = 0 ∨ j = 1 by omega) with rfl | rfl
  · rw [Nat.add_zero, h1]; rfl
  · rw [h2]; rfl
theorem tmCs_set : ∀ (L : List Tm) (k : Nat) (t : Tm), tmCs (L.set k t) = ((tmCs L).set (k * 2) (.int .u64 t.1)).set (k * 2 + 1) (.int .i64 t.2)
  | [], k, t => rfl
  | a :: L, 0, t => rfl
  | a :: L, k + 1, t => by
    have ih := tmCs_set L k t
    have e : ∀ (x : Tm) (l : List Tm), tmCs (x :: l) = .int .u64 x.1 :: .int .i64 x.2 :: tmCs l := fun _ _ => rfl
    rw [List.set_cons_succ, e, e, ih, show (k + 1) * 2 = k * 2 + 1 + 1 by omega]
    rfl
theorem setCells_two (W : World) (g o : Nat) (a b : Value) : W.setCells g o [a, b] = (W.setCell ⟨g, o, none⟩ a).setCell ⟨g, o + 1, none⟩ b := rfl
theorem Hp.put {W : World} {g cap : Nat} {L : List Tm} (h : Hp W g cap L) (k : Nat) (t : Tm) : Hp (W.setCells g (k * 2) [.int .u64 t.1, .int .i64 t.2]) g cap (L.set k t) := by
  obtain ⟨cur, h1, h2, h3, h4, h5⟩ := h.out
  rw [setCells_two]
  refine Hp.mk ((h1.set (k * 2) _).set (k * 2 + 1) _) (by rw [List.length_set]; exact h2) h3 (by simpa using h4) ?_
  rw [List.length_set, tmCs_set, ← h5]
  simp [List.take_set]
theorem foot_cells (W : World) (g o : Nat) (a b : Value) : Foot (· = g) W (W.setCells g o [a, b]) := by
  rw [setCells_two]
  exact (Foot.cell W ⟨g, o, none⟩ a).setCell (p := ⟨g, o + 1, none⟩) (fun _ => rfl) b
theorem Hp.take {W : World} {g cap : Nat} {L : List Tm} (h : Hp W g cap L) (k : Nat) (hk : k ≤ L.length) : Hp W g cap (L.take k) := by
  obtain ⟨cur, h1, h2, h3, h4, h5⟩ := h.out
  have hl : (L.take k).length = k := by rw [List.length_take]; omega
  refine Hp.mk h1 (by omega) h3 h4 ?_
  have e : tmCs (L.take k) = (tmCs L).take (k * 2) := by
    have : ∀ (L : List Tm) (k : Nat), tmCs (L.take k) = (tmCs L).take (k * 2) := by
      intro L
      induction L with
      | nil => intro k; simp [tmCs]
      | cons a L ih =>
        intro k
        cases k with
        | zero => rfl
        | succ k =>
          have e : ∀ (x : Tm) (l : List Tm), tmCs (x :: l) = .int .u64 x.1 :: .int .i64 x.2 :: tmCs l := fun _ _ => rfl
          rw [List.take_succ_cons, e, e, ih, show (k + 1) * 2 = k * 2 + 1 + 1 by omega]
          rfl
    exact this L k
  rw [hl, e, ← h5, List.take_take]
  congr 1
  omega
/-- a timer is written into a heap, inside a fence -/
theorem wpIn_store_hp {P : Program} {F : Fence} {n g cap k : Nat} {L : List Tm} {t : Tm} {ty : TypeId} {x y : Operand} {o : Oper} {a : Act} {w : World} {K : Act → World → Prop} {Q : Exit → Act → World → Prop} (h : Hp w g cap L) (hk : k < L.length) (ho : o.op = .store ty x y) (hx : opnd a x = some (.pointer (some ⟨g, k * 2, none⟩))) (hy : opnd a y = some (tm t))
    (hi : (P.info? ty).map (·.size) = some 2)
    (hK : ∀ w', Hp w' g cap (L.set k t) → Foot (· = g) w w' → K (a.put o.dst undef) w') : o.wpIn F n P a w K Q := by
  refine ⟨by simp [Oper.about, ho], ?_⟩
  rw [Oper.semAt_plain F _ _ (by rw [ho]; intro c hc'; cases hc')]
  have h0 : o.wp P a w (fun a' w' => K a' w' ∧ a' = a.put o.dst undef) Q := wp_store_mid ty x y ho g (k * 2) #[.int .u64 t.1, .int .i64 t.2] (opnd_eval hx) (opnd_eval hy) (h.there hk) hi (by rw [← Array.all_toList]; rfl) ⟨hK _ (h.put k t) (foot_cells w g _ _ _), rfl⟩
  unfold Oper.wp at h0
  unfold execOp at h0 ⊢
  simp only [ho, opnd_eval hx, opnd_eval hy, Instr.storeAt, Instr.sureAddr, Sem.run_bind, Sem.run_pure, Result.andThen_ok] at h0 ⊢
  rcases hr : (storeVar ty ⟨g, k * 2, none⟩ (tm t)).run P w with ⟨_, w'⟩ | ⟨hlt, w'⟩
  · rw [hr] at h0
    exact h0.1
  · rw [hr] at h0
    cases hlt <;> first | exact h0 | exact h0.elim
set_option maxRecDepth 100000 in
set_option maxHeartbeats 2000000 in
theorem sink_p (g cap i0 : Nat) (L : List Tm) (W : World) (h : Hp W g cap L) (hlen : L.length ≤ 1000) (hi0 : i0 < L.length) (hh : Tm.HeapFrom L (i0 + 1)) : Calls Try.prog 31 #[.slice (some ⟨g, 0, none⟩) L.length cap, .int .i64 i0] W fun e w' =>
    (∃ v, e = .returned v) ∧ ∃ L', Hp w' g cap L' ∧ L'.Perm L ∧ Tm.HeapFrom L' i0 ∧ Foot (· = g) W w' := by
  obtain ⟨cur0, _, hcap, hmx, _, _⟩ := h.out
  obtain ⟨n, hn⟩ : ∃ n, L.length = n := ⟨_, rfl⟩
  have HN := Lib.hid hn
  rw [hn] at hlen hi0 hcap ⊢
  have HH := Lib.hid (And.intro h hh)
  clear hn h hh
  unfold maxLen at hmx
  go_enter Try.func31, Try.ntmps31
  go_wp2
  go_loopw [1] (fun iv wr => ∃ (i : Nat) (L1 : List Tm), iv = .int .i64 i ∧ i < n ∧ L1.length = n ∧ L1.Perm L ∧ Tm.Sk L1 i0 i ∧ Hp wr g cap L1 ∧ Foot (· = g) W wr) (fun iv _ => n - (intOf iv).toNat)
  case atStart => exact ⟨i0, L, rfl, hi0, HN.out, List.Perm.refl _, Tm.Sk.start HH.out.2, HH.out.1, Foot.refl _ _⟩
  case round =>
    obtain ⟨i, L1, rfl, hi, hl1, hp1, hsk, h1, hF⟩ := hrel
    obtain ⟨w1, rfl⟩ : ∃ x, x = wr := ⟨_, rfl⟩
    obtain ⟨ti, hti⟩ : ∃ t, L1[i]? = some t := ⟨L1[i]'(by omega), List.getElem?_eq_getElem _⟩
    have HS := Lib.hid (And.intro hl1 (And.intro hp1 (And.intro hsk (And.intro h1 (And.intro hF hti)))))
    have hgl := h1.lt
    clear hl1 hp1 hsk h1 hF hti
    go_wp2
    go_loopw [4, 5] (fun fv bv wr2 => ∃ (f b : Nat) (tf : Tm), fv = .int .i64 f ∧ bv = .int .i64 b ∧ f < n ∧ 2 * i + 1 ≤ b ∧ b ≤ 2 * i + 3 ∧ Tm.Lk L1 i f b ti tf ∧ Below w1.heap.size w1 wr2) (fun _ bv _ => 2 * i + 3 - (intOf bv).toNat)
    case atStart => exact ⟨i, 2 * i + 1, ti, rfl, by go_num, hi, Nat.le_refl _, by omega, Tm.Lk.start HS.out.2.2.2.2.2, Below.refl _ _⟩
    case round =>
      obtain ⟨f, b, tf, rfl, rfl, hf, hb1, hb2, hlk, hB⟩ := hrel
      by_cases hin : b ≤ 2 * i + 2 ∧ b < n
      · obtain ⟨hin1, hin2⟩ := hin
        obtain ⟨hl1, hp1, hsk, h1, hF, hti⟩ := HS.out
        obtain ⟨tb, htb⟩ : ∃ t, L1[b]? = some t := ⟨L1[b]'(by omega), List.getElem?_eq_getElem _⟩
        obtain ⟨x0, x1⟩ := h1.cell htb
        obtain ⟨z0, z1⟩ := h1.cell hlk.at_
        have H : Mem w1 wr [] := ⟨hB, (fun _ h => by cases h), .nil⟩
        have hah := fun w => ahead_p tb tf w
        obtain ⟨bv, hbv⟩ : ∃ v, Tm.bef tb tf = v := ⟨_, rfl⟩
        rw [hbv] at hah
        have e1 : decide ((b : Int) ≤ 2 * i + 2) = true := decide_eq_true (by omega)
        have e2 : decide ((b : Int) < n) = true := decide_eq_true (by omega)
        have HL := Lib.hid (And.intro hlk (And.intro htb hbv))
        clear hl1 hp1 hsk h1 hF hti hlk htb hbv hB
        go_upto_region 4 with (fail)
        refine region_mem H 9 rfl (by kernel_rfl) (fun wr hS => ?_)
        clear H
        refine wpAnyR_take (i := 0) (v := (.slice (some ⟨g, 0, none⟩) n cap)) rfl rfl (by kernel_rfl) (by kernel_rfl) (by kernel_rfl) (fun _ _ _ h => h) (Nat.le_refl _) ⟨by rfl, fun w _ => (by go_simp; try (first | rfl | omega)), fun _ => rfl⟩ hS ?_
        simp only [List.getElem_toArray, List.getElem_cons_zero, List.getElem_cons_succ, Act.put, List.setIfInBounds_toArray, List.set_cons_zero, List.set_cons_succ]
        refine wpAnyR_take (i := 1) (v := (.int .i64 (b : Int))) rfl rfl (by kernel_rfl) (by kernel_rfl) (by kernel_rfl) (fun _ _ _ h => h) (Nat.le_refl _) ⟨by rfl, fun w _ => (by go_simp; try (first | rfl | omega)), fun _ => rfl⟩ hS ?_
        simp only [List.getElem_toArray, List.getElem_cons_zero, List.getElem_cons_succ, Act.put, List.setIfInBounds_toArray, List.set_cons_zero, List.set_cons_succ]
        refine wpAnyR_take (i := 2) (v := (.pointer (some ⟨g, b * 2, none⟩))) rfl rfl (by kernel_rfl) (by kernel_rfl) (by kernel_rfl) (fun _ _ _ h => h) (Nat.le_refl _) ⟨by rfl, fun w _ => (by go_simp; try (first | rfl | omega)), fun _ => rfl⟩ hS ?_
        simp only [List.getElem_toArray, List.getElem_cons_zero, List.getElem_cons_succ, Act.put, List.setIfInBounds_toArray, List.set_cons_zero, List.set_cons_succ]
        refine wpAnyR_take (i := 3) (v := (tm tb)) rfl rfl (by kernel_rfl) (by kernel_rfl) (by kernel_rfl) (fun _ _ _ h => h) (Nat.le_refl _) ⟨by rfl, fun w hR => (by have y0 := (Mem.old hR (p := ⟨g, b * 2, none⟩) hgl).trans x0; have y1 := (Mem.old hR (p := ⟨g, b * 2 + 1, none⟩) hgl).trans x1; go_simp; try rfl), fun _ => rfl⟩ hS ?_
        simp only [List.getElem_toArray, List.getElem_cons_zero, List.getElem_cons_succ, Act.put, List.setIfInBounds_toArray, List.set_cons_zero, List.set_cons_succ]
        refine wpAnyR_take (i := 4) (v := (.slice (some ⟨g, 0, none⟩) n cap)) rfl rfl (by kernel_rfl) (by kernel_rfl) (by kernel_rfl) (fun _ _ _ h => h) (Nat.le_refl _) ⟨by rfl, fun w _ => (by go_simp; try (first | rfl | omega)), fun _ => rfl⟩ hS ?_
        simp only [List.getElem_toArray, List.getElem_cons_zero, List.getElem_cons_succ, Act.put, List.setIfInBounds_toArray, List.set_cons_zero, List.set_cons_succ]
        refine wpAnyR_take (i := 5) (v := (.int .i64 (f : Int))) rfl rfl (by kernel_rfl) (by kernel_rfl) (by kernel_rfl) (fun _ _ _ h => h) (Nat.le_refl _) ⟨by rfl, fun w _ => (by go_simp; try (first | rfl | omega)), fun _ => rfl⟩ hS ?_
        simp only [List.getElem_toArray, List.getElem_cons_zero, List.getElem_cons_succ, Act.put, List.setIfInBounds_toArray, List.set_cons_zero, List.set_cons_succ]
        refine wpAnyR_take (i := 6) (v := (.pointer (some ⟨g, f * 2, none⟩))) rfl rfl (by kernel_rfl) (by kernel_rfl) (by kernel_rfl) (fun _ _ _ h => h) (Nat.le_refl _) ⟨by rfl, fun w _ => (by go_simp; try (first | rfl | omega)), fun _ => rfl⟩ hS ?_
        simp only [List.getElem_toArray, List.getElem_cons_zero, List.getElem_cons_succ, Act.put, List.setIfInBounds_toArray, List.set_cons_zero, List.set_cons_succ]
        refine wpAnyR_take (i := 7) (v := (tm tf)) rfl rfl (by kernel_rfl) (by kernel_rfl) (by kernel_rfl) (fun _ _ _ h => h) (Nat.le_refl _) ⟨by rfl, fun w hR => (by have y0 := (Mem.old hR (p := ⟨g, f * 2, none⟩) hgl).trans z0; have y1 := (Mem.old hR (p := ⟨g, f * 2 + 1, none⟩) hgl).trans z1; go_simp; try rfl), fun _ => rfl⟩ hS ?_
        simp only [List.getElem_toArray, List.getElem_cons_zero, List.getElem_cons_succ, Act.put, List.setIfInBounds_toArray, List.set_cons_zero, List.set_cons_succ]
        refine wpAnyG_one (i := 8) (by kernel_rfl) rfl (fun K hK => ?_)
        go_simp
        refine ⟨trivial, (callsIn_wide.2 (hah _)).mono ?_⟩
        rintro e w5 ⟨rfl, hb⟩
        have hS5 := hS.call hb
        clear hb hS
        refine hK _ _ (.inr hS5) ?_
        clear hK K
        refine wpAnyG_done (by kernel_rfl) ?_ _
        have H := hS5
        clear hS5
        cases bv
        · go_wp2
          go_roundw
          case rel => exact ⟨f, b + 1, tf, rfl, by go_num, hf, by omega, by omega, HL.out.1.no HL.out.2.1 HL.out.2.2, H.below⟩
          case measure => simp [intOf]; omega
        · go_wp2
          go_roundw
          case rel => exact ⟨b, b + 1, tb, rfl, by go_num, hin2, by omega, by omega, HL.out.1.yes (by unfold Tm.Kid; omega) HL.out.2.1 HL.out.2.2, H.below⟩
          case measure => simp [intOf]; omega
      · have hall : 2 * i + 2 < b ∨ L1.length ≤ b := by rw [HS.out.1]; omega
        have HL := Lib.hid (And.intro hlk (And.intro hall hB))
        clear hlk hall
        by_cases hfi : f = i
        · subst hfi
          have HB := Lib.hid hB
          clear hB
          by_cases hin1 : b ≤ 2 * f + 2
          · have e1 : decide ((b : Int) ≤ 2 * f + 2) = true := decide_eq_true (by omega)
            have e2 : decide ((b : Int) < n) = false := decide_eq_false (by omega)
            go_wp2
            refine bodyPost_ret (results_none rfl _ _ _) rfl ?_
            obtain ⟨hl1, hp1, hsk, h1, hF, hti⟩ := HS.out
            obtain ⟨hlk, hall, hB⟩ := HL.out
            exact ⟨⟨_, rfl⟩, L1, h1.below hB hgl, hp1, hsk.stop (fun c t' tc hk g1 g2 => by rw [hlk.at_] at g1; cases g1; exact hlk.all hall hk g2), hF.then_below hB⟩
          · have e1 : decide ((b : Int) ≤ 2 * f + 2) = false := decide_eq_false (by omega)
            go_wp2
            refine bodyPost_ret (results_none rfl _ _ _) rfl ?_
            obtain ⟨hl1, hp1, hsk, h1, hF, hti⟩ := HS.out
            obtain ⟨hlk, hall, hB⟩ := HL.out
            exact ⟨⟨_, rfl⟩, L1, h1.below hB hgl, hp1, hsk.stop (fun c t' tc hk g1 g2 => by rw [hlk.at_] at g1; cases g1; exact hlk.all hall hk g2), hF.then_below hB⟩
        · have e3 : ((f : Int) == i) = false := by simp; omega
          have HB := Lib.hid hB
          clear hB
          by_cases hin1 : b ≤ 2 * i + 2
          · have e1 : decide ((b : Int) ≤ 2 * i + 2) = true := decide_eq_true (by omega)
            have e2 : decide ((b : Int) < n) = false := decide_eq_false (by omega)
            go_upto_region 7 with (fail)
            obtain ⟨hl1, hp1, hsk, h1, hF, hti⟩ := HS.out
            obtain ⟨hlk, hall, hB⟩ := HL.out
            have hS : Hp wr.drew g cap L1 := h1.below hB.drew hgl
            have htf := hlk.at_
            obtain ⟨hkid, hbt⟩ : Tm.Kid i f ∧ Tm.bef tf ti = true := by rcases hlk.who with ⟨e, _⟩ | e; exact absurd e hfi; exact e
            refine (wpIn_wide (n := 6)).1 (wpIn_region_G (fun w => Hp w g cap L1) 13 16 rfl (by kernel_rfl) (fun hcl => ?_))
            refine wpAnyG_pure (i := 0) (v := (.slice (some ⟨g, 0, none⟩) n cap)) rfl rfl (by kernel_rfl) (by kernel_rfl) (by kernel_rfl) (fun _ _ _ h => h) (by decide) ⟨by rfl, fun w _ => (by go_simp; try (first | rfl | omega)), fun _ => rfl⟩ (.inr hS) ?_
            have hc1 := hcl.step (i := 0) (by kernel_rfl)
            clear hcl; have hcl := hc1; clear hc1; simp only [List.getElem_toArray, List.getElem_cons_zero, List.getElem_cons_succ, Act.put, List.setIfInBounds_toArray, List.set_cons_zero, List.set_cons_succ]
            refine wpAnyG_pure (i := 1) (v := (.int .i64 (i : Int))) rfl rfl (by kernel_rfl) (by kernel_rfl) (by kernel_rfl) (fun _ _ _ h => h) (by decide) ⟨by rfl, fun w _ => (by go_simp; try (first | rfl | omega)), fun _ => rfl⟩ (.inr hS) ?_
            have hc1 := hcl.step (i := 1) (by kernel_rfl)
            clear hcl; have hcl := hc1; clear hc1; simp only [List.getElem_toArray, List.getElem_cons_zero, List.getElem_cons_succ, Act.put, List.setIfInBounds_toArray, List.set_cons_zero, List.set_cons_succ]
            refine wpAnyG_pure (i := 2) (v := (.slice (some ⟨g, 0, none⟩) n cap)) rfl rfl (by kernel_rfl) (by kernel_rfl) (by kernel_rfl) (fun _ _ _ h => h) (by decide) ⟨by rfl, fun w _ => (by go_simp; try (first | rfl | omega)), fun _ => rfl⟩ (.inr hS) ?_
            have hc1 := hcl.step (i := 2) (by kernel_rfl)
            clear hcl; have hcl := hc1; clear hc1; simp only [List.getElem_toArray, List.getElem_cons_zero, List.getElem_cons_succ, Act.put, List.setIfInBounds_toArray, List.set_cons_zero, List.set_cons_succ]
            refine wpAnyG_pure (i := 3) (v := (.int .i64 (f : Int))) rfl rfl (by kernel_rfl) (by kernel_rfl) (by kernel_rfl) (fun _ _ _ h => h) (by decide) ⟨by rfl, fun w _ => (by go_simp; try (first | rfl | omega)), fun _ => rfl⟩ (.inr hS) ?_
            have hc1 := hcl.step (i := 3) (by kernel_rfl)
            clear hcl; have hcl := hc1; clear hc1; simp only [List.getElem_toArray, List.getElem_cons_zero, List.getElem_cons_succ, Act.put, List.setIfInBounds_toArray, List.set_cons_zero, List.set_cons_succ]
            refine wpAnyG_pure (i := 4) (v := (.slice (some ⟨g, 0, none⟩) n cap)) rfl rfl (by kernel_rfl) (by kernel_rfl) (by kernel_rfl) (fun _ _ _ h => h) (by decide) ⟨by rfl, fun w _ => (by go_simp; try (first | rfl | omega)), fun _ => rfl⟩ (.inr hS) ?_
            have hc1 := hcl.step (i := 4) (by kernel_rfl)
            clear hcl; have hcl := hc1; clear hc1; simp only [List.getElem_toArray, List.getElem_cons_zero, List.getElem_cons_succ, Act.put, List.setIfInBounds_toArray, List.set_cons_zero, List.set_cons_succ]
            refine wpAnyG_pure (i := 5) (v := (.int .i64 (f : Int))) rfl rfl (by kernel_rfl) (by kernel_rfl) (by kernel_rfl) (fun _ _ _ h => h) (by decide) ⟨by rfl, fun w _ => (by go_simp; try (first | rfl | omega)), fun _ => rfl⟩ (.inr hS) ?_
            have hc1 := hcl.step (i := 5) (by kernel_rfl)
            clear hcl; have hcl := hc1; clear hc1; simp only [List.getElem_toArray, List.getElem_cons_zero, List.getElem_cons_succ, Act.put, List.setIfInBounds_toArray, List.set_cons_zero, List.set_cons_succ]
            refine wpAnyG_pure (i := 6) (v := (.pointer (some ⟨g, f * 2, none⟩))) rfl rfl (by kernel_rfl) (by kernel_rfl) (by kernel_rfl) (fun _ _ _ h => h) (by decide) ⟨by rfl, fun w _ => (by go_simp; try (first | rfl | omega)), fun _ => rfl⟩ (.inr hS) ?_
            have hc1 := hcl.step (i := 6) (by kernel_rfl)
            clear hcl; have hcl := hc1; clear hc1; simp only [List.getElem_toArray, List.getElem_cons_zero, List.getElem_cons_succ, Act.put, List.setIfInBounds_toArray, List.set_cons_zero, List.set_cons_succ]
            refine wpAnyG_take (i := 7) 13 (v := (tm tf)) rfl rfl (by kernel_rfl) (by kernel_rfl) (by kernel_rfl) (fun _ _ _ h => h) (by kernel_rfl) (by decide) hcl ⟨by rfl, fun w hR => (by have y := Hp.cell (show Hp w g cap L1 from hR) htf; have y0 := y.1; have y1 := y.2; clear y hR; go_simp; try rfl), fun _ => rfl⟩ hS (fun hc1 => ?_)
            clear hcl; have hcl := hc1; clear hc1; simp only [List.getElem_toArray, List.getElem_cons_zero, List.getElem_cons_succ, Act.put, List.setIfInBounds_toArray, List.set_cons_zero, List.set_cons_succ]
            refine wpAnyG_pure (i := 8) (v := (.slice (some ⟨g, 0, none⟩) n cap)) rfl rfl (by kernel_rfl) (by kernel_rfl) (by kernel_rfl) (fun _ _ _ h => h) (by decide) ⟨by rfl, fun w _ => (by go_simp; try (first | rfl | omega)), fun _ => rfl⟩ (.inr hS) ?_
            have hc1 := hcl.step (i := 8) (by kernel_rfl)
            clear hcl; have hcl := hc1; clear hc1; simp only [List.getElem_toArray, List.getElem_cons_zero, List.getElem_cons_succ, Act.put, List.setIfInBounds_toArray, List.set_cons_zero, List.set_cons_succ]
            refine wpAnyG_pure (i := 9) (v := (.int .i64 (i : Int))) rfl rfl (by kernel_rfl) (by kernel_rfl) (by kernel_rfl) (fun _ _ _ h => h) (by decide) ⟨by rfl, fun w _ => (by go_simp; try (first | rfl | omega)), fun _ => rfl⟩ (.inr hS) ?_
            have hc1 := hcl.step (i := 9) (by kernel_rfl)
            clear hcl; have hcl := hc1; clear hc1; simp only [List.getElem_toArray, List.getElem_cons_zero, List.getElem_cons_succ, Act.put, List.setIfInBounds_toArray, List.set_cons_zero, List.set_cons_succ]
            refine wpAnyG_pure (i := 10) (v := (.pointer (some ⟨g, i * 2, none⟩))) rfl rfl (by kernel_rfl) (by kernel_rfl) (by kernel_rfl) (fun _ _ _ h => h) (by decide) ⟨by rfl, fun w _ => (by go_simp; try (first | rfl | omega)), fun _ => rfl⟩ (.inr hS) ?_
            have hc1 := hcl.step (i := 10) (by kernel_rfl)
            clear hcl; have hcl := hc1; clear hc1; simp only [List.getElem_toArray, List.getElem_cons_zero, List.getElem_cons_succ, Act.put, List.setIfInBounds_toArray, List.set_cons_zero, List.set_cons_succ]
            refine wpAnyG_take (i := 11) 13 (v := (tm ti)) rfl rfl (by kernel_rfl) (by kernel_rfl) (by kernel_rfl) (fun _ _ _ h => h) (by kernel_rfl) (by decide) hcl ⟨by rfl, fun w hR => (by have y := Hp.cell (show Hp w g cap L1 from hR) hti; have y0 := y.1; have y1 := y.2; clear y hR; go_simp; try rfl), fun _ => rfl⟩ hS (fun hc1 => ?_)
            clear hcl; have hcl := hc1; clear hc1; simp only [List.getElem_toArray, List.getElem_cons_zero, List.getElem_cons_succ, Act.put, List.setIfInBounds_toArray, List.set_cons_zero, List.set_cons_succ]
            refine wpAnyG_pure (i := 12) (v := (.pointer (some ⟨g, i * 2, none⟩))) rfl rfl (by kernel_rfl) (by kernel_rfl) (by kernel_rfl) (fun _ _ _ h => h) (by decide) ⟨by rfl, fun w _ => (by go_simp; try (first | rfl | omega)), fun _ => rfl⟩ (.inr hS) ?_
            have hc1 := hcl.step (i := 12) (by kernel_rfl)
            clear hcl; have hcl := hc1; clear hc1; simp only [List.getElem_toArray, List.getElem_cons_zero, List.getElem_cons_succ, Act.put, List.setIfInBounds_toArray, List.set_cons_zero, List.set_cons_succ]
            refine wpAnyG_one (i := 13) (by kernel_rfl) rfl (fun K hK => ?_)
            rw [if_pos (by exact rfl)]
            refine wpIn_store_hp (k := i) (t := tf) hS (by rw [hl1]; exact hi) (by exact rfl) (by exact rfl) (by exact rfl) tmInfo ?_
            intro w7 h7 F7
            refine hK _ _ (.inl (by kernel_rfl)) ?_
            have hc1 := hcl.step (i := 13) (by kernel_rfl)
            clear hK K hcl; have hcl := hc1; clear hc1; simp only [List.getElem_toArray, List.getElem_cons_zero, List.getElem_cons_succ, Act.put, List.setIfInBounds_toArray, List.set_cons_zero, List.set_cons_succ]
            refine wpAnyG_pure (i := 14) (v := (.pointer (some ⟨g, f * 2, none⟩))) rfl rfl (by kernel_rfl) (by kernel_rfl) (by kernel_rfl) (fun _ _ _ h => h) (by decide) ⟨by rfl, fun w _ => (by go_simp; try (first | rfl | omega)), fun _ => rfl⟩ (.inl (by kernel_rfl)) ?_
            have hc1 := hcl.step (i := 14) (by kernel_rfl)
            clear hcl; have hcl := hc1; clear hc1; simp only [List.getElem_toArray, List.getElem_cons_zero, List.getElem_cons_succ, Act.put, List.setIfInBounds_toArray, List.set_cons_zero, List.set_cons_succ]
            refine wpAnyG_one (i := 15) (by kernel_rfl) rfl (fun K hK => ?_)
            rw [if_pos (by exact rfl)]
            refine wpIn_store_hp (k := f) (t := ti) h7 (by rw [List.length_set, hl1]; exact hf) (by exact rfl) (by exact rfl) (by exact rfl) tmInfo ?_
            intro w8 h8 F8
            refine hK _ _ (.inl (by kernel_rfl)) ?_
            clear hK K hcl
            refine wpAnyG_done (by kernel_rfl) ?_ _
            have hfoot : Foot (· = g) W w8 := ((hF.then_below hB).drew.trans' F7).trans' F8
            have hif : i < f := by unfold Tm.Kid at hkid; omega
            have HZ := Lib.hid (And.intro hl1 (And.intro hp1 (And.intro (hsk.step hkid hti htf hbt (fun c tc hk hg => hlk.all hall hk hg)) (And.intro (Tm.swp_perm hti htf) (And.intro h8 hfoot)))))
            clear hl1 hp1 hsk h1 hF hti hlk hall hB hS htf hbt h7 F7 h8 F8 hfoot HS HL HB
            go_wp2
            go_roundw
            case rel => exact ⟨f, Tm.swp L1 i f ti tf, rfl, hf, (Tm.swp_length ..).trans HZ.out.1, HZ.out.2.2.2.1.trans HZ.out.2.1, HZ.out.2.2.1, HZ.out.2.2.2.2.1, HZ.out.2.2.2.2.2⟩
            case measure => simp [intOf]; omega
          · have e1 : decide ((b : Int) ≤ 2 * i + 2) = false := decide_eq_false (by omega)
            go_upto_region 7 with (fail)
            obtain ⟨hl1, hp1, hsk, h1, hF, hti⟩ := HS.out
            obtain ⟨hlk, hall, hB⟩ := HL.out
            have hS : Hp wr.drew g cap L1 := h1.below hB.drew hgl
            have htf := hlk.at_
            obtain ⟨hkid, hbt⟩ : Tm.Kid i f ∧ Tm.bef tf ti = true := by rcases hlk.who with ⟨e, _⟩ | e; exact absurd e hfi; exact e
            refine (wpIn_wide (n := 6)).1 (wpIn_region_G (fun w => Hp w g cap L1) 13 16 rfl (by kernel_rfl) (fun hcl => ?_))
            refine wpAnyG_pure (i := 0) (v := (.slice (some ⟨g, 0, none⟩) n cap)) rfl rfl (by kernel_rfl) (by kernel_rfl) (by kernel_rfl) (fun _ _ _ h => h) (by decide) ⟨by rfl, fun w _ => (by go_simp; try (first | rfl | omega)), fun _ => rfl⟩ (.inr hS) ?_
            have hc1 := hcl.step (i := 0) (by kernel_rfl)
            clear hcl; have hcl := hc1; clear hc1; simp only [List.getElem_toArray, List.getElem_cons_zero, List.getElem_cons_succ, Act.put, List.setIfInBounds_toArray, List.set_cons_zero, List.set_cons_succ]
            refine wpAnyG_pure (i := 1) (v := (.int .i64 (i : Int))) rfl rfl (by kernel_rfl) (by kernel_rfl) (by kernel_rfl) (fun _ _ _ h => h) (by decide) ⟨by rfl, fun w _ => (by go_simp; try (first | rfl | omega)), fun _ => rfl⟩ (.inr hS) ?_
            have hc1 := hcl.step (i := 1) (by kernel_rfl)
            clear hcl; have hcl := hc1; clear hc1; simp only [List.getElem_toArray, List.getElem_cons_zero, List.getElem_cons_succ, Act.put, List.setIfInBounds_toArray, List.set_cons_zero, List.set_cons_succ]
            refine wpAnyG_pure (i := 2) (v := (.slice (some ⟨g, 0, none⟩) n cap)) rfl rfl (by kernel_rfl) (by kernel_rfl) (by kernel_rfl) (fun _ _ _ h => h) (by decide) ⟨by rfl, fun w _ => (by go_simp; try (first | rfl | omega)), fun _ => rfl⟩ (.inr hS) ?_
            have hc1 := hcl.step (i := 2) (by kernel_rfl)
            clear hcl; have hcl := hc1; clear hc1; simp only [List.getElem_toArray, List.getElem_cons_zero, List.getElem_cons_succ, Act.put, List.setIfInBounds_toArray, List.set_cons_zero, List.set_cons_succ]
            refine wpAnyG_pure (i := 3) (v := (.int .i64 (f : Int))) rfl rfl (by kernel_rfl) (by kernel_rfl) (by kernel_rfl) (fun _ _ _ h => h) (by decide) ⟨by rfl, fun w _ => (by go_simp; try (first | rfl | omega)), fun _ => rfl⟩ (.inr hS) ?_
            have hc1 := hcl.step (i := 3) (by kernel_rfl)
            clear hcl; have hcl := hc1; clear hc1; simp only [List.getElem_toArray, List.getElem_cons_zero, List.getElem_cons_succ, Act.put, List.setIfInBounds_toArray, List.set_cons_zero, List.set_cons_succ]
            refine wpAnyG_pure (i := 4) (v := (.slice (some ⟨g, 0, none⟩) n cap)) rfl rfl (by kernel_rfl) (by kernel_rfl) (by kernel_rfl) (fun _ _ _ h => h) (by decide) ⟨by rfl, fun w _ => (by go_simp; try (first | rfl | omega)), fun _ => rfl⟩ (.inr hS) ?_
            have hc1 := hcl.step (i := 4) (by kernel_rfl)
            clear hcl; have hcl := hc1; clear hc1; simp only [List.getElem_toArray, List.getElem_cons_zero, List.getElem_cons_succ, Act.put, List.setIfInBounds_toArray, List.set_cons_zero, List.set_cons_succ]
            refine wpAnyG_pure (i := 5) (v := (.int .i64 (f : Int))) rfl rfl (by kernel_rfl) (by kernel_rfl) (by kernel_rfl) (fun _ _ _ h => h) (by decide) ⟨by rfl, fun w _ => (by go_simp; try (first | rfl | omega)), fun _ => rfl⟩ (.inr hS) ?_
            have hc1 := hcl.step (i := 5) (by kernel_rfl)
            clear hcl; have hcl := hc1; clear hc1; simp only [List.getElem_toArray, List.getElem_cons_zero, List.getElem_cons_succ, Act.put, List.setIfInBounds_toArray, List.set_cons_zero, List.set_cons_succ]
            refine wpAnyG_pure (i := 6) (v := (.pointer (some ⟨g, f * 2, none⟩))) rfl rfl (by kernel_rfl) (by kernel_rfl) (by kernel_rfl) (fun _ _ _ h => h) (by decide) ⟨by rfl, fun w _ => (by go_simp; try (first | rfl | omega)), fun _ => rfl⟩ (.inr hS) ?_
            have hc1 := hcl.step (i := 6) (by kernel_rfl)
            clear hcl; have hcl := hc1; clear hc1; simp only [List.getElem_toArray, List.getElem_cons_zero, List.getElem_cons_succ, Act.put, List.setIfInBounds_toArray, List.set_cons_zero, List.set_cons_succ]
            refine wpAnyG_take (i := 7) 13 (v := (tm tf)) rfl rfl (by kernel_rfl) (by kernel_rfl) (by kernel_rfl) (fun _ _ _ h => h) (by kernel_rfl) (by decide) hcl ⟨by rfl, fun w hR => (by have y := Hp.cell (show Hp w g cap L1 from hR) htf; have y0 := y.1; have y1 := y.2; clear y hR; go_simp; try rfl), fun _ => rfl⟩ hS (fun hc1 => ?_)
            clear hcl; have hcl := hc1; clear hc1; simp only [List.getElem_toArray, List.getElem_cons_zero, List.getElem_cons_succ, Act.put, List.setIfInBounds_toArray, List.set_cons_zero, List.set_cons_succ]
            refine wpAnyG_pure (i := 8) (v := (.slice (some ⟨g, 0, none⟩) n cap)) rfl rfl (by kernel_rfl) (by kernel_rfl) (by kernel_rfl) (fun _ _ _ h => h) (by decide) ⟨by rfl, fun w _ => (by go_simp; try (first | rfl | omega)), fun _ => rfl⟩ (.inr hS) ?_
            have hc1 := hcl.step (i := 8) (by kernel_rfl)
            clear hcl; have hcl := hc1; clear hc1; simp only [List.getElem_toArray, List.getElem_cons_zero, List.getElem_cons_succ, Act.put, List.setIfInBounds_toArray, List.set_cons_zero, List.set_cons_succ]
            refine wpAnyG_pure (i := 9) (v := (.int .i64 (i : Int))) rfl rfl (by kernel_rfl) (by kernel_rfl) (by kernel_rfl) (fun _ _ _ h => h) (by decide) ⟨by rfl, fun w _ => (by go_simp; try (first | rfl | omega)), fun _ => rfl⟩ (.inr hS) ?_
            have hc1 := hcl.step (i := 9) (by kernel_rfl)
            clear hcl; have hcl := hc1; clear hc1; simp only [List.getElem_toArray, List.getElem_cons_zero, List.getElem_cons_succ, Act.put, List.setIfInBounds_toArray, List.set_cons_zero, List.set_cons_succ]
            refine wpAnyG_pure (i := 10) (v := (.pointer (some ⟨g, i * 2, none⟩))) rfl rfl (by kernel_rfl) (by kernel_rfl) (by kernel_rfl) (fun _ _ _ h => h) (by decide) ⟨by rfl, fun w _ => (by go_simp; try (first | rfl | omega)), fun _ => rfl⟩ (.inr hS) ?_
            have hc1 := hcl.step (i := 10) (by kernel_rfl)
            clear hcl; have hcl := hc1; clear hc1; simp only [List.getElem_toArray, List.getElem_cons_zero, List.getElem_cons_succ, Act.put, List.setIfInBounds_toArray, List.set_cons_zero, List.set_cons_succ]
            refine wpAnyG_take (i := 11) 13 (v := (tm ti)) rfl rfl (by kernel_rfl) (by kernel_rfl) (by kernel_rfl) (fun _ _ _ h => h) (by kernel_rfl) (by decide) hcl ⟨by rfl, fun w hR => (by have y := Hp.cell (show Hp w g cap L1 from hR) hti; have y0 := y.1; have y1 := y.2; clear y hR; go_simp; try rfl), fun _ => rfl⟩ hS (fun hc1 => ?_)
            clear hcl; have hcl := hc1; clear hc1; simp only [List.getElem_toArray, List.getElem_cons_zero, List.getElem_cons_succ, Act.put, List.setIfInBounds_toArray, List.set_cons_zero, List.set_cons_succ]
            refine wpAnyG_pure (i := 12) (v := (.pointer (some ⟨g, i * 2, none⟩))) rfl rfl (by kernel_rfl) (by kernel_rfl) (by kernel_rfl) (fun _ _ _ h => h) (by decide) ⟨by rfl, fun w _ => (by go_simp; try (first | rfl | omega)), fun _ => rfl⟩ (.inr hS) ?_
            have hc1 := hcl.step (i := 12) (by kernel_rfl)
            clear hcl; have hcl := hc1; clear hc1; simp only [List.getElem_toArray, List.getElem_cons_zero, List.getElem_cons_succ, Act.put, List.setIfInBounds_toArray, List.set_cons_zero, List.set_cons_succ]
            refine wpAnyG_one (i := 13) (by kernel_rfl) rfl (fun K hK => ?_)
            rw [if_pos (by exact rfl)]
            refine wpIn_store_hp (k := i) (t := tf) hS (by rw [hl1]; exact hi) (by exact rfl) (by exact rfl) (by exact rfl) tmInfo ?_
            intro w7 h7 F7
            refine hK _ _ (.inl (by kernel_rfl)) ?_
            have hc1 := hcl.step (i := 13) (by kernel_rfl)
            clear hK K hcl; have hcl := hc1; clear hc1; simp only [List.getElem_toArray, List.getElem_cons_zero, List.getElem_cons_succ, Act.put, List.setIfInBounds_toArray, List.set_cons_zero, List.set_cons_succ]
            refine wpAnyG_pure (i := 14) (v := (.pointer (some ⟨g, f * 2, none⟩))) rfl rfl (by kernel_rfl) (by kernel_rfl) (by kernel_rfl) (fun _ _ _ h => h) (by decide) ⟨by rfl, fun w _ => (by go_simp; try (first | rfl | omega)), fun _ => rfl⟩ (.inl (by kernel_rfl)) ?_
            have hc1 := hcl.step (i := 14) (by kernel_rfl)
            clear hcl; have hcl := hc1; clear hc1; simp only [List.getElem_toArray, List.getElem_cons_zero, List.getElem_cons_succ, Act.put, List.setIfInBounds_toArray, List.set_cons_zero, List.set_cons_succ]
            refine wpAnyG_one (i := 15) (by kernel_rfl) rfl (fun K hK => ?_)
            rw [if_pos (by exact rfl)]
            refine wpIn_store_hp (k := f) (t := ti) h7 (by rw [List.length_set, hl1]; exact hf) (by exact rfl) (by exact rfl) (by exact rfl) tmInfo ?_
            intro w8 h8 F8
            refine hK _ _ (.inl (by kernel_rfl)) ?_
            clear hK K hcl
            refine wpAnyG_done (by kernel_rfl) ?_ _
            have hfoot : Foot (· = g) W w8 := ((hF.then_below hB).drew.trans' F7).trans' F8
            have hif : i < f := by unfold Tm.Kid at hkid; omega
            have HZ := Lib.hid (And.intro hl1 (And.intro hp1 (And.intro (hsk.step hkid hti htf hbt (fun c tc hk hg => hlk.all hall hk hg)) (And.intro (Tm.swp_perm hti htf) (And.intro h8 hfoot)))))
            clear hl1 hp1 hsk h1 hF hti hlk hall hB hS htf hbt h7 F7 h8 F8 hfoot HS HL HB
            go_wp2
            go_roundw
            case rel => exact ⟨f, Tm.swp L1 i f ti tf, rfl, hf, (Tm.swp_length ..).trans HZ.out.1, HZ.out.2.2.2.1.trans HZ.out.2.1, HZ.out.2.2.1, HZ.out.2.2.2.2.1, HZ.out.2.2.2.2.2⟩
            case measure => simp [intOf]; omega
end Go.Proofs.Ytbnfjppidmiheaa
