/-
  The program's Map. Conditions: the steer lies where its pointer says, the list where its slice says. The program's Table. Conditions: the steer and the table lie where their values say.
-/
import Derived.Test.YtaoaapbbadipfaaMHa
import Derived.Test.YtaoaapbbadipfaaMGv
/- The program's Map. Conditions: the steer lies where its pointer says, the list where its slice says. -/
section
namespace Go.Proofs.Ytaoaapbbadipfaa
set_option linter.unusedSimpArgs false
set_option linter.unusedVariables false
set_option maxRecDepth 100000
open Go.ChangeShapes Go.WideShapes Go.ChangeAt Go.RowKit Go.Maps

/-- a list becomes a processor's -/
theorem QAt.mapset {W : World} {rd own : Nat → Prop} {p : Nat} {s : SS} {N : Nat} {x : PParts} (h : QAt W rd own p s N x) {C : Nat} (hC : C < 64) {v : Value} {l : List Int} (hv : SlI W.heap.size W v l) (hb : l ≠ [] → ∀ i, blk v i → ¬ own i ∧ i < W.heap.size) (h64 : l.length ≤ 64 ∧ ∀ q, q ∈ l → 0 ≤ q ∧ q < 64) :
    QAt (W.setCell ⟨p, 34 + C, none⟩ v) (fun i => rd i ∨ (l ≠ [] ∧ blk v i)) own p (s.mapped (C : Int) l) N { x with L := fun k => if k = C then v else x.L k } := by
  have hz : (W.setCell ⟨p, 34 + C, none⟩ v).heap.size = W.heap.size := by simp [World.setCell]
  have hn0 : ∀ i, i ≠ p → (W.setCell ⟨p, 34 + C, none⟩ v).heap[i]? = W.heap[i]? := fun i hi => block_set _ _ _ _ _ hi
  have hn : ∀ i, ¬ own i → (W.setCell ⟨p, 34 + C, none⟩ v).heap[i]? = W.heap[i]? := fun i hi => hn0 i (fun e => hi (e ▸ h.op))
  refine ⟨?_, ?_, ?_, h.out, h.salt, h.right, ?_, h.op, h.om, h.ne, ?_, fun i hi => .inl (h.or i hi), ?_⟩
  · have := h.box.set (34 + C) v
    rw [psC_set_list _ _ _ _ _ _ hC] at this
    exact this
  · exact h.map.imp fun D hD => ⟨map_on hD.1 (hn0 _ (Ne.symm h.ne)), hD.2⟩
  · intro c hc
    show SlI _ _ (if c = C then v else x.L c) (if c = ((C : Int)).toNat then l else s.maps c)
    rw [Int.toNat_natCast]
    by_cases e : c = C
    · rw [if_pos e, if_pos e]
      exact hv.on0 (fun hl i hi => hn i (hb hl i hi).1) (by omega)
    · rw [if_neg e, if_neg e]
      exact (h.lists c hc).on0 (fun hl i hi => hn i (h.rl c hc hl i hi).2) (by omega)
  · intro c hc
    show (if c = ((C : Int)).toNat then l else s.maps c).length ≤ 64 ∧ ∀ q, q ∈ (if c = ((C : Int)).toNat then l else s.maps c) → _
    rw [Int.toNat_natCast]
    by_cases e : c = C
    · rw [if_pos e]
      exact h64
    · rw [if_neg e]
      exact h.m64 c hc
  · intro c hc hl i hi
    replace hi : blk (if c = C then v else x.L c) i := hi
    replace hl : (if c = ((C : Int)).toNat then l else s.maps c) ≠ [] := hl
    rw [Int.toNat_natCast] at hl
    by_cases e : c = C
    · rw [if_pos e] at hi hl
      exact ⟨.inr ⟨hl, hi⟩, (hb hl i hi).1⟩
    · rw [if_neg e] at hi hl
      exact ⟨.inl (h.rl c hc hl i hi).1, (h.rl c hc hl i hi).2⟩
  · rintro i (hi | ⟨hl, hi⟩)
    · rw [hz]; exact h.lt i hi
    · rw [hz]; exact (hb hl i hi).2
theorem SlI.one {B : Nat} {w : World} {v : Value} {l : List Int} (h : SlI B w v l) : v.oneCell' = true := by
  obtain ⟨A, c, rfl, _⟩ := h
  rfl
theorem fltQ_all {Q : Int} {l : List Int} (h : okTo Q l l.length = true) : fltQ Q l = l := List.filter_eq_self.2 fun q hq => decide_eq_true (okTo_all h q hq).2
theorem mapOk_eq (s : SS) (hQ : s.t.q ≤ 64) (c : Int) (l : List Int) : s.mapOk c l = (cpuB c && okTo s.t.q l l.length) := by
  unfold SS.mapOk cpuB
  rcases ho : okTo s.t.q l l.length with _ | _
  · simp
  · rw [decide_eq_true (okTo_64 hQ ho)]
    simp
set_option maxHeartbeats 2000000 in
theorem mapP_nil (W : World) : Calls Try.prog 21 #[.pointer none, .int .i64 0, .slice none 0 0] W fun e w' => e = .returned (.int .i64 1) ∧ Below W.heap.size W w' := by
  have H := Mem.start W
  go_enter Try.func21, Try.ntmps21
  go_wp2_with (first
    | (go_at_call 33; refine (miss_yes _).mono ?_; rintro e w5 ⟨rfl, hw⟩; rw [hw]; clear hw w5))
  go_ret
  exact ⟨rfl, H.below⟩
set_option maxHeartbeats 2000000 in
theorem mapP_p (W : World) (rd own : Nat → Prop) (p : Nat) (s : SS) (N : Nat) (h : PAt9 W rd own p s N) (c : Int) (A : Option Addr) (cap : Nat) (l : List Int) (hc64 : I64 c) (h70 : l.length ≤ 70) (hcap : l.length ≤ cap) (hcm : cap ≤ maxLen) (hrow : RowI W.heap.size W A l) (hi64 : ∀ y, y ∈ l → I64 y) (hnil : A = none → cap = 0) :
    Calls Try.prog 21 #[.pointer (some ⟨p, 0, none⟩), .int .i64 c, .slice A l.length cap] W (DidG PAt9 W rd own p (s.map c l) N (fun _ => False) (.int .i64 (s.mapE c l))) := by
  obtain ⟨x, h⟩ := h
  have H := Mem.start W
  have hp := h.plt
  obtain ⟨_, _, hL, q0, _⟩ := h.cell
  have hq := ((TB.right_iff s.t).1 h.right).q
  have hmo := mapOk_eq s hq.2 c l
  have hmi := fun w (hb : Below W.heap.size W w) => miss_no w rd own p s N x (h.below hb)
  have hkm := fun (v : Bool) (hv : okTo s.t.q l l.length = v) (w : World) (hb : Below W.heap.size W w) (cq : w.cell? ⟨p, 0, none⟩ = some (.int .i64 s.t.q)) => mayList_p p s.t.q hq A l.length cap l w cq (Nat.lt_of_lt_of_le hp hb.size) rfl h70 hcap hcm ((hrow.same hb.block).mono hb.size) hi64 v hv
  have hkb := fun (w : World) (hb : Below W.heap.size W w) => below_p s.t.q A l.length cap l w rfl h70 hcap hcm ((hrow.same hb.block).mono hb.size)
  rcases hP : cpuB c with _ | _
  · have e1 : s.mapOk c l = false := by rw [hmo, hP]; rfl
    rw [SS.map, SS.mapE, e1]
    have kc := fun w => isCpu_p c false hP w
    have HQ := Lib.hid h
    clear h e1 hmo hP hkm hkb hrow hi64 hL
    obtain ⟨n, hn⟩ : ∃ n, l.length = n := ⟨_, rfl⟩
    rw [hn]
    go_enter Try.func21, Try.ntmps21
    go_wp2_with (first
      | (go_at_call 33; refine (hmi _ H.below).mono ?_; rintro e w5 ⟨rfl, hw⟩; rw [hw]; clear hw w5)
      | (go_at_call 38; refine (kc _).mono ?_; rintro e w5 ⟨rfl, hw⟩; rw [hw]; clear hw w5))
    go_ret
    exact ⟨rfl, ⟨rd, own, ⟨x, HQ.out.below H.below⟩, (fun i hi => .inl hi), (fun i hi => .inl hi)⟩, Foot.of_below H.below⟩
  · have kc := fun w => isCpu_p c true hP w
    rcases hO : okTo s.t.q l l.length with _ | _
    · have e1 : s.mapOk c l = false := by rw [hmo, hP, hO]; rfl
      rw [SS.map, SS.mapE, e1]
      have km := hkm false hO
      have HQ := Lib.hid h
      obtain ⟨Q, hQ⟩ : ∃ Q, s.t.q = Q := ⟨_, rfl⟩
      obtain ⟨n, hn⟩ : ∃ n, l.length = n := ⟨_, rfl⟩
      rw [hQ, hn] at km
      rw [hQ] at q0
      rw [hn]
      clear h e1 hmo hP hkm hkb hrow hi64 hL hO hn hQ
      go_enter Try.func21, Try.ntmps21
      go_wp2_with (first
        | (go_at_call 33; refine (hmi _ H.below).mono ?_; rintro e w5 ⟨rfl, hw⟩; rw [hw]; clear hw w5)
        | (go_at_call 38; refine (kc _).mono ?_; rintro e w5 ⟨rfl, hw⟩; rw [hw]; clear hw w5)
        | (go_at_call 42; refine (km _ H.below ((H.old (p := ⟨p, 0, none⟩) hp).trans q0)).mono ?_; rintro e w5 ⟨rfl, hb⟩; have H2 := H.call hb; clear H hb; have H := H2; clear H2))
      go_ret
      exact ⟨rfl, ⟨rd, own, ⟨x, HQ.out.below H.below⟩, (fun i hi => .inl hi), (fun i hi => .inl hi)⟩, Foot.of_below H.below⟩
    · have e1 : s.mapOk c l = true := by rw [hmo, hP, hO]; rfl
      rw [SS.map, SS.mapE, e1]
      have hcr : 0 ≤ c ∧ c < 64 := by simpa [cpuB] using hP
      obtain ⟨C, rfl⟩ := Int.eq_ofNat_of_zero_le hcr.1
      have hC : C < 64 := by omega
      have km := hkm true hO
      have cL := hL C hC
      have hop := h.op
      rw [fltQ_all hO] at hkb
      have h64 : l.length ≤ 64 ∧ ∀ q, q ∈ l → 0 ≤ q ∧ q < 64 := ⟨okTo_64 hq.2 hO, fun q hq' => by have := okTo_all hO q hq'; omega⟩
      have HQ := Lib.hid (And.intro h h64)
      have t2 : decide ((C : Int) < 64) = true := decide_eq_true (by omega)
      have hfz := h.box.frozen (34 + C)
      obtain ⟨L0, hL0⟩ : ∃ v, x.L C = v := ⟨_, rfl⟩
      rw [hL0] at cL
      obtain ⟨Q, hQ⟩ : ∃ Q, s.t.q = Q := ⟨_, rfl⟩
      obtain ⟨n, hn⟩ : ∃ n, l.length = n := ⟨_, rfl⟩
      rw [hQ, hn] at km
      rw [hQ, hn] at hkb
      rw [hQ] at q0
      rw [hn]
      have HB := Lib.hid hkb
      clear h e1 hmo hP hkm hkb hrow hi64 hL hO hn hQ hL0 h64
      go_enter Try.func21, Try.ntmps21
      go_upto_region 5 with (first
        | (go_at_call 33; refine (hmi _ H.below).mono ?_; rintro e w5 ⟨rfl, hw⟩; rw [hw]; clear hw w5)
        | (go_at_call 38; refine (kc _).mono ?_; rintro e w5 ⟨rfl, hw⟩; rw [hw]; clear hw w5)
        | (go_at_call 42; refine (km _ H.below ((H.old (p := ⟨p, 0, none⟩) hp).trans q0)).mono ?_; rintro e w5 ⟨rfl, hb⟩; have H2 := H.call hb; clear H hb; have H := H2; clear H2))
      refine region_memk H 12 13 rfl (by kernel_rfl) (fun wr0 hcl hS => ?_)
      clear H
      refine wpAnyG_pure (i := 0) (v := (.pointer (some ⟨p, 0, none⟩))) rfl rfl (by kernel_rfl) (by kernel_rfl) (by kernel_rfl) (fun _ _ _ h => h) (by decide) ⟨by rfl, fun w _ => (by go_simp; try (first | (simp only [IntKind.wrap_u32]; done) | rfl)), fun _ => rfl⟩ (.inr hS) ?_
      have hc1 := hcl.step (i := 0) (by kernel_rfl)
      clear hcl; have hcl := hc1; clear hc1; simp only [List.getElem_toArray, List.getElem_cons_zero, List.getElem_cons_succ, Act.put, List.setIfInBounds_toArray, List.set_cons_zero, List.set_cons_succ]
      refine wpAnyG_pure (i := 1) (v := (.int .i64 (C : Int))) rfl rfl (by kernel_rfl) (by kernel_rfl) (by kernel_rfl) (fun _ _ _ h => h) (by decide) ⟨by rfl, fun w _ => (by go_simp; try (first | (simp only [IntKind.wrap_u32]; done) | rfl)), fun _ => rfl⟩ (.inr hS) ?_
      have hc1 := hcl.step (i := 1) (by kernel_rfl)
      clear hcl; have hcl := hc1; clear hc1; simp only [List.getElem_toArray, List.getElem_cons_zero, List.getElem_cons_succ, Act.put, List.setIfInBounds_toArray, List.set_cons_zero, List.set_cons_succ]
      refine wpAnyG_pure (i := 2) (v := (.pointer (some ⟨p, 0, none⟩))) rfl rfl (by kernel_rfl) (by kernel_rfl) (by kernel_rfl) (fun _ _ _ h => h) (by decide) ⟨by rfl, fun w _ => (by go_simp; try (first | (simp only [IntKind.wrap_u32]; done) | rfl)), fun _ => rfl⟩ (.inr hS) ?_
      have hc1 := hcl.step (i := 2) (by kernel_rfl)
      clear hcl; have hcl := hc1; clear hc1; simp only [List.getElem_toArray, List.getElem_cons_zero, List.getElem_cons_succ, Act.put, List.setIfInBounds_toArray, List.set_cons_zero, List.set_cons_succ]
      refine wpAnyG_pure (i := 3) (v := (.pointer (some ⟨p, 0, none⟩))) rfl rfl (by kernel_rfl) (by kernel_rfl) (by kernel_rfl) (fun _ _ _ h => h) (by decide) ⟨by rfl, fun w _ => (by go_simp; try (first | (simp only [IntKind.wrap_u32]; done) | rfl)), fun _ => rfl⟩ (.inr hS) ?_
      have hc1 := hcl.step (i := 3) (by kernel_rfl)
      clear hcl; have hcl := hc1; clear hc1; simp only [List.getElem_toArray, List.getElem_cons_zero, List.getElem_cons_succ, Act.put, List.setIfInBounds_toArray, List.set_cons_zero, List.set_cons_succ]
      refine wpAnyG_pure (i := 4) (v := (.pointer (some ⟨p, 0, none⟩))) rfl rfl (by kernel_rfl) (by kernel_rfl) (by kernel_rfl) (fun _ _ _ h => h) (by decide) ⟨by rfl, fun w _ => (by go_simp; try (first | (simp only [IntKind.wrap_u32]; done) | rfl)), fun _ => rfl⟩ (.inr hS) ?_
      have hc1 := hcl.step (i := 4) (by kernel_rfl)
      clear hcl; have hcl := hc1; clear hc1; simp only [List.getElem_toArray, List.getElem_cons_zero, List.getElem_cons_succ, Act.put, List.setIfInBounds_toArray, List.set_cons_zero, List.set_cons_succ]
      refine wpAnyG_pure (i := 5) (v := (.pointer (some ⟨p, 0, none⟩))) rfl rfl (by kernel_rfl) (by kernel_rfl) (by kernel_rfl) (fun _ _ _ h => h) (by decide) ⟨by rfl, fun w _ => (by go_simp; try (first | (simp only [IntKind.wrap_u32]; done) | rfl)), fun _ => rfl⟩ (.inr hS) ?_
      have hc1 := hcl.step (i := 5) (by kernel_rfl)
      clear hcl; have hcl := hc1; clear hc1; simp only [List.getElem_toArray, List.getElem_cons_zero, List.getElem_cons_succ, Act.put, List.setIfInBounds_toArray, List.set_cons_zero, List.set_cons_succ]
      refine wpAnyG_take (i := 6) 1 (v := (.int .i64 Q)) rfl rfl (by kernel_rfl) (by kernel_rfl) (by kernel_rfl) (fun _ _ _ h => h) (by kernel_rfl) (by decide) hcl (yields_old q0 hp (by exact rfl) (by exact rfl) (by exact rfl) Try.underlying3 rfl) hS (fun hc1 => ?_)
      clear hcl; have hcl := hc1; clear hc1; simp only [List.getElem_toArray, List.getElem_cons_zero, List.getElem_cons_succ, Act.put, List.setIfInBounds_toArray, List.set_cons_zero, List.set_cons_succ]
      refine wpAnyG_pure (i := 7) (v := (.slice A n cap)) rfl rfl (by kernel_rfl) (by kernel_rfl) (by kernel_rfl) (fun _ _ _ h => h) (by decide) ⟨by rfl, fun w _ => (by go_simp; try (first | (simp only [IntKind.wrap_u32]; done) | rfl)), fun _ => rfl⟩ (.inr hS) ?_
      have hc1 := hcl.step (i := 7) (by kernel_rfl)
      clear hcl; have hcl := hc1; clear hc1; simp only [List.getElem_toArray, List.getElem_cons_zero, List.getElem_cons_succ, Act.put, List.setIfInBounds_toArray, List.set_cons_zero, List.set_cons_succ]
      refine wpAnyG_pure (i := 9) (v := (.pointer (some ⟨p, 0, none⟩))) rfl rfl (by kernel_rfl) (by kernel_rfl) (by kernel_rfl) (fun _ _ _ h => h) (by decide) ⟨by rfl, fun w _ => (by go_simp; try (first | (simp only [IntKind.wrap_u32]; done) | rfl)), fun _ => rfl⟩ (.inr hS) ?_
      have hc1 := hcl.step (i := 9) (by kernel_rfl)
      clear hcl; have hcl := hc1; clear hc1; simp only [List.getElem_toArray, List.getElem_cons_zero, List.getElem_cons_succ, Act.put, List.setIfInBounds_toArray, List.set_cons_zero, List.set_cons_succ]
      refine wpAnyG_pure (i := 10) (v := (.pointer (some ⟨p, 34, none⟩))) rfl rfl (by kernel_rfl) (by kernel_rfl) (by kernel_rfl) (fun _ _ _ h => h) (by decide) ⟨by rfl, fun w _ => (by go_simp; try (first | (simp only [IntKind.wrap_u32]; done) | rfl)), fun _ => rfl⟩ (.inr hS) ?_
      have hc1 := hcl.step (i := 10) (by kernel_rfl)
      clear hcl; have hcl := hc1; clear hc1; simp only [List.getElem_toArray, List.getElem_cons_zero, List.getElem_cons_succ, Act.put, List.setIfInBounds_toArray, List.set_cons_zero, List.set_cons_succ]
      refine wpAnyG_one (i := 8) (by kernel_rfl) rfl (fun K hK => ?_)
      go_simp
      refine ⟨trivial, (callsIn_wide.2 (HB.out _ hS.below)).mono ?_⟩
      rintro e w5 ⟨v, rfl, hsl, hbk, hb⟩
      have hS5 := hS.call hb
      have HSL := Lib.hid (show (l ≠ [] → ∀ i, blk v i → W.heap.size ≤ i ∧ i < w5.heap.size) ∧ SlI w5.heap.size w5 v l from ⟨fun hl i hi => ⟨Nat.le_trans hS.below.size (hbk hl i hi).1, (hbk hl i hi).2⟩, hsl⟩)
      have hone := hsl.one
      clear hb hS hsl hbk
      have hS := hS5
      clear hS5
      refine hK _ _ (.inr hS) ?_
      clear hK K
      have hc1 := hcl.step (i := 8) (by kernel_rfl)
      clear hcl
      have hcl := hc1
      clear hc1
      try simp only [List.getElem_toArray, List.getElem_cons_zero, List.getElem_cons_succ, Act.put, List.setIfInBounds_toArray, List.set_cons_zero, List.set_cons_succ]
      refine wpAnyG_pure (i := 11) (v := (.pointer (some ⟨p, 34 + C, none⟩))) rfl rfl (by kernel_rfl) (by kernel_rfl) (by kernel_rfl) (fun _ _ _ h => h) (by decide) ⟨by rfl, fun w _ => (by go_simp; try (first | (simp only [IntKind.wrap_u32]; done) | rfl)), fun _ => rfl⟩ (.inr hS) ?_
      have hc1 := hcl.step (i := 11) (by kernel_rfl)
      clear hcl; have hcl := hc1; clear hc1; simp only [List.getElem_toArray, List.getElem_cons_zero, List.getElem_cons_succ, Act.put, List.setIfInBounds_toArray, List.set_cons_zero, List.set_cons_succ]
      refine wpAnyG_one (i := 12) (by kernel_rfl) rfl (fun K hK => ?_)
      rw [if_pos (by exact rfl)]
      have hQ5 := HQ.out.1.below hS.below
      have hc5 := hQ5.cell.2.2.1 C hC
      refine wpIn_store_old hc5 (hQ5.box.frozen _) (by exact rfl) (by exact rfl) (by exact rfl) pslInfo hone ?_
      have hQ6 := hQ5.mapset hC HSL.out.2 (fun hl i hi => ⟨fun ho => by
        have h1 := (HSL.out.1 hl i hi).1
        have h2 := HQ.out.1.lt i (HQ.out.1.or i ho)
        omega, (HSL.out.1 hl i hi).2⟩) HQ.out.2
      have hF6 : Foot own W (w5.setCell ⟨p, 34 + C, none⟩ v) := (Foot.of_below hS.below).setCell (p := ⟨p, 34 + C, none⟩) (fun _ => hop) v
      have HF := Lib.hid (And.intro hQ6 hF6)
      refine hK _ _ (.inl (by kernel_rfl)) ?_
      clear hK K hS hcl hQ5 hc5 hQ6 hF6
      refine wpAnyG_done (by kernel_rfl) ?_ _
      go_wp2
      go_ret
      exact ⟨rfl, ⟨_, own, ⟨_, HF.out.1⟩, (fun i hi => by
        rcases hi with hi | ⟨hl, hi⟩
        · exact .inl hi
        · exact .inr (.inr (HSL.out.1 hl i hi).1)), (fun i hi => .inl hi)⟩, HF.out.2⟩
end Go.Proofs.Ytaoaapbbadipfaa
end
/- The program's Table. Conditions: the steer and the table lie where their values say. -/
section
namespace Go.Proofs.Ytaoaapbbadipfaa
set_option linter.unusedSimpArgs false
set_option linter.unusedVariables false
set_option maxRecDepth 100000
open Go.ChangeShapes Go.WideShapes Go.ChangeAt Go.RowKit Go.Maps

theorem infoAr (L : Nat → Value) : (Try.prog.info? 75).map (·.size) = some ((List.range 64).map L).length := by
  rw [List.length_map, List.length_range]
  kernel_rfl
theorem idxL (arr : Array Value) (c : Nat) (hc : c < 64) (v : Value) (hv : arr[c]? = some v) (w : World) : (Instr.index 75 (.agg arr) (.int .i64 (c : Int))).run Try.prog w = .ok v w := by
  have hagg : (isAgg 29).run Try.prog w = .ok false w := by
    unfold isAgg
    rw [Sem.run_bind, run_underlying Try.underlying29 w]
    rfl
  have hsz : (sizeOf 29).run Try.prog w = .ok 1 w := by
    have h := pslInfo
    rcases hi : Try.prog.info? 29 with _ | i
    · rw [hi] at h; cases h
    · rw [hi] at h
      simp at h
      simp [sizeOf, typeInfo, hi, h]
  have h1 : (0 : Int) ≤ (c : Int) ∧ (c : Int) < 64 := by omega
  simp [Instr.index, run_underlying Try.underlying75, asIntOf, part, hagg, hsz, hv, hc, go_sem]
/-- the table is changed -/
theorem QAt.tabset {W : World} {rd own : Nat → Prop} {p : Nat} {s : SS} {N : Nat} {x : PParts} (h : QAt W rd own p s N x) {t : TB} (hr : t.right = true) : QAt (W.setCells p 0 (clL t.q t.spAt)) rd own p (s.tabTo t 0) N x := by
  have hf := Foot.setCells p (clL t.q t.spAt) 0 W
  have hn0 : ∀ i, i < W.heap.size → i ≠ p → (W.setCells p 0 (clL t.q t.spAt)).heap[i]? = W.heap[i]? := fun i hi hp => hf.block i hi hp
  refine ⟨?_, ?_, ?_, h.out, h.salt, hr, h.m64, h.op, h.om, h.ne, h.rl, h.or, fun i hi => Nat.lt_of_lt_of_le (h.lt i hi) hf.size⟩
  · have := Held.setCells (clL t.q t.spAt) 0 h.box
    rw [psC_classes] at this
    exact this
  · exact h.map.imp fun D hD => ⟨map_on hD.1 (hn0 _ h.mlt (Ne.symm h.ne)), hD.2⟩
  · exact fun c hc => (h.lists c hc).on0 (fun hl i hi => hn0 i (h.lt i (h.rl c hc hl i hi).1) (fun e => (h.rl c hc hl i hi).2 (e ▸ h.op))) hf.size
set_option maxHeartbeats 2000000 in
theorem tableP_nil (A1 A2 : Option Addr) (c1 c2 : Nat) (t : TB) (W : World) (ht : TbAt W.heap.size W A1 A2 c1 c2 t) : Calls Try.prog 23 #[.pointer none, .agg (tbC A1 A2 c1 c2 t)] W fun e w' => e = .returned (.int .i64 1) ∧ Below W.heap.size W w' := by
  have H := Mem.start W
  clear ht
  go_enter Try.func23, Try.ntmps23
  go_wp2_with (first
    | ((with_reducible show wpList _ _ _ _ _ (World.alloc _ (.cells _ _))); refine mem_newb (l := []) H ?_; intro bt w3 hbk H2; try rw [← hbk]; clear hbk H; have H := H2; clear H2; simp only [List.cons_append, List.nil_append, List.set_cons_zero, List.set_cons_succ, List.setIfInBounds_toArray] at H)
    | (go_at_call 33; refine (miss_yes _).mono ?_; rintro e w5 ⟨rfl, hw⟩; rw [hw]; clear hw w5))
  go_ret
  exact ⟨rfl, H.below⟩
set_option maxHeartbeats 2000000 in
theorem tableP_no (W : World) (rd own : Nat → Prop) (p : Nat) (s : SS) (N : Nat) (x : PParts) (h : QAt W rd own p s N x) (A3 A4 : Option Addr) (c3 c4 : Nat) (t : TB) (ht : TbAt W.heap.size W A3 A4 c3 c4 t) (hf : Few t) (hr : t.right = false) : Calls Try.prog 23 #[.pointer (some ⟨p, 0, none⟩), .agg (tbC A3 A4 c3 c4 t)] W fun e w' => e = .returned (.int .i64 80) ∧ Below W.heap.size W w' := by
  have H := Mem.start W
  have T := Lib.hid ht
  have hmi := fun w (hb : Below W.heap.size W w) => miss_no w rd own p s N x (h.below hb)
  have cr := fun w h => classesOf_no A3 A4 c3 c4 t w h hf hr
  rw [cl_zero] at cr
  clear ht hr hf h
  go_enter Try.func23, Try.ntmps23
  go_upto_region 1 with (first
    | ((with_reducible show wpList _ _ _ _ _ (World.alloc _ (.cells _ _))); refine mem_newb (l := []) H ?_; intro bt w3 hbk H2; try rw [← hbk]; clear hbk H; have H := H2; clear H2; simp only [List.cons_append, List.nil_append, List.set_cons_zero, List.set_cons_succ, List.setIfInBounds_toArray] at H))
  go_wp2_with (first
    | go_skip
    | (go_at_call 33; refine (hmi _ H.below).mono ?_; rintro e w5 ⟨rfl, hw⟩; rw [hw]; clear hw w5)
    | ((with_reducible show wpList _ _ _ (⟨_, .load 32 _, _, _, _, _⟩ :: _) _ _); refine mem_load (i := 0) H (by first | exact wanted_none rfl | exact wanted_some rfl rfl rfl rfl) (by exact rfl) (by exact rfl) (by exact rfl) Try.underlying32 rfl (by exact tbInfo) ?_)
    | (go_at_call 28; with_reducible refine (cr _ (T.out.mem H)).mono ?_; rintro e w2 ⟨rfl, hb⟩; have H2 := H.call hb; clear H hb; have H := H2; clear H2)
    | ((with_reducible show wpList _ _ _ _ _ (World.alloc _ (.cells _ _))); refine mem_newb (l := [_]) H ?_; intro bc w3 hbk H2; try rw [← hbk]; clear hbk H; have H := H2; clear H2; simp only [List.cons_append, List.nil_append, List.set_cons_zero, List.set_cons_succ, List.setIfInBounds_toArray] at H)
    | ((with_reducible show wpList _ _ _ (⟨_, .store 71 _ _, _, _, _, _⟩ :: _) _ _); refine mem_store (i := 1) H (by first | exact wanted_none rfl | exact wanted_some rfl rfl rfl rfl) (by exact rfl) (by exact rfl) (by exact rfl) (by exact rfl) (by exact pclInfo) (by exact rfl) (by exact rfl) ?_; intro w2 H2; clear H; have H := H2; clear H2; simp only [List.cons_append, List.nil_append, List.set_cons_zero, List.set_cons_succ, List.setIfInBounds_toArray] at H))
  go_ret
  exact ⟨rfl, H.below⟩
/-- between two processors -/
def TabJ (W : World) (rd own : Nat → Prop) (p : Nat) (s : SS) (N : Nat) (t : TB) (L : Nat → Value) (c : Nat) (V : World) : Prop :=
  (∃ rd' x', QAt V rd' own p (s.tabTo t c) N x' ∧ (∀ k, c ≤ k → k < 64 → x'.L k = L k) ∧ ∀ i, rd' i → rd i ∨ W.heap.size ≤ i) ∧ Foot own W V
set_option maxHeartbeats 2000000 in
theorem tableP_yes (W : World) (rd own : Nat → Prop) (p : Nat) (s : SS) (N : Nat) (x : PParts) (h : QAt W rd own p s N x) (A3 A4 : Option Addr) (c3 c4 : Nat) (t : TB) (ht : TbAt W.heap.size W A3 A4 c3 c4 t) (hr : t.right = true) : Calls Try.prog 23 #[.pointer (some ⟨p, 0, none⟩), .agg (tbC A3 A4 c3 c4 t)] W (DidG PAt9 W rd own p (s.tabled t) N (tbS A3 A4) (.int .i64 0)) := by
  have H := Mem.start W
  have T := Lib.hid ht
  have HQ := Lib.hid h
  have HRT := Lib.hid hr
  have hp := h.plt
  have hop := h.op
  have hmi := fun w (hb : Below W.heap.size W w) => miss_no w rd own p s N x (h.below hb)
  have cr := fun w h => classesOf_yes A3 A4 c3 c4 t w h hr
  obtain ⟨Cl, hCl⟩ : ∃ v, clC t.q t.spAt = v := ⟨_, rfl⟩
  rw [hCl] at cr
  have hcli : (Try.prog.info? 71).map (·.size) = some Cl.size := by rw [← hCl]; exact pclInfo' _ _
  have hcls : Cl.size = 33 := by rw [← hCl]; exact clC_size _ _
  have hcl1 : Cl.toList.all (·.oneCell') = true := by rw [← hCl]; exact clC_one _ _
  have HCL := Lib.hid hCl
  clear ht hr h hCl
  go_enter Try.func23, Try.ntmps23
  go_upto_region 1 with (first
    | ((with_reducible show wpList _ _ _ _ _ (World.alloc _ (.cells _ _))); refine mem_newb (l := []) H ?_; intro bt w3 hbk H2; try rw [← hbk]; clear hbk H; have H := H2; clear H2; simp only [List.cons_append, List.nil_append, List.set_cons_zero, List.set_cons_succ, List.setIfInBounds_toArray] at H))
  go_upto_region 6 with (first
    | (go_at_call 33; refine (hmi _ H.below).mono ?_; rintro e w5 ⟨rfl, hw⟩; rw [hw]; clear hw w5)
    | ((with_reducible show wpList _ _ _ (⟨_, .load 32 _, _, _, _, _⟩ :: _) _ _); refine mem_load (i := 0) H (by first | exact wanted_none rfl | exact wanted_some rfl rfl rfl rfl) (by exact rfl) (by exact rfl) (by exact rfl) Try.underlying32 rfl (by exact tbInfo) ?_)
    | (go_at_call 28; with_reducible refine (cr _ (T.out.mem H)).mono ?_; rintro e w2 ⟨rfl, hb⟩; have H2 := H.call hb; clear H hb; have H := H2; clear H2)
    | ((with_reducible show wpList _ _ _ _ _ (World.alloc _ (.cells _ _))); refine mem_newb (l := [_]) H ?_; intro bc w3 hbk H2; try rw [← hbk]; clear hbk H; have H := H2; clear H2; simp only [List.cons_append, List.nil_append, List.set_cons_zero, List.set_cons_succ, List.setIfInBounds_toArray] at H)
    | ((with_reducible show wpList _ _ _ (⟨_, .store 71 _ _, _, _, _, _⟩ :: _) _ _); refine mem_store (i := 1) H (by first | exact wanted_none rfl | exact wanted_some rfl rfl rfl rfl) (by exact rfl) (by exact rfl) (by exact rfl) (by exact rfl) (by exact hcli) (by rw [hcls]; rfl) (by exact hcl1) ?_; intro w2 H2; clear H; have H := H2; clear H2; simp only [List.cons_append, List.nil_append, List.set_cons_zero, List.set_cons_succ, List.setIfInBounds_toArray] at H))
  have Q2 := HQ.out.below H.below
  have hth : w2.there p 0 Cl.size := held_there Q2.box (by rw [psC_size, hcls]; omega)
  obtain ⟨w4, hw4⟩ : ∃ w4, w2.setCells p 0 Cl.toList = w4 := ⟨_, rfl⟩
  have Q4 : QAt w4 rd own p (s.tabTo t 0) N x := by
    have h := Q2.tabset HRT.out
    rw [← hw4, ← HCL.out]
    exact h
  have F4 : Foot own W w4 := by
    rw [← hw4]
    exact (Foot.of_below H.below).trans' ((Foot.setCells p Cl.toList 0 w2).mono (fun i _ hi => by have : i = p := hi; rw [this]; exact hop))
  have J4 : TabJ W rd own p s N t x.L 0 w4 := ⟨⟨rd, x, Q4, fun _ _ _ => rfl, fun i hi => .inl hi⟩, F4⟩
  have hrg : w4.rangeAt p 34 ((List.range 64).map x.L) := fun j v hv => by
    have hj : j < 64 := by have := (List.getElem?_eq_some_iff.1 hv).1; simpa using this
    rw [Q4.cell.2.2.1 j hj]
    simpa [hj] using hv
  obtain ⟨L0, hL0⟩ : ∃ L, x.L = L := ⟨_, rfl⟩
  rw [hL0] at J4 hrg
  have hidx := fun c (hc : c < 64) w => idxL ((List.range 64).map L0).toArray c hc (L0 c) (by simp [hc]) w
  have hinf := infoAr L0
  obtain ⟨arr, harr⟩ : ∃ a, (List.range 64).map L0 = a := ⟨_, rfl⟩
  rw [harr] at hrg hidx hinf
  have HJ := Lib.hid J4
  have HRG := Lib.hid hrg
  have HIX := Lib.hid hidx
  have HM64 := Lib.hid HQ.out.m64
  clear Q2 Q4 F4 J4 hrg cr HCL hL0 harr hidx
  go_upto_region 7 with (first
    | ((with_reducible show wpList _ _ _ (⟨_, .load 71 _, _, _, _, _⟩ :: _) _ _); refine mem_load (i := 1) H (by first | exact wanted_none rfl | exact wanted_some rfl rfl rfl rfl) (by exact rfl) (by exact rfl) (by exact rfl) Try.underlying71 rfl (by exact hcli) ?_)
    | ((with_reducible show wpList _ _ _ (⟨_, .store _ _ _, _, _, _, _⟩ :: _) _ _); refine wpList_store_mid rfl _ _ _ rfl p 0 Cl rfl rfl hth hcli (by rw [← Array.all_toList]; exact hcl1) ?_; rw [hw4]))
  clear hth hw4 H
  go_wp2_with (first
    | ((with_reducible show wpList _ _ _ (⟨_, .load 75 _, _, _, _, _⟩ :: _) _ _); refine wpList_load_mid rfl _ _ rfl p 34 rfl _ _ HRG.out Try.underlying75 rfl hinf ?_))
  clear HRG hcli hcls hcl1 hinf
  go_loopw [27] (fun i V => ∃ c : Nat, c ≤ 64 ∧ i = .int .i64 c ∧ Hid (TabJ W rd own p s N t L0 c V)) (fun i _ => 64 - (intOf i).toNat)
  case atStart => exact ⟨0, Nat.zero_le _, rfl, HJ⟩
  case round =>
    clear HJ
    obtain ⟨c, hc, rfl, HJ⟩ := hrel
    by_cases hlt : c < 64
    · obtain ⟨⟨rd', x', hQ, hLk, hrd⟩, hFt⟩ := HJ.out
      have H := Mem.start wr
      have hpr := hQ.plt
      have hm0 : (s.tabTo t c).maps c = s.maps c := if_neg (Nat.lt_irrefl c)
      obtain ⟨_, _, hL, q0, _⟩ := hQ.cell
      replace q0 : wr.cell? ⟨p, 0, none⟩ = some (.int .i64 t.q) := q0
      obtain ⟨A, cap, hA, hcap, hcm, hrow⟩ := hQ.lists c hlt
      rw [hm0] at hA hcap hrow
      have hLc : L0 c = .slice A (s.maps c).length cap := by rw [← hLk c (Nat.le_refl _) hlt]; exact hA
      obtain ⟨h64, hqs⟩ := HM64.out c hlt
      have hkb := fun (w : World) (hb : Below wr.heap.size wr w) => below_p t.q A (s.maps c).length cap (s.maps c) w rfl (by omega) hcap hcm ((hrow.same hb.block).mono hb.size)
      have hix := fun w => HIX.out c hlt w
      rw [hLc] at hix
      obtain ⟨l, hl⟩ : ∃ l, s.maps c = l := ⟨_, rfl⟩
      rw [hl] at hkb hix h64 hqs
      obtain ⟨n, hn⟩ : ∃ n, l.length = n := ⟨_, rfl⟩
      rw [hn] at hkb hix h64
      obtain ⟨Q, hQq⟩ : ∃ Q, t.q = Q := ⟨_, rfl⟩
      rw [hQq] at hkb q0
      have HB := Lib.hid hkb
      have HH := Lib.hid (And.intro hQ (And.intro hLk (And.intro hrd (And.intro hFt (And.intro hl (And.intro hn (And.intro hQq (And.intro h64 hqs))))))))
      have t2 : decide ((c : Int) < 64) = true := decide_eq_true (by omega)
      clear HJ hQ hLk hrd hFt hm0 hL hA hcap hcm hrow hLc h64 hqs hkb hl hn hQq
      go_upto_region 10 with fail
      refine region_memk H 12 13 rfl (by kernel_rfl) (fun wr0 hcl hS => ?_)
      clear H
      refine wpAnyG_pure (i := 0) (v := (.pointer (some ⟨p, 0, none⟩))) rfl rfl (by kernel_rfl) (by kernel_rfl) (by kernel_rfl) (fun _ _ _ h => h) (by decide) ⟨by rfl, fun w _ => (by go_simp; try (first | (simp only [IntKind.wrap_u32]; done) | rfl)), fun _ => rfl⟩ (.inr hS) ?_
      have hc1 := hcl.step (i := 0) (by kernel_rfl)
      clear hcl; have hcl := hc1; clear hc1; simp only [List.getElem_toArray, List.getElem_cons_zero, List.getElem_cons_succ, Act.put, List.setIfInBounds_toArray, List.set_cons_zero, List.set_cons_succ]
      refine wpAnyG_pure (i := 1) (v := (.int .i64 (c : Int))) rfl rfl (by kernel_rfl) (by kernel_rfl) (by kernel_rfl) (fun _ _ _ h => h) (by decide) ⟨by rfl, fun w _ => (by go_simp; try (first | (simp only [IntKind.wrap_u32]; done) | rfl)), fun _ => rfl⟩ (.inr hS) ?_
      have hc1 := hcl.step (i := 1) (by kernel_rfl)
      clear hcl; have hcl := hc1; clear hc1; simp only [List.getElem_toArray, List.getElem_cons_zero, List.getElem_cons_succ, Act.put, List.setIfInBounds_toArray, List.set_cons_zero, List.set_cons_succ]
      refine wpAnyG_pure (i := 2) (v := (.pointer (some ⟨p, 0, none⟩))) rfl rfl (by kernel_rfl) (by kernel_rfl) (by kernel_rfl) (fun _ _ _ h => h) (by decide) ⟨by rfl, fun w _ => (by go_simp; try (first | (simp only [IntKind.wrap_u32]; done) | rfl)), fun _ => rfl⟩ (.inr hS) ?_
      have hc1 := hcl.step (i := 2) (by kernel_rfl)
      clear hcl; have hcl := hc1; clear hc1; simp only [List.getElem_toArray, List.getElem_cons_zero, List.getElem_cons_succ, Act.put, List.setIfInBounds_toArray, List.set_cons_zero, List.set_cons_succ]
      refine wpAnyG_pure (i := 3) (v := (.pointer (some ⟨p, 0, none⟩))) rfl rfl (by kernel_rfl) (by kernel_rfl) (by kernel_rfl) (fun _ _ _ h => h) (by decide) ⟨by rfl, fun w _ => (by go_simp; try (first | (simp only [IntKind.wrap_u32]; done) | rfl)), fun _ => rfl⟩ (.inr hS) ?_
      have hc1 := hcl.step (i := 3) (by kernel_rfl)
      clear hcl; have hcl := hc1; clear hc1; simp only [List.getElem_toArray, List.getElem_cons_zero, List.getElem_cons_succ, Act.put, List.setIfInBounds_toArray, List.set_cons_zero, List.set_cons_succ]
      refine wpAnyG_pure (i := 4) (v := (.pointer (some ⟨p, 0, none⟩))) rfl rfl (by kernel_rfl) (by kernel_rfl) (by kernel_rfl) (fun _ _ _ h => h) (by decide) ⟨by rfl, fun w _ => (by go_simp; try (first | (simp only [IntKind.wrap_u32]; done) | rfl)), fun _ => rfl⟩ (.inr hS) ?_
      have hc1 := hcl.step (i := 4) (by kernel_rfl)
      clear hcl; have hcl := hc1; clear hc1; simp only [List.getElem_toArray, List.getElem_cons_zero, List.getElem_cons_succ, Act.put, List.setIfInBounds_toArray, List.set_cons_zero, List.set_cons_succ]
      refine wpAnyG_pure (i := 5) (v := (.pointer (some ⟨p, 0, none⟩))) rfl rfl (by kernel_rfl) (by kernel_rfl) (by kernel_rfl) (fun _ _ _ h => h) (by decide) ⟨by rfl, fun w _ => (by go_simp; try (first | (simp only [IntKind.wrap_u32]; done) | rfl)), fun _ => rfl⟩ (.inr hS) ?_
      have hc1 := hcl.step (i := 5) (by kernel_rfl)
      clear hcl; have hcl := hc1; clear hc1; simp only [List.getElem_toArray, List.getElem_cons_zero, List.getElem_cons_succ, Act.put, List.setIfInBounds_toArray, List.set_cons_zero, List.set_cons_succ]
      refine wpAnyG_take (i := 6) 1 (v := (.int .i64 Q)) rfl rfl (by kernel_rfl) (by kernel_rfl) (by kernel_rfl) (fun _ _ _ h => h) (by kernel_rfl) (by decide) hcl (yields_old q0 hpr (by exact rfl) (by exact rfl) (by exact rfl) Try.underlying3 rfl) hS (fun hc1 => ?_)
      clear hcl; have hcl := hc1; clear hc1; simp only [List.getElem_toArray, List.getElem_cons_zero, List.getElem_cons_succ, Act.put, List.setIfInBounds_toArray, List.set_cons_zero, List.set_cons_succ]
      refine wpAnyG_pure (i := 7) (v := (.slice A n cap)) rfl rfl (by kernel_rfl) (by kernel_rfl) (by kernel_rfl) (fun _ _ _ h => h) (by decide) ⟨by rfl, fun w _ => (by go_simp; try (first | (simp only [IntKind.wrap_u32]; done) | rfl)), fun _ => rfl⟩ (.inr hS) ?_
      have hc1 := hcl.step (i := 7) (by kernel_rfl)
      clear hcl; have hcl := hc1; clear hc1; simp only [List.getElem_toArray, List.getElem_cons_zero, List.getElem_cons_succ, Act.put, List.setIfInBounds_toArray, List.set_cons_zero, List.set_cons_succ]
      refine wpAnyG_pure (i := 9) (v := (.pointer (some ⟨p, 0, none⟩))) rfl rfl (by kernel_rfl) (by kernel_rfl) (by kernel_rfl) (fun _ _ _ h => h) (by decide) ⟨by rfl, fun w _ => (by go_simp; try (first | (simp only [IntKind.wrap_u32]; done) | rfl)), fun _ => rfl⟩ (.inr hS) ?_
      have hc1 := hcl.step (i := 9) (by kernel_rfl)
      clear hcl; have hcl := hc1; clear hc1; simp only [List.getElem_toArray, List.getElem_cons_zero, List.getElem_cons_succ, Act.put, List.setIfInBounds_toArray, List.set_cons_zero, List.set_cons_succ]
      refine wpAnyG_pure (i := 10) (v := (.pointer (some ⟨p, 34, none⟩))) rfl rfl (by kernel_rfl) (by kernel_rfl) (by kernel_rfl) (fun _ _ _ h => h) (by decide) ⟨by rfl, fun w _ => (by go_simp; try (first | (simp only [IntKind.wrap_u32]; done) | rfl)), fun _ => rfl⟩ (.inr hS) ?_
      have hc1 := hcl.step (i := 10) (by kernel_rfl)
      clear hcl; have hcl := hc1; clear hc1; simp only [List.getElem_toArray, List.getElem_cons_zero, List.getElem_cons_succ, Act.put, List.setIfInBounds_toArray, List.set_cons_zero, List.set_cons_succ]
      refine wpAnyG_one (i := 8) (by kernel_rfl) rfl (fun K hK => ?_)
      go_simp
      refine ⟨trivial, (callsIn_wide.2 (HB.out _ hS.below)).mono ?_⟩
      rintro e w5 ⟨v, rfl, hsl, hbk, hb⟩
      have hS5 := hS.call hb
      have HSL2 := Lib.hid (show (fltQ Q l ≠ [] → ∀ i, blk v i → wr.heap.size ≤ i ∧ i < w5.heap.size) ∧ SlI w5.heap.size w5 v (fltQ Q l) from ⟨fun hl i hi => ⟨Nat.le_trans hS.below.size (hbk hl i hi).1, (hbk hl i hi).2⟩, hsl⟩)
      have hone := hsl.one
      clear hb hS hsl hbk
      have hS := hS5
      clear hS5
      refine hK _ _ (.inr hS) ?_
      clear hK K
      have hc1 := hcl.step (i := 8) (by kernel_rfl)
      clear hcl
      have hcl := hc1
      clear hc1
      try simp only [List.getElem_toArray, List.getElem_cons_zero, List.getElem_cons_succ, Act.put, List.setIfInBounds_toArray, List.set_cons_zero, List.set_cons_succ]
      refine wpAnyG_pure (i := 11) (v := (.pointer (some ⟨p, 34 + c, none⟩))) rfl rfl (by kernel_rfl) (by kernel_rfl) (by kernel_rfl) (fun _ _ _ h => h) (by decide) ⟨by rfl, fun w _ => (by go_simp; try (first | (simp only [IntKind.wrap_u32]; done) | rfl | (intro h9; omega))), fun _ => rfl⟩ (.inr hS) ?_
      have hc1 := hcl.step (i := 11) (by kernel_rfl)
      clear hcl; have hcl := hc1; clear hc1; simp only [List.getElem_toArray, List.getElem_cons_zero, List.getElem_cons_succ, Act.put, List.setIfInBounds_toArray, List.set_cons_zero, List.set_cons_succ]
      refine wpAnyG_one (i := 12) (by kernel_rfl) rfl (fun K hK => ?_)
      rw [if_pos (by exact rfl)]
      obtain ⟨hQ, hLk, hrd, hFt, hl, hn, hQq, h64, hqs⟩ := HH.out
      have hQ5 := hQ.below hS.below
      have hc5 := hQ5.cell.2.2.1 c hlt
      refine wpIn_store_old hc5 (hQ5.box.frozen _) (by exact rfl) (by exact rfl) (by exact rfl) pslInfo hone ?_
      have hfl := List.length_filter_le (fun q => decide (q < Q)) l
      have hQ6 := hQ5.mapset hlt HSL2.out.2 (fun hl i hi => ⟨fun ho => by
        have h1 := (HSL2.out.1 hl i hi).1
        have h2 := hQ.lt i (hQ.or i ho)
        omega, (HSL2.out.1 hl i hi).2⟩) ⟨by unfold fltQ; omega, fun q hq => hqs q (List.mem_filter.1 hq).1⟩
      have etn : (s.tabTo t c).mapped (c : Int) (fltQ Q l) = s.tabTo t (c + 1) := by
        rw [tabTo_next, hl, hQq]
        rfl
      rw [etn] at hQ6
      have hF6 : Foot own W (w5.setCell ⟨p, 34 + c, none⟩ v) := hFt.trans' ((Foot.of_below hS.below).setCell (p := ⟨p, 34 + c, none⟩) (fun _ => hop) v)
      have hWw := hFt.size
      have HF : Hid (TabJ W rd own p s N t L0 (c + 1) (w5.setCell ⟨p, 34 + c, none⟩ v)) := Lib.hid ⟨⟨_, _, hQ6, fun k hk hk2 => by
        show (if k = c then v else x'.L k) = L0 k
        rw [if_neg (by omega)]
        exact hLk k (by omega) hk2, fun i hi => by
        rcases hi with hi | ⟨hl, hi⟩
        · exact hrd i hi
        · exact .inr (by have := (HSL2.out.1 hl i hi).1; omega)⟩, hF6⟩
      refine hK _ _ (.inl (by kernel_rfl)) ?_
      clear hK K hS hcl hQ hLk hrd hFt hl hn hQq h64 hqs hQ5 hc5 hQ6 hF6 etn hfl hWw HH HB
      refine wpAnyG_done (by kernel_rfl) ?_ _
      go_wp2
      go_roundw
      case rel => exact ⟨c + 1, by omega, by go_num, HF⟩
      case measure => simp [intOf]; omega
    · obtain rfl : c = 64 := by omega
      go_wp2
      go_ret
      obtain ⟨⟨rd', x', hQ, _, hrd⟩, hFt⟩ := HJ.out
      exact ⟨rfl, ⟨rd', own, ⟨x', hQ⟩, (fun i hi => (hrd i hi).imp id .inr), (fun i hi => .inl hi)⟩, hFt⟩
end Go.Proofs.Ytaoaapbbadipfaa
end
