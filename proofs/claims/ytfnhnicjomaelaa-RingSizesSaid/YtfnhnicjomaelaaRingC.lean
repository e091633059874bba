/-
  Contracts of ring's Clean, Finish, Marks, New. Conditions: those that each theorem names.
-/
import Derived.Test.YtfnhnicjomaelaaRingB
namespace Go.Proofs.Ytfnhnicjomaelaa
set_option linter.unusedSimpArgs false
set_option linter.unusedVariables false
open Go.ChangeShapes Go.WideShapes Go.ChangeAt Go.RowKit

theorem clean_p (W : World) (p q : Nat) (r : RS) (h : RingP W p q r) :
    Calls Try.prog 22 #[.pointer (some ⟨p, 0, none⟩)] W (DescGives p q r.hasClean (r.at_ r.c) true r.cleanR W) := by
  have hn := h.ok.pos.1
  have hA := h.alloc (.cells (dcs 0 0 0 false) 35)
  have hF0 : Foot (Own2 p q) W (W.alloc (.cells (dcs 0 0 0 false) 35)) := (Foot.refl _ _).alloc _
  have hR0 := Held.new W 35 (dcs 0 0 0 false)
  have c5 := hA.ring.ring.1.2.2.2.2.2
  go_enter Try.func22, Try.ntmps22
  go_wp2_with (go_at_call 34; refine (missing_p p q r.n hn _ c5).mono ?_; rintro e w' ⟨rfl, rfl⟩)
  generalize W.alloc (.cells (dcs 0 0 0 false) 35) = w1 at hA hF0 hR0 c5 ⊢
  obtain ⟨⟨c0, c1, c2, c3, c4, _⟩, _⟩ := hA.ring.ring
  have htb := h.ok.tb
  have hbp := h.ok.bp
  have hroom := h.ok.room
  have hpos := h.ok.pos
  have hci := h.ok.ci
  have hit := h.ok.it
  have hnp : W.heap.size ≠ p := by have := h.ring.lt; omega
  have hnq : W.heap.size ≠ q := by have := h.slots.lt; omega
  have hm := r.mark_eq (a := r.c) (b := r.i) hci (by omega)
  rcases hb : r.hasClean
  · have e1 : r.c = r.i := by simp [RS.hasClean] at hb; omega
    have hq : (r.mark r.c == r.mark r.i) = true := by simpa using hm.2 e1
    have hR : r.cleanR = r := by simp [RS.cleanR, hb]
    clear hm e1
    go_quiet (fail)
    obtain ⟨w2, hw2⟩ : ∃ w2, w1.drewN nq = w2 := ⟨_, rfl⟩
    have h2 : RingP w2 p q r := by rw [← hw2]; exact hA.drewN _
    have hF2 : Foot (Own2 p q) W w2 := by rw [← hw2]; exact hF0.drewN _
    have hR2 : Held w2 W.heap.size 35 (dcs 0 0 0 false) := by rw [← hw2]; exact hR0
    rw [hw2]
    clear hw2 hA hF0 hR0 c0 c1 c2 c3 c4 c5
    obtain ⟨⟨r0, r1, r2, r3⟩, q0, q1, q2, q3⟩ := hR2.desc
    go_wp2
    refine bodyPost_ret (v := .tuple #[dv 0 0 0 false, .int .i64 31]) (by simp [results, Try.results22, go_sem, r0, r1, r2, r3]) rfl ⟨by simp [hb, RS.emptyE], ?_, ?_⟩
    · rw [hR]
      exact (((h2.other hnp hnq 0 _).other hnp hnq 1 _).other hnp hnq 2 _).other hnp hnq 3 _
    · exact (((hF2.setCell (by simp) _).setCell (by simp) _).setCell (by simp) _).setCell (by simp) _
  · have hs := h.ok.isSize
    obtain ⟨m0, m1⟩ := mark_bd r r.c
    have hlt2 : r.c < r.i := by simpa [RS.hasClean] using hb
    have hq : (r.mark r.c == r.mark r.i) = false := by simpa using fun e => absurd (hm.1 e) (by omega)
    have hR : r.cleanR = r.clean := by simp [RS.cleanR, hb]
    have hat := h.ok.at_ok (j := r.c) (by omega)
    obtain ⟨hs1, hs2, hs3, hs4, hs5, hs6⟩ := hat
    have hbyt := h.ok.clean_byt hlt2
    have hslot := h.ok.slot_lt r.c
    have hdec : decB (encS (r.at_ r.c).1 (r.at_ r.c).2.1 (r.at_ r.c).2.2 true) = true := by rw [decB_encS _ _ _ _ hs1 hs2 (by omega) (by omega) hs5 hs6]; exact (RS.rightB_iff _).2 ⟨hs3, hs4⟩
    obtain ⟨e1, e2, e3, e4⟩ := numAt_encS (r.at_ r.c).1 (r.at_ r.c).2.1 (r.at_ r.c).2.2 true hs1 hs2 (by omega) (by omega) hs5 hs6
    have HE := Lib.hid (And.intro e1 (And.intro e2 (And.intro e3 e4)))
    have HB := Lib.hid hbyt
    have HR := Lib.hid hR
    clear hm e1 e2 e3 e4 hbyt hR
    go_quiet (fail)
    obtain ⟨w2, hw2⟩ : ∃ w2, w1.drewN nq = w2 := ⟨_, rfl⟩
    have h2 : RingP w2 p q r := by rw [← hw2]; exact hA.drewN _
    have hF2 : Foot (Own2 p q) W w2 := by rw [← hw2]; exact hF0.drewN _
    have hR2 : Held w2 W.heap.size 35 (dcs 0 0 0 false) := by rw [← hw2]; exact hR0
    rw [hw2]
    clear hw2 hA hF0 hR0 c0 c1 c2 c3 c4 c5
    obtain ⟨⟨c0, _, _, _, _, c5⟩, _⟩ := h2.ring.ring
    go_wp2_with fail
    refine (at_p p q r.n _ hs m0 m1 _ c5).mono ?_
    rintro e w3 ⟨rfl, hb3⟩
    have h3 := h2.below hb3
    have hF3 := hF2.then_below hb3
    have hR3 : Held w3 W.heap.size 35 (dcs 0 0 0 false) := Held.below hR2 hb3 hR2.lt
    clear hb3 h2 hF2 hR2 c0 c5
    go_wp2_with fail
    refine (text_p2 q (r.slot r.c * 16) _ _ (h3.slots.cells _ hslot) (r.cont_text _)).mono ?_
    rintro e w4 ⟨rfl, rfl⟩
    rw [HB.out]
    have hR4 : Held (w3.setCells q (r.slot r.c * 16) (cellsU (slotL ⟨#[]⟩))) p 66 (rcells r q) := (heap_setCells_other q p h3.ne _ _ _).trans h3.ring
    have hS4 := h3.slots.set hslot ⟨#[]⟩ (c' := r.clean.cont) (fun m => h.ok.cont_clean hlt2 m)
    have hD4 : Held (w3.setCells q (r.slot r.c * 16) (cellsU (slotL ⟨#[]⟩))) W.heap.size 35 (dcs 0 0 0 false) := (heap_setCells_other q W.heap.size hnq _ _ _).trans hR3
    have hF4 := Foot.setCells (b := q) (fun _ => .inr rfl) (cellsU (slotL ⟨#[]⟩)) (r.slot r.c * 16) w3 hF3
    obtain ⟨w4, hw4⟩ : ∃ w4, w3.setCells q (r.slot r.c * 16) (cellsU (slotL ⟨#[]⟩)) = w4 := ⟨_, rfl⟩
    rw [hw4] at hR4 hS4 hD4 hF4
    have hth := h3.slots.there1 hslot
    have hone := all_oneCell_toArray (cellsU_one (slotL ⟨#[]⟩))
    clear h3 hF3 hR3
    go_wp2_with (refine wpList_store_mid rfl 78 (.tmp 32) (.tmp 31) rfl q (r.slot r.c * 16) _ rfl rfl hth slot_info hone ?_; change wpList _ _ _ _ _ (w3.setCells q (r.slot r.c * 16) (cellsU (slotL ⟨#[]⟩))); rw [hw4])
    clear hw4 hth hone
    refine (pass_p _ hdec p 0 _ _ (r.mark r.c) _ hR4 rfl).mono ?_
    rintro e w5 ⟨rfl, hp5, hF5⟩
    rw [HE.out.1, HE.out.2.1, HE.out.2.2.1, HE.out.2.2.2]
    have hS5 := hS4.same (hF5.block q hS4.lt (Ne.symm h.ne))
    have hR5 := hD4.foot hF5 hnp
    have hF6 := hF4.trans hF5 (fun _ _ e => .inl e)
    rw [r.mark_succ] at hp5
    clear hF4 hF5 hS4 hD4 hR4
    obtain ⟨⟨r0, r1, r2, r3⟩, q0, q1, q2, q3⟩ := hR5.desc
    go_wp2
    refine bodyPost_ret (v := .tuple #[dv (r.at_ r.c).1 (r.at_ r.c).2.1 (r.at_ r.c).2.2 true, .int .i64 0]) (by simp [results, Try.results22, go_sem, r0, r1, r2, r3]) rfl ⟨by simp [hb, RS.emptyE], ?_, ?_⟩
    · rw [HR.out]
      have h5 : RingP w5 p q r.clean := ⟨hp5, hS5, h.ne, h.ok.clean hlt2⟩
      exact (((h5.other hnp hnq 0 _).other hnp hnq 1 _).other hnp hnq 2 _).other hnp hnq 3 _
    · exact (((hF6.setCell (by simp) _).setCell (by simp) _).setCell (by simp) _).setCell (by simp) _

theorem finish_p1 (W : World) (p q : Nat) (r : RS) (h : RingP W p q r) :
    Calls Try.prog 21 #[.pointer (some ⟨p, 0, none⟩)] W (DescGives p q r.hasFinish (r.at_ r.i) true r.finishR W) := by
  have hn := h.ok.pos.1
  have hA := h.alloc (.cells (dcs 0 0 0 false) 35)
  have hF0 : Foot (Own2 p q) W (W.alloc (.cells (dcs 0 0 0 false) 35)) := (Foot.refl _ _).alloc _
  have hR0 := Held.new W 35 (dcs 0 0 0 false)
  have c5 := hA.ring.ring.1.2.2.2.2.2
  go_enter Try.func21, Try.ntmps21
  go_wp2_with (go_at_call 34; refine (missing_p p q r.n hn _ c5).mono ?_; rintro e w' ⟨rfl, rfl⟩)
  generalize W.alloc (.cells (dcs 0 0 0 false) 35) = w1 at hA hF0 hR0 c5 ⊢
  obtain ⟨⟨c0, c1, c2, c3, c4, _⟩, _⟩ := hA.ring.ring
  have htb := h.ok.tb
  have hbp := h.ok.bp
  have hroom := h.ok.room
  have hpos := h.ok.pos
  have hci := h.ok.ci
  have hit := h.ok.it
  have hnp : W.heap.size ≠ p := by have := h.ring.lt; omega
  have hnq : W.heap.size ≠ q := by have := h.slots.lt; omega
  have hm := r.mark_eq (a := r.i) (b := r.t) hit (by omega)
  rcases hb : r.hasFinish
  · have e1 : r.i = r.t := by simp [RS.hasFinish] at hb; omega
    have hq : (r.mark r.i == r.mark r.t) = true := by simpa using hm.2 e1
    have hR : r.finishR = r := by simp [RS.finishR, hb]
    clear hm e1
    go_quiet (fail)
    obtain ⟨w2, hw2⟩ : ∃ w2, w1.drewN nq = w2 := ⟨_, rfl⟩
    have h2 : RingP w2 p q r := by rw [← hw2]; exact hA.drewN _
    have hF2 : Foot (Own2 p q) W w2 := by rw [← hw2]; exact hF0.drewN _
    have hR2 : Held w2 W.heap.size 35 (dcs 0 0 0 false) := by rw [← hw2]; exact hR0
    rw [hw2]
    clear hw2 hA hF0 hR0 c0 c1 c2 c3 c4 c5
    obtain ⟨⟨r0, r1, r2, r3⟩, q0, q1, q2, q3⟩ := hR2.desc
    go_wp2
    refine bodyPost_ret (v := .tuple #[dv 0 0 0 false, .int .i64 31]) (by simp [results, Try.results21, go_sem, r0, r1, r2, r3]) rfl ⟨by simp [hb, RS.emptyE], ?_, ?_⟩
    · rw [hR]
      exact (((h2.other hnp hnq 0 _).other hnp hnq 1 _).other hnp hnq 2 _).other hnp hnq 3 _
    · exact (((hF2.setCell (by simp) _).setCell (by simp) _).setCell (by simp) _).setCell (by simp) _
  · have hs := h.ok.isSize
    obtain ⟨m0, m1⟩ := mark_bd r r.i
    have hlt2 : r.i < r.t := by simpa [RS.hasFinish] using hb
    have hq : (r.mark r.i == r.mark r.t) = false := by simpa using fun e => absurd (hm.1 e) (by omega)
    have hR : r.finishR = r.finish := by simp [RS.finishR, hb]
    have hat := h.ok.at_ok (j := r.i) (by omega)
    obtain ⟨hs1, hs2, hs3, hs4, hs5, hs6⟩ := hat
    have hbyt := h.ok.finish_byt hlt2
    have hslot := h.ok.slot_lt r.i
    have hdec : decB (encS (r.at_ r.i).1 (r.at_ r.i).2.1 (r.at_ r.i).2.2 true) = true := by rw [decB_encS _ _ _ _ hs1 hs2 (by omega) (by omega) hs5 hs6]; exact (RS.rightB_iff _).2 ⟨hs3, hs4⟩
    obtain ⟨e1, e2, e3, e4⟩ := numAt_encS (r.at_ r.i).1 (r.at_ r.i).2.1 (r.at_ r.i).2.2 true hs1 hs2 (by omega) (by omega) hs5 hs6
    obtain ⟨k1, k2, k3, k4⟩ := numAt_encS (r.at_ r.i).1 (r.at_ r.i).2.1 (r.at_ r.i).2.2 false hs1 hs2 (by omega) (by omega) hs5 hs6
    have hfB : finB (encS (r.at_ r.i).1 (r.at_ r.i).2.1 (r.at_ r.i).2.2 false) = true := by unfold finB; rw [k4, decB_encS _ _ _ _ hs1 hs2 (by omega) (by omega) hs5 hs6, (RS.rightB_iff _).2 ⟨hs3, hs4⟩]; rfl
    have hfT : finT (encS (r.at_ r.i).1 (r.at_ r.i).2.1 (r.at_ r.i).2.2 false) = encS (r.at_ r.i).1 (r.at_ r.i).2.1 (r.at_ r.i).2.2 true := by unfold finT; rw [hfB, k1, k2, k3]; rfl
    have hfE : finE (encS (r.at_ r.i).1 (r.at_ r.i).2.1 (r.at_ r.i).2.2 false) = 0 := by unfold finE; rw [hfB]; rfl
    have HF := Lib.hid (And.intro hfT hfE)
    have HE := Lib.hid (And.intro e1 (And.intro e2 (And.intro e3 e4)))
    have HB := Lib.hid hbyt
    have HR := Lib.hid hR
    clear hm e1 e2 e3 e4 hbyt hR k1 k2 k3 k4 hfB hfT hfE
    go_quiet (fail)
    obtain ⟨w2, hw2⟩ : ∃ w2, w1.drewN nq = w2 := ⟨_, rfl⟩
    have h2 : RingP w2 p q r := by rw [← hw2]; exact hA.drewN _
    have hF2 : Foot (Own2 p q) W w2 := by rw [← hw2]; exact hF0.drewN _
    have hR2 : Held w2 W.heap.size 35 (dcs 0 0 0 false) := by rw [← hw2]; exact hR0
    rw [hw2]
    clear hw2 hA hF0 hR0 c0 c1 c2 c3 c4 c5
    obtain ⟨⟨_, c1, _, _, _, c5⟩, _⟩ := h2.ring.ring
    go_wp2_with fail
    refine (at_p p q r.n _ hs m0 m1 _ c5).mono ?_
    rintro e w3 ⟨rfl, hb3⟩
    have h3 := h2.below hb3
    have hF3 := hF2.then_below hb3
    have hR3 : Held w3 W.heap.size 35 (dcs 0 0 0 false) := Held.below hR2 hb3 hR2.lt
    clear hb3 h2 hF2 hR2 c1 c5
    go_wp2_with fail
    refine (text_p2 q (r.slot r.i * 16) _ _ (h3.slots.cells _ hslot) (r.cont_text _)).mono ?_
    rintro e w4 ⟨rfl, rfl⟩
    rw [HB.out]
    go_wp2_with fail
    refine (finish_p _ _).mono ?_
    rintro e w4 ⟨rfl, hb4⟩
    rw [HF.out.1, HF.out.2]
    have h4 := h3.below hb4
    have hF4' := hF3.then_below hb4
    have hR4' : Held w4 W.heap.size 35 (dcs 0 0 0 false) := Held.below hR3 hb4 hR3.lt
    clear hb4 h3 hF3 hR3
    go_wp2_with fail
    refine (store_p q (r.slot r.i * 16) (encS (r.at_ r.i).1 (r.at_ r.i).2.1 (r.at_ r.i).2.2 true) rfl _ (h4.slots.there1 hslot)).mono ?_
    rintro e w5 ⟨⟨v, rfl⟩, rfl⟩
    have hR4 : Held (w4.setCells q (r.slot r.i * 16) (cellsU (slotL (encS (r.at_ r.i).1 (r.at_ r.i).2.1 (r.at_ r.i).2.2 true)))) p 66 (rcells r q) := (heap_setCells_other q p h4.ne _ _ _).trans h4.ring
    have hS4 := h4.slots.set hslot (encS (r.at_ r.i).1 (r.at_ r.i).2.1 (r.at_ r.i).2.2 true) (c' := r.finish.cont) (fun m => h.ok.cont_finish hlt2 m)
    have hD4 : Held (w4.setCells q (r.slot r.i * 16) (cellsU (slotL (encS (r.at_ r.i).1 (r.at_ r.i).2.1 (r.at_ r.i).2.2 true)))) W.heap.size 35 (dcs 0 0 0 false) := (heap_setCells_other q W.heap.size hnq _ _ _).trans hR4'
    have hF4 := Foot.setCells (b := q) (fun _ => .inr rfl) (cellsU (slotL (encS (r.at_ r.i).1 (r.at_ r.i).2.1 (r.at_ r.i).2.2 true))) (r.slot r.i * 16) w4 hF4'
    generalize w4.setCells q (r.slot r.i * 16) (cellsU (slotL (encS (r.at_ r.i).1 (r.at_ r.i).2.1 (r.at_ r.i).2.2 true))) = w6 at hR4 hS4 hD4 hF4 ⊢
    clear h4 hF4' hR4'
    go_wp2_with fail
    refine (pass_p _ hdec p 1 _ _ (r.mark r.i) _ hR4 rfl).mono ?_
    rintro e w5 ⟨rfl, hp5, hF5⟩
    rw [HE.out.1, HE.out.2.1, HE.out.2.2.1, HE.out.2.2.2]
    have hS5 := hS4.same (hF5.block q hS4.lt (Ne.symm h.ne))
    have hR5 := hD4.foot hF5 hnp
    have hF6 := hF4.trans hF5 (fun _ _ e => .inl e)
    rw [r.mark_succ] at hp5
    clear hF4 hF5 hS4 hD4 hR4
    obtain ⟨⟨r0, r1, r2, r3⟩, q0, q1, q2, q3⟩ := hR5.desc
    go_wp2
    refine bodyPost_ret (v := .tuple #[dv (r.at_ r.i).1 (r.at_ r.i).2.1 (r.at_ r.i).2.2 true, .int .i64 0]) (by simp [results, Try.results21, go_sem, r0, r1, r2, r3]) rfl ⟨by simp [hb, RS.emptyE], ?_, ?_⟩
    · rw [HR.out]
      have h5 : RingP w5 p q r.finish := ⟨hp5, hS5, h.ne, h.ok.finish hlt2⟩
      exact (((h5.other hnp hnq 0 _).other hnp hnq 1 _).other hnp hnq 2 _).other hnp hnq 3 _
    · exact (((hF6.setCell (by simp) _).setCell (by simp) _).setCell (by simp) _).setCell (by simp) _

/-- what Marks tells -/
def MarksGives (r : RS) (W : World) (e : Ending) (w' : World) : Prop :=
  ∃ b, e = .returned (.slice (some ⟨b, 0, none⟩) 5 5) ∧ Held w' b 22 #[.int .u32 (r.mark r.c), .int .u32 (r.mark r.i), .int .u32 (r.mark r.t), .int .u32 (r.mark r.b), .int .u32 (r.mark r.ds.length)] ∧ W.heap.size ≤ b ∧ Below W.heap.size W w'
theorem list_p (p : Nat) (m0 m1 m2 m3 m4 : Int) (W : World) (c0 : W.cell? ⟨p, 0, none⟩ = some (.int .u32 m0)) (c1 : W.cell? ⟨p, 1, none⟩ = some (.int .u32 m1)) (c2 : W.cell? ⟨p, 2, none⟩ = some (.int .u32 m2)) (c3 : W.cell? ⟨p, 3, none⟩ = some (.int .u32 m3)) (c4 : W.cell? ⟨p, 4, none⟩ = some (.int .u32 m4)) :
    Calls Try.prog 35 #[.pointer (some ⟨p, 0, none⟩)] W fun e w' => e = .returned (.slice (some ⟨W.heap.size, 0, none⟩) 5 5) ∧ (W.alloc (.cells #[.int .u32 m0, .int .u32 m1, .int .u32 m2, .int .u32 m3, .int .u32 m4] 22)).drew = w' := by
  go_enter Try.func35, Try.ntmps35
  go_wp2
  go_region_held3 (fun w' => w'.cell? ⟨p, 0, none⟩ = some (.int .u32 m0) ∧ w'.cell? ⟨p, 1, none⟩ = some (.int .u32 m1) ∧ w'.cell? ⟨p, 2, none⟩ = some (.int .u32 m2) ∧ w'.cell? ⟨p, 3, none⟩ = some (.int .u32 m3) ∧ w'.cell? ⟨p, 4, none⟩ = some (.int .u32 m4)) ((go_keep; done)) (fail)
  go_wp2
  go_ret
  exact ⟨rfl, rfl⟩
theorem marks_p (W : World) (p q : Nat) (r : RS) (h : RingP W p q r) : Calls Try.prog 17 #[.pointer (some ⟨p, 0, none⟩)] W (MarksGives r W) := by
  obtain ⟨⟨c0, c1, c2, c3, c4, c5⟩, _⟩ := h.ring.ring
  have hn := h.ok.pos.1
  go_enter Try.func17, Try.ntmps17
  go_wp2_with (first
    | (go_at_call 34; refine (missing_p p q r.n hn _ c5).mono ?_; rintro e w' ⟨rfl, rfl⟩)
    | (go_at_call 35; refine (list_p p _ _ _ _ _ _ c0 c1 c2 c3 c4).mono ?_; rintro e w' ⟨rfl, rfl⟩))
  go_ret
  exact ⟨W.heap.size, rfl, Held.new W _ _, Nat.le_refl _, ((Below.refl _ _).alloc (Nat.le_refl _) _).drew⟩
end Go.Proofs.Ytfnhnicjomaelaa
