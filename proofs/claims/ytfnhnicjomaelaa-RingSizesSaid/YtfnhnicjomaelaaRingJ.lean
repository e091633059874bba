/-
  Contracts of the document's Finish and Clean. Conditions: those that each theorem names.
-/
import Derived.Test.YtfnhnicjomaelaaRingI
namespace Go.Proofs.Ytfnhnicjomaelaa
set_option linter.unusedSimpArgs false
set_option linter.unusedVariables false
open Go.ChangeShapes Go.WideShapes Go.ChangeAt Go.RowKit

theorem finish_r3 (W : World) (p q : Nat) (r : RS) (h : RingR W p q r) :
    Calls Try.prog 32 #[.pointer (some ⟨p, 0, none⟩)] W (DescGivesR p q r.hasFinish (r.at_ r.i) true r.finishR W) := by
  have hA := h.alloc (.cells (dcs 0 0 0 false) 35)
  have hF0 : Foot (Own2 p q) W (W.alloc (.cells (dcs 0 0 0 false) 35)) := (Foot.refl _ _).alloc _
  have hR0 := Held.new W 35 (dcs 0 0 0 false)
  go_enter Try.func32, Try.ntmps32
  go_wp2_with fail
  generalize W.alloc (.cells (dcs 0 0 0 false) 35) = w1 at hA hF0 hR0 ⊢
  obtain ⟨⟨c0, c1, c2, c3, c4, c5⟩, _⟩ := hA.ring.ringR
  have htb := h.ok.tb
  have hbp := h.ok.bp
  have hroom := h.ok.room
  have hpos := h.ok.pos
  have hci := h.ok.ci
  have hit := h.ok.it
  have hnp : W.heap.size ≠ p := by have := h.ring.lt; omega
  have hnq : W.heap.size ≠ q := by have := h.slots.lt; omega
  have hm := r.mark_eq (a := r.i) (b := r.t) hit (by omega)
  rcases hb : r.hasFinish
  · have e1 : r.i = r.t := by simp [RS.hasFinish] at hb; omega
    have hq : (r.mark r.i == r.mark r.t) = true := by simpa using hm.2 e1
    have hR : r.finishR = r := by simp [RS.finishR, hb]
    clear hm e1
    go_quiet (fail)
    obtain ⟨w2, hw2⟩ : ∃ w2, w1.drewN nq = w2 := ⟨_, rfl⟩
    have h2 : RingR w2 p q r := by rw [← hw2]; exact hA.drewN _
    have hF2 : Foot (Own2 p q) W w2 := by rw [← hw2]; exact hF0.drewN _
    have hR2 : Held w2 W.heap.size 35 (dcs 0 0 0 false) := by rw [← hw2]; exact hR0
    rw [hw2]
    clear hw2 hA hF0 hR0 c0 c1 c2 c3 c4 c5
    obtain ⟨⟨r0, r1, r2, r3⟩, q0, q1, q2, q3⟩ := hR2.desc
    go_wp2
    refine bodyPost_ret (v := .tuple #[dv 0 0 0 false, .int .i64 31]) (by simp [results, Try.results32, go_sem, r0, r1, r2, r3]) rfl ⟨by simp [hb, RS.emptyE], ?_, ?_⟩
    · rw [hR]
      exact (((h2.other hnp hnq 0 _).other hnp hnq 1 _).other hnp hnq 2 _).other hnp hnq 3 _
    · exact (((hF2.setCell (by simp) _).setCell (by simp) _).setCell (by simp) _).setCell (by simp) _
  · have hs := h.ok.isSize
    obtain ⟨m0, m1⟩ := mark_bd r r.i
    have hlt2 : r.i < r.t := by simpa [RS.hasFinish] using hb
    have hq : (r.mark r.i == r.mark r.t) = false := by simpa using fun e => absurd (hm.1 e) (by omega)
    have hR : r.finishR = r.finish := by simp [RS.finishR, hb]
    have hat := h.ok.at_ok (j := r.i) (by omega)
    obtain ⟨hs1, hs2, hs3, hs4, hs5, hs6⟩ := hat
    have hbyt := h.ok.finish_byt hlt2
    have hslot := h.ok.slot_lt r.i
    have hdec : decB (encS (r.at_ r.i).1 (r.at_ r.i).2.1 (r.at_ r.i).2.2 true) = true := by rw [decB_encS _ _ _ _ hs1 hs2 (by omega) (by omega) hs5 hs6]; exact (RS.rightB_iff _).2 ⟨hs3, hs4⟩
    obtain ⟨e1, e2, e3, e4⟩ := numAt_encS (r.at_ r.i).1 (r.at_ r.i).2.1 (r.at_ r.i).2.2 true hs1 hs2 (by omega) (by omega) hs5 hs6
    have hvE : decV (encS (r.at_ r.i).1 (r.at_ r.i).2.1 (r.at_ r.i).2.2 true) = dv (r.at_ r.i).1 (r.at_ r.i).2.1 (r.at_ r.i).2.2 true := by unfold decV; rw [hdec, e1, e2, e3, e4]; rfl
    have hcE : decE (encS (r.at_ r.i).1 (r.at_ r.i).2.1 (r.at_ r.i).2.2 true) = 0 := by unfold decE; rw [hdec]; rfl
    have HV := Lib.hid (And.intro hvE hcE)
    have HB := Lib.hid hbyt
    have HR := Lib.hid hR
    have i0 := Int.emod_nonneg (r.mark r.i) (b := (r.n : Int)) (by omega)
    have i1 := Int.emod_lt_of_pos (r.mark r.i) (b := (r.n : Int)) (by omega)
    clear hm e1 e2 e3 e4 hbyt hR hvE hcE
    go_quiet (fail)
    obtain ⟨w2, hw2⟩ : ∃ w2, w1.drewN nq = w2 := ⟨_, rfl⟩
    have h2 : RingR w2 p q r := by rw [← hw2]; exact hA.drewN _
    have hF2 : Foot (Own2 p q) W w2 := by rw [← hw2]; exact hF0.drewN _
    have hR2 : Held w2 W.heap.size 35 (dcs 0 0 0 false) := by rw [← hw2]; exact hR0
    rw [hw2]
    clear hw2 hA hF0 hR0 c0 c1 c2 c3 c4 c5
    obtain ⟨k1, k2, k3, k4⟩ := numAt_encS (r.at_ r.i).1 (r.at_ r.i).2.1 (r.at_ r.i).2.2 false hs1 hs2 (by omega) (by omega) hs5 hs6
    have hfB : finB (encS (r.at_ r.i).1 (r.at_ r.i).2.1 (r.at_ r.i).2.2 false) = true := by unfold finB; rw [k4, decB_encS _ _ _ _ hs1 hs2 (by omega) (by omega) hs5 hs6, (RS.rightB_iff _).2 ⟨hs3, hs4⟩]; rfl
    have hfT : finT (encS (r.at_ r.i).1 (r.at_ r.i).2.1 (r.at_ r.i).2.2 false) = encS (r.at_ r.i).1 (r.at_ r.i).2.1 (r.at_ r.i).2.2 true := by unfold finT; rw [hfB, k1, k2, k3]; rfl
    have hfE : finE (encS (r.at_ r.i).1 (r.at_ r.i).2.1 (r.at_ r.i).2.2 false) = 0 := by unfold finE; rw [hfB]; rfl
    have HF := Lib.hid (And.intro hfT hfE)
    clear k1 k2 k3 k4 hfB hfT hfE
    obtain ⟨⟨c0, _, c2, _, _, _⟩, _⟩ := h2.ring.ringR
    go_wp2_with fail
    refine (rslot_r p q r.n 1 _ (by omega) hs m0 m1 _ c0 c2).mono ?_
    rintro e w3 ⟨rfl, j, hj⟩
    have h3 : RingR w3 p q r := by rw [hj]; exact h2.drewN _
    have hF3 : Foot (Own2 p q) W w3 := by rw [hj]; exact hF2.drewN _
    have hR3 : Held w3 W.heap.size 35 (dcs 0 0 0 false) := by rw [hj]; exact hR2
    clear hj h2 hF2 hR2 c0 c2
    have c0 := h3.ring.ringR.1.1
    have cs : w3.cell? ⟨q, (r.mark r.i % (r.n : Int)).toNat, none⟩ = some (.string (encS (r.at_ r.i).1 (r.at_ r.i).2.1 (r.at_ r.i).2.2 false)) := (h3.slots.cell _).trans ((strCells_get hslot _).trans (by rw [HB.out]))
    go_wp2_with fail
    refine (finish_r _ _).mono ?_
    rintro e w4 ⟨rfl, hb4⟩
    rw [HF.out.1, HF.out.2]
    have h4 := h3.below hb4
    have hF4 := hF3.then_below hb4
    have hR4 : Held w4 W.heap.size 35 (dcs 0 0 0 false) := hR3.below hb4 hR3.lt
    clear hb4 h3 hF3 hR3 c0 cs
    obtain ⟨⟨c0, c1, c2, c3, c4, c5⟩, q1, q2, q3, q4, q5⟩ := h4.ring.ringR
    have cs : w4.cell? ⟨q, (r.mark r.i % (r.n : Int)).toNat, none⟩ = some (.string (r.cont (r.slot r.i))) := (h4.slots.cell _).trans (strCells_get hslot _)
    have fs : w4.frozen? ⟨q, (r.mark r.i % (r.n : Int)).toNat, none⟩ = false := h4.slots.frozen _
    have hS5 : Held (w4.setCell ⟨q, (r.mark r.i % (r.n : Int)).toNat, none⟩ (.string (encS (r.at_ r.i).1 (r.at_ r.i).2.1 (r.at_ r.i).2.2 true))) q 9 (strCells r.n r.finish.cont) := by
      rw [strCells_set (encS (r.at_ r.i).1 (r.at_ r.i).2.1 (r.at_ r.i).2.2 true) (fun m => h.ok.cont_finish hlt2 m)]
      exact h4.slots.set _ _
    have hP5 : Held (w4.setCell ⟨q, (r.mark r.i % (r.n : Int)).toNat, none⟩ (.string (encS (r.at_ r.i).1 (r.at_ r.i).2.1 (r.at_ r.i).2.2 true))) p 44 (rcellsR r q) := h4.ring.other h4.ne _ _
    have hF5 : Foot (Own2 p q) W (w4.setCell ⟨q, (r.mark r.i % (r.n : Int)).toNat, none⟩ (.string (encS (r.at_ r.i).1 (r.at_ r.i).2.1 (r.at_ r.i).2.2 true))) := hF4.setCell (fun _ => .inr rfl) _
    have hR5 : Held (w4.setCell ⟨q, (r.mark r.i % (r.n : Int)).toNat, none⟩ (.string (encS (r.at_ r.i).1 (r.at_ r.i).2.1 (r.at_ r.i).2.2 true))) W.heap.size 35 (dcs 0 0 0 false) := hR4.other hnq _ _
    obtain ⟨w5, hw5⟩ : ∃ w5, w4.setCell ⟨q, (r.mark r.i % (r.n : Int)).toNat, none⟩ (.string (encS (r.at_ r.i).1 (r.at_ r.i).2.1 (r.at_ r.i).2.2 true)) = w5 := ⟨_, rfl⟩
    go_wp2_with fail
    rw [hw5] at hS5 hP5 hF5 hR5
    clear hw5 h4 hF4 hR4 c0 c1 c2 c3 c4 c5 q1 q2 q3 q4 q5 cs fs
    obtain ⟨⟨c0, c1, c2, c3, c4, c5⟩, q1, q2, q3, q4, q5⟩ := hP5.ringR
    go_region
    have hP6 := hP5.set 2 (.int .u32 ((r.mark r.i + 1) % 4294967296))
    have hS6 := hS5.other (Ne.symm h.ne) 2 (.int .u32 ((r.mark r.i + 1) % 4294967296))
    have hR6 := hR5.other hnp 2 (.int .u32 ((r.mark r.i + 1) % 4294967296))
    have hF6 : Foot (Own2 p q) W (w5.setCell ⟨p, 2, none⟩ (.int .u32 ((r.mark r.i + 1) % 4294967296))) := hF5.setCell (fun _ => .inl rfl) _
    generalize w5.setCell ⟨p, 2, none⟩ (.int .u32 ((r.mark r.i + 1) % 4294967296)) = w6 at hP6 hS6 hR6 hF6 ⊢
    rw [r.mark_succ] at hP6
    have h7 : RingR w6.drew p q r.finish := ⟨hP6, hS6, h.ne, h.ok.finish hlt2⟩
    have hF7 := hF6.drew
    have hR7 : Held w6.drew W.heap.size 35 (dcs 0 0 0 false) := hR6
    generalize w6.drew = w7 at h7 hF7 hR7 ⊢
    clear hP5 hS5 hF5 hR5 hP6 hS6 hR6 hF6 c0 c1 c2 c3 c4 c5 q1 q2 q3 q4 q5
    go_wp2_with fail
    refine (decode_r _ _).mono ?_
    rintro e w8 ⟨rfl, hb8⟩
    rw [HV.out.1, HV.out.2]
    have h8 := h7.below hb8
    have hF8 := hF7.then_below hb8
    have hR8 : Held w8 W.heap.size 35 (dcs 0 0 0 false) := hR7.below hb8 hR7.lt
    clear hb8 h7 hF7 hR7
    obtain ⟨⟨r0, r1, r2, r3⟩, q0, q1, q2, q3⟩ := hR8.desc
    go_wp2
    refine bodyPost_ret (v := .tuple #[dv (r.at_ r.i).1 (r.at_ r.i).2.1 (r.at_ r.i).2.2 true, .int .i64 0]) (by simp [results, Try.results32, go_sem, r0, r1, r2, r3]) rfl ⟨by simp [hb, RS.emptyE], ?_, ?_⟩
    · rw [HR.out]
      exact (((h8.other hnp hnq 0 _).other hnp hnq 1 _).other hnp hnq 2 _).other hnp hnq 3 _
    · exact (((hF8.setCell (by simp) _).setCell (by simp) _).setCell (by simp) _).setCell (by simp) _

theorem clean_r3 (W : World) (p q : Nat) (r : RS) (h : RingR W p q r) :
    Calls Try.prog 33 #[.pointer (some ⟨p, 0, none⟩)] W (DescGivesR p q r.hasClean (r.at_ r.c) true r.cleanR W) := by
  have hA := h.alloc (.cells (dcs 0 0 0 false) 35)
  have hF0 : Foot (Own2 p q) W (W.alloc (.cells (dcs 0 0 0 false) 35)) := (Foot.refl _ _).alloc _
  have hR0 := Held.new W 35 (dcs 0 0 0 false)
  go_enter Try.func33, Try.ntmps33
  go_wp2_with fail
  generalize W.alloc (.cells (dcs 0 0 0 false) 35) = w1 at hA hF0 hR0 ⊢
  obtain ⟨⟨c0, c1, c2, c3, c4, c5⟩, _⟩ := hA.ring.ringR
  have htb := h.ok.tb
  have hbp := h.ok.bp
  have hroom := h.ok.room
  have hpos := h.ok.pos
  have hci := h.ok.ci
  have hit := h.ok.it
  have hnp : W.heap.size ≠ p := by have := h.ring.lt; omega
  have hnq : W.heap.size ≠ q := by have := h.slots.lt; omega
  have hm := r.mark_eq (a := r.c) (b := r.i) hci (by omega)
  rcases hb : r.hasClean
  · have e1 : r.c = r.i := by simp [RS.hasClean] at hb; omega
    have hq : (r.mark r.c == r.mark r.i) = true := by simpa using hm.2 e1
    have hR : r.cleanR = r := by simp [RS.cleanR, hb]
    clear hm e1
    go_quiet (fail)
    obtain ⟨w2, hw2⟩ : ∃ w2, w1.drewN nq = w2 := ⟨_, rfl⟩
    have h2 : RingR w2 p q r := by rw [← hw2]; exact hA.drewN _
    have hF2 : Foot (Own2 p q) W w2 := by rw [← hw2]; exact hF0.drewN _
    have hR2 : Held w2 W.heap.size 35 (dcs 0 0 0 false) := by rw [← hw2]; exact hR0
    rw [hw2]
    clear hw2 hA hF0 hR0 c0 c1 c2 c3 c4 c5
    obtain ⟨⟨r0, r1, r2, r3⟩, q0, q1, q2, q3⟩ := hR2.desc
    go_wp2
    refine bodyPost_ret (v := .tuple #[dv 0 0 0 false, .int .i64 31]) (by simp [results, Try.results33, go_sem, r0, r1, r2, r3]) rfl ⟨by simp [hb, RS.emptyE], ?_, ?_⟩
    · rw [hR]
      exact (((h2.other hnp hnq 0 _).other hnp hnq 1 _).other hnp hnq 2 _).other hnp hnq 3 _
    · exact (((hF2.setCell (by simp) _).setCell (by simp) _).setCell (by simp) _).setCell (by simp) _
  · have hs := h.ok.isSize
    obtain ⟨m0, m1⟩ := mark_bd r r.c
    have hlt2 : r.c < r.i := by simpa [RS.hasClean] using hb
    have hq : (r.mark r.c == r.mark r.i) = false := by simpa using fun e => absurd (hm.1 e) (by omega)
    have hR : r.cleanR = r.clean := by simp [RS.cleanR, hb]
    have hat := h.ok.at_ok (j := r.c) (by omega)
    obtain ⟨hs1, hs2, hs3, hs4, hs5, hs6⟩ := hat
    have hbyt := h.ok.clean_byt hlt2
    have hslot := h.ok.slot_lt r.c
    have hdec : decB (encS (r.at_ r.c).1 (r.at_ r.c).2.1 (r.at_ r.c).2.2 true) = true := by rw [decB_encS _ _ _ _ hs1 hs2 (by omega) (by omega) hs5 hs6]; exact (RS.rightB_iff _).2 ⟨hs3, hs4⟩
    obtain ⟨e1, e2, e3, e4⟩ := numAt_encS (r.at_ r.c).1 (r.at_ r.c).2.1 (r.at_ r.c).2.2 true hs1 hs2 (by omega) (by omega) hs5 hs6
    have hvE : decV (encS (r.at_ r.c).1 (r.at_ r.c).2.1 (r.at_ r.c).2.2 true) = dv (r.at_ r.c).1 (r.at_ r.c).2.1 (r.at_ r.c).2.2 true := by unfold decV; rw [hdec, e1, e2, e3, e4]; rfl
    have hcE : decE (encS (r.at_ r.c).1 (r.at_ r.c).2.1 (r.at_ r.c).2.2 true) = 0 := by unfold decE; rw [hdec]; rfl
    have HV := Lib.hid (And.intro hvE hcE)
    have HB := Lib.hid hbyt
    have HR := Lib.hid hR
    have i0 := Int.emod_nonneg (r.mark r.c) (b := (r.n : Int)) (by omega)
    have i1 := Int.emod_lt_of_pos (r.mark r.c) (b := (r.n : Int)) (by omega)
    clear hm e1 e2 e3 e4 hbyt hR hvE hcE
    go_quiet (fail)
    obtain ⟨w2, hw2⟩ : ∃ w2, w1.drewN nq = w2 := ⟨_, rfl⟩
    have h2 : RingR w2 p q r := by rw [← hw2]; exact hA.drewN _
    have hF2 : Foot (Own2 p q) W w2 := by rw [← hw2]; exact hF0.drewN _
    have hR2 : Held w2 W.heap.size 35 (dcs 0 0 0 false) := by rw [← hw2]; exact hR0
    rw [hw2]
    clear hw2 hA hF0 hR0 c0 c1 c2 c3 c4 c5
    obtain ⟨⟨c0, c1, _, _, _, _⟩, _⟩ := h2.ring.ringR
    go_wp2_with fail
    refine (rslot_r p q r.n 0 _ (by omega) hs m0 m1 _ c0 c1).mono ?_
    rintro e w3 ⟨rfl, j, hj⟩
    have h3 : RingR w3 p q r := by rw [hj]; exact h2.drewN _
    have hF3 : Foot (Own2 p q) W w3 := by rw [hj]; exact hF2.drewN _
    have hR3 : Held w3 W.heap.size 35 (dcs 0 0 0 false) := by rw [hj]; exact hR2
    clear hj h2 hF2 hR2 c0 c1
    have c0 := h3.ring.ringR.1.1
    have cs : w3.cell? ⟨q, (r.mark r.c % (r.n : Int)).toNat, none⟩ = some (.string (encS (r.at_ r.c).1 (r.at_ r.c).2.1 (r.at_ r.c).2.2 true)) := (h3.slots.cell _).trans ((strCells_get hslot _).trans (by rw [HB.out]))
    go_wp2_with fail
    refine (decode_r _ _).mono ?_
    rintro e w4 ⟨rfl, hb4⟩
    rw [HV.out.1, HV.out.2]
    have h4 := h3.below hb4
    have hF4 := hF3.then_below hb4
    have hR4 : Held w4 W.heap.size 35 (dcs 0 0 0 false) := hR3.below hb4 hR3.lt
    clear hb4 h3 hF3 hR3 c0 cs
    have h5 := h4.alloc (.cells (dcs (r.at_ r.c).1 (r.at_ r.c).2.1 (r.at_ r.c).2.2 true) 35)
    have hF5' := hF4.alloc (.cells (dcs (r.at_ r.c).1 (r.at_ r.c).2.1 (r.at_ r.c).2.2 true) 35)
    have hR5' := hR4.alloc (.cells (dcs (r.at_ r.c).1 (r.at_ r.c).2.1 (r.at_ r.c).2.2 true) 35)
    have hA5' := Held.new w4 35 (dcs (r.at_ r.c).1 (r.at_ r.c).2.1 (r.at_ r.c).2.2 true)
    have ap : w4.heap.size ≠ p := by have := h4.ring.lt; omega
    have aq : w4.heap.size ≠ q := by have := h4.slots.lt; omega
    have aw : W.heap.size < w4.heap.size := hR4.lt
    obtain ⟨w5, hw5⟩ : ∃ w5, w4.alloc (.cells (dcs (r.at_ r.c).1 (r.at_ r.c).2.1 (r.at_ r.c).2.2 true) 35) = w5 := ⟨_, rfl⟩
    rw [hw5] at h5 hF5' hR5' hA5'
    obtain ⟨⟨c0, c1, c2, c3, c4, c5⟩, q1, q2, q3, q4, q5⟩ := h5.ring.ringR
    have cs : w5.cell? ⟨q, (r.mark r.c % (r.n : Int)).toNat, none⟩ = some (.string (r.cont (r.slot r.c))) := (h5.slots.cell _).trans (strCells_get hslot _)
    have fs : w5.frozen? ⟨q, (r.mark r.c % (r.n : Int)).toNat, none⟩ = false := h5.slots.frozen _
    have hS6 : Held (w5.setCell ⟨q, (r.mark r.c % (r.n : Int)).toNat, none⟩ (.string ⟨#[]⟩)) q 9 (strCells r.n r.clean.cont) := by
      rw [strCells_set ⟨#[]⟩ (fun m => h.ok.cont_clean hlt2 m)]
      exact h5.slots.set _ _
    have hP6 : Held (w5.setCell ⟨q, (r.mark r.c % (r.n : Int)).toNat, none⟩ (.string ⟨#[]⟩)) p 44 (rcellsR r q) := h5.ring.other h5.ne _ _
    have hF6 : Foot (Own2 p q) W (w5.setCell ⟨q, (r.mark r.c % (r.n : Int)).toNat, none⟩ (.string ⟨#[]⟩)) := hF5'.setCell (fun _ => .inr rfl) _
    have hR6 : Held (w5.setCell ⟨q, (r.mark r.c % (r.n : Int)).toNat, none⟩ (.string ⟨#[]⟩)) W.heap.size 35 (dcs 0 0 0 false) := hR5'.other hnq _ _
    have hA6 : Held (w5.setCell ⟨q, (r.mark r.c % (r.n : Int)).toNat, none⟩ (.string ⟨#[]⟩)) w4.heap.size 35 (dcs (r.at_ r.c).1 (r.at_ r.c).2.1 (r.at_ r.c).2.2 true) := hA5'.other aq _ _
    obtain ⟨w6, hw6⟩ : ∃ w6, (w5.setCell ⟨q, (r.mark r.c % (r.n : Int)).toNat, none⟩ (.string ⟨#[]⟩)) = w6 := ⟨_, rfl⟩
    go_wp2_with fail
    rw [hw6] at hS6 hP6 hF6 hR6 hA6
    clear hw5 hw6 h4 hF4 hR4 h5 hF5' hR5' hA5' c0 c1 c2 c3 c4 c5 q1 q2 q3 q4 q5 cs fs
    obtain ⟨⟨c0, c1, c2, c3, c4, c5⟩, q1, q2, q3, q4, q5⟩ := hP6.ringR
    go_region
    have hP7 := hP6.set 1 (.int .u32 ((r.mark r.c + 1) % 4294967296))
    have hS7 := hS6.other (Ne.symm h.ne) 1 (.int .u32 ((r.mark r.c + 1) % 4294967296))
    have hR7 := hR6.other hnp 1 (.int .u32 ((r.mark r.c + 1) % 4294967296))
    have hA7 := hA6.other ap 1 (.int .u32 ((r.mark r.c + 1) % 4294967296))
    have hF7 : Foot (Own2 p q) W (w6.setCell ⟨p, 1, none⟩ (.int .u32 ((r.mark r.c + 1) % 4294967296))) := hF6.setCell (fun _ => .inl rfl) _
    generalize w6.setCell ⟨p, 1, none⟩ (.int .u32 ((r.mark r.c + 1) % 4294967296)) = w7 at hP7 hS7 hR7 hA7 hF7 ⊢
    rw [r.mark_succ] at hP7
    have h8 : RingR w7.drew p q r.clean := ⟨hP7, hS7, h.ne, h.ok.clean hlt2⟩
    have hF8 := hF7.drew
    have hR8 : Held w7.drew W.heap.size 35 (dcs 0 0 0 false) := hR7
    have hA8 : Held w7.drew w4.heap.size 35 (dcs (r.at_ r.c).1 (r.at_ r.c).2.1 (r.at_ r.c).2.2 true) := hA7
    generalize w7.drew = w8 at h8 hF8 hR8 hA8 ⊢
    clear hP6 hS6 hF6 hR6 hA6 hP7 hS7 hR7 hA7 hF7 c0 c1 c2 c3 c4 c5 q1 q2 q3 q4 q5
    obtain ⟨⟨r0, r1, r2, r3⟩, q0, q1, q2, q3⟩ := hR8.desc
    obtain ⟨⟨a0, a1, a2, a3⟩, _⟩ := hA8.desc
    go_wp2
    refine bodyPost_ret (v := .tuple #[dv (r.at_ r.c).1 (r.at_ r.c).2.1 (r.at_ r.c).2.2 true, .int .i64 0]) (by simp [results, Try.results33, go_sem, r0, r1, r2, r3]) rfl ⟨by simp [hb, RS.emptyE], ?_, ?_⟩
    · rw [HR.out]
      exact (((h8.other hnp hnq 0 _).other hnp hnq 1 _).other hnp hnq 2 _).other hnp hnq 3 _
    · exact (((hF8.setCell (by simp) _).setCell (by simp) _).setCell (by simp) _).setCell (by simp) _
end Go.Proofs.Ytfnhnicjomaelaa
