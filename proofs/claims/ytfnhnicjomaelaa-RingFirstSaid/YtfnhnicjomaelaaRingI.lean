/-
  Contracts of the document's Fetch, Finish, Clean. Conditions: those that each theorem names.
-/
import Derived.Test.YtfnhnicjomaelaaRingH
namespace Go.Proofs.Ytfnhnicjomaelaa
set_option linter.unusedSimpArgs false
set_option linter.unusedVariables false
open Go.ChangeShapes Go.WideShapes Go.ChangeAt Go.RowKit

/-- what the document's Fetch, Finish, Clean tell and leave -/
def DescGivesR (p q : Nat) (has : Bool) (d : PD) (dn : Bool) (r' : RS) (W : World) (e : Ending) (w' : World) : Prop :=
  e = .returned (.tuple #[bif has then dv d.1 d.2.1 d.2.2 dn else dv 0 0 0 false, .int .i64 (RS.emptyE has)]) ∧ RingR w' p q r' ∧ Foot (Own2 p q) W w'
/-- a descriptor in a new block, all else as it was -/
def GotR (p q : Nat) (r : RS) (W wx : World) (s : Value) (i l f : Int) (d : Bool) : Prop :=
  ∃ a, s = .pointer (some ⟨a, 0, none⟩) ∧ Held wx a 35 (dcs i l f d) ∧ Held wx W.heap.size 35 (dcs 0 0 0 false) ∧ W.heap.size < a ∧ a ≠ p ∧ a ≠ q ∧ RingR wx p q r ∧ Foot (Own2 p q) W wx

theorem fetch_r3 (W : World) (p q : Nat) (r : RS) (h : RingR W p q r) :
    Calls Try.prog 31 #[.pointer (some ⟨p, 0, none⟩)] W (DescGivesR p q r.hasFetch (r.at_ r.t) false r.fetchR W) := by
  have hA := h.alloc (.cells (dcs 0 0 0 false) 35)
  have hF0 : Foot (Own2 p q) W (W.alloc (.cells (dcs 0 0 0 false) 35)) := (Foot.refl _ _).alloc _
  have hR0 := Held.new W 35 (dcs 0 0 0 false)
  go_enter Try.func31, Try.ntmps31
  go_wp2_with fail
  generalize W.alloc (.cells (dcs 0 0 0 false) 35) = w1 at hA hF0 hR0 ⊢
  obtain ⟨⟨c0, c1, c2, c3, c4, c5⟩, _⟩ := hA.ring.ringR
  have htb := h.ok.tb
  have hbp := h.ok.bp
  have hroom := h.ok.room
  have hpos := h.ok.pos
  have hci := h.ok.ci
  have hit := h.ok.it
  have hnp : W.heap.size ≠ p := by have := h.ring.lt; omega
  have hnq : W.heap.size ≠ q := by have := h.slots.lt; omega
  have hm := r.mark_eq (a := r.t) (b := r.b) htb (by omega)
  rcases hb : r.hasFetch
  · have e1 : r.t = r.b := by simp [RS.hasFetch] at hb; omega
    have hq : (r.mark r.t == r.mark r.b) = true := by simpa using hm.2 e1
    have hR : r.fetchR = r := by simp [RS.fetchR, hb]
    clear hm e1
    go_quiet (fail)
    obtain ⟨w2, hw2⟩ : ∃ w2, w1.drewN nq = w2 := ⟨_, rfl⟩
    have h2 : RingR w2 p q r := by rw [← hw2]; exact hA.drewN _
    have hF2 : Foot (Own2 p q) W w2 := by rw [← hw2]; exact hF0.drewN _
    have hR2 : Held w2 W.heap.size 35 (dcs 0 0 0 false) := by rw [← hw2]; exact hR0
    rw [hw2]
    clear hw2 hA hF0 hR0 c0 c1 c2 c3 c4 c5
    obtain ⟨⟨r0, r1, r2, r3⟩, q0, q1, q2, q3⟩ := hR2.desc
    go_wp2
    refine bodyPost_ret (v := .tuple #[dv 0 0 0 false, .int .i64 31]) (by simp [results, Try.results31, go_sem, r0, r1, r2, r3]) rfl ⟨by simp [hb, RS.emptyE], ?_, ?_⟩
    · rw [hR]
      exact (((h2.other hnp hnq 0 _).other hnp hnq 1 _).other hnp hnq 2 _).other hnp hnq 3 _
    · exact (((hF2.setCell (by simp) _).setCell (by simp) _).setCell (by simp) _).setCell (by simp) _
  · have hs := h.ok.isSize
    obtain ⟨m0, m1⟩ := mark_bd r r.t
    have hlt2 : r.t < r.b := by simpa [RS.hasFetch] using hb
    have hq : (r.mark r.t == r.mark r.b) = false := by simpa using fun e => absurd (hm.1 e) (by omega)
    have hR : r.fetchR = r.fetch := by simp [RS.fetchR, hb]
    have hat := h.ok.at_ok (j := r.t) (by omega)
    obtain ⟨hs1, hs2, hs3, hs4, hs5, hs6⟩ := hat
    have hbyt := h.ok.fetch_byt hlt2
    have hslot := h.ok.slot_lt r.t
    have hdec : decB (encS (r.at_ r.t).1 (r.at_ r.t).2.1 (r.at_ r.t).2.2 false) = true := by rw [decB_encS _ _ _ _ hs1 hs2 (by omega) (by omega) hs5 hs6]; exact (RS.rightB_iff _).2 ⟨hs3, hs4⟩
    obtain ⟨e1, e2, e3, e4⟩ := numAt_encS (r.at_ r.t).1 (r.at_ r.t).2.1 (r.at_ r.t).2.2 false hs1 hs2 (by omega) (by omega) hs5 hs6
    have hvE : decV (encS (r.at_ r.t).1 (r.at_ r.t).2.1 (r.at_ r.t).2.2 false) = dv (r.at_ r.t).1 (r.at_ r.t).2.1 (r.at_ r.t).2.2 false := by unfold decV; rw [hdec, e1, e2, e3, e4]; rfl
    have hcE : decE (encS (r.at_ r.t).1 (r.at_ r.t).2.1 (r.at_ r.t).2.2 false) = 0 := by unfold decE; rw [hdec]; rfl
    have HV := Lib.hid (And.intro hvE hcE)
    have HB := Lib.hid hbyt
    have HR := Lib.hid hR
    have i0 := Int.emod_nonneg (r.mark r.t) (b := (r.n : Int)) (by omega)
    have i1 := Int.emod_lt_of_pos (r.mark r.t) (b := (r.n : Int)) (by omega)
    clear hm e1 e2 e3 e4 hbyt hR hvE hcE
    go_quiet (fail)
    obtain ⟨w2, hw2⟩ : ∃ w2, w1.drewN nq = w2 := ⟨_, rfl⟩
    have h2 : RingR w2 p q r := by rw [← hw2]; exact hA.drewN _
    have hF2 : Foot (Own2 p q) W w2 := by rw [← hw2]; exact hF0.drewN _
    have hR2 : Held w2 W.heap.size 35 (dcs 0 0 0 false) := by rw [← hw2]; exact hR0
    rw [hw2]
    clear hw2 hA hF0 hR0 c0 c1 c2 c3 c4 c5
    have rfact : ∀ w, RingR w p q r → w.cell? ⟨p, 0, none⟩ = some (.slice (some ⟨q, 0, none⟩) r.n r.n) ∧ w.cell? ⟨q, (r.mark r.t % (r.n : Int)).toNat, none⟩ = some (.string (encS (r.at_ r.t).1 (r.at_ r.t).2.1 (r.at_ r.t).2.2 false)) := fun w hw => ⟨hw.ring.ringR.1.1, (hw.slots.cell _).trans ((strCells_get hslot _).trans (by rw [HB.out]))⟩
    have RF := Lib.hid rfact
    clear rfact
    go_upto_region 3 with fail
    go_cut [4, 5] (fun s4 s5 wx => s5 = .int .i64 0 ∧ GotR p q r W wx s4 (r.at_ r.t).1 (r.at_ r.t).2.1 (r.at_ r.t).2.2 false)
    case first =>
      have hcd := RF.out _ h2.drew
      refine (wpIn_wide (n := 6)).1 ?_
      refine wpIn_region_G (fun w => w.cell? ⟨p, 0, none⟩ = some (.slice (some ⟨q, 0, none⟩) r.n r.n) ∧ w.cell? ⟨q, (r.mark r.t % (r.n : Int)).toNat, none⟩ = some (.string (encS (r.at_ r.t).1 (r.at_ r.t).2.1 (r.at_ r.t).2.2 false))) 13 15 rfl (by kernel_rfl) (fun hcl => ?_)
      refine wpAnyG_take (i := 0) 8 (v := (.pointer (some ⟨p, 0, none⟩))) rfl rfl (by kernel_rfl) (by kernel_rfl) (by kernel_rfl) (fun _ _ _ h => h) (by kernel_rfl) (by decide) hcl ⟨by rfl, fun w hR => ?hy_1, fun _ => rfl⟩ hcd (fun hc1 => ?rest_1)
      case hy_1 => (try dsimp only at hR); (try obtain ⟨hR1, hR2⟩ := hR); go_simp; try (first | rfl | (intro h; omega) | omega)
      clear hcl; have hcl := hc1; clear hc1; simp only [Act.put, List.setIfInBounds_toArray, List.set_cons_zero, List.set_cons_succ]
      refine wpAnyG_take (i := 1) 8 (v := (.pointer (some ⟨p, 0, none⟩))) rfl rfl (by kernel_rfl) (by kernel_rfl) (by kernel_rfl) (fun _ _ _ h => h) (by kernel_rfl) (by decide) hcl ⟨by rfl, fun w hR => ?hy_2, fun _ => rfl⟩ hcd (fun hc1 => ?rest_2)
      case hy_2 => (try dsimp only at hR); (try obtain ⟨hR1, hR2⟩ := hR); go_simp; try (first | rfl | (intro h; omega) | omega)
      clear hcl; have hcl := hc1; clear hc1; simp only [Act.put, List.setIfInBounds_toArray, List.set_cons_zero, List.set_cons_succ]
      refine wpAnyG_take (i := 2) 8 (v := (.pointer (some ⟨p, 0, none⟩))) rfl rfl (by kernel_rfl) (by kernel_rfl) (by kernel_rfl) (fun _ _ _ h => h) (by kernel_rfl) (by decide) hcl ⟨by rfl, fun w hR => ?hy_3, fun _ => rfl⟩ hcd (fun hc1 => ?rest_3)
      case hy_3 => (try dsimp only at hR); (try obtain ⟨hR1, hR2⟩ := hR); go_simp; try (first | rfl | (intro h; omega) | omega)
      clear hcl; have hcl := hc1; clear hc1; simp only [Act.put, List.setIfInBounds_toArray, List.set_cons_zero, List.set_cons_succ]
      refine wpAnyG_take (i := 3) 8 (v := (.slice (some ⟨q, 0, none⟩) r.n r.n)) rfl rfl (by kernel_rfl) (by kernel_rfl) (by kernel_rfl) (fun _ _ _ h => h) (by kernel_rfl) (by decide) hcl ⟨by rfl, fun w hR => ?hy_4, fun _ => rfl⟩ hcd (fun hc1 => ?rest_4)
      case hy_4 => (try dsimp only at hR); (try obtain ⟨hR1, hR2⟩ := hR); go_simp; try (first | rfl | (intro h; omega) | omega)
      clear hcl; have hcl := hc1; clear hc1; simp only [Act.put, List.setIfInBounds_toArray, List.set_cons_zero, List.set_cons_succ]
      refine wpAnyG_take (i := 4) 8 (v := (.pointer (some ⟨p, 0, none⟩))) rfl rfl (by kernel_rfl) (by kernel_rfl) (by kernel_rfl) (fun _ _ _ h => h) (by kernel_rfl) (by decide) hcl ⟨by rfl, fun w hR => ?hy_5, fun _ => rfl⟩ hcd (fun hc1 => ?rest_5)
      case hy_5 => (try dsimp only at hR); (try obtain ⟨hR1, hR2⟩ := hR); go_simp; try (first | rfl | (intro h; omega) | omega)
      clear hcl; have hcl := hc1; clear hc1; simp only [Act.put, List.setIfInBounds_toArray, List.set_cons_zero, List.set_cons_succ]
      have h3 := h2.drew
      have hF3 := hF2.drew
      have hR3 : Held w2.drew W.heap.size 35 (dcs 0 0 0 false) := hR2
      have hz3 := hR3.lt
      generalize w2.drew = w3 at h3 hF3 hR3 hz3 hcd ⊢
      clear h2 hF2 hR2
      refine wpAnyG_two (i := 5) (j := 12) (by kernel_rfl) rfl rfl (fun K hK => ?_) (fun K hK => ?_)
      · go_simp
        refine ⟨trivial, (callsIn_wide.2 (rslot_r p q r.n 2 _ (by omega) hs m0 m1 _ h3.ring.ringR.1.1 h3.ring.ringR.1.2.2.2.1)).mono ?_⟩
        rintro e w4 ⟨rfl, j, hj⟩
        have h4 : RingR w4 p q r := by rw [hj]; exact h3.drewN _
        have hF4 : Foot (Own2 p q) W w4 := by rw [hj]; exact hF3.drewN _
        have hR4 : Held w4 W.heap.size 35 (dcs 0 0 0 false) := by rw [hj]; exact hR3
        have hcd4 := RF.out _ h4
        refine hK _ _ (.inr hcd4) ?_
        clear hK K hj h3 hF3 hR3 hcd hz3
        have h3 := h4
        have hF3 := hF4
        have hR3 := hR4
        have hcd := hcd4
        have hz3 := hR3.lt
        clear h4 hF4 hR4 hcd4
        generalize w4 = w3 at h3 hF3 hR3 hcd hz3 ⊢
        refine wpAnyG_pure (i := 6) (v := (.pointer (some ⟨q, (r.mark r.t % (r.n : Int)).toNat, none⟩))) rfl rfl (by kernel_rfl) (by kernel_rfl) (by kernel_rfl) (fun _ _ _ h => h) (by decide) ⟨by rfl, fun w _ => ?hy_6, fun _ => rfl⟩ (.inr hcd) ?rest_6
        case hy_6 => go_simp; try (first | rfl | (intro h; omega) | omega)
        simp only [Act.put, List.setIfInBounds_toArray, List.set_cons_zero, List.set_cons_succ]
        refine wpAnyG_two (i := 7) (j := 12) (by kernel_rfl) rfl rfl (fun K hK => ?_) (fun K hK => ?_)
        · go_simp
          refine hK _ _ (.inr hcd) ?_
          clear hK K
          refine wpAnyG_two (i := 8) (j := 12) (by kernel_rfl) rfl rfl (fun K hK => ?_) (fun K hK => ?_)
          · go_simp
            refine ⟨trivial, (callsIn_wide.2 (decode_r _ _)).mono ?_⟩
            rintro e w4 ⟨rfl, hj⟩
            rw [HV.out.1, HV.out.2]
            have h4 := h3.below hj
            have hF4 := hF3.then_below hj
            have hR4 : Held w4 W.heap.size 35 (dcs 0 0 0 false) := hR3.below hj hR3.lt
            have hcd4 := RF.out _ h4
            refine hK _ _ (.inr hcd4) ?_
            clear hK K hj h3 hF3 hR3 hcd hz3
            have h3 := h4
            have hF3 := hF4
            have hR3 := hR4
            have hcd := hcd4
            have hz3 := hR3.lt
            clear h4 hF4 hR4 hcd4
            generalize w4 = w3 at h3 hF3 hR3 hcd hz3 ⊢
            refine wpAnyG_pure (i := 9) (v := (.tuple #[dv (r.at_ r.t).1 (r.at_ r.t).2.1 (r.at_ r.t).2.2 false, .int .i64 0])) rfl rfl (by kernel_rfl) (by kernel_rfl) (by kernel_rfl) (fun _ _ _ h => h) (by decide) ⟨by rfl, fun w _ => ?hy_7, fun _ => rfl⟩ (.inr hcd) ?rest_7
            case hy_7 => go_simp; try (first | rfl | (intro h; omega) | omega)
            simp only [Act.put, List.setIfInBounds_toArray, List.set_cons_zero, List.set_cons_succ]
            refine wpAnyG_pure (i := 10) (v := (dv (r.at_ r.t).1 (r.at_ r.t).2.1 (r.at_ r.t).2.2 false)) rfl rfl (by kernel_rfl) (by kernel_rfl) (by kernel_rfl) (fun _ _ _ h => h) (by decide) ⟨by rfl, fun w _ => ?hy_8, fun _ => rfl⟩ (.inr hcd) ?rest_8
            case hy_8 => go_simp; try (first | rfl | (intro h; omega) | omega)
            simp only [Act.put, List.setIfInBounds_toArray, List.set_cons_zero, List.set_cons_succ]
            refine wpAnyG_pure (i := 11) (v := (.int .i64 0)) rfl rfl (by kernel_rfl) (by kernel_rfl) (by kernel_rfl) (fun _ _ _ h => h) (by decide) ⟨by rfl, fun w _ => ?hy_9, fun _ => rfl⟩ (.inr hcd) ?rest_9
            case hy_9 => go_simp; try (first | rfl | (intro h; omega) | omega)
            simp only [Act.put, List.setIfInBounds_toArray, List.set_cons_zero, List.set_cons_succ]
            refine wpAnyG_one (i := 12) (by kernel_rfl) rfl (fun K hK => ?_)
            go_simp
            have h4 := h3.alloc (.cells (dcs 0 0 0 false) 35)
            have hF4 := hF3.alloc (.cells (dcs 0 0 0 false) 35)
            have hR4 := hR3.alloc (.cells (dcs 0 0 0 false) 35)
            have hA4 := Held.new w3 35 (dcs 0 0 0 false)
            obtain ⟨a, ha⟩ : ∃ a, w3.heap.size = a := ⟨_, rfl⟩
            have ap : a ≠ p := by have := h3.ring.lt; omega
            have aq : a ≠ q := by have := h3.slots.lt; omega
            have alt : W.heap.size < a := by omega
            have aw : a ≠ W.heap.size := by omega
            have hcd4 := RF.out _ h4
            refine hK _ _ (.inr hcd4) ?_
            rw [ha] at hA4 ⊢
            generalize w3.alloc (.cells (dcs 0 0 0 false) 35) = w4 at h4 hF4 hR4 hA4 hcd4 ⊢
            clear hK K h3 hF3 hR3 hcd hz3 ha
            have h3 := h4
            have hF3 := hF4
            have hR3 := hR4
            have hcd := hcd4
            have hz3 := hR3.lt
            clear h4 hF4 hR4 hcd4
            have hA3 := hA4
            clear hA4
            generalize w4 = w3 at h3 hF3 hR3 hcd hz3 hA3 ⊢
            obtain ⟨⟨a0, a1, a2, a3⟩, f0, f1, f2, f3⟩ := hA3.desc
            refine wpAnyG_one (i := 13) (by kernel_rfl) rfl (fun K hK => ?_)
            go_simp
            refine hK _ _ (.inl (by kernel_rfl)) ?_
            clear hK K
            refine wpAnyG_one (i := 14) (by kernel_rfl) rfl (fun K hK => ?_)
            go_simp
            refine hK _ _ (.inl (by kernel_rfl)) ?_
            clear hK K
            refine wpAnyG_done (by kernel_rfl) ?_ _
            go_wp2_with fail
            go_meet
            refine ⟨rfl, a, rfl, (((hA3.set 0 _).set 1 _).set 2 _).set 3 _, (((hR3.other (Ne.symm aw) 0 _).other (Ne.symm aw) 1 _).other (Ne.symm aw) 2 _).other (Ne.symm aw) 3 _, alt, ap, aq, (((h3.other ap aq 0 _).other ap aq 1 _).other ap aq 2 _).other ap aq 3 _, ?_⟩
            have hal : a < W.heap.size → Own2 p q a := fun hlt => absurd hlt (by omega)
            exact (((hF3.setCell hal _).setCell hal _).setCell hal _).setCell hal _
          · go_simp
            have h4 := h3.alloc (.cells (dcs 0 0 0 false) 35)
            have hF4 := hF3.alloc (.cells (dcs 0 0 0 false) 35)
            have hR4 := hR3.alloc (.cells (dcs 0 0 0 false) 35)
            have hA4 := Held.new w3 35 (dcs 0 0 0 false)
            obtain ⟨a, ha⟩ : ∃ a, w3.heap.size = a := ⟨_, rfl⟩
            have ap : a ≠ p := by have := h3.ring.lt; omega
            have aq : a ≠ q := by have := h3.slots.lt; omega
            have alt : W.heap.size < a := by omega
            have aw : a ≠ W.heap.size := by omega
            have hcd4 := RF.out _ h4
            refine hK _ _ (.inr hcd4) ?_
            rw [ha] at hA4 ⊢
            generalize w3.alloc (.cells (dcs 0 0 0 false) 35) = w4 at h4 hF4 hR4 hA4 hcd4 ⊢
            clear hK K h3 hF3 hR3 hcd hz3 ha
            have h3 := h4
            have hF3 := hF4
            have hR3 := hR4
            have hcd := hcd4
            have hz3 := hR3.lt
            clear h4 hF4 hR4 hcd4
            have hA3 := hA4
            clear hA4
            generalize w4 = w3 at h3 hF3 hR3 hcd hz3 hA3 ⊢
            refine wpAnyG_one (i := 8) (by kernel_rfl) rfl (fun K hK => ?_)
            go_simp
            refine ⟨trivial, (callsIn_wide.2 (decode_r _ _)).mono ?_⟩
            rintro e w4 ⟨rfl, hj⟩
            rw [HV.out.1, HV.out.2]
            have h4 := h3.below hj
            have hF4 := hF3.then_below hj
            have hR4 : Held w4 W.heap.size 35 (dcs 0 0 0 false) := hR3.below hj hR3.lt
            have hA4 : Held w4 a 35 (dcs 0 0 0 false) := hA3.below hj hA3.lt
            have hcd4 := RF.out _ h4
            refine hK _ _ (.inr hcd4) ?_
            clear hK K hj h3 hF3 hR3 hcd hz3
            have h3 := h4
            have hF3 := hF4
            have hR3 := hR4
            have hcd := hcd4
            have hz3 := hR3.lt
            clear h4 hF4 hR4 hcd4
            clear hA3
            have hA3 := hA4
            clear hA4
            generalize w4 = w3 at h3 hF3 hR3 hcd hz3 hA3 ⊢
            refine wpAnyG_pure (i := 9) (v := (.tuple #[dv (r.at_ r.t).1 (r.at_ r.t).2.1 (r.at_ r.t).2.2 false, .int .i64 0])) rfl rfl (by kernel_rfl) (by kernel_rfl) (by kernel_rfl) (fun _ _ _ h => h) (by decide) ⟨by rfl, fun w _ => ?hy_10, fun _ => rfl⟩ (.inr hcd) ?rest_10
            case hy_10 => go_simp; try (first | rfl | (intro h; omega) | omega)
            simp only [Act.put, List.setIfInBounds_toArray, List.set_cons_zero, List.set_cons_succ]
            refine wpAnyG_pure (i := 10) (v := (dv (r.at_ r.t).1 (r.at_ r.t).2.1 (r.at_ r.t).2.2 false)) rfl rfl (by kernel_rfl) (by kernel_rfl) (by kernel_rfl) (fun _ _ _ h => h) (by decide) ⟨by rfl, fun w _ => ?hy_11, fun _ => rfl⟩ (.inr hcd) ?rest_11
            case hy_11 => go_simp; try (first | rfl | (intro h; omega) | omega)
            simp only [Act.put, List.setIfInBounds_toArray, List.set_cons_zero, List.set_cons_succ]
            refine wpAnyG_pure (i := 11) (v := (.int .i64 0)) rfl rfl (by kernel_rfl) (by kernel_rfl) (by kernel_rfl) (fun _ _ _ h => h) (by decide) ⟨by rfl, fun w _ => ?hy_12, fun _ => rfl⟩ (.inr hcd) ?rest_12
            case hy_12 => go_simp; try (first | rfl | (intro h; omega) | omega)
            simp only [Act.put, List.setIfInBounds_toArray, List.set_cons_zero, List.set_cons_succ]
            obtain ⟨⟨a0, a1, a2, a3⟩, f0, f1, f2, f3⟩ := hA3.desc
            refine wpAnyG_one (i := 13) (by kernel_rfl) rfl (fun K hK => ?_)
            go_simp
            refine hK _ _ (.inl (by kernel_rfl)) ?_
            clear hK K
            refine wpAnyG_one (i := 14) (by kernel_rfl) rfl (fun K hK => ?_)
            go_simp
            refine hK _ _ (.inl (by kernel_rfl)) ?_
            clear hK K
            refine wpAnyG_done (by kernel_rfl) ?_ _
            go_wp2_with fail
            go_meet
            refine ⟨rfl, a, rfl, (((hA3.set 0 _).set 1 _).set 2 _).set 3 _, (((hR3.other (Ne.symm aw) 0 _).other (Ne.symm aw) 1 _).other (Ne.symm aw) 2 _).other (Ne.symm aw) 3 _, alt, ap, aq, (((h3.other ap aq 0 _).other ap aq 1 _).other ap aq 2 _).other ap aq 3 _, ?_⟩
            have hal : a < W.heap.size → Own2 p q a := fun hlt => absurd hlt (by omega)
            exact (((hF3.setCell hal _).setCell hal _).setCell hal _).setCell hal _
        · go_simp
          have h4 := h3.alloc (.cells (dcs 0 0 0 false) 35)
          have hF4 := hF3.alloc (.cells (dcs 0 0 0 false) 35)
          have hR4 := hR3.alloc (.cells (dcs 0 0 0 false) 35)
          have hA4 := Held.new w3 35 (dcs 0 0 0 false)
          obtain ⟨a, ha⟩ : ∃ a, w3.heap.size = a := ⟨_, rfl⟩
          have ap : a ≠ p := by have := h3.ring.lt; omega
          have aq : a ≠ q := by have := h3.slots.lt; omega
          have alt : W.heap.size < a := by omega
          have aw : a ≠ W.heap.size := by omega
          have hcd4 := RF.out _ h4
          refine hK _ _ (.inr hcd4) ?_
          rw [ha] at hA4 ⊢
          generalize w3.alloc (.cells (dcs 0 0 0 false) 35) = w4 at h4 hF4 hR4 hA4 hcd4 ⊢
          clear hK K h3 hF3 hR3 hcd hz3 ha
          have h3 := h4
          have hF3 := hF4
          have hR3 := hR4
          have hcd := hcd4
          have hz3 := hR3.lt
          clear h4 hF4 hR4 hcd4
          have hA3 := hA4
          clear hA4
          generalize w4 = w3 at h3 hF3 hR3 hcd hz3 hA3 ⊢
          refine wpAnyG_one (i := 7) (by kernel_rfl) rfl (fun K hK => ?_)
          go_simp
          refine hK _ _ (.inr hcd) ?_
          clear hK K
          refine wpAnyG_one (i := 8) (by kernel_rfl) rfl (fun K hK => ?_)
          go_simp
          refine ⟨trivial, (callsIn_wide.2 (decode_r _ _)).mono ?_⟩
          rintro e w4 ⟨rfl, hj⟩
          rw [HV.out.1, HV.out.2]
          have h4 := h3.below hj
          have hF4 := hF3.then_below hj
          have hR4 : Held w4 W.heap.size 35 (dcs 0 0 0 false) := hR3.below hj hR3.lt
          have hA4 : Held w4 a 35 (dcs 0 0 0 false) := hA3.below hj hA3.lt
          have hcd4 := RF.out _ h4
          refine hK _ _ (.inr hcd4) ?_
          clear hK K hj h3 hF3 hR3 hcd hz3
          have h3 := h4
          have hF3 := hF4
          have hR3 := hR4
          have hcd := hcd4
          have hz3 := hR3.lt
          clear h4 hF4 hR4 hcd4
          clear hA3
          have hA3 := hA4
          clear hA4
          generalize w4 = w3 at h3 hF3 hR3 hcd hz3 hA3 ⊢
          refine wpAnyG_pure (i := 9) (v := (.tuple #[dv (r.at_ r.t).1 (r.at_ r.t).2.1 (r.at_ r.t).2.2 false, .int .i64 0])) rfl rfl (by kernel_rfl) (by kernel_rfl) (by kernel_rfl) (fun _ _ _ h => h) (by decide) ⟨by rfl, fun w _ => ?hy_13, fun _ => rfl⟩ (.inr hcd) ?rest_13
          case hy_13 => go_simp; try (first | rfl | (intro h; omega) | omega)
          simp only [Act.put, List.setIfInBounds_toArray, List.set_cons_zero, List.set_cons_succ]
          refine wpAnyG_pure (i := 10) (v := (dv (r.at_ r.t).1 (r.at_ r.t).2.1 (r.at_ r.t).2.2 false)) rfl rfl (by kernel_rfl) (by kernel_rfl) (by kernel_rfl) (fun _ _ _ h => h) (by decide) ⟨by rfl, fun w _ => ?hy_14, fun _ => rfl⟩ (.inr hcd) ?rest_14
          case hy_14 => go_simp; try (first | rfl | (intro h; omega) | omega)
          simp only [Act.put, List.setIfInBounds_toArray, List.set_cons_zero, List.set_cons_succ]
          refine wpAnyG_pure (i := 11) (v := (.int .i64 0)) rfl rfl (by kernel_rfl) (by kernel_rfl) (by kernel_rfl) (fun _ _ _ h => h) (by decide) ⟨by rfl, fun w _ => ?hy_15, fun _ => rfl⟩ (.inr hcd) ?rest_15
          case hy_15 => go_simp; try (first | rfl | (intro h; omega) | omega)
          simp only [Act.put, List.setIfInBounds_toArray, List.set_cons_zero, List.set_cons_succ]
          obtain ⟨⟨a0, a1, a2, a3⟩, f0, f1, f2, f3⟩ := hA3.desc
          refine wpAnyG_one (i := 13) (by kernel_rfl) rfl (fun K hK => ?_)
          go_simp
          refine hK _ _ (.inl (by kernel_rfl)) ?_
          clear hK K
          refine wpAnyG_one (i := 14) (by kernel_rfl) rfl (fun K hK => ?_)
          go_simp
          refine hK _ _ (.inl (by kernel_rfl)) ?_
          clear hK K
          refine wpAnyG_done (by kernel_rfl) ?_ _
          go_wp2_with fail
          go_meet
          refine ⟨rfl, a, rfl, (((hA3.set 0 _).set 1 _).set 2 _).set 3 _, (((hR3.other (Ne.symm aw) 0 _).other (Ne.symm aw) 1 _).other (Ne.symm aw) 2 _).other (Ne.symm aw) 3 _, alt, ap, aq, (((h3.other ap aq 0 _).other ap aq 1 _).other ap aq 2 _).other ap aq 3 _, ?_⟩
          have hal : a < W.heap.size → Own2 p q a := fun hlt => absurd hlt (by omega)
          exact (((hF3.setCell hal _).setCell hal _).setCell hal _).setCell hal _
      · go_simp
        have h4 := h3.alloc (.cells (dcs 0 0 0 false) 35)
        have hF4 := hF3.alloc (.cells (dcs 0 0 0 false) 35)
        have hR4 := hR3.alloc (.cells (dcs 0 0 0 false) 35)
        have hA4 := Held.new w3 35 (dcs 0 0 0 false)
        obtain ⟨a, ha⟩ : ∃ a, w3.heap.size = a := ⟨_, rfl⟩
        have ap : a ≠ p := by have := h3.ring.lt; omega
        have aq : a ≠ q := by have := h3.slots.lt; omega
        have alt : W.heap.size < a := by omega
        have aw : a ≠ W.heap.size := by omega
        have hcd4 := RF.out _ h4
        refine hK _ _ (.inr hcd4) ?_
        rw [ha] at hA4 ⊢
        generalize w3.alloc (.cells (dcs 0 0 0 false) 35) = w4 at h4 hF4 hR4 hA4 hcd4 ⊢
        clear hK K h3 hF3 hR3 hcd hz3 ha
        have h3 := h4
        have hF3 := hF4
        have hR3 := hR4
        have hcd := hcd4
        have hz3 := hR3.lt
        clear h4 hF4 hR4 hcd4
        have hA3 := hA4
        clear hA4
        generalize w4 = w3 at h3 hF3 hR3 hcd hz3 hA3 ⊢
        refine wpAnyG_one (i := 5) (by kernel_rfl) rfl (fun K hK => ?_)
        go_simp
        refine ⟨trivial, (callsIn_wide.2 (rslot_r p q r.n 2 _ (by omega) hs m0 m1 _ h3.ring.ringR.1.1 h3.ring.ringR.1.2.2.2.1)).mono ?_⟩
        rintro e w4 ⟨rfl, j, hj⟩
        have h4 : RingR w4 p q r := by rw [hj]; exact h3.drewN _
        have hF4 : Foot (Own2 p q) W w4 := by rw [hj]; exact hF3.drewN _
        have hR4 : Held w4 W.heap.size 35 (dcs 0 0 0 false) := by rw [hj]; exact hR3
        have hA4 : Held w4 a 35 (dcs 0 0 0 false) := by rw [hj]; exact hA3
        have hcd4 := RF.out _ h4
        refine hK _ _ (.inr hcd4) ?_
        clear hK K hj h3 hF3 hR3 hcd hz3
        have h3 := h4
        have hF3 := hF4
        have hR3 := hR4
        have hcd := hcd4
        have hz3 := hR3.lt
        clear h4 hF4 hR4 hcd4
        clear hA3
        have hA3 := hA4
        clear hA4
        generalize w4 = w3 at h3 hF3 hR3 hcd hz3 hA3 ⊢
        refine wpAnyG_pure (i := 6) (v := (.pointer (some ⟨q, (r.mark r.t % (r.n : Int)).toNat, none⟩))) rfl rfl (by kernel_rfl) (by kernel_rfl) (by kernel_rfl) (fun _ _ _ h => h) (by decide) ⟨by rfl, fun w _ => ?hy_16, fun _ => rfl⟩ (.inr hcd) ?rest_16
        case hy_16 => go_simp; try (first | rfl | (intro h; omega) | omega)
        simp only [Act.put, List.setIfInBounds_toArray, List.set_cons_zero, List.set_cons_succ]
        refine wpAnyG_one (i := 7) (by kernel_rfl) rfl (fun K hK => ?_)
        go_simp
        refine hK _ _ (.inr hcd) ?_
        clear hK K
        refine wpAnyG_one (i := 8) (by kernel_rfl) rfl (fun K hK => ?_)
        go_simp
        refine ⟨trivial, (callsIn_wide.2 (decode_r _ _)).mono ?_⟩
        rintro e w4 ⟨rfl, hj⟩
        rw [HV.out.1, HV.out.2]
        have h4 := h3.below hj
        have hF4 := hF3.then_below hj
        have hR4 : Held w4 W.heap.size 35 (dcs 0 0 0 false) := hR3.below hj hR3.lt
        have hA4 : Held w4 a 35 (dcs 0 0 0 false) := hA3.below hj hA3.lt
        have hcd4 := RF.out _ h4
        refine hK _ _ (.inr hcd4) ?_
        clear hK K hj h3 hF3 hR3 hcd hz3
        have h3 := h4
        have hF3 := hF4
        have hR3 := hR4
        have hcd := hcd4
        have hz3 := hR3.lt
        clear h4 hF4 hR4 hcd4
        clear hA3
        have hA3 := hA4
        clear hA4
        generalize w4 = w3 at h3 hF3 hR3 hcd hz3 hA3 ⊢
        refine wpAnyG_pure (i := 9) (v := (.tuple #[dv (r.at_ r.t).1 (r.at_ r.t).2.1 (r.at_ r.t).2.2 false, .int .i64 0])) rfl rfl (by kernel_rfl) (by kernel_rfl) (by kernel_rfl) (fun _ _ _ h => h) (by decide) ⟨by rfl, fun w _ => ?hy_17, fun _ => rfl⟩ (.inr hcd) ?rest_17
        case hy_17 => go_simp; try (first | rfl | (intro h; omega) | omega)
        simp only [Act.put, List.setIfInBounds_toArray, List.set_cons_zero, List.set_cons_succ]
        refine wpAnyG_pure (i := 10) (v := (dv (r.at_ r.t).1 (r.at_ r.t).2.1 (r.at_ r.t).2.2 false)) rfl rfl (by kernel_rfl) (by kernel_rfl) (by kernel_rfl) (fun _ _ _ h => h) (by decide) ⟨by rfl, fun w _ => ?hy_18, fun _ => rfl⟩ (.inr hcd) ?rest_18
        case hy_18 => go_simp; try (first | rfl | (intro h; omega) | omega)
        simp only [Act.put, List.setIfInBounds_toArray, List.set_cons_zero, List.set_cons_succ]
        refine wpAnyG_pure (i := 11) (v := (.int .i64 0)) rfl rfl (by kernel_rfl) (by kernel_rfl) (by kernel_rfl) (fun _ _ _ h => h) (by decide) ⟨by rfl, fun w _ => ?hy_19, fun _ => rfl⟩ (.inr hcd) ?rest_19
        case hy_19 => go_simp; try (first | rfl | (intro h; omega) | omega)
        simp only [Act.put, List.setIfInBounds_toArray, List.set_cons_zero, List.set_cons_succ]
        obtain ⟨⟨a0, a1, a2, a3⟩, f0, f1, f2, f3⟩ := hA3.desc
        refine wpAnyG_one (i := 13) (by kernel_rfl) rfl (fun K hK => ?_)
        go_simp
        refine hK _ _ (.inl (by kernel_rfl)) ?_
        clear hK K
        refine wpAnyG_one (i := 14) (by kernel_rfl) rfl (fun K hK => ?_)
        go_simp
        refine hK _ _ (.inl (by kernel_rfl)) ?_
        clear hK K
        refine wpAnyG_done (by kernel_rfl) ?_ _
        go_wp2_with fail
        go_meet
        refine ⟨rfl, a, rfl, (((hA3.set 0 _).set 1 _).set 2 _).set 3 _, (((hR3.other (Ne.symm aw) 0 _).other (Ne.symm aw) 1 _).other (Ne.symm aw) 2 _).other (Ne.symm aw) 3 _, alt, ap, aq, (((h3.other ap aq 0 _).other ap aq 1 _).other ap aq 2 _).other ap aq 3 _, ?_⟩
        have hal : a < W.heap.size → Own2 p q a := fun hlt => absurd hlt (by omega)
        exact (((hF3.setCell hal _).setCell hal _).setCell hal _).setCell hal _
    case rest =>
      obtain ⟨rfl, a, rfl, hA, hR3, alt, ap, aq, h3, hF3⟩ := hcut
      clear h2 hF2 hR2
      obtain ⟨⟨c0, c1, c2, c3, c4, c5⟩, q1, q2, q3, q4, q5⟩ := h3.ring.ringR
      go_wp2
      go_region
      have hR4 := h3.ring.set 3 (.int .u32 ((r.mark r.t + 1) % 4294967296))
      have hS4 := h3.slots.other (Ne.symm h.ne) 3 (.int .u32 ((r.mark r.t + 1) % 4294967296))
      have hD4 := hR3.other hnp 3 (.int .u32 ((r.mark r.t + 1) % 4294967296))
      have hA4 := hA.other ap 3 (.int .u32 ((r.mark r.t + 1) % 4294967296))
      have hF4 : Foot (Own2 p q) W (wc.setCell ⟨p, 3, none⟩ (.int .u32 ((r.mark r.t + 1) % 4294967296))) := hF3.setCell (fun _ => .inl rfl) _
      generalize wc.setCell ⟨p, 3, none⟩ (.int .u32 ((r.mark r.t + 1) % 4294967296)) = w5 at hR4 hS4 hD4 hA4 hF4 ⊢
      have hD5 : Held w5.drew W.heap.size 35 (dcs 0 0 0 false) := hD4
      have hA5 : Held w5.drew a 35 (dcs (r.at_ r.t).1 (r.at_ r.t).2.1 (r.at_ r.t).2.2 false) := hA4
      have hF5 := hF4.drew
      rw [r.mark_succ] at hR4
      have h5 : RingR w5.drew p q r.fetch := ⟨hR4, hS4, h.ne, h.ok.fetch hlt2⟩
      generalize w5.drew = w6 at hD5 hA5 hF5 h5 ⊢
      clear h3 hF3 hR3 hA hR4 hS4 hD4 hA4 hF4 c0 c1 c2 c3 c4 c5 q1 q2 q3 q4 q5
      obtain ⟨⟨r0, r1, r2, r3⟩, q0, q1, q2, q3⟩ := hD5.desc
      obtain ⟨⟨a0, a1, a2, a3⟩, _⟩ := hA5.desc
      go_wp2
      refine bodyPost_ret (v := .tuple #[dv (r.at_ r.t).1 (r.at_ r.t).2.1 (r.at_ r.t).2.2 false, .int .i64 0]) (by simp [results, Try.results31, go_sem, r0, r1, r2, r3]) rfl ⟨by simp [hb, RS.emptyE], ?_, ?_⟩
      · rw [HR.out]
        exact (((h5.other hnp hnq 0 _).other hnp hnq 1 _).other hnp hnq 2 _).other hnp hnq 3 _
      · exact (((hF5.setCell (by simp) _).setCell (by simp) _).setCell (by simp) _).setCell (by simp) _
end Go.Proofs.Ytfnhnicjomaelaa
