/-
  The walks of the laws DescApart, DescEnds, DescDone. Conditions: each field fits its kind.
-/
import Derived.Test.YthhbommdabedeaaDescI
import Derived.Test.YthhbommdabedeaaDescG
namespace Go.Proofs.Ythhbommdabedeaa
open Go.ChangeShapes Go.WideShapes Go.ChangeAt Go.RowKit

theorem apart_w (i l f : Int) (d : Bool) (hi : 0 ≤ i) (hi1 : i ≤ 4294967295) (hl : 0 ≤ l) (hl1 : l ≤ 4294967295) (hf : 0 ≤ f) (hf1 : f ≤ 4294967295)
    (i' l' f' : Int) (d' : Bool) (hi' : 0 ≤ i') (hi1' : i' ≤ 4294967295) (hl' : 0 ≤ l') (hl1' : l' ≤ 4294967295) (hf' : 0 ≤ f') (hf1' : f' ≤ 4294967295) (w : World) :
    Calls Try.prog 8 #[dv i l f d, dv i' l' f' d'] w fun e w' => e = .returned (.bool true) ∧ Below w.heap.size w w' := by
  go_enter Try.func8, Try.ntmps8
  go_wp2_with fail
  refine (shown_p _).mono ?_
  rintro e w1 ⟨rfl, hb1⟩
  have hD1 : Held w1 w.heap.size 24 (dcs i l f d) := ((Held.new w _ _).alloc _).below hb1 (by simp; omega)
  have hE1 : Held w1 (w.heap.size + 1) 24 (dcs i' l' f' d') := by
    have h := Held.new (w.alloc (.cells (dcs i l f d) 24)) 24 (dcs i' l' f' d')
    rw [World.size_alloc] at h
    exact h.below hb1 (by simp)
  have hB1 : Below w.heap.size w w1 := (((Below.refl _ _).alloc (Nat.le_refl _) _).alloc (by simp) _).trans (hb1.mono (by simp; omega))
  have hz1 := hE1.lt
  clear hb1
  obtain ⟨⟨a0, a1, a2, a3⟩, _⟩ := hD1.desc
  go_wp2_with fail
  refine (encode_p i l f d hi hi1 hl hl1 hf hf1 _).mono ?_
  rintro e w2 ⟨rfl, hb2⟩
  have hD2 := hD1.below hb2 (by omega)
  have hE2 := hE1.below hb2 hz1
  have hz2 := hE2.lt
  have hB2 := hB1.trans (hb2.mono (by omega))
  clear a0 a1 a2 a3 hb2 hB1 hD1 hE1
  obtain ⟨⟨b0, b1, b2, b3⟩, _⟩ := hE2.desc
  go_wp2_with fail
  refine (encode_p i' l' f' d' hi' hi1' hl' hl1' hf' hf1' _).mono ?_
  rintro e w3 ⟨rfl, hb3⟩
  have hD3 := hD2.below hb3 (by omega)
  have hE3 := hE2.below hb3 hz2
  have hB3 := hB2.trans (hb3.mono (by omega))
  clear b0 b1 b2 b3 hb3 hB2 hD2 hE2 hz1 hz2
  obtain ⟨⟨a0, a1, a2, a3⟩, _⟩ := hD3.desc
  obtain ⟨⟨b0, b1, b2, b3⟩, _⟩ := hE3.desc
  rcases hr : rightB l
  · have he : encE l = 20 := by simp [encE, hr]
    rw [he]
    clear he hr
    go_wp2
    go_ret
    exact ⟨rfl, hB3⟩
  rcases hr' : rightB l'
  · have he : encE l = 0 := by simp [encE, hr]
    have he' : encE l' = 20 := by simp [encE, hr']
    rw [he, he']
    clear he he' hr hr'
    go_wp2
    go_ret
    exact ⟨rfl, hB3⟩
  have he : encE l = 0 := by simp [encE, hr]
  have he' : encE l' = 0 := by simp [encE, hr']
  have ht : encT i l f d = encS i l f d := by simp [encT, hr]
  have ht' : encT i' l' f' d' = encS i' l' f' d' := by simp [encT, hr']
  rw [he, he', ht, ht']
  clear he he' ht ht' hr hr'
  have hno : ¬ (i = i' ∧ l = l' ∧ f = f' ∧ d = d') → ((encS i l f d).toList == (encS i' l' f' d').toList) = false := fun h => strEq_no (fun e => h (encS_inj hi hi1 hl hl1 hf hf1 hi' hi1' hl' hl1' hf' hf1' e))
  have HN := Lib.hid hno
  clear hno
  by_cases k1 : i = i'
  · by_cases k2 : l = l'
    · by_cases k3 : f = f'
      · by_cases k4 : d = d'
        · subst k1; subst k2; subst k3; subst k4
          go_wp2
          go_ret
          exact ⟨rfl, hB3⟩
        · have hs := HN.out (fun h => k4 h.2.2.2)
          have kb : (d == d') = false := by simpa using k4
          subst k1; subst k2; subst k3
          clear k4
          go_wp2
          go_ret
          exact ⟨rfl, hB3⟩
      · have hs := HN.out (fun h => k3 h.2.2.1)
        have kb : (f == f') = false := by simpa using k3
        subst k1; subst k2
        clear k3
        go_wp2
        go_ret
        exact ⟨rfl, hB3⟩
    · have hs := HN.out (fun h => k2 h.2.1)
      have kb : (l == l') = false := by simpa using k2
      subst k1
      clear k2
      go_wp2
      go_ret
      exact ⟨rfl, hB3⟩
  · have hs := HN.out (fun h => k1 h.1)
    have kb : (i == i') = false := by simpa using k1
    clear k1
    go_wp2
    go_ret
    exact ⟨rfl, hB3⟩

theorem done_w (i l f : Int) (d : Bool) (hi : 0 ≤ i) (hi1 : i ≤ 4294967295) (hl : 0 ≤ l) (hl1 : l ≤ 4294967295) (hf : 0 ≤ f) (hf1 : f ≤ 4294967295) (w : World) :
    Calls Try.prog 7 #[dv i l f d] w fun e w' => e = .returned (.bool true) ∧ Below w.heap.size w w' := by
  go_enter Try.func7, Try.ntmps7
  go_wp2_with fail
  refine (shown_box i l f d w).mono ?_
  rintro e w1 ⟨rfl, hB1, hD1⟩
  have hz1 := hD1.lt
  obtain ⟨⟨a0, a1, a2, a3⟩, _⟩ := hD1.desc
  go_wp2_with fail
  refine (encode_p i l f d hi hi1 hl hl1 hf hf1 _).mono ?_
  rintro e w2 ⟨rfl, hb2⟩
  have hD2 := hD1.below hb2 hz1
  have hz2 := hD2.lt
  have hB2 := hB1.trans (hb2.mono (by omega))
  clear a0 a1 a2 a3 hb2 hB1 hD1 hz1
  rcases hr : rightB l
  · have he : encE l = 20 := by simp [encE, hr]
    have ht : encT i l f d = ⟨#[]⟩ := by simp [encT, hr]
    rw [he, ht]
    clear he ht hr
    go_wp2
    go_ret
    exact ⟨rfl, hB2⟩
  have he : encE l = 0 := by simp [encE, hr]
  have ht : encT i l f d = encS i l f d := by simp [encT, hr]
  rw [he, ht]
  obtain ⟨m0, m4, m8, mk⟩ := numAt_encS i l f d hi hi1 hl hl1 hf hf1
  have hdb : decB (encS i l f d) = true := (decB_encS i l f d hi hi1 hl hl1 hf hf1).trans hr
  have hdt : decB (encS i l f true) = true := (decB_encS i l f true hi hi1 hl hl1 hf hf1).trans hr
  obtain ⟨p0, p4, p8, pk⟩ := numAt_encS i l f true hi hi1 hl hl1 hf hf1
  cases d
  · have hfb : finB (encS i l f false) = true := by simp [finB, hdb, mk]
    have hft : finT (encS i l f false) = encS i l f true := by simp [finT, hfb, m0, m4, m8]
    have hfe : finE (encS i l f false) = 0 := by simp [finE, hfb]
    have hv : decV (encS i l f true) = dv i l f true := by simp [decV, hdt, p0, p4, p8, pk]
    have hve : decE (encS i l f true) = 0 := by simp [decE, hdt]
    have hgb : finB (encS i l f true) = false := by simp [finB, pk]
    have hge : finE (encS i l f true) = 20 := by simp [finE, hgb]
    have HV := Lib.hid hv
    have HE := Lib.hid hve
    have HG := Lib.hid hge
    have HT := Lib.hid hft
    have HF := Lib.hid hfe
    clear hv hve hge hgb hft hfe hfb hdb hdt m0 m4 m8 mk p0 p4 p8 pk he ht hr
    go_wp2_with fail
    refine (finish_p _ _).mono ?_
    rintro e w3 ⟨rfl, hb3⟩
    rw [HT.out, HF.out]
    have hD3 := hD2.below hb3 hz2
    have hz3 := hD3.lt
    have hB3 := hB2.trans (hb3.mono (by omega))
    clear hb3 hB2 hD2 hz2
    obtain ⟨⟨a0, a1, a2, a3⟩, _⟩ := hD3.desc
    go_wp2_with fail
    refine (decode_p _ _).mono ?_
    rintro e w4 ⟨rfl, hb4⟩
    rw [HV.out, HE.out]
    have hD4 := hD3.below hb4 hz3
    have hz4 := hD4.lt
    have hB4 := hB3.trans (hb4.mono (by omega))
    clear hb4 hB3 hD3 hz3 a0 a1 a2 a3
    go_wp2_with fail
    refine (finish_p _ _).mono ?_
    rintro e w5 ⟨rfl, hb5⟩
    rw [HG.out]
    have hz5 : w4.heap.size + 1 ≤ w5.heap.size := by have := hb5.size; simpa using this
    have hD5 := (hD4.alloc (.cells (dcs i l f true) 24)).below hb5 (by simp; omega)
    have hE5 : Held w5 w4.heap.size 24 (dcs i l f true) := (Held.new w4 _ _).below hb5 (by simp)
    have hB5 := (hB4.alloc (by omega) (.cells (dcs i l f true) 24)).trans (hb5.mono (by simp; omega))
    clear hb5 hB4 hD4
    have hne : w4.heap.size ≠ w.heap.size := by omega
    have hD6 := hD5.set 3 (.bool true)
    have hE6 := hE5.other hne 3 (.bool true)
    obtain ⟨_, q0, q1, q2, q3⟩ := hD5.desc
    obtain ⟨⟨a0, a1, a2, a3⟩, _⟩ := hD5.desc
    obtain ⟨⟨c0, c1, c2, c3⟩, _⟩ := (show Held _ _ _ (dcs i l f true) from hD6).desc
    obtain ⟨⟨d0, d1, d2, d3⟩, _⟩ := hE6.desc
    clear q0 q1 q2
    go_wp2
    go_ret
    exact ⟨rfl, hB5.setCell (by simp) _⟩
  · have hfb : finB (encS i l f true) = false := by simp [finB, pk]
    have hft : finT (encS i l f true) = ⟨#[]⟩ := by simp [finT, hfb]
    have hfe : finE (encS i l f true) = 20 := by simp [finE, hfb]
    have HT := Lib.hid hft
    have HF := Lib.hid hfe
    clear hft hfe hfb hdb hdt m0 m4 m8 mk p0 p4 p8 pk he ht hr
    go_wp2_with fail
    refine (finish_p _ _).mono ?_
    rintro e w3 ⟨rfl, hb3⟩
    rw [HT.out, HF.out]
    have hD3 := hD2.below hb3 hz2
    have hB3 := hB2.trans (hb3.mono (by omega))
    obtain ⟨⟨a0, a1, a2, a3⟩, _⟩ := hD3.desc
    go_wp2
    go_ret
    exact ⟨rfl, hB3⟩
end Go.Proofs.Ythhbommdabedeaa
