/-
  The walks of the laws DescEnds, DescBack, DescTurns. Conditions: each argument fits its kind.
-/
import Derived.Test.YthhbommdabedeaaDescI
namespace Go.Proofs.Ythhbommdabedeaa
open Go.ChangeShapes Go.WideShapes Go.ChangeAt Go.RowKit

theorem u8_in (c : Int) (h0 : 0 ≤ c) (h1 : c ≤ 255) : [Value.int .u8 c] = cellsU [u8 c] := by
  simp only [cellsU, List.map_cons, List.map_nil, u8_nat]
  rw [show c % 256 = c by omega]
theorem decE_size {s : ByteArray} (h : s.size ≠ 16) : decE s = 20 := by
  have : decB s = false := by simp [decB, h]
  simp [decE, this]

theorem decV_size {s : ByteArray} (h : s.size ≠ 16) : decV s = dv 0 0 0 false := by
  have : decB s = false := by simp [decB, h]
  simp [decV, this]

theorem ends_w (i l f : Int) (d : Bool) (hi : 0 ≤ i) (hi1 : i ≤ 4294967295) (hl : 0 ≤ l) (hl1 : l ≤ 4294967295) (hf : 0 ≤ f) (hf1 : f ≤ 4294967295) (n c : Int) (hc0 : 0 ≤ c) (hc1 : c ≤ 255) (w : World) :
    Calls Try.prog 9 #[dv i l f d, .int .i64 n, .int .u8 c] w fun e w' => e = .returned (.bool true) ∧ Below w.heap.size w w' := by
  go_enter Try.func9, Try.ntmps9
  go_wp2_with fail
  refine (shown_box i l f d w).mono ?_
  rintro e w1 ⟨rfl, hB1, hD1⟩
  have hz1 := hD1.lt
  obtain ⟨⟨a0, a1, a2, a3⟩, _⟩ := hD1.desc
  go_wp2_with fail
  refine (encode_p i l f d hi hi1 hl hl1 hf hf1 _).mono ?_
  rintro e w2 ⟨rfl, hb2⟩
  have hB2 := hB1.trans (hb2.mono (by omega))
  have hz2 := hb2.size
  clear a0 a1 a2 a3 hb2 hB1 hD1
  rcases hr : rightB l
  · have he : encE l = 20 := by simp [encE, hr]
    have ht : encT i l f d = ⟨#[]⟩ := by simp [encT, hr]
    rw [he, ht]
    clear he ht hr
    go_wp2
    go_ret
    exact ⟨rfl, hB2⟩
  have he : encE l = 0 := by simp [encE, hr]
  have ht : encT i l f d = encS i l f d := by simp [encT, hr]
  rw [he, ht]
  clear he ht hr
  obtain ⟨s, hs⟩ : ∃ s, encS i l f d = s := ⟨_, rfl⟩
  have hsz : s.size = 16 := by rw [← hs]; exact encS_size i l f d
  rw [hs]
  clear hs
  have HZ := Lib.hid hsz
  by_cases hn : n < 0
  · clear hsz
    go_wp2
    go_ret
    exact ⟨rfl, hB2⟩
  by_cases hn' : 16 ≤ n
  · have hge : decide ((s.size : Int) ≤ n) = true := by rw [hsz]; simpa using hn'
    clear hsz
    go_wp2
    go_ret
    exact ⟨rfl, hB2⟩
  obtain ⟨k, rfl⟩ : ∃ k : Nat, n = k := ⟨n.toNat, by omega⟩
  have hk : k < s.size := by omega
  have hk16 : k < 16 := by omega
  have z1 : (s.extract 0 k).size ≠ 16 := by rw [ByteArray.size_extract]; omega
  have z2 : (s ++ ⟨#[u8 c]⟩ : ByteArray).size ≠ 16 := by rw [size_snoc]; omega
  have e1 := Lib.hid (decE_size z1)
  have v1 := Lib.hid (decV_size z1)
  have e2 := Lib.hid (decE_size z2)
  have v2 := Lib.hid (decV_size z2)
  clear hsz z1 z2
  have hle : s.size ≤ 16 := by rw [HZ.out]; omega
  have g1 : decide ((k : Int) < 0) = false := by simp
  have g2 : decide (s.size ≤ k) = false := by simp; omega
  go_wp2_with fail
  refine (decode_p _ _).mono ?_
  rintro e w3 ⟨rfl, hb3⟩
  rw [e1.out, v1.out]
  have hB3 := hB2.trans (hb3.mono (by omega))
  have hz3 := hb3.size
  clear hb3 hB2
  have hrun := run_text (w3.alloc (.cells (dcs 0 0 0 false) 24)) [u8 c] _ (u8_in c hc0 hc1)
  simp only [List.length_cons, List.length_nil, Nat.zero_add, World.size_alloc] at hrun
  go_wp2_with fail
  refine (decode_p _ _).mono ?_
  rintro e w4 ⟨rfl, hb4⟩
  rw [e2.out, v2.out]
  clear hrun
  have hB4 : Below w.heap.size w w4 := ((hB3.alloc (by omega) _).alloc (by simp; omega) _).trans (hb4.mono (by simp; omega))
  have hz4 := hb4.size
  simp only [World.size_alloc] at hz4
  go_wp2
  go_ret
  exact ⟨rfl, hB4.alloc (by omega) _⟩
/-- decoding and encoding back -/
theorem back_w (i l f : Int) (d : Bool) (hi : 0 ≤ i) (hi1 : i ≤ 4294967295) (hl : 0 ≤ l) (hl1 : l ≤ 4294967295) (hf : 0 ≤ f) (hf1 : f ≤ 4294967295) (s : ByteArray) (w : World) :
    Calls Try.prog 5 #[dv i l f d, .string s] w fun e w' => e = .returned (.bool true) ∧ Below w.heap.size w w' := by
  go_enter Try.func5, Try.ntmps5
  go_wp2_with fail
  refine (shown_box i l f d w).mono ?_
  rintro e w1 ⟨rfl, hB1, hD1⟩
  have hz1 := hD1.lt
  obtain ⟨⟨a0, a1, a2, a3⟩, _⟩ := hD1.desc
  go_wp2_with fail
  refine (encode_p i l f d hi hi1 hl hl1 hf hf1 _).mono ?_
  rintro e w2 ⟨rfl, hb2⟩
  have hD2 := hD1.below hb2 hz1
  have hz2 := hD2.lt
  have hB2 := hB1.trans (hb2.mono (by omega))
  clear a0 a1 a2 a3 hb2 hB1 hD1 hz1
  rcases hr : rightB l
  · rcases hd : decB s
    · have he : encE l = 20 := by simp [encE, hr]
      have ht : encT i l f d = ⟨#[]⟩ := by simp [encT, hr]
      have vA := Lib.hid v0
      have cA := Lib.hid c0
      rw [he, ht]
      clear he ht
      have vS := Lib.hid (show decV s = dv 0 0 0 false by simp [decV, hd])
      have cS := Lib.hid (show decE s = 20 by simp [decE, hd])
      have tS := Lib.hid (show encT 0 0 0 false = ⟨#[]⟩ from rfl)
      have xS := Lib.hid (show encE 0 = 20 from rfl)
      clear hd
      go_wp2_with fail
      refine (decode_p _ _).mono ?_
      rintro e w3 ⟨rfl, hb3⟩
      rw [vA.out, cA.out]
      have hD3 := hD2.below hb3 hz2
      have hz3 := hD3.lt
      have hB3 := hB2.trans (hb3.mono (by omega))
      clear hb3 hB2 hD2 hz2
      go_wp2_with fail
      refine (decode_p _ _).mono ?_
      rintro e w4 ⟨rfl, hb4⟩
      rw [vS.out, cS.out]
      have hz4 : w3.heap.size + 1 ≤ w4.heap.size := by have := hb4.size; simpa using this
      have hD4 := (hD3.alloc (.cells (dcs 0 0 0 false) 24)).below hb4 (by simp; omega)
      have hF4 : Held w4 w3.heap.size 24 (dcs 0 0 0 false) := (Held.new w3 _ _).below hb4 (by simp)
      have hB4 := (hB3.alloc (by omega) (.cells (dcs 0 0 0 false) 24)).trans (hb4.mono (by simp; omega))
      clear hb4 hB3 hD3
      go_wp2_with fail
      refine (encode_p _ _ _ _ (by omega) (by omega) (by omega) (by omega) (by omega) (by omega) _).mono ?_
      rintro e w5 ⟨rfl, hb5⟩
      rw [tS.out, xS.out]
      have hz5 : w4.heap.size + 1 ≤ w5.heap.size := by have := hb5.size; simpa using this
      have hD5 := (hD4.alloc (.cells (dcs 0 0 0 false) 24)).below hb5 (by simp; omega)
      have hF5 := (hF4.alloc (.cells (dcs 0 0 0 false) 24)).below hb5 (by simp; omega)
      have hC5 : Held w5 w4.heap.size 24 (dcs 0 0 0 false) := (Held.new w4 _ _).below hb5 (by simp)
      have hB5 := (hB4.alloc (by omega) (.cells (dcs 0 0 0 false) 24)).trans (hb5.mono (by simp; omega))
      clear hb5 hB4 hD4 hF4
      obtain ⟨⟨a0, a1, a2, a3⟩, _⟩ := hD5.desc
      go_wp2_with fail
      refine (right_pw _ _ _ _ _).mono ?_
      rintro e w6 ⟨rfl, rfl⟩
      obtain ⟨⟨p0, p1, p2, p3⟩, _⟩ := (hD5.alloc (.cells (dcs i l f d) 24)).desc
      obtain ⟨⟨b0, b1, b2, b3⟩, _⟩ := (hF5.alloc (.cells (dcs i l f d) 24)).desc
      obtain ⟨⟨k0, k1, k2, k3⟩, _⟩ := (hC5.alloc (.cells (dcs i l f d) 24)).desc
      clear a0 a1 a2 a3
      go_wp2
      go_ret
      exact ⟨rfl, hB5.alloc (by omega) _⟩
    · have he : encE l = 20 := by simp [encE, hr]
      have ht : encT i l f d = ⟨#[]⟩ := by simp [encT, hr]
      have vA := Lib.hid v0
      have cA := Lib.hid c0
      rw [he, ht]
      clear he ht
      have hp : (rightB (numAt s 4) && decide (reS s = s)) = true := by
        simp only [decB, Bool.and_eq_true] at hd ⊢
        exact hd.2
      simp only [Bool.and_eq_true, decide_eq_true_eq] at hp
      have vS := Lib.hid (show decV s = dv (numAt s 0) (numAt s 4) (numAt s 8) (byteAt s 12 == 2) by simp [decV, hd])
      have cS := Lib.hid (show decE s = 0 by simp [decE, hd])
      have tS := Lib.hid (show encT (numAt s 0) (numAt s 4) (numAt s 8) (byteAt s 12 == 2) = s by simp only [encT, hp.1, cond_true]; exact hp.2)
      have xS := Lib.hid (show encE (numAt s 4) = 0 by simp [encE, hp.1])
      obtain ⟨i0, i1⟩ := numAt_bd s 0
      obtain ⟨l0, l1⟩ := numAt_bd s 4
      obtain ⟨f0, f1⟩ := numAt_bd s 8
      clear hp hd
      go_wp2_with fail
      refine (decode_p _ _).mono ?_
      rintro e w3 ⟨rfl, hb3⟩
      rw [vA.out, cA.out]
      have hD3 := hD2.below hb3 hz2
      have hz3 := hD3.lt
      have hB3 := hB2.trans (hb3.mono (by omega))
      clear hb3 hB2 hD2 hz2
      go_wp2_with fail
      refine (decode_p _ _).mono ?_
      rintro e w4 ⟨rfl, hb4⟩
      rw [vS.out, cS.out]
      have hz4 : w3.heap.size + 1 ≤ w4.heap.size := by have := hb4.size; simpa using this
      have hD4 := (hD3.alloc (.cells (dcs 0 0 0 false) 24)).below hb4 (by simp; omega)
      have hF4 : Held w4 w3.heap.size 24 (dcs 0 0 0 false) := (Held.new w3 _ _).below hb4 (by simp)
      have hB4 := (hB3.alloc (by omega) (.cells (dcs 0 0 0 false) 24)).trans (hb4.mono (by simp; omega))
      clear hb4 hB3 hD3
      go_wp2_with fail
      refine (encode_p _ _ _ _ i0 i1 l0 l1 f0 f1 _).mono ?_
      rintro e w5 ⟨rfl, hb5⟩
      rw [tS.out, xS.out]
      have hz5 : w4.heap.size + 1 ≤ w5.heap.size := by have := hb5.size; simpa using this
      have hD5 := (hD4.alloc (.cells (dcs (numAt s 0) (numAt s 4) (numAt s 8) (byteAt s 12 == 2)) 24)).below hb5 (by simp; omega)
      have hF5 := (hF4.alloc (.cells (dcs (numAt s 0) (numAt s 4) (numAt s 8) (byteAt s 12 == 2)) 24)).below hb5 (by simp; omega)
      have hC5 : Held w5 w4.heap.size 24 (dcs (numAt s 0) (numAt s 4) (numAt s 8) (byteAt s 12 == 2)) := (Held.new w4 _ _).below hb5 (by simp)
      have hB5 := (hB4.alloc (by omega) (.cells (dcs (numAt s 0) (numAt s 4) (numAt s 8) (byteAt s 12 == 2)) 24)).trans (hb5.mono (by simp; omega))
      clear hb5 hB4 hD4 hF4
      obtain ⟨⟨a0, a1, a2, a3⟩, _⟩ := hD5.desc
      go_wp2_with fail
      refine (right_pw _ _ _ _ _).mono ?_
      rintro e w6 ⟨rfl, rfl⟩
      obtain ⟨⟨p0, p1, p2, p3⟩, _⟩ := (hD5.alloc (.cells (dcs i l f d) 24)).desc
      obtain ⟨⟨b0, b1, b2, b3⟩, _⟩ := (hF5.alloc (.cells (dcs i l f d) 24)).desc
      obtain ⟨⟨k0, k1, k2, k3⟩, _⟩ := (hC5.alloc (.cells (dcs i l f d) 24)).desc
      clear a0 a1 a2 a3
      go_wp2
      go_ret
      exact ⟨rfl, hB5.alloc (by omega) _⟩
  · rcases hd : decB s
    · have he : encE l = 0 := by simp [encE, hr]
      have ht : encT i l f d = encS i l f d := by simp [encT, hr]
      obtain ⟨m0, m4, m8, mk⟩ := numAt_encS i l f d hi hi1 hl hl1 hf hf1
      have hdb : decB (encS i l f d) = true := (decB_encS i l f d hi hi1 hl hl1 hf hf1).trans hr
      have vA := Lib.hid (show decV (encS i l f d) = dv i l f d by simp [decV, hdb, m0, m4, m8, mk])
      have cA := Lib.hid (show decE (encS i l f d) = 0 by simp [decE, hdb])
      have zA : (encS i l f d).size = 16 := encS_size i l f d
      rw [he, ht]
      obtain ⟨A, hA⟩ : ∃ A, encS i l f d = A := ⟨_, rfl⟩
      rw [hA] at vA cA zA
      rw [hA]
      have ZA : ((A.size : Int) != 16) = false := by rw [zA]; rfl
      clear he ht hdb m0 m4 m8 mk hA zA
      have vS := Lib.hid (show decV s = dv 0 0 0 false by simp [decV, hd])
      have cS := Lib.hid (show decE s = 20 by simp [decE, hd])
      have tS := Lib.hid (show encT 0 0 0 false = ⟨#[]⟩ from rfl)
      have xS := Lib.hid (show encE 0 = 20 from rfl)
      clear hd
      go_wp2_with fail
      refine (decode_p _ _).mono ?_
      rintro e w3 ⟨rfl, hb3⟩
      rw [vA.out, cA.out]
      have hD3 := hD2.below hb3 hz2
      have hz3 := hD3.lt
      have hB3 := hB2.trans (hb3.mono (by omega))
      clear hb3 hB2 hD2 hz2
      go_wp2_with fail
      refine (decode_p _ _).mono ?_
      rintro e w4 ⟨rfl, hb4⟩
      rw [vS.out, cS.out]
      have hz4 : w3.heap.size + 1 ≤ w4.heap.size := by have := hb4.size; simpa using this
      have hD4 := (hD3.alloc (.cells (dcs i l f d) 24)).below hb4 (by simp; omega)
      have hF4 : Held w4 w3.heap.size 24 (dcs i l f d) := (Held.new w3 _ _).below hb4 (by simp)
      have hB4 := (hB3.alloc (by omega) (.cells (dcs i l f d) 24)).trans (hb4.mono (by simp; omega))
      clear hb4 hB3 hD3
      go_wp2_with fail
      refine (encode_p _ _ _ _ (by omega) (by omega) (by omega) (by omega) (by omega) (by omega) _).mono ?_
      rintro e w5 ⟨rfl, hb5⟩
      rw [tS.out, xS.out]
      have hz5 : w4.heap.size + 1 ≤ w5.heap.size := by have := hb5.size; simpa using this
      have hD5 := (hD4.alloc (.cells (dcs 0 0 0 false) 24)).below hb5 (by simp; omega)
      have hF5 := (hF4.alloc (.cells (dcs 0 0 0 false) 24)).below hb5 (by simp; omega)
      have hC5 : Held w5 w4.heap.size 24 (dcs 0 0 0 false) := (Held.new w4 _ _).below hb5 (by simp)
      have hB5 := (hB4.alloc (by omega) (.cells (dcs 0 0 0 false) 24)).trans (hb5.mono (by simp; omega))
      clear hb5 hB4 hD4 hF4
      obtain ⟨⟨a0, a1, a2, a3⟩, _⟩ := hD5.desc
      go_wp2_with fail
      refine (right_pw _ _ _ _ _).mono ?_
      rintro e w6 ⟨rfl, rfl⟩
      obtain ⟨⟨p0, p1, p2, p3⟩, _⟩ := (hD5.alloc (.cells (dcs i l f d) 24)).desc
      obtain ⟨⟨b0, b1, b2, b3⟩, _⟩ := (hF5.alloc (.cells (dcs i l f d) 24)).desc
      obtain ⟨⟨k0, k1, k2, k3⟩, _⟩ := (hC5.alloc (.cells (dcs i l f d) 24)).desc
      clear a0 a1 a2 a3
      go_wp2
      go_ret
      exact ⟨rfl, hB5.alloc (by omega) _⟩
    · have he : encE l = 0 := by simp [encE, hr]
      have ht : encT i l f d = encS i l f d := by simp [encT, hr]
      obtain ⟨m0, m4, m8, mk⟩ := numAt_encS i l f d hi hi1 hl hl1 hf hf1
      have hdb : decB (encS i l f d) = true := (decB_encS i l f d hi hi1 hl hl1 hf hf1).trans hr
      have vA := Lib.hid (show decV (encS i l f d) = dv i l f d by simp [decV, hdb, m0, m4, m8, mk])
      have cA := Lib.hid (show decE (encS i l f d) = 0 by simp [decE, hdb])
      have zA : (encS i l f d).size = 16 := encS_size i l f d
      rw [he, ht]
      obtain ⟨A, hA⟩ : ∃ A, encS i l f d = A := ⟨_, rfl⟩
      rw [hA] at vA cA zA
      rw [hA]
      have ZA : ((A.size : Int) != 16) = false := by rw [zA]; rfl
      clear he ht hdb m0 m4 m8 mk hA zA
      have hp : (rightB (numAt s 4) && decide (reS s = s)) = true := by
        simp only [decB, Bool.and_eq_true] at hd ⊢
        exact hd.2
      simp only [Bool.and_eq_true, decide_eq_true_eq] at hp
      have vS := Lib.hid (show decV s = dv (numAt s 0) (numAt s 4) (numAt s 8) (byteAt s 12 == 2) by simp [decV, hd])
      have cS := Lib.hid (show decE s = 0 by simp [decE, hd])
      have tS := Lib.hid (show encT (numAt s 0) (numAt s 4) (numAt s 8) (byteAt s 12 == 2) = s by simp only [encT, hp.1, cond_true]; exact hp.2)
      have xS := Lib.hid (show encE (numAt s 4) = 0 by simp [encE, hp.1])
      obtain ⟨i0, i1⟩ := numAt_bd s 0
      obtain ⟨l0, l1⟩ := numAt_bd s 4
      obtain ⟨f0, f1⟩ := numAt_bd s 8
      clear hp hd
      go_wp2_with fail
      refine (decode_p _ _).mono ?_
      rintro e w3 ⟨rfl, hb3⟩
      rw [vA.out, cA.out]
      have hD3 := hD2.below hb3 hz2
      have hz3 := hD3.lt
      have hB3 := hB2.trans (hb3.mono (by omega))
      clear hb3 hB2 hD2 hz2
      go_wp2_with fail
      refine (decode_p _ _).mono ?_
      rintro e w4 ⟨rfl, hb4⟩
      rw [vS.out, cS.out]
      have hz4 : w3.heap.size + 1 ≤ w4.heap.size := by have := hb4.size; simpa using this
      have hD4 := (hD3.alloc (.cells (dcs i l f d) 24)).below hb4 (by simp; omega)
      have hF4 : Held w4 w3.heap.size 24 (dcs i l f d) := (Held.new w3 _ _).below hb4 (by simp)
      have hB4 := (hB3.alloc (by omega) (.cells (dcs i l f d) 24)).trans (hb4.mono (by simp; omega))
      clear hb4 hB3 hD3
      go_wp2_with fail
      refine (encode_p _ _ _ _ i0 i1 l0 l1 f0 f1 _).mono ?_
      rintro e w5 ⟨rfl, hb5⟩
      rw [tS.out, xS.out]
      have hz5 : w4.heap.size + 1 ≤ w5.heap.size := by have := hb5.size; simpa using this
      have hD5 := (hD4.alloc (.cells (dcs (numAt s 0) (numAt s 4) (numAt s 8) (byteAt s 12 == 2)) 24)).below hb5 (by simp; omega)
      have hF5 := (hF4.alloc (.cells (dcs (numAt s 0) (numAt s 4) (numAt s 8) (byteAt s 12 == 2)) 24)).below hb5 (by simp; omega)
      have hC5 : Held w5 w4.heap.size 24 (dcs (numAt s 0) (numAt s 4) (numAt s 8) (byteAt s 12 == 2)) := (Held.new w4 _ _).below hb5 (by simp)
      have hB5 := (hB4.alloc (by omega) (.cells (dcs (numAt s 0) (numAt s 4) (numAt s 8) (byteAt s 12 == 2)) 24)).trans (hb5.mono (by simp; omega))
      clear hb5 hB4 hD4 hF4
      obtain ⟨⟨a0, a1, a2, a3⟩, _⟩ := hD5.desc
      go_wp2_with fail
      refine (right_pw _ _ _ _ _).mono ?_
      rintro e w6 ⟨rfl, rfl⟩
      obtain ⟨⟨p0, p1, p2, p3⟩, _⟩ := (hD5.alloc (.cells (dcs i l f d) 24)).desc
      obtain ⟨⟨b0, b1, b2, b3⟩, _⟩ := (hF5.alloc (.cells (dcs i l f d) 24)).desc
      obtain ⟨⟨k0, k1, k2, k3⟩, _⟩ := (hC5.alloc (.cells (dcs i l f d) 24)).desc
      clear a0 a1 a2 a3
      go_wp2
      go_ret
      exact ⟨rfl, hB5.alloc (by omega) _⟩
end Go.Proofs.Ythhbommdabedeaa
