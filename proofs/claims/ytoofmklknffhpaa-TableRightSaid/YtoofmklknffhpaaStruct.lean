/-
  A struct of whole numbers by value that came in, opened: its numbers, and that each fits its kind. Conditions: the type's shape.
-/
import Derived.Lib.SmallJoins
import Derived.OpenShut
import Derived.Deep.Fields
namespace Go.Proofs.Ytoofmklknffhpaa
open Go.Joins Go.ChangeShapes Go.WideShapes Go.RowKit Go.Deep
theorem bd_u64 {n : Int} (h : (Lit.int .u64 n).wf = true) : 0 ≤ n ∧ n ≤ 18446744073709551615 := by
  simpa [Lit.wf, IntKind.min, IntKind.max, IntKind.signed, IntKind.bits] using h
section
variable {H : Type} {enc : TypeId × Value → H} {P : Program} {w : World} {base : Nat} {spare : Nat → Bool} {held : Bool}
theorem open_ints3 {r : Reach} {b0 : Nat} {t : TypeId} {f0 f1 f2 : Field} {k0 k1 k2 : IntKind} {v : Value} {x : DataW H} {p : List MemPlace} (hs : P.underlying t = some (.struct #[f0, f1, f2])) (hone : oneCellFields P #[f0, f1, f2] = true) (hC : P.cellsOf t = 3)
    (u0 : P.underlying f0.type = some (.int k0)) (u1 : P.underlying f1.type = some (.int k1)) (u2 : P.underlying f2.type = some (.int k2))
    (hv : Value.okWide P w r b0 t v) (h : DataW.Trod enc P w base spare held t v x p) :
    ∃ n0 n1 n2 : Int, v = .agg #[.int k0 n0, .int k1 n1, .int k2 n2] ∧ (Lit.int k0 n0).wf = true ∧ (Lit.int k1 n1).wf = true ∧ (Lit.int k2 n2).wf = true := by
  obtain ⟨cs, rfl, hsz⟩ := okWide_struct hs hv
  obtain ⟨l⟩ := cs
  match l, hsz.trans hC with
  | [c0, c1, c2], _ =>
    obtain ⟨fuel, hf⟩ := h
    obtain ⟨xs, m, _, _, _, hlen, hg⟩ := DataW.trod_struct hs hf
    match xs, hlen with
    | [y0, y1, y2], _ =>
      obtain ⟨o0, q0⟩ := hone_of hone 0 f0 rfl
      have g0 := hg 0 f0 rfl
      rw [o0, q0] at g0
      obtain ⟨n0, e0, _, w0⟩ := DataW.trod_int u0 (show DataW.trod enc P w base spare held m f0.type [c0] = some y0 from g0)
      obtain ⟨o1, q1⟩ := hone_of hone 1 f1 rfl
      have g1 := hg 1 f1 rfl
      rw [o1, q1] at g1
      obtain ⟨n1, e1, _, w1⟩ := DataW.trod_int u1 (show DataW.trod enc P w base spare held m f1.type [c1] = some y1 from g1)
      obtain ⟨o2, q2⟩ := hone_of hone 2 f2 rfl
      have g2 := hg 2 f2 rfl
      rw [o2, q2] at g2
      obtain ⟨n2, e2, _, w2⟩ := DataW.trod_int u2 (show DataW.trod enc P w base spare held m f2.type [c2] = some y2 from g2)
      simp at e0 e1 e2
      subst e0 e1 e2
      exact ⟨n0, n1, n2, rfl, w0, w1, w2⟩
theorem open_ints5 {r : Reach} {b0 : Nat} {t : TypeId} {f0 f1 f2 f3 f4 : Field} {k0 k1 k2 k3 k4 : IntKind} {v : Value} {x : DataW H} {p : List MemPlace} (hs : P.underlying t = some (.struct #[f0, f1, f2, f3, f4])) (hone : oneCellFields P #[f0, f1, f2, f3, f4] = true) (hC : P.cellsOf t = 5)
    (u0 : P.underlying f0.type = some (.int k0)) (u1 : P.underlying f1.type = some (.int k1)) (u2 : P.underlying f2.type = some (.int k2)) (u3 : P.underlying f3.type = some (.int k3)) (u4 : P.underlying f4.type = some (.int k4))
    (hv : Value.okWide P w r b0 t v) (h : DataW.Trod enc P w base spare held t v x p) :
    ∃ n0 n1 n2 n3 n4 : Int, v = .agg #[.int k0 n0, .int k1 n1, .int k2 n2, .int k3 n3, .int k4 n4] ∧ (Lit.int k0 n0).wf = true ∧ (Lit.int k1 n1).wf = true ∧ (Lit.int k2 n2).wf = true ∧ (Lit.int k3 n3).wf = true ∧ (Lit.int k4 n4).wf = true := by
  obtain ⟨cs, rfl, hsz⟩ := okWide_struct hs hv
  obtain ⟨l⟩ := cs
  match l, hsz.trans hC with
  | [c0, c1, c2, c3, c4], _ =>
    obtain ⟨fuel, hf⟩ := h
    obtain ⟨xs, m, _, _, _, hlen, hg⟩ := DataW.trod_struct hs hf
    match xs, hlen with
    | [y0, y1, y2, y3, y4], _ =>
      obtain ⟨o0, q0⟩ := hone_of hone 0 f0 rfl
      have g0 := hg 0 f0 rfl
      rw [o0, q0] at g0
      obtain ⟨n0, e0, _, w0⟩ := DataW.trod_int u0 (show DataW.trod enc P w base spare held m f0.type [c0] = some y0 from g0)
      obtain ⟨o1, q1⟩ := hone_of hone 1 f1 rfl
      have g1 := hg 1 f1 rfl
      rw [o1, q1] at g1
      obtain ⟨n1, e1, _, w1⟩ := DataW.trod_int u1 (show DataW.trod enc P w base spare held m f1.type [c1] = some y1 from g1)
      obtain ⟨o2, q2⟩ := hone_of hone 2 f2 rfl
      have g2 := hg 2 f2 rfl
      rw [o2, q2] at g2
      obtain ⟨n2, e2, _, w2⟩ := DataW.trod_int u2 (show DataW.trod enc P w base spare held m f2.type [c2] = some y2 from g2)
      obtain ⟨o3, q3⟩ := hone_of hone 3 f3 rfl
      have g3 := hg 3 f3 rfl
      rw [o3, q3] at g3
      obtain ⟨n3, e3, _, w3⟩ := DataW.trod_int u3 (show DataW.trod enc P w base spare held m f3.type [c3] = some y3 from g3)
      obtain ⟨o4, q4⟩ := hone_of hone 4 f4 rfl
      have g4 := hg 4 f4 rfl
      rw [o4, q4] at g4
      obtain ⟨n4, e4, _, w4⟩ := DataW.trod_int u4 (show DataW.trod enc P w base spare held m f4.type [c4] = some y4 from g4)
      simp at e0 e1 e2 e3 e4
      subst e0 e1 e2 e3 e4
      exact ⟨n0, n1, n2, n3, n4, rfl, w0, w1, w2, w3, w4⟩
theorem open_ints13 {r : Reach} {b0 : Nat} {t : TypeId} {f0 f1 f2 f3 f4 f5 f6 f7 f8 f9 f10 f11 f12 : Field} {k0 k1 k2 k3 k4 k5 k6 k7 k8 k9 k10 k11 k12 : IntKind} {v : Value} {x : DataW H} {p : List MemPlace} (hs : P.underlying t = some (.struct #[f0, f1, f2, f3, f4, f5, f6, f7, f8, f9, f10, f11, f12])) (hone : oneCellFields P #[f0, f1, f2, f3, f4, f5, f6, f7, f8, f9, f10, f11, f12] = true) (hC : P.cellsOf t = 13)
    (u0 : P.underlying f0.type = some (.int k0)) (u1 : P.underlying f1.type = some (.int k1)) (u2 : P.underlying f2.type = some (.int k2)) (u3 : P.underlying f3.type = some (.int k3)) (u4 : P.underlying f4.type = some (.int k4)) (u5 : P.underlying f5.type = some (.int k5)) (u6 : P.underlying f6.type = some (.int k6)) (u7 : P.underlying f7.type = some (.int k7)) (u8 : P.underlying f8.type = some (.int k8)) (u9 : P.underlying f9.type = some (.int k9)) (u10 : P.underlying f10.type = some (.int k10)) (u11 : P.underlying f11.type = some (.int k11)) (u12 : P.underlying f12.type = some (.int k12))
    (hv : Value.okWide P w r b0 t v) (h : DataW.Trod enc P w base spare held t v x p) :
    ∃ n0 n1 n2 n3 n4 n5 n6 n7 n8 n9 n10 n11 n12 : Int, v = .agg #[.int k0 n0, .int k1 n1, .int k2 n2, .int k3 n3, .int k4 n4, .int k5 n5, .int k6 n6, .int k7 n7, .int k8 n8, .int k9 n9, .int k10 n10, .int k11 n11, .int k12 n12] ∧ (Lit.int k0 n0).wf = true ∧ (Lit.int k1 n1).wf = true ∧ (Lit.int k2 n2).wf = true ∧ (Lit.int k3 n3).wf = true ∧ (Lit.int k4 n4).wf = true ∧ (Lit.int k5 n5).wf = true ∧ (Lit.int k6 n6).wf = true ∧ (Lit.int k7 n7).wf = true ∧ (Lit.int k8 n8).wf = true ∧ (Lit.int k9 n9).wf = true ∧ (Lit.int k10 n10).wf = true ∧ (Lit.int k11 n11).wf = true ∧ (Lit.int k12 n12).wf = true := by
  obtain ⟨cs, rfl, hsz⟩ := okWide_struct hs hv
  obtain ⟨l⟩ := cs
  match l, hsz.trans hC with
  | [c0, c1, c2, c3, c4, c5, c6, c7, c8, c9, c10, c11, c12], _ =>
    obtain ⟨fuel, hf⟩ := h
    obtain ⟨xs, m, _, _, _, hlen, hg⟩ := DataW.trod_struct hs hf
    match xs, hlen with
    | [y0, y1, y2, y3, y4, y5, y6, y7, y8, y9, y10, y11, y12], _ =>
      obtain ⟨o0, q0⟩ := hone_of hone 0 f0 rfl
      have g0 := hg 0 f0 rfl
      rw [o0, q0] at g0
      obtain ⟨n0, e0, _, w0⟩ := DataW.trod_int u0 (show DataW.trod enc P w base spare held m f0.type [c0] = some y0 from g0)
      obtain ⟨o1, q1⟩ := hone_of hone 1 f1 rfl
      have g1 := hg 1 f1 rfl
      rw [o1, q1] at g1
      obtain ⟨n1, e1, _, w1⟩ := DataW.trod_int u1 (show DataW.trod enc P w base spare held m f1.type [c1] = some y1 from g1)
      obtain ⟨o2, q2⟩ := hone_of hone 2 f2 rfl
      have g2 := hg 2 f2 rfl
      rw [o2, q2] at g2
      obtain ⟨n2, e2, _, w2⟩ := DataW.trod_int u2 (show DataW.trod enc P w base spare held m f2.type [c2] = some y2 from g2)
      obtain ⟨o3, q3⟩ := hone_of hone 3 f3 rfl
      have g3 := hg 3 f3 rfl
      rw [o3, q3] at g3
      obtain ⟨n3, e3, _, w3⟩ := DataW.trod_int u3 (show DataW.trod enc P w base spare held m f3.type [c3] = some y3 from g3)
      obtain ⟨o4, q4⟩ := hone_of hone 4 f4 rfl
      have g4 := hg 4 f4 rfl
      rw [o4, q4] at g4
      obtain ⟨n4, e4, _, w4⟩ := DataW.trod_int u4 (show DataW.trod enc P w base spare held m f4.type [c4] = some y4 from g4)
      obtain ⟨o5, q5⟩ := hone_of hone 5 f5 rfl
      have g5 := hg 5 f5 rfl
      rw [o5, q5] at g5
      obtain ⟨n5, e5, _, w5⟩ := DataW.trod_int u5 (show DataW.trod enc P w base spare held m f5.type [c5] = some y5 from g5)
      obtain ⟨o6, q6⟩ := hone_of hone 6 f6 rfl
      have g6 := hg 6 f6 rfl
      rw [o6, q6] at g6
      obtain ⟨n6, e6, _, w6⟩ := DataW.trod_int u6 (show DataW.trod enc P w base spare held m f6.type [c6] = some y6 from g6)
      obtain ⟨o7, q7⟩ := hone_of hone 7 f7 rfl
      have g7 := hg 7 f7 rfl
      rw [o7, q7] at g7
      obtain ⟨n7, e7, _, w7⟩ := DataW.trod_int u7 (show DataW.trod enc P w base spare held m f7.type [c7] = some y7 from g7)
      obtain ⟨o8, q8⟩ := hone_of hone 8 f8 rfl
      have g8 := hg 8 f8 rfl
      rw [o8, q8] at g8
      obtain ⟨n8, e8, _, w8⟩ := DataW.trod_int u8 (show DataW.trod enc P w base spare held m f8.type [c8] = some y8 from g8)
      obtain ⟨o9, q9⟩ := hone_of hone 9 f9 rfl
      have g9 := hg 9 f9 rfl
      rw [o9, q9] at g9
      obtain ⟨n9, e9, _, w9⟩ := DataW.trod_int u9 (show DataW.trod enc P w base spare held m f9.type [c9] = some y9 from g9)
      obtain ⟨o10, q10⟩ := hone_of hone 10 f10 rfl
      have g10 := hg 10 f10 rfl
      rw [o10, q10] at g10
      obtain ⟨n10, e10, _, w10⟩ := DataW.trod_int u10 (show DataW.trod enc P w base spare held m f10.type [c10] = some y10 from g10)
      obtain ⟨o11, q11⟩ := hone_of hone 11 f11 rfl
      have g11 := hg 11 f11 rfl
      rw [o11, q11] at g11
      obtain ⟨n11, e11, _, w11⟩ := DataW.trod_int u11 (show DataW.trod enc P w base spare held m f11.type [c11] = some y11 from g11)
      obtain ⟨o12, q12⟩ := hone_of hone 12 f12 rfl
      have g12 := hg 12 f12 rfl
      rw [o12, q12] at g12
      obtain ⟨n12, e12, _, w12⟩ := DataW.trod_int u12 (show DataW.trod enc P w base spare held m f12.type [c12] = some y12 from g12)
      simp at e0 e1 e2 e3 e4 e5 e6 e7 e8 e9 e10 e11 e12
      subst e0 e1 e2 e3 e4 e5 e6 e7 e8 e9 e10 e11 e12
      exact ⟨n0, n1, n2, n3, n4, n5, n6, n7, n8, n9, n10, n11, n12, rfl, w0, w1, w2, w3, w4, w5, w6, w7, w8, w9, w10, w11, w12⟩
end
end Go.Proofs.Ytoofmklknffhpaa
