/-
  A descriptor handed over by value, opened and shut. Conditions: those that each theorem names.
-/
import Derived.Lib.SmallJoins
import Derived.OpenShut
import Derived.Test.YtfnhnicjomaelaaBase
import Derived.Test.YtfnhnicjomaelaaDescA
namespace Go.Proofs.Ytfnhnicjomaelaa
open Go.ChangeShapes Go.WideShapes Go.ChangeAt Go.RowKit Go.Joins
set_option maxRecDepth 100000

theorem cellsDesc : Try.prog.cellsOf 35 = 4 := by kernel_rfl
section
variable {H : Type} {enc : TypeId × Value → H} {w : World} {base : Nat} {spare : Nat → Bool} {held : Bool}
/-- the data of a descriptor -/
abbrev dd (i l f : Int) (d : Bool) : DataW H := .agg [.lit (.int .u32 i), .lit (.int .u32 l), .lit (.int .u32 f), .lit (.bool d)]
/-- a descriptor's numbers fit -/
structure FitsD (i l f : Int) : Prop where
  i : (Lit.int .u32 i).wf = true
  l : (Lit.int .u32 l).wf = true
  f : (Lit.int .u32 f).wf = true
theorem open_desc {r : Reach} {b0 : Nat} {v : Value} {x : DataW H} {p : List MemPlace} (hv : Value.okWide Try.prog w r b0 35 v) (h : DataW.Trod enc Try.prog w base spare held 35 v x p) :
    ∃ i l f d, v = dv i l f d ∧ x = dd i l f d ∧ p = [] ∧ FitsD i l f := by
  obtain ⟨c0, c1, c2, c3, y0, y1, y2, y3, m, rfl, rfl, rfl, hy0, hy1, hy2, hy3⟩ := open_agg4 Try.underlying35 (by kernel_rfl) cellsDesc hv h
  obtain ⟨i, e0, rfl, w0⟩ := DataW.trod_int Try.underlying22 hy0
  obtain ⟨l, e1, rfl, w1⟩ := DataW.trod_int Try.underlying22 hy1
  obtain ⟨f, e2, rfl, w2⟩ := DataW.trod_int Try.underlying22 hy2
  obtain ⟨d, e3, rfl⟩ := DataW.trod_bool Try.underlying4 hy3
  simp at e0 e1 e2 e3
  subst e0 e1 e2 e3
  exact ⟨i, l, f, d, rfl, rfl, rfl, ⟨w0, w1, w2⟩⟩
theorem shut_desc {i l f : Int} {d : Bool} (hw : FitsD i l f) : DataW.Trod enc Try.prog w base spare held 35 (dv i l f d) (dd i l f d) [] :=
  shut_agg4 (y0 := (.lit (.int .u32 i), [])) (y1 := (.lit (.int .u32 l), [])) (y2 := (.lit (.int .u32 f), [])) (y3 := (.lit (.bool d), [])) Try.underlying35 (by kernel_rfl) cellsDesc
    ⟨1, by simp [DataW.trod, Try.underlying22, hw.i]⟩ ⟨1, by simp [DataW.trod, Try.underlying22, hw.l]⟩ ⟨1, by simp [DataW.trod, Try.underlying22, hw.f]⟩ ⟨1, by simp [DataW.trod, Try.underlying4]⟩
end
end Go.Proofs.Ytfnhnicjomaelaa
