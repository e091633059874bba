/-
  TableMoves: which priorities have other spans is what the document says, for any two tables (as above).
-/
import Derived.Test.YtoofmklknffhpaaRows
import Derived.WalkKit
import Derived.ProofKit
import Derived.OpenShut
import Derived.Test.YtoofmklknffhpaaBase
import Derived.Test.YtoofmklknffhpaaRow
import Derived.Test.YtoofmklknffhpaaTableO
import Derived.Test.YtoofmklknffhpaaTableLD
namespace Go.Proofs.Ytoofmklknffhpaa.tableMoves
set_option linter.unusedSimpArgs false
set_option linter.unusedVariables false
open Go.ChangeShapes Go.WideShapes Go.ChangeAt Go.RowKit
set_option linter.unusedVariables false

theorem own : ownKnob Try.prog.godebug = none := by kernel_rfl
theorem laidOut : laidOutB Try.prog = true := by kernel_rfl

theorem walk (A0 B0 : Option Addr) (c0 e0 : Nat) (t0 : TB) (A1 B1 : Option Addr) (c1 e1 : Nat) (t1 : TB) (w : World) (w0 : TbAt w.heap.size w A0 B0 c0 e0 t0) (w1 : TbAt w.heap.size w A1 B1 c1 e1 t1) :
    Calls Try.prog 6 #[.agg (tbC A0 B0 c0 e0 t0), .agg (tbC A1 B1 c1 e1 t1)] w fun e w' => e = .returned (.bool true) ∧ Below w.heap.size w w' := by
  exact moves_w A0 B0 A1 B1 c0 e0 c1 e1 t0 t1 w w0 w1

set_option maxRecDepth 100000 in
theorem lifted (os : Os) (started : os.Started) (H : Type) (enc : TypeId × Value → H) :
    ReturnsInHanded {} Try.checked os 6 .any (Rows.tableMovesSpec.pre6 enc Try.prog Try.f6 Rows.tableMovesRow.domain false) (Rows.tableMovesSpec.post enc Try.prog Try.f6 false true false false) := by
  refine returnsInHanded_of_change (C := Try.checked) own started (by kernel_rfl) Try.func6
    (ChangeSpec.witness6 (enc := enc) (C := Try.checked) false ⟨#[], #[.agg #[.int .i64 0, .slice none 0 0, .slice none 0 0], .agg #[.int .i64 0, .slice none 0 0, .slice none 0 0]], []⟩ 8 (by kernel_rfl) (by kernel_rfl) (by kernel_rfl) (by kernel_rfl)) ?_
  intro W base args ds gs before hval0 hW hcnd _
  have hval : ∀ (j : Nat) t v, Try.f6.params[j]? = some t → args[j]? = some v → Value.okWide Try.prog W .any base t v := hval0
  have hW' := hW
  obtain ⟨p, q, hA0, hV, rfl, hfz, hnd⟩ := hW
  have hA : DataW.TrodAll enc Try.prog W 0 (fun _ => true) true Try.f6.params.toList args.toList ds p := hA0
  rw [Try.params6] at hA hval
  obtain ⟨v0, vs0, x0, xs0, p0, q0, hargs, rfl, rfl, h0, r0⟩ := trodAll_cons hA
  obtain ⟨v1, vs1, x1, xs1, p1, q1, rfl, rfl, rfl, h1, r1⟩ := trodAll_cons r0
  obtain ⟨rfl, rfl, rfl⟩ := trodAll_nil r1
  obtain rfl : args = #[v0, v1] := by cases args; simp_all
  obtain ⟨rfl, rfl⟩ := trodVars_none hV
  obtain ⟨A0, B0, c0, e0, t0, rfl, w0⟩ := open_table (hval 0 25 v0 rfl rfl) h0
  obtain ⟨A1, B1, c1, e1, t1, rfl, w1⟩ := open_table (hval 1 25 v1 rfl rfl) h1
  clear hA0 hval0
  simp only [List.append_nil] at hW'
  refine (walk A0 B0 c0 e0 t0 A1 B1 c1 e1 t1 W w0 w1).mono fun e W' ⟨he, hg⟩ => ?_
  subst he
  exact ⟨_, rfl, law_end laidOut (by kernel_rfl) rfl hW' (by kernel_rfl) Try.underlying4 rfl ⟨rfl, rfl, rfl⟩ hg⟩

theorem over : Rows.tableMovesRow.holds Try.pinned (OpenSpec.ofChange Rows.tableMovesSpec) :=
  OpenClaim.holds_of_wide 6 Try.f6 rfl rfl rfl rfl rfl rfl rfl ⟨rfl, rfl, rfl, rfl, rfl⟩ rfl rfl rfl rfl rfl (by kernel_rfl) Try.func6 (by kernel_rfl)
    (of_decide_eq_true (by kernel_rfl)) (by unfold Func.isWrapper; first | (rw [if_pos (by decide +kernel)]; kernel_rfl) | (rw [if_neg (by decide +kernel)]; exact ⟨rfl, rfl⟩))
    (fun os started H enc _ => lifted os started H enc)

theorem proved : Rows.TableMovesSaid :=
  over
end Go.Proofs.Ytoofmklknffhpaa.tableMoves

namespace Go.Proofs.Ytoofmklknffhpaa
theorem tableMoves_proved : Rows.TableMovesSaid := tableMoves.proved
end Go.Proofs.Ytoofmklknffhpaa
