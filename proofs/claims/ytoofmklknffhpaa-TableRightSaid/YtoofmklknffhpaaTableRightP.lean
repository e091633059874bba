/-
  TableRight: which tables may be, and which queues are idle, is what the document says, for any table (its first twenty classes, spans).
-/
import Derived.Test.YtoofmklknffhpaaRows
import Derived.WalkKit
import Derived.ProofKit
import Derived.OpenShut
import Derived.Test.YtoofmklknffhpaaBase
import Derived.Test.YtoofmklknffhpaaRow
import Derived.Test.YtoofmklknffhpaaTableO
import Derived.Test.YtoofmklknffhpaaTableLC
namespace Go.Proofs.Ytoofmklknffhpaa.tableRight
set_option linter.unusedSimpArgs false
set_option linter.unusedVariables false
open Go.ChangeShapes Go.WideShapes Go.ChangeAt Go.RowKit
set_option linter.unusedVariables false

theorem own : ownKnob Try.prog.godebug = none := by kernel_rfl
theorem laidOut : laidOutB Try.prog = true := by kernel_rfl

theorem walk (A0 B0 : Option Addr) (c0 e0 : Nat) (t0 : TB) (w : World) (w0 : TbAt w.heap.size w A0 B0 c0 e0 t0) :
    Calls Try.prog 3 #[.agg (tbC A0 B0 c0 e0 t0)] w fun e w' => e = .returned (.bool true) ∧ Below w.heap.size w w' := by
  exact right_w A0 B0 c0 e0 t0 w w0

set_option maxRecDepth 100000 in
theorem lifted (os : Os) (started : os.Started) (H : Type) (enc : TypeId × Value → H) :
    ReturnsInHanded {} Try.checked os 3 .any (Rows.tableRightSpec.pre6 enc Try.prog Try.f3 Rows.tableRightRow.domain false) (Rows.tableRightSpec.post enc Try.prog Try.f3 false true false false) := by
  refine returnsInHanded_of_change (C := Try.checked) own started (by kernel_rfl) Try.func3
    (ChangeSpec.witness6 (enc := enc) (C := Try.checked) false ⟨#[], #[.agg #[.int .i64 0, .slice none 0 0, .slice none 0 0]], []⟩ 8 (by kernel_rfl) (by kernel_rfl) (by kernel_rfl) (by kernel_rfl)) ?_
  intro W base args ds gs before hval0 hW hcnd _
  have hval : ∀ (j : Nat) t v, Try.f3.params[j]? = some t → args[j]? = some v → Value.okWide Try.prog W .any base t v := hval0
  have hW' := hW
  obtain ⟨p, q, hA0, hV, rfl, hfz, hnd⟩ := hW
  have hA : DataW.TrodAll enc Try.prog W 0 (fun _ => true) true Try.f3.params.toList args.toList ds p := hA0
  rw [Try.params3] at hA hval
  obtain ⟨v0, vs0, x0, xs0, p0, q0, hargs, rfl, rfl, h0, r0⟩ := trodAll_cons hA
  obtain ⟨rfl, rfl, rfl⟩ := trodAll_nil r0
  obtain rfl : args = #[v0] := by cases args; simp_all
  obtain ⟨rfl, rfl⟩ := trodVars_none hV
  obtain ⟨A0, B0, c0, e0, t0, rfl, w0⟩ := open_table (hval 0 25 v0 rfl rfl) h0
  clear hA0 hval0
  simp only [List.append_nil] at hW'
  refine (walk A0 B0 c0 e0 t0 W w0).mono fun e W' ⟨he, hg⟩ => ?_
  subst he
  exact ⟨_, rfl, law_end laidOut (by kernel_rfl) rfl hW' (by kernel_rfl) Try.underlying4 rfl ⟨rfl, rfl, rfl⟩ hg⟩

theorem over : Rows.tableRightRow.holds Try.pinned (OpenSpec.ofChange Rows.tableRightSpec) :=
  OpenClaim.holds_of_wide 3 Try.f3 rfl rfl rfl rfl rfl rfl rfl ⟨rfl, rfl, rfl, rfl, rfl⟩ rfl rfl rfl rfl rfl (by kernel_rfl) Try.func3 (by kernel_rfl)
    (of_decide_eq_true (by kernel_rfl)) (by unfold Func.isWrapper; first | (rw [if_pos (by decide +kernel)]; kernel_rfl) | (rw [if_neg (by decide +kernel)]; exact ⟨rfl, rfl⟩))
    (fun os started H enc _ => lifted os started H enc)

theorem proved : Rows.TableRightSaid :=
  over
end Go.Proofs.Ytoofmklknffhpaa.tableRight

namespace Go.Proofs.Ytoofmklknffhpaa
theorem tableRight_proved : Rows.TableRightSaid := tableRight.proved
end Go.Proofs.Ytoofmklknffhpaa
