/-
  SteerNone: which steers there are, and what a nil one answers, is what the document says, for any table (its first twenty classes, spans), packet.
-/
import Derived.Test.YtaoaapbbadipfaaRows
import Derived.WalkKit
import Derived.ProofKit
import Derived.OpenShut
import Derived.Test.YtaoaapbbadipfaaMGa
import Derived.Test.YtaoaapbbadipfaaMHk
import Derived.Test.YtaoaapbbadipfaaMHi
import Derived.Test.YtaoaapbbadipfaaMHe
/- SteerNone: which steers there are, and what a nil one answers, is what the document says, for any table (its first twenty classes, spans), packet. -/
section
namespace Go.Proofs.Ytaoaapbbadipfaa.steerNone
set_option linter.unusedSimpArgs false
set_option linter.unusedVariables false
open Go.ChangeShapes Go.WideShapes Go.ChangeAt Go.RowKit
set_option linter.unusedVariables false

theorem own : ownKnob Try.prog.godebug = none := by kernel_rfl
theorem laidOut : laidOutB Try.prog = true := by kernel_rfl

theorem walk (A0 B0 : Option Addr) (c0 e0 : Nat) (t0 : TB) (q1 : PK) (w1 : q1.Fits) (w : World) (w0 : TbAt w.heap.size w A0 B0 c0 e0 t0) :
    Calls Try.prog 4 #[.agg (tbC A0 B0 c0 e0 t0), pk q1] w fun e w' => e = .returned (.bool true) ∧ Below w.heap.size w w' := by
  exact none_w pst A0 B0 c0 e0 t0 q1 w1 w w0

set_option maxRecDepth 100000 in
theorem lifted (os : Os) (started : os.Started) (H : Type) (enc : TypeId × Value → H) :
    ReturnsInHanded {} Try.checked os 4 .any (Rows.steerNoneSpec.pre6 enc Try.prog Try.f4 Rows.steerNoneRow.domain false) (Rows.steerNoneSpec.post enc Try.prog Try.f4 false true false false) := by
  refine returnsInHanded_of_change (C := Try.checked) own started (by kernel_rfl) Try.func4
    (ChangeSpec.witness6 (enc := enc) (C := Try.checked) false ⟨#[], #[.agg #[.int .i64 0, .slice none 0 0, .slice none 0 0], .agg #[.int .u32 0, .int .u32 0, .int .i64 0, .int .i64 0, .int .u32 0, .int .u32 0, .int .u16 0, .int .u16 0, .int .u8 0]], []⟩ 8 (by kernel_rfl) (by kernel_rfl) (by kernel_rfl) (by kernel_rfl)) ?_
  intro W base args ds gs before hval0 hW hcnd _
  have hval : ∀ (j : Nat) t v, Try.f4.params[j]? = some t → args[j]? = some v → Value.okWide Try.prog W .any base t v := hval0
  have hW' := hW
  obtain ⟨p, q, hA0, hV, rfl, hfz, hnd⟩ := hW
  have hA : DataW.TrodAll enc Try.prog W 0 (fun _ => true) true Try.f4.params.toList args.toList ds p := hA0
  rw [Try.params4] at hA hval
  obtain ⟨v0, vs0, x0, xs0, p0, q0, hargs, rfl, rfl, h0, r0⟩ := trodAll_cons hA
  obtain ⟨v1, vs1, x1, xs1, p1, q1, rfl, rfl, rfl, h1, r1⟩ := trodAll_cons r0
  obtain ⟨rfl, rfl, rfl⟩ := trodAll_nil r1
  obtain rfl : args = #[v0, v1] := by cases args; simp_all
  obtain ⟨rfl, rfl⟩ := trodVars_none hV
  obtain ⟨A0, B0, c0, e0, t0, rfl, w0⟩ := open_table (hval 0 32 v0 rfl rfl) h0
  obtain ⟨q1, rfl, w1⟩ := open_packet (hval 1 42 v1 rfl rfl) h1
  clear hA0 hval0
  simp only [List.append_nil] at hW'
  refine (walk A0 B0 c0 e0 t0 q1 w1 W w0).mono fun e W' ⟨he, hg⟩ => ?_
  subst he
  exact ⟨_, rfl, law_end laidOut (by kernel_rfl) rfl hW' (by kernel_rfl) Try.underlying4 rfl ⟨rfl, rfl, rfl⟩ hg⟩

theorem over : Rows.steerNoneRow.holds Try.pinned (OpenSpec.ofChange Rows.steerNoneSpec) :=
  OpenClaim.holds_of_wide 4 Try.f4 rfl rfl rfl rfl rfl rfl rfl ⟨rfl, rfl, rfl, rfl, rfl⟩ rfl rfl rfl rfl rfl (by kernel_rfl) Try.func4 (by kernel_rfl)
    (of_decide_eq_true (by kernel_rfl)) (by unfold Func.isWrapper; first | (rw [if_pos (by decide +kernel)]; kernel_rfl) | (rw [if_neg (by decide +kernel)]; exact ⟨rfl, rfl⟩))
    (fun os started H enc _ => lifted os started H enc)

theorem proved : Rows.SteerNoneSaid :=
  over
end Go.Proofs.Ytaoaapbbadipfaa.steerNone

namespace Go.Proofs.Ytaoaapbbadipfaa
theorem steerNone_proved : Rows.SteerNoneSaid := steerNone.proved
end Go.Proofs.Ytaoaapbbadipfaa
end
