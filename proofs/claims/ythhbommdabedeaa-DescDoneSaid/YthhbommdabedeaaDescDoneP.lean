/-
  Proved: DescDone returns true for any descriptor, and its argument reads afterwards as before. Conditions: none.
-/
import Derived.Test.YthhbommdabedeaaRows
import Derived.WalkKit
import Derived.ProofKit
import Derived.OpenShut
import Derived.Test.YthhbommdabedeaaBase
import Derived.Test.YthhbommdabedeaaDescP
import Derived.Test.YthhbommdabedeaaDescJ
namespace Go.Proofs.Ythhbommdabedeaa.descDone
open Go.ChangeShapes Go.WideShapes Go.ChangeAt Go.RowKit
set_option linter.unusedVariables false

theorem own : ownKnob Try.prog.godebug = none := by kernel_rfl

theorem walk (i0 l0 f0 : Int) (d0 : Bool) (w0 : FitsD i0 l0 f0) (w : World) :
    Calls Try.prog 7 #[dv i0 l0 f0 d0] w fun e w' => e = .returned (.bool true) ∧ Below w.heap.size w w' := by
  exact done_w i0 l0 f0 d0 (bd_u32 w0.i).1 (bd_u32 w0.i).2 (bd_u32 w0.l).1 (bd_u32 w0.l).2 (bd_u32 w0.f).1 (bd_u32 w0.f).2 w

set_option maxRecDepth 100000 in
theorem lifted (os : Os) (started : os.Started) (H : Type) (enc : TypeId × Value → H) :
    ReturnsInHanded {} Try.checked os 7 .any (Rows.descDoneSpec.pre6 enc Try.prog Try.f7 Rows.descDoneRow.domain false) (Rows.descDoneSpec.post enc Try.prog Try.f7 false true false false) := by
  refine returnsInHanded_of_change (C := Try.checked) own started (by kernel_rfl) Try.func7
    (ChangeSpec.witness6 (enc := enc) (C := Try.checked) false ⟨#[], #[.agg #[.int .u32 0, .int .u32 0, .int .u32 0, .bool false]], []⟩ 8 (by kernel_rfl) (by kernel_rfl) (by kernel_rfl) (by kernel_rfl)) ?_
  intro W base args ds gs before hval0 hW hcnd _
  have hval : ∀ (j : Nat) t v, Try.f7.params[j]? = some t → args[j]? = some v → Value.okWide Try.prog W .any base t v := hval0
  have hW' := hW
  obtain ⟨p, q, hA0, hV, rfl, hfz, hnd⟩ := hW
  have hA : DataW.TrodAll enc Try.prog W 0 (fun _ => true) true Try.f7.params.toList args.toList ds p := hA0
  rw [Try.params7] at hA hval
  obtain ⟨v0, vs0, x0, xs0, p0, q0, hargs, rfl, rfl, h0, r0⟩ := trodAll_cons hA
  obtain ⟨rfl, rfl, rfl⟩ := trodAll_nil r0
  obtain rfl : args = #[v0] := by cases args; simp_all
  obtain ⟨rfl, rfl⟩ := trodVars_none hV
  obtain ⟨i0, l0, f0, d0, rfl, rfl, rfl, w0⟩ := open_desc (hval 0 24 v0 rfl rfl) h0
  clear hA0 hval0
  simp only [List.append_nil] at hW'
  refine (walk i0 l0 f0 d0 w0 W).mono fun e W' ⟨he, hg⟩ => ?_
  subst he
  exact ⟨_, rfl, shut_below (pa := []) (pv := []) hW' (fun _ _ _ => (trodAll_cons_mk (shut_bool Try.underlying4 _) trodAll_mk0)) (fun sp _ => (trodAll_cons_mk (shut_desc w0) trodAll_mk0)) (fun _ _ => rfl) rfl
    hg (ok_one (by kernel_rfl) rfl (okWide_bool_mk Try.underlying4 _))⟩

theorem over : Rows.descDoneRow.holds Try.pinned (OpenSpec.ofChange Rows.descDoneSpec) :=
  OpenClaim.holds_of_wide 7 Try.f7 rfl rfl rfl rfl rfl rfl rfl ⟨rfl, rfl, rfl, rfl, rfl⟩ rfl rfl rfl rfl rfl (by kernel_rfl) Try.func7 (by kernel_rfl)
    (of_decide_eq_true (by kernel_rfl)) (by unfold Func.isWrapper; first | (rw [if_pos (by decide +kernel)]; kernel_rfl) | (rw [if_neg (by decide +kernel)]; exact ⟨rfl, rfl⟩))
    (fun os started H enc _ => lifted os started H enc)

theorem proved : Rows.DescDoneSaid :=
  over
end Go.Proofs.Ythhbommdabedeaa.descDone

namespace Go.Proofs.Ythhbommdabedeaa
theorem descDone_proved : Rows.DescDoneSaid := descDone.proved
end Go.Proofs.Ythhbommdabedeaa
