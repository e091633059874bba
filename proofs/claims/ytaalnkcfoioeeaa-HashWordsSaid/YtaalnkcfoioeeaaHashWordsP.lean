/-
  HashWords: the number of some words is what the document says, for any salt, words (the first hundred).
-/
import Derived.Test.YtaalnkcfoioeeaaRows
import Derived.WalkKit
import Derived.ProofKit
import Derived.OpenShut
import Derived.Test.YtaalnkcfoioeeaaBase
import Derived.Test.YtaalnkcfoioeeaaRow
import Derived.Test.YtaalnkcfoioeeaaHashG
namespace Go.Proofs.Ytaalnkcfoioeeaa.hashWords
set_option linter.unusedSimpArgs false
set_option linter.unusedVariables false
open Go.ChangeShapes Go.WideShapes Go.ChangeAt Go.RowKit
set_option linter.unusedVariables false

theorem own : ownKnob Try.prog.godebug = none := by kernel_rfl
theorem laidOut : laidOutB Try.prog = true := by kernel_rfl

theorem walk (a0 : Int) (w0 : (Lit.int .u32 a0).wf = true) (A1 : Option Addr) (len1 cap1 : Nat) (acts1 : Nat → Int) (hl1 : len1 ≤ cap1) (hc1 : cap1 ≤ maxLen) (w : World) (w1 : SliceAt w A1 len1 1 u32C u32F acts1) :
    Calls Try.prog 4 #[.int .u32 a0, .slice A1 len1 cap1] w fun e w' => e = .returned (.bool true) ∧ Below w.heap.size w w' := by
  exact words_l a0 (bd_u32 w0) A1 len1 cap1 acts1 hl1 hc1 w w1

set_option maxRecDepth 100000 in
theorem lifted (os : Os) (started : os.Started) (H : Type) (enc : TypeId × Value → H) :
    ReturnsInHanded {} Try.checked os 4 .any (Rows.hashWordsSpec.pre6 enc Try.prog Try.f4 Rows.hashWordsRow.domain false) (Rows.hashWordsSpec.post enc Try.prog Try.f4 false true false false) := by
  refine returnsInHanded_of_change (C := Try.checked) own started (by kernel_rfl) Try.func4
    (ChangeSpec.witness6 (enc := enc) (C := Try.checked) false ⟨#[], #[.int .u32 0, .slice none 0 0], []⟩ 8 (by kernel_rfl) (by kernel_rfl) (by kernel_rfl) (by kernel_rfl)) ?_
  intro W base args ds gs before hval0 hW hcnd _
  have hval : ∀ (j : Nat) t v, Try.f4.params[j]? = some t → args[j]? = some v → Value.okWide Try.prog W .any base t v := hval0
  have hW' := hW
  obtain ⟨p, q, hA0, hV, rfl, hfz, hnd⟩ := hW
  have hA : DataW.TrodAll enc Try.prog W 0 (fun _ => true) true Try.f4.params.toList args.toList ds p := hA0
  rw [Try.params4] at hA hval
  obtain ⟨v0, vs0, x0, xs0, p0, q0, hargs, rfl, rfl, h0, r0⟩ := trodAll_cons hA
  obtain ⟨v1, vs1, x1, xs1, p1, q1, rfl, rfl, rfl, h1, r1⟩ := trodAll_cons r0
  obtain ⟨rfl, rfl, rfl⟩ := trodAll_nil r1
  obtain rfl : args = #[v0, v1] := by cases args; simp_all
  obtain ⟨rfl, rfl⟩ := trodVars_none hV
  obtain ⟨a0, rfl, rfl, rfl, w0⟩ := open_int Try.underlying22 (hval 0 22 v0 rfl rfl) h0
  obtain ⟨A1, len1, cap1, acts1, rfl, hl1, hc1, w1⟩ := open_sliceOf (m := 1) u32C u32F Try.underlying27 (by kernel_rfl) (fun _ => rfl) (by decide) (open_num Try.underlying22) (hval 1 27 v1 rfl rfl) h1
  clear hA0 hval0
  simp only [List.append_nil] at hW'
  refine (walk a0 w0 A1 len1 cap1 acts1 hl1 hc1 W w1).mono fun e W' ⟨he, hg⟩ => ?_
  subst he
  exact ⟨_, rfl, law_end laidOut (by kernel_rfl) rfl hW' (by kernel_rfl) Try.underlying4 rfl ⟨rfl, rfl, rfl⟩ hg⟩

theorem over : Rows.hashWordsRow.holds Try.pinned (OpenSpec.ofChange Rows.hashWordsSpec) :=
  OpenClaim.holds_of_wide 4 Try.f4 rfl rfl rfl rfl rfl rfl rfl ⟨rfl, rfl, rfl, rfl, rfl⟩ rfl rfl rfl rfl rfl (by kernel_rfl) Try.func4 (by kernel_rfl)
    (of_decide_eq_true (by kernel_rfl)) (by unfold Func.isWrapper; first | (rw [if_pos (by decide +kernel)]; kernel_rfl) | (rw [if_neg (by decide +kernel)]; exact ⟨rfl, rfl⟩))
    (fun os started H enc _ => lifted os started H enc)

theorem proved : Rows.HashWordsSaid :=
  over
end Go.Proofs.Ytaalnkcfoioeeaa.hashWords

namespace Go.Proofs.Ytaalnkcfoioeeaa
theorem hashWords_proved : Rows.HashWordsSaid := hashWords.proved
end Go.Proofs.Ytaalnkcfoioeeaa
