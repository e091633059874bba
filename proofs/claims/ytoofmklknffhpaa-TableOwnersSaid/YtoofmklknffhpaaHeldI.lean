/-
  A struct by value out of, and into, a block of its own, inside a fence: one step of the walk each. Conditions: those that each theorem names.
-/
import Derived.Test.YtoofmklknffhpaaHeld
import Derived.Test.YtoofmklknffhpaaIter
namespace Go.Proofs.Ytoofmklknffhpaa
set_option linter.unusedSimpArgs false
set_option linter.unusedVariables false
open Go.RowKit

section
variable {F : Fence} {n : Nat} {P : Program} {ops : Array Oper} {rest : List Oper} {o : Oper} {a : Act} {w : World} {Q : Exit → Act → World → Prop}
theorem wpListIn_wanted (hw : Region.wanted o (yielded ops a.tmps) = true) (h : ∀ K : Act → World → Prop, (∀ a w, wpListIn F n P ops Q rest a w → K a w) → o.wpIn F n P a w K Q) : wpListIn F n P ops Q (o :: rest) a w :=
  wpListIn_step fun K hK => by rw [if_pos hw]; exact h K hK
/-- the whole struct is read -/
theorem load_heldI {b : Nat} {t ty : TypeId} {cs : Array Value} {x : Operand} {d : TypeDesc} (g : Held w b t cs) (hw : Region.wanted o (yielded ops a.tmps) = true) (ho : o.op = .load ty x) (hx : opnd a x = some (.pointer (some ⟨b, 0, none⟩)))
    (hu : P.underlying ty = some d) (hd : (match d with | .struct _ | .array _ _ => true | _ => false) = true) (hi : (P.info? ty).map (·.size) = some cs.size)
    (h : wpListIn F n P ops Q rest (a.put o.dst (.agg cs)) w) : wpListIn F n P ops Q (o :: rest) a w := by
  refine wpListIn_wanted hw fun K hK => ⟨by simp [Oper.about, ho], ?_⟩
  rw [Oper.semAt_plain F _ _ (by rw [ho]; intro c hc'; cases hc')]
  unfold execOp
  simp only [ho, opnd_eval hx, Instr.loadAt, Instr.sureAddr, Sem.run_bind, Sem.run_pure, Result.andThen_ok, run_loadVar_row w b t ty cs (0, 0) d g hu hd hi]
  exact hK _ _ h
/-- the whole struct is written -/
theorem store_heldI {b : Nat} {t ty : TypeId} {cs vs : Array Value} {x y : Operand} (g : Held w b t cs) (hw : Region.wanted o (yielded ops a.tmps) = true) (ho : o.op = .store ty x y) (hx : opnd a x = some (.pointer (some ⟨b, 0, none⟩))) (hy : opnd a y = some (.agg vs))
    (hi : (P.info? ty).map (·.size) = some vs.size) (hs : cs.size = vs.size) (h1' : vs.toList.all (·.oneCell') = true)
    (h : ∀ w', Held w' b t vs → Foot (· = b) w w' → wpListIn F n P ops Q rest (a.put o.dst undef) w') : wpListIn F n P ops Q (o :: rest) a w := by
  refine wpListIn_wanted hw fun K hK => ⟨by simp [Oper.about, ho], ?_⟩
  rw [Oper.semAt_plain F _ _ (by rw [ho]; intro c hc'; cases hc')]
  have h0 : o.wp P a w (fun a' w' => K a' w' ∧ a' = a.put o.dst undef) Q := wp_store_row ty x y ho b vs (opnd_eval hx) (opnd_eval hy) t cs g hi hs (by rw [← Array.all_toList]; exact h1') ⟨hK _ _ (h _ (g.setRow vs) (Foot.setRow w b vs)), rfl⟩
  unfold Oper.wp at h0
  unfold execOp at h0 ⊢
  simp only [ho, opnd_eval hx, opnd_eval hy, Instr.storeAt, Instr.sureAddr, Sem.run_bind, Sem.run_pure, Result.andThen_ok] at h0 ⊢
  rcases hr : (storeVar ty ⟨b, 0, none⟩ (.agg vs)).run P w with ⟨_, w'⟩ | ⟨hlt, w'⟩
  · rw [hr] at h0
    exact h0.1
  · rw [hr] at h0
    cases hlt <;> first | exact h0 | exact h0.elim
end
end Go.Proofs.Ytoofmklknffhpaa
