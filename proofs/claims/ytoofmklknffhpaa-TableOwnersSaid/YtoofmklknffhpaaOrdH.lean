/-
  A region that draws its order, over structs that lie in boxes: a load of a struct, or of one of its fields, may be taken first where the condition on the world gives the box. Conditions: those that each theorem names.
-/
import Derived.Test.YtoofmklknffhpaaOrdT
import Derived.Test.YtoofmklknffhpaaHeld
namespace Go.Proofs.Ytoofmklknffhpaa
open Go Go.RowKit
section
variable {P : Program} {ops : Array Oper} {R : World → Prop} {o : Oper} {a : Act}
theorem yields_held {b : Nat} {t ty : TypeId} {cs : Array Value} {x : Operand} {d : TypeDesc} (hR : ∀ w, R w → Held w b t cs) (hw : Region.wanted o (yielded ops a.tmps) = true) (ho : o.op = .load ty x) (hx : opnd a x = some (.pointer (some ⟨b, 0, none⟩)))
    (hu : P.underlying ty = some d) (hd : (match d with | .struct _ | .array _ _ => true | _ => false) = true) (hi : (P.info? ty).map (·.size) = some cs.size) : YieldsG P ops R o (.agg cs) a := by
  refine ⟨hw, fun w h => ?_, fun w => ?_⟩
  · unfold execOp
    simp only [ho, opnd_eval hx, Instr.loadAt, Instr.sureAddr, Sem.run_bind, Sem.run_pure, Result.andThen_ok, run_loadVar_row w b t ty cs (0, 0) d (hR w h) hu hd hi]
  · unfold Oper.about
    rw [ho]
theorem yields_fld {b j : Nat} {t ty : TypeId} {cs : Array Value} {x : Operand} {d : TypeDesc} {v : Value} (hR : ∀ w, R w → Held w b t cs) (hw : Region.wanted o (yielded ops a.tmps) = true) (ho : o.op = .load ty x) (hx : opnd a x = some (.pointer (some ⟨b, j, none⟩)))
    (hu : P.underlying ty = some d) (hd : (match d with | .struct _ | .array _ _ => true | _ => false) = false) (hv : cs.toList[j]? = some v) : YieldsG P ops R o v a := by
  refine ⟨hw, fun w h => ?_, fun w => ?_⟩
  · have hc : w.cell? ⟨b, j, none⟩ = some v := ((hR w h).cell j).trans ((Array.getElem?_toList ..).symm.trans hv)
    have hagg : (isAgg ty).run P w = .ok false w := by
      unfold isAgg
      rw [Sem.run_bind, run_underlying hu w]
      cases d <;> simp_all
    unfold execOp
    simp only [ho, opnd_eval hx, Instr.loadAt, Instr.sureAddr, Sem.run_bind, Sem.run_pure, Result.andThen_ok, loadVar, hagg]
    simp [go_sem, hc]
  · unfold Oper.about
    rw [ho]
end
end Go.Proofs.Ytoofmklknffhpaa
