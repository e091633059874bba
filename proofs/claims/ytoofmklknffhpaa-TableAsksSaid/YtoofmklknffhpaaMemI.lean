/-
  Boxes on the heap as one fact, inside a fence: one cell of a box read, and written. Conditions: those that each theorem names.
-/
import Derived.Test.YtoofmklknffhpaaMemP
import Derived.Test.YtoofmklknffhpaaHeldI
namespace Go.Proofs.Ytoofmklknffhpaa
set_option linter.unusedSimpArgs false
set_option linter.unusedVariables false
open Go.RowKit
theorem Mem.far {w0 X Y : World} {B : Nat} {l : List (Nat × TypeId × Array Value)} (h : Mem w0 X l) (hb : Below B X Y) (hB : w0.heap.size ≤ B) (hl : ∀ p, p ∈ l → p.1 < B) : Mem w0 Y l :=
  ⟨h.below.trans (hb.mono hB), fun p hp => ⟨(h.held p hp).1, (h.held p hp).2.below hb (hl p hp)⟩, h.inc⟩
section
variable {F : Fence} {n : Nat} {P : Program} {ops : Array Oper} {rest : List Oper} {o : Oper} {a : Act} {w0 w : World} {Q : Exit → Act → World → Prop} {l : List (Nat × TypeId × Array Value)} {t : TypeId} {cs : Array Value}
theorem mem_loadfI {b i j : Nat} {ty : TypeId} {x : Operand} {d : TypeDesc} {v : Value} (H : Mem w0 w l) (hw : Region.wanted o (yielded ops a.tmps) = true) (ho : o.op = .load ty x) (hx : opnd a x = some (.pointer (some ⟨b, j, none⟩))) (hm : l[i]? = some (b, t, cs))
    (hu : P.underlying ty = some d) (hd : (match d with | .struct _ | .array _ _ => true | _ => false) = false) (hv : cs.toList[j]? = some v)
    (h : wpListIn F n P ops Q rest (a.put o.dst v) w) : wpListIn F n P ops Q (o :: rest) a w := by
  refine wpListIn_wanted hw fun K hK => ⟨by simp [Oper.about, ho], ?_⟩
  rw [Oper.semAt_plain F _ _ (by rw [ho]; intro c hc'; cases hc')]
  have hc : w.cell? ⟨b, j, none⟩ = some v := ((H.at i hm).cell j).trans ((Array.getElem?_toList ..).symm.trans hv)
  have hagg : (isAgg ty).run P w = .ok false w := by
    unfold isAgg
    rw [Sem.run_bind, run_underlying hu w]
    cases d <;> simp_all
  unfold execOp
  simp only [ho, opnd_eval hx, Instr.loadAt, Instr.sureAddr, Sem.run_bind, Sem.run_pure, Result.andThen_ok, loadVar, hagg]
  simp [go_sem, hc]
  exact hK _ _ h
theorem mem_storefI {b i j : Nat} {ty : TypeId} {x y : Operand} {v : Value} (H : Mem w0 w l) (hw : Region.wanted o (yielded ops a.tmps) = true) (ho : o.op = .store ty x y) (hx : opnd a x = some (.pointer (some ⟨b, j, none⟩))) (hm : l[i]? = some (b, t, cs)) (hy : opnd a y = some v)
    (hi : (P.info? ty).map (·.size) = some 1) (hj' : decide (j < cs.size) = true) (h1 : v.oneCell' = true)
    (h : ∀ w', Mem w0 w' (l.set i (b, t, cs.setIfInBounds j v)) → Foot (· = b) w w' → wpListIn F n P ops Q rest (a.put o.dst undef) w') : wpListIn F n P ops Q (o :: rest) a w := by
  refine wpListIn_wanted hw fun K hK => ⟨by simp [Oper.about, ho], ?_⟩
  rw [Oper.semAt_plain F _ _ (by rw [ho]; intro c hc'; cases hc')]
  have g := H.at i hm
  have hj : j < cs.size := of_decide_eq_true hj'
  have hc : w.cell? ⟨b, j, none⟩ = some cs[j] := (g.cell j).trans (by simp [hj])
  have hf := g.frozen j
  have hcs : v.cells = #[v] := by cases v <;> first | rfl | cases h1
  have hst : (storeVar ty ⟨b, j, none⟩ v).run P w = .ok () (w.setCell ⟨b, j, none⟩ v) := by
    cases hq : P.info? ty with
    | none => simp [hq] at hi
    | some i =>
      have hs : i.size = 1 := by simpa [hq] using hi
      simp [storeVar, sizeOf, typeInfo, hq, hcs, hs, storeCells, Addr.add_mid, run_store P w _ v _ h1, hc, hf]
  unfold execOp
  simp only [ho, opnd_eval hx, opnd_eval hy, Instr.storeAt, Instr.sureAddr, Sem.run_bind, Sem.run_pure, Result.andThen_ok, hst]
  exact hK _ _ (h _ (H.set i hm (Foot.cell w ⟨b, j, none⟩ v) (g.set j v)) (Foot.cell w ⟨b, j, none⟩ v))
end
end Go.Proofs.Ytoofmklknffhpaa
