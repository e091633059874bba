/-
  A struct by value out of, and into, a block of its own: one step of the walk each, however many fields it has; one field of it likewise; its return out of its box. Conditions: those that each theorem names.
-/
import Derived.Deep.MidRow
import Derived.Laws.ResultCell
import Derived.Test.YtoofmklknffhpaaOwn
namespace Go.Proofs.Ytoofmklknffhpaa
open Go.RowKit

theorem Held.setRow {W : World} {b : Nat} {t : TypeId} {cs : Array Value} (h : Held W b t cs) (vs : Array Value) : Held (W.setRow b vs) b t vs := setRow_heap W b cs vs t (0, 0) h
theorem Foot.setRow (W : World) (b : Nat) (vs : Array Value) : Foot (· = b) W (W.setRow b vs) := ⟨rfl, rfl, rfl, by simp, fun k _ hk => setRow_other W b k vs hk⟩
theorem Foot.cell (W : World) (p : Addr) (v : Value) : Foot (· = p.block) W (W.setCell p v) := (Foot.refl (fun i => i = p.block) W).setCell (p := p) (fun _ => rfl) v
/-- two boxes behind each other -/
theorem two_boxes (w : World) (t t' : TypeId) (cs cs' : Array Value) : Held ((w.alloc (.cells cs t)).alloc (.cells cs' t')) w.heap.size t cs ∧ Held ((w.alloc (.cells cs t)).alloc (.cells cs' t')) (w.heap.size + 1) t' cs' ∧ Below w.heap.size w ((w.alloc (.cells cs t)).alloc (.cells cs' t')) := by
  refine ⟨(Held.new w _ _).alloc _, ?_, ((Below.refl _ _).alloc (Nat.le_refl _) _).alloc (by simp) _⟩
  have h := Held.new (w.alloc (.cells cs t)) t' cs'
  rwa [World.size_alloc] at h
/-- a box -/
theorem one_box (w : World) (t : TypeId) (cs : Array Value) : Held (w.alloc (.cells cs t)) w.heap.size t cs ∧ Below w.heap.size w (w.alloc (.cells cs t)) := ⟨Held.new w _ _, (Below.refl _ _).alloc (Nat.le_refl _) _⟩
/-- a call of which nothing is known below n touches a block from n on -/
theorem below_foot {n b : Nat} {a w w' : World} (h : Below n a w) (hf : Foot (· = b) w w') (hb : n ≤ b) (hn : n ≤ a.heap.size) : Below n a w' :=
  ⟨hf.os.trans h.os, hf.tape.trans h.tape, hf.output.trans h.output, Nat.le_trans h.size hf.size, fun k hk => (hf.block k (Nat.lt_of_lt_of_le hk (Nat.le_trans hn h.size)) (by omega)).trans (h.block k hk)⟩
/-- what an operand holds, as a literal -/
def opnd (a : Act) : Operand → Option Value
  | .tmp k => a.tmps.toList[k]?
  | .const v => some v
  | x => some (a.eval x)
theorem opnd_eval {a : Act} {x : Operand} {v : Value} (h : opnd a x = some v) : a.eval x = v := by
  cases x with
  | tmp k =>
    have h' : a.tmps[k]? = some v := (Array.getElem?_toList ..).symm.trans h
    show a.tmps.getD k undef = v
    simp [h']
  | const u => exact Option.some.inj h
  | _ => exact Option.some.inj h
section
variable {P : Program} {ops : Array Oper} {rest : List Oper} {o : Oper} {a : Act} {w : World} {Q : Exit → Act → World → Prop}
theorem wpList_wanted (hw : Region.wanted o (yielded ops a.tmps) = true) (h : ∀ K : Act → World → Prop, (∀ a w, wpList P ops Q rest a w → K a w) → o.wp P a w K Q) : wpList P ops Q (o :: rest) a w :=
  wpList_step fun K hK => by rw [if_pos hw]; exact h K hK
theorem wanted_none (h : o.guard = none) : Region.wanted o (yielded ops a.tmps) = true := by simp [Region.wanted, h]
theorem wanted_some {j d : Nat} {b : Bool} {oj : Oper} (h : o.guard = some (j, b)) (hj : ops.toList[j]? = some oj) (hd : oj.dst = some d) (hv : a.tmps.toList[d]? = some (.bool b)) : Region.wanted o (yielded ops a.tmps) = true := by
  have h1 : ops[j]? = some oj := (Array.getElem?_toList ..).symm.trans hj
  have h2 : a.tmps[d]? = some (.bool b) := (Array.getElem?_toList ..).symm.trans hv
  simp [Region.wanted, h, yielded, h1, hd, h2]
/-- the whole struct is read -/
theorem load_held {b : Nat} {t ty : TypeId} {cs : Array Value} {x : Operand} {d : TypeDesc} (g : Held w b t cs) (hw : Region.wanted o (yielded ops a.tmps) = true) (ho : o.op = .load ty x) (hx : opnd a x = some (.pointer (some ⟨b, 0, none⟩)))
    (hu : P.underlying ty = some d) (hd : (match d with | .struct _ | .array _ _ => true | _ => false) = true) (hi : (P.info? ty).map (·.size) = some cs.size)
    (h : wpList P ops Q rest (a.put o.dst (.agg cs)) w) : wpList P ops Q (o :: rest) a w :=
  wpList_wanted hw fun _ hK => wp_load_row ty x ho b (opnd_eval hx) t cs (0, 0) d g hu hd hi (hK _ _ h)
/-- the whole struct is written -/
theorem store_held {b : Nat} {t ty : TypeId} {cs vs : Array Value} {x y : Operand} (g : Held w b t cs) (hw : Region.wanted o (yielded ops a.tmps) = true) (ho : o.op = .store ty x y) (hx : opnd a x = some (.pointer (some ⟨b, 0, none⟩))) (hy : opnd a y = some (.agg vs))
    (hi : (P.info? ty).map (·.size) = some vs.size) (hs : cs.size = vs.size) (h1' : vs.toList.all (·.oneCell') = true)
    (h : ∀ w', Held w' b t vs → Foot (· = b) w w' → wpList P ops Q rest (a.put o.dst undef) w') : wpList P ops Q (o :: rest) a w :=
  wpList_wanted hw fun _ hK => wp_store_row ty x y ho b vs (opnd_eval hx) (opnd_eval hy) t cs g hi hs (by rw [← Array.all_toList]; exact h1') (hK _ _ (h _ (g.setRow vs) (Foot.setRow w b vs)))
/-- one field is read -/
theorem load_fld {b j : Nat} {t ty : TypeId} {cs : Array Value} {x : Operand} {d : TypeDesc} {v : Value} (g : Held w b t cs) (hw : Region.wanted o (yielded ops a.tmps) = true) (ho : o.op = .load ty x) (hx : opnd a x = some (.pointer (some ⟨b, j, none⟩)))
    (hu : P.underlying ty = some d) (hd : (match d with | .struct _ | .array _ _ => true | _ => false) = false) (hv : cs.toList[j]? = some v)
    (h : wpList P ops Q rest (a.put o.dst v) w) : wpList P ops Q (o :: rest) a w := by
  refine wpList_wanted hw fun K hK => ?_
  have hc : w.cell? ⟨b, j, none⟩ = some v := (g.cell j).trans ((Array.getElem?_toList ..).symm.trans hv)
  have hagg : (isAgg ty).run P w = .ok false w := by
    unfold isAgg
    rw [Sem.run_bind, run_underlying hu w]
    cases d <;> simp_all
  unfold Oper.wp execOp
  simp only [ho, opnd_eval hx, Instr.loadAt, Instr.sureAddr, Sem.run_bind, Sem.run_pure, Result.andThen_ok, loadVar, hagg]
  simp [go_sem, hc]
  exact hK _ _ h
/-- one field is written -/
theorem store_fld {b j : Nat} {t ty : TypeId} {cs : Array Value} {x y : Operand} {v : Value} (g : Held w b t cs) (hw : Region.wanted o (yielded ops a.tmps) = true) (ho : o.op = .store ty x y) (hx : opnd a x = some (.pointer (some ⟨b, j, none⟩))) (hy : opnd a y = some v)
    (hi : (P.info? ty).map (·.size) = some 1) (hj' : decide (j < cs.size) = true) (h1 : v.oneCell' = true)
    (h : ∀ w', Held w' b t (cs.setIfInBounds j v) → Foot (· = b) w w' → wpList P ops Q rest (a.put o.dst undef) w') : wpList P ops Q (o :: rest) a w := by
  refine wpList_wanted hw fun K hK => ?_
  have hj : j < cs.size := of_decide_eq_true hj'
  have hc : w.cell? ⟨b, j, none⟩ = some cs[j] := (g.cell j).trans (by simp [hj])
  have hf := g.frozen j
  have hcs : v.cells = #[v] := by cases v <;> first | rfl | cases h1
  have hst : (storeVar ty ⟨b, j, none⟩ v).run P w = .ok () (w.setCell ⟨b, j, none⟩ v) := by
    cases hq : P.info? ty with
    | none => simp [hq] at hi
    | some i =>
      have hs : i.size = 1 := by simpa [hq] using hi
      simp [storeVar, sizeOf, typeInfo, hq, hcs, hs, storeCells, Addr.add_mid, run_store P w _ v _ h1, hc, hf]
  unfold Oper.wp execOp
  simp only [ho, opnd_eval hx, opnd_eval hy, Instr.storeAt, Instr.sureAddr, Sem.run_bind, Sem.run_pure, Result.andThen_ok, hst]
  exact hK _ _ (h _ (g.set j v) (Foot.cell w ⟨b, j, none⟩ v))
end
section
variable {P : Program} {fn : Func} {p u : Tmp} {ty : TypeId} {tmps : Array Value} {Q : Ending → World → Prop} {w : World} {b : Nat} {t : TypeId} {cs : Array Value} {d : TypeDesc}
/-- a struct is returned out of its box -/
theorem ret_held (g : Held w b t cs) (h : fn.results = #[.cell p ty]) (hp : tmps.getD p undef = .pointer (some ⟨b, 0, none⟩)) (hu : P.underlying ty = some d) (hd : (match d with | .struct _ | .array _ _ => true | _ => false) = true) (hi : (P.info? ty).map (·.size) = some cs.size)
    (hq : Q (.returned (.agg cs)) w) : bodyPost P fn Q .ret { tmps := tmps, defers := [] } w :=
  bodyPost_ret (results_cell_row h tmps w b t cs (0, 0) d hp g hu hd hi) rfl hq
/-- .. and something else beside it -/
theorem ret_held2 (g : Held w b t cs) (h : fn.results = #[.cell p ty, .tmp u]) (hp : tmps.getD p undef = .pointer (some ⟨b, 0, none⟩)) (hu : P.underlying ty = some d) (hd : (match d with | .struct _ | .array _ _ => true | _ => false) = true) (hi : (P.info? ty).map (·.size) = some cs.size)
    (hq : Q (.returned (.tuple #[.agg cs, tmps.getD u undef])) w) : bodyPost P fn Q .ret { tmps := tmps, defers := [] } w :=
  bodyPost_ret (v := .tuple #[.agg cs, tmps.getD u undef]) (by
    rw [results_cell_tmp h, hp]
    simp [asAddr, run_loadVar_row w b t ty cs (0, 0) d g hu hd hi]) rfl hq
end
end Go.Proofs.Ytoofmklknffhpaa
