/-
  Boxes on the heap as one fact: what was there read, a struct written within a region that draws its order. Conditions: those that each theorem names.
-/
import Derived.Test.YtoofmklknffhpaaMemO
namespace Go.Proofs.Ytoofmklknffhpaa
set_option linter.unusedSimpArgs false
set_option linter.unusedVariables false
open Go Go.RowKit
/-- a cell that was there lies as it lay -/
theorem Mem.old {w0 W : World} {l : List (Nat × TypeId × Array Value)} (H : Mem w0 W l) {p : Addr} (hp : p.block < w0.heap.size) : W.cell? p = w0.cell? p := by
  unfold World.cell?
  rw [H.below.block p.block hp]
section
variable {P : Program} {ops : Array Oper} {rest : List Oper} {o : Oper} {a : Act} {w0 w : World} {Q : Exit → Act → World → Prop} {l : List (Nat × TypeId × Array Value)} {t : TypeId} {cs : Array Value}
/-- a number is read that was there -/
theorem mem_loado {p : Addr} {ty : TypeId} {x : Operand} {d : TypeDesc} {v : Value} (H : Mem w0 w l) (hc : w0.cell? p = some v) (hp : p.block < w0.heap.size) (hw : Region.wanted o (yielded ops a.tmps) = true) (ho : o.op = .load ty x) (hx : opnd a x = some (.pointer (some p)))
    (hu : P.underlying ty = some d) (hd : (match d with | .struct _ | .array _ _ => true | _ => false) = false)
    (h : wpList P ops Q rest (a.put o.dst v) w) : wpList P ops Q (o :: rest) a w := by
  refine wpList_wanted hw fun K hK => ?_
  have hc' : w.cell? p = some v := (H.old hp).trans hc
  have hagg : (isAgg ty).run P w = .ok false w := by
    unfold isAgg
    rw [Sem.run_bind, run_underlying hu w]
    cases d <;> simp_all
  unfold Oper.wp execOp
  simp only [ho, opnd_eval hx, Instr.loadAt, Instr.sureAddr, Sem.run_bind, Sem.run_pure, Result.andThen_ok, loadVar, hagg]
  simp [go_sem, hc']
  exact hK _ _ h
theorem yields_old {p : Addr} {ty : TypeId} {x : Operand} {d : TypeDesc} {v : Value} (hc : w0.cell? p = some v) (hp : p.block < w0.heap.size) (hw : Region.wanted o (yielded ops a.tmps) = true) (ho : o.op = .load ty x) (hx : opnd a x = some (.pointer (some p)))
    (hu : P.underlying ty = some d) (hd : (match d with | .struct _ | .array _ _ => true | _ => false) = false) : YieldsG P ops (fun wx => Mem w0 wx l) o v a := by
  refine ⟨hw, fun w H => ?_, fun w => ?_⟩
  · have hc' : w.cell? p = some v := (H.old hp).trans hc
    have hagg : (isAgg ty).run P w = .ok false w := by
      unfold isAgg
      rw [Sem.run_bind, run_underlying hu w]
      cases d <;> simp_all
    unfold execOp
    simp only [ho, opnd_eval hx, Instr.loadAt, Instr.sureAddr, Sem.run_bind, Sem.run_pure, Result.andThen_ok, loadVar, hagg]
    simp [go_sem, hc']
  · unfold Oper.about
    rw [ho]
/-- a whole struct is written, inside a fence -/
theorem wpIn_store_mem {F : Fence} {n b i : Nat} {ty : TypeId} {vs : Array Value} {x y : Operand} {K : Act → World → Prop} (H : Mem w0 w l) (ho : o.op = .store ty x y) (hx : opnd a x = some (.pointer (some ⟨b, 0, none⟩))) (hm : l[i]? = some (b, t, cs)) (hy : opnd a y = some (.agg vs))
    (hi : (P.info? ty).map (·.size) = some vs.size) (hs : cs.size = vs.size) (h1' : vs.toList.all (·.oneCell') = true)
    (h : ∀ w', Mem w0 w' (l.set i (b, t, vs)) → K (a.put o.dst undef) w') : o.wpIn F n P a w K Q := by
  have g := H.at i hm
  refine ⟨by simp [Oper.about, ho], ?_⟩
  rw [Oper.semAt_plain F _ _ (by rw [ho]; intro c hc'; cases hc')]
  have h0 : o.wp P a w (fun a' w' => K a' w' ∧ a' = a.put o.dst undef) Q := wp_store_row ty x y ho b vs (opnd_eval hx) (opnd_eval hy) t cs g hi hs (by rw [← Array.all_toList]; exact h1') ⟨h _ (H.set i hm (Foot.setRow w b vs) (g.setRow vs)), rfl⟩
  unfold Oper.wp at h0
  unfold execOp at h0 ⊢
  simp only [ho, opnd_eval hx, opnd_eval hy, Instr.storeAt, Instr.sureAddr, Sem.run_bind, Sem.run_pure, Result.andThen_ok] at h0 ⊢
  rcases hr : (storeVar ty ⟨b, 0, none⟩ (.agg vs)).run P w with ⟨_, w'⟩ | ⟨hlt, w'⟩
  · rw [hr] at h0
    exact h0.1
  · rw [hr] at h0
    cases hlt <;> first | exact h0 | exact h0.elim
/-- a region that draws its order begins: the boxes lie as they lay until operation k has come up -/
theorem region_memk {id : Nat} (H : Mem w0 w l) (k m : Nat) (hsz : ops.size = m) (hm : P.follows .mixedOrders = true)
    (h : ∀ w2, ClosedL .any ops (Array.replicate m false) → Mem w0 w2 l → wpAnyG Fence.wide 6 P .any ops Q (fun wx => Mem w0 wx l) k m (Array.replicate m false) a w2) : (Code.region id ops true).wp P Q a w :=
  (wpIn_wide (n := 6)).1 (wpIn_region_G (fun wx => Mem w0 wx l) k m hsz hm fun hcl => h w.drew hcl H.drew)
end
end Go.Proofs.Ytoofmklknffhpaa
