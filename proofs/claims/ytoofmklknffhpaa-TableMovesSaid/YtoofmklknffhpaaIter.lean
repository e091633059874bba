/-
  For iterators: what a round keeps, and a scope inside the wide fence. Conditions: those that each theorem names.
-/
import Derived.RangeFuncNested
import Derived.RangeFuncBound
import Derived.RangeFuncCalls
import Derived.RangeFuncLeaves
import Derived.Shelf.Abstract
import Derived.Shelf.RegionOpen
import Derived.OwnWalkIn
import Derived.TacticsInMore
import Derived.LoopNIn
import Derived.LoopIn
import Derived.Maps.AppendAt
import Derived.WalkMore
namespace Go.Proofs.Ytoofmklknffhpaa
open Go.RowKit Go.Shelf

/-- what a round keeps: every block below n but block b lies as it lay -/
def KeepsBut (n b : Nat) (W W' : World) : Prop := ∀ k, k < n → k ≠ b → W'.heap[k]? = W.heap[k]?
theorem KeepsBut.refl (n b : Nat) (W : World) : KeepsBut n b W W := fun _ _ _ => rfl
theorem KeepsBut.trans {n b : Nat} {A B C : World} (h : KeepsBut n b A B) (k : KeepsBut n b B C) : KeepsBut n b A C := fun i hi hb => (k i hi hb).trans (h i hi hb)
theorem KeepsBut.put {n b : Nat} {w : World} (hn : n ≤ w.heap.size) (W : World) (l : Nat) (o o' : Obj) (hl : w.heap.size ≤ l) (_ : W.heap[l]? = some o) (_ : o.isCells = false) (_ : o.isWalk = false) : KeepsBut n b W (W.putObj l o') :=
  fun k hk _ => World.putObj_heap_other (by omega)
theorem KeepsBut.boxed {n b : Nat} {A B : World} (h : KeepsBut n b A B) {i : Nat} {t : TypeId} {v : Value} (hx : Boxed A i t v) (hi : i < n) (hb : i ≠ b) : Boxed B i t v := (h i hi hb).trans hx
theorem scope_in {n : Nat} {P : Program} {c : Code} {Q : Exit → Act → World → Prop} {a : Act} {w : World} (h : c.wpIn Fence.wide n P (Exit.noGoto Q) a w) : (Code.scope c).wpIn Fence.wide n P Q a w :=
  wpIn_wide.2 (wp_scope_straight (wpIn_wide.1 h))
end Go.Proofs.Ytoofmklknffhpaa
