/-
  What a call on an object may touch: every block that was there, but the object's own ones, lies as it lay. Conditions: those that each theorem names.
-/
import Derived.Below
import Derived.RangeFuncBox
import Derived.Laws.OwnMore
import Derived.Deep.Draws
namespace Go.Proofs.Ytoofmklknffhpaa
open Go.RowKit

/-- every block that was there, but those in B, lies as it lay -/
structure Foot (B : Nat → Prop) (W W' : World) : Prop where
  os : W'.os = W.os
  tape : W'.tape = W.tape
  output : W'.output = W.output
  size : W.heap.size ≤ W'.heap.size
  block : ∀ k, k < W.heap.size → ¬ B k → W'.heap[k]? = W.heap[k]?

theorem Foot.refl (B : Nat → Prop) (W : World) : Foot B W W := ⟨rfl, rfl, rfl, Nat.le_refl _, fun _ _ _ => rfl⟩
/-- two steps: what the second one touches is touched already, or new -/
theorem Foot.trans {B B' : Nat → Prop} {a b c : World} (h : Foot B a b) (k : Foot B' b c) (hB : ∀ i, i < a.heap.size → B' i → B i) : Foot B a c :=
  ⟨k.os.trans h.os, k.tape.trans h.tape, k.output.trans h.output, Nat.le_trans h.size k.size, fun i hi hn => (k.block i (Nat.lt_of_lt_of_le hi h.size) (fun e => hn (hB i hi e))).trans (h.block i hi hn)⟩
theorem Foot.trans' {B : Nat → Prop} {a b c : World} (h : Foot B a b) (k : Foot B b c) : Foot B a c := h.trans k fun _ _ e => e
theorem Foot.mono {B B' : Nat → Prop} {W W' : World} (h : Foot B W W') (hB : ∀ i, i < W.heap.size → B i → B' i) : Foot B' W W' := ⟨h.os, h.tape, h.output, h.size, fun i hi hn => h.block i hi fun e => hn (hB i hi e)⟩
theorem Foot.alloc {B : Nat → Prop} {a w : World} (h : Foot B a w) (o : Obj) : Foot B a (w.alloc o) :=
  h.trans' ⟨rfl, rfl, rfl, by simp, fun k hk _ => Below.heap_alloc _ _ _ hk⟩
theorem Foot.drew {B : Nat → Prop} {a w : World} (h : Foot B a w) : Foot B a w.drew := ⟨h.os, h.tape, h.output, h.size, h.block⟩
theorem Foot.drewN {B : Nat → Prop} {a w : World} (h : Foot B a w) (n : Nat) : Foot B a (w.drewN n) := ⟨h.os, h.tape, h.output, h.size, h.block⟩
/-- a store into an own block, or a new one -/
theorem Foot.setCell {B : Nat → Prop} {a w : World} (h : Foot B a w) {p : Addr} (hp : p.block < a.heap.size → B p.block) (u : Value) : Foot B a (w.setCell p u) :=
  ⟨h.os, h.tape, h.output, by have := h.size; simp [World.setCell]; exact this, fun k hk hn => (Below.heap_setCell _ _ _ _ (fun e => hn (by subst e; exact hp hk))).trans (h.block k hk hn)⟩
theorem Foot.grown {B : Nat → Prop} {a w w' : World} {row : Option Nat} (h : Foot B a w) (hg : w.grownBy w' row) (hr : ∀ k, row = some k → k < a.heap.size → B k) : Foot B a w' :=
  ⟨hg.os.trans h.os, hg.tape.trans h.tape, hg.output.trans h.output, Nat.le_trans h.size hg.size, fun k hk hn => (hg.block k (Nat.lt_of_lt_of_le hk h.size) (fun e => hn (hr k e.symm hk))).trans (h.block k hk hn)⟩
/-- a call that touches nothing that was there -/
theorem Foot.of_below {B : Nat → Prop} {W W' : World} (h : Below W.heap.size W W') : Foot B W W' := ⟨h.os, h.tape, h.output, h.size, fun k hk _ => h.block k hk⟩
theorem Foot.then_below {B : Nat → Prop} {a w w' : World} (h : Foot B a w) (hb : Below w.heap.size w w') : Foot B a w' := h.trans' (Foot.of_below hb)
/-- what is touched lies from n on -/
theorem Foot.below {B : Nat → Prop} {W W' : World} (h : Foot B W W') {n : Nat} (hn : n ≤ W.heap.size) (hB : ∀ i, B i → n ≤ i) : Below n W W' :=
  ⟨h.os, h.tape, h.output, h.size, fun k hk => h.block k (Nat.lt_of_lt_of_le hk hn) fun e => by have := hB k e; omega⟩
/-- behind what touches nothing that was there -/
theorem Foot.after {B : Nat → Prop} {a w w' : World} (h : Below a.heap.size a w) (k : Foot B w w') (hB : ∀ i, B i → a.heap.size ≤ i) : Below a.heap.size a w' := h.trans (k.below h.size hB)

/-- block b holds these cells -/
def Held (W : World) (b : Nat) (t : TypeId) (cs : Array Value) : Prop := W.heap[b]? = some (.cells cs t (0, 0))
theorem Held.lt {W : World} {b : Nat} {t : TypeId} {cs : Array Value} (h : Held W b t cs) : b < W.heap.size := (Array.getElem?_eq_some_iff.1 h).1
theorem Held.cell {W : World} {b : Nat} {t : TypeId} {cs : Array Value} (h : Held W b t cs) (j : Nat) : W.cell? ⟨b, j, none⟩ = cs[j]? := by simp [World.cell?, show W.heap[b]? = _ from h]
theorem Held.frozen {W : World} {b : Nat} {t : TypeId} {cs : Array Value} (h : Held W b t cs) (j : Nat) : W.frozen? ⟨b, j, none⟩ = false := by simp [World.frozen?, show W.heap[b]? = _ from h]
theorem Held.alloc {W : World} {b : Nat} {t : TypeId} {cs : Array Value} (h : Held W b t cs) (o : Obj) : Held (W.alloc o) b t cs := (Below.heap_alloc _ _ _ h.lt).trans h
theorem Held.new (W : World) (t : TypeId) (cs : Array Value) : Held (W.alloc (.cells cs t)) W.heap.size t cs := World.alloc_heap_new W _
theorem Held.set {W : World} {b : Nat} {t : TypeId} {cs : Array Value} (h : Held W b t cs) (j : Nat) (v : Value) : Held (W.setCell ⟨b, j, none⟩ v) b t (cs.setIfInBounds j v) := by
  obtain ⟨hlt, hk⟩ := Array.getElem?_eq_some_iff.1 h
  show (W.heap.modify b _)[b]? = _
  rw [Array.getElem?_eq_getElem (by rw [Array.size_modify]; exact hlt), Array.getElem_modify_self, hk]
  rfl
theorem Held.other {W : World} {b b' : Nat} {t : TypeId} {cs : Array Value} (h : Held W b t cs) (hne : b ≠ b') (j : Nat) (v : Value) : Held (W.setCell ⟨b', j, none⟩ v) b t cs := (Below.heap_setCell _ _ _ _ hne).trans h
theorem Held.below {W W' : World} {b B : Nat} {t : TypeId} {cs : Array Value} (h : Held W b t cs) (hb : Below B W W') (hlt : b < B) : Held W' b t cs := (hb.block b hlt).trans h
theorem Held.foot {W W' : World} {b : Nat} {B : Nat → Prop} {t : TypeId} {cs : Array Value} (h : Held W b t cs) (hf : Foot B W W') (hn : ¬ B b) : Held W' b t cs := (hf.block b h.lt hn).trans h
theorem Held.drew {W : World} {b : Nat} {t : TypeId} {cs : Array Value} (h : Held W b t cs) : Held W.drew b t cs := h
end Go.Proofs.Ytoofmklknffhpaa
