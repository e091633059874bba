/-
  What a ring of the document is in memory, and contracts of its slot, New, Post, Bell. Conditions: those that each theorem names.
-/
import Derived.Deep.DeepCutAuto
import Derived.Test.YtfnhnicjomaelaaRingF
import Derived.Test.YtfnhnicjomaelaaDescH
namespace Go.Proofs.Ytfnhnicjomaelaa
set_option linter.unusedSimpArgs false
set_option linter.unusedVariables false
open Go.ChangeShapes Go.WideShapes Go.ChangeAt Go.RowKit

/-- the slots and indexes of the document's ring -/
abbrev dcs5 (q n : Nat) (m0 m1 m2 m3 m4 : Int) : Array Value := #[.slice (some ⟨q, 0, none⟩) n n, .int .u32 m0, .int .u32 m1, .int .u32 m2, .int .u32 m3, .int .u32 m4]
theorem Held.ringR {W : World} {p q n : Nat} {m0 m1 m2 m3 m4 : Int} (h : Held W p 44 (dcs5 q n m0 m1 m2 m3 m4)) :
    (W.cell? ⟨p, 0, none⟩ = some (.slice (some ⟨q, 0, none⟩) n n) ∧ W.cell? ⟨p, 1, none⟩ = some (.int .u32 m0) ∧ W.cell? ⟨p, 2, none⟩ = some (.int .u32 m1) ∧ W.cell? ⟨p, 3, none⟩ = some (.int .u32 m2) ∧ W.cell? ⟨p, 4, none⟩ = some (.int .u32 m3) ∧ W.cell? ⟨p, 5, none⟩ = some (.int .u32 m4)) ∧
    (W.frozen? ⟨p, 1, none⟩ = false ∧ W.frozen? ⟨p, 2, none⟩ = false ∧ W.frozen? ⟨p, 3, none⟩ = false ∧ W.frozen? ⟨p, 4, none⟩ = false ∧ W.frozen? ⟨p, 5, none⟩ = false) :=
  ⟨⟨h.cell 0, h.cell 1, h.cell 2, h.cell 3, h.cell 4, h.cell 5⟩, h.frozen 1, h.frozen 2, h.frozen 3, h.frozen 4, h.frozen 5⟩
theorem strCells_set {n k : Nat} {c c' : Nat → ByteArray} (s : ByteArray) (hc : ∀ m, c' m = if m = k then s else c m) : strCells n c' = (strCells n c).setIfInBounds k (.string s) := by
  apply Array.ext
  · simp [strCells]
  · intro i h1 h2
    have hi : i < n := by simpa [strCells] using h1
    rw [Array.getElem_setIfInBounds (by simpa [strCells] using hi)]
    by_cases he : k = i
    · subst he
      simp [strCells, hc]
    · simp [strCells, hc, he, Ne.symm he]
theorem strCells_get {n k : Nat} (hk : k < n) (c : Nat → ByteArray) : (strCells n c)[k]? = some (.string (c k)) := by simp [strCells, hk]

abbrev rcellsR (r : RS) (q : Nat) : Array Value := dcs5 q r.n (r.mark r.c) (r.mark r.i) (r.mark r.t) (r.mark r.b) (r.mark r.ds.length)
/-- a ring of the document at p, its slots at q -/
structure RingR (W : World) (p q : Nat) (r : RS) : Prop where
  ring : Held W p 44 (rcellsR r q)
  slots : Held W q 9 (strCells r.n r.cont)
  ne : p ≠ q
  ok : r.Ok
theorem RingR.same {W W' : World} {p q : Nat} {r : RS} (h : RingR W p q r) (hp : W'.heap[p]? = W.heap[p]?) (hq : W'.heap[q]? = W.heap[q]?) : RingR W' p q r := ⟨hp.trans h.ring, hq.trans h.slots, h.ne, h.ok⟩
theorem RingR.foot {W W' : World} {p q : Nat} {r : RS} {B : Nat → Prop} (h : RingR W p q r) (hf : Foot B W W') (hp : ¬ B p) (hq : ¬ B q) : RingR W' p q r := h.same (hf.block p h.ring.lt hp) (hf.block q h.slots.lt hq)
theorem RingR.below {W W' : World} {p q : Nat} {r : RS} (h : RingR W p q r) (hb : Below W.heap.size W W') : RingR W' p q r := h.same (hb.block p h.ring.lt) (hb.block q h.slots.lt)
theorem RingR.alloc {W : World} {p q : Nat} {r : RS} (h : RingR W p q r) (o : Obj) : RingR (W.alloc o) p q r := h.same (Below.heap_alloc _ _ _ h.ring.lt) (Below.heap_alloc _ _ _ h.slots.lt)
theorem RingR.other {W : World} {p q : Nat} {r : RS} (h : RingR W p q r) {b : Nat} (hp : b ≠ p) (hq : b ≠ q) (j : Nat) (v : Value) : RingR (W.setCell ⟨b, j, none⟩ v) p q r := h.same (Below.heap_setCell _ _ _ _ (Ne.symm hp)) (Below.heap_setCell _ _ _ _ (Ne.symm hq))
theorem RingR.drewN {W : World} {p q : Nat} {r : RS} (h : RingR W p q r) (k : Nat) : RingR (W.drewN k) p q r := h.same rfl rfl
theorem RingR.drew {W : World} {p q : Nat} {r : RS} (h : RingR W p q r) : RingR W.drew p q r := h.same rfl rfl

theorem slot_rs (i s : Int) (w : World) (h0 : 0 ≤ i) (h1 : i ≤ 4294967295) : Calls Try.prog 60 #[.int .u32 i, .int .i64 s] w fun e w' => e = .returned (.tuple #[.int .i64 (slotN i s), .int .i64 (sizeE s)]) ∧ w' = w :=
  (slot_r i s w h0 h1).mono fun _ _ ⟨a, b⟩ => ⟨a, b.symm⟩
theorem rslot_r (p q n k : Nat) (m : Int) (hk : k ≤ 4) (hn : isSizeB n = true) (h0 : 0 ≤ m) (h1 : m ≤ 4294967295) (W : World) (hc : W.cell? ⟨p, 0, none⟩ = some (.slice (some ⟨q, 0, none⟩) n n)) (hm : W.cell? ⟨p, k + 1, none⟩ = some (.int .u32 m)) :
    Calls Try.prog 50 #[.pointer (some ⟨p, 0, none⟩), .int .i64 k] W fun e w' => e = .returned (.int .i64 (m % n)) ∧ ∃ j, w' = W.drewN j := by
  have hs : slotN m n = m % n := by simp [slotN, hn]
  have HS := Lib.hid hs
  clear hs
  rcases (show k = 0 ∨ k = 1 ∨ k = 2 ∨ k = 3 ∨ k = 4 by omega) with rfl | rfl | rfl | rfl | rfl
  all_goals
    clear hk
    simp only [Nat.zero_add, Nat.reduceAdd] at hm
    go_enter Try.func50, Try.ntmps50
    go_wp2_with fail
    go_quiet ((go_at_call 60; exact Calls.quiet_of_same (slot_rs _ _ _ h0 h1)))
    go_wp2
    go_ret
    exact ⟨by rw [← HS.out]; rfl, _, rfl⟩
end Go.Proofs.Ytfnhnicjomaelaa
