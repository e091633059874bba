/-
  Boxes on the heap as one fact: each of a list of blocks holds its cells, all of them new since a world, nothing that was there touched. Conditions: those that each theorem names.
-/
import Derived.Test.YtoofmklknffhpaaHeldI
namespace Go.Proofs.Ytoofmklknffhpaa
set_option linter.unusedSimpArgs false
set_option linter.unusedVariables false
open Go.RowKit

structure Mem (w0 W : World) (l : List (Nat × TypeId × Array Value)) : Prop where
  below : Below w0.heap.size w0 W
  held : ∀ p, p ∈ l → w0.heap.size ≤ p.1 ∧ Held W p.1 p.2.1 p.2.2
  inc : l.Pairwise (fun p q => p.1 ≠ q.1)
theorem Mem.start (w : World) : Mem w w [] := ⟨Below.refl _ _, (fun _ h => by cases h), .nil⟩
section
variable {w0 W W' : World} {l : List (Nat × TypeId × Array Value)}
theorem Mem.at (h : Mem w0 W l) (i : Nat) {b : Nat} {t : TypeId} {cs : Array Value} (hi : l[i]? = some (b, t, cs)) : Held W b t cs := (h.held _ (List.mem_of_getElem? hi)).2
theorem Mem.call (h : Mem w0 W l) (hb : Below W.heap.size W W') : Mem w0 W' l := ⟨h.below.trans (hb.mono h.below.size), fun p hp => ⟨(h.held p hp).1, (h.held p hp).2.below hb (h.held p hp).2.lt⟩, h.inc⟩
theorem Mem.same (h : Mem w0 W l) (e : W = W') : Mem w0 W' l := e ▸ h
theorem Mem.alloc (h : Mem w0 W l) (t : TypeId) (cs : Array Value) : Mem w0 (W.alloc (.cells cs t)) (l ++ [(W.heap.size, t, cs)]) :=
  ⟨h.below.alloc h.below.size _, fun p hp => by
    rcases List.mem_append.1 hp with hp | hp
    · exact ⟨(h.held p hp).1, (h.held p hp).2.alloc _⟩
    · obtain rfl := List.mem_singleton.1 hp
      exact ⟨h.below.size, Held.new W t cs⟩,
   List.pairwise_append.2 ⟨h.inc, List.pairwise_singleton .., fun p hp q hq => by
    obtain rfl := List.mem_singleton.1 hq
    exact Nat.ne_of_lt (h.held p hp).2.lt⟩⟩
/-- an object that is not listed -/
theorem Mem.skip (h : Mem w0 W l) (o : Obj) : Mem w0 (W.alloc o) l := ⟨h.below.alloc h.below.size _, fun p hp => ⟨(h.held p hp).1, (h.held p hp).2.alloc _⟩, h.inc⟩
theorem Mem.drew (h : Mem w0 W l) : Mem w0 W.drew l := ⟨⟨h.below.os, h.below.tape, h.below.output, h.below.size, h.below.block⟩, fun p hp => ⟨(h.held p hp).1, (h.held p hp).2⟩, h.inc⟩
theorem Mem.drewN (h : Mem w0 W l) (n : Nat) : Mem w0 (W.drewN n) l := ⟨⟨h.below.os, h.below.tape, h.below.output, h.below.size, h.below.block⟩, fun p hp => ⟨(h.held p hp).1, (h.held p hp).2⟩, h.inc⟩
theorem Mem.set (h : Mem w0 W l) (i : Nat) {b : Nat} {t : TypeId} {cs vs : Array Value} (hi : l[i]? = some (b, t, cs)) (F : Foot (· = b) W W') (g : Held W' b t vs) : Mem w0 W' (l.set i (b, t, vs)) := by
  have hb := (h.held _ (List.mem_of_getElem? hi)).1
  obtain ⟨hlt, hget⟩ := List.getElem?_eq_some_iff.1 hi
  refine ⟨below_foot h.below F hb (Nat.le_refl _), fun p hp => ?_, ?_⟩
  · obtain ⟨j, hj⟩ := List.mem_iff_getElem?.1 hp
    rw [List.getElem?_set] at hj
    split at hj
    · rename_i hij
      obtain rfl := Option.some.inj hj
      exact ⟨hb, g⟩
    · rename_i hij
      have hm := h.held p (List.mem_of_getElem? hj)
      refine ⟨hm.1, hm.2.foot F ?_⟩
      have hpw := List.pairwise_iff_getElem.1 h.inc
      obtain ⟨hjl, hjg⟩ := List.getElem?_eq_some_iff.1 hj
      rcases Nat.lt_or_gt_of_ne hij with h1 | h1
      · have := hpw i j hlt hjl h1
        rw [hget, hjg] at this
        exact fun e => this e.symm
      · have := hpw j i hjl hlt h1
        rw [hget, hjg] at this
        exact this
  · rw [List.pairwise_iff_getElem]
    intro j k hj hk hjk
    have hpw := List.pairwise_iff_getElem.1 h.inc
    simp only [List.length_set] at hj hk
    have hf : ∀ (m : Nat) (hm : m < l.length), ((l.set i (b, t, vs))[m]'(by simpa using hm)).1 = l[m].1 := fun m hm => by
      rw [List.getElem_set]
      split
      · rename_i e
        subst e
        rw [hget]
      · rfl
    rw [hf j hj, hf k hk]
    exact hpw j k hj hk hjk
/-- the first so many -/
theorem Mem.drop (h : Mem w0 W l) (n : Nat) : Mem w0 W (l.take n) := ⟨h.below, fun p hp => h.held p (List.mem_of_mem_take hp), h.inc.sublist (List.take_sublist n l)⟩
end
section
variable {P : Program} {ops : Array Oper} {rest : List Oper} {o : Oper} {a : Act} {w0 w : World} {Q : Exit → Act → World → Prop} {l : List (Nat × TypeId × Array Value)} {t : TypeId} {cs : Array Value}
/-- a box that was just laid is taken up -/
theorem mem_new (H : Mem w0 w l) (h : ∀ w2, Mem w0 w2 (l ++ [(w.heap.size, t, cs)]) → wpList P ops Q rest a w2) : wpList P ops Q rest a (w.alloc (.cells cs t)) := h _ (H.alloc t cs)
/-- .. under a name of its own -/
theorem mem_newb (H : Mem w0 w l) (h : ∀ b w2, b = w.heap.size → Mem w0 w2 (l ++ [(b, t, cs)]) → wpList P ops Q rest a w2) : wpList P ops Q rest a (w.alloc (.cells cs t)) := h _ _ rfl (H.alloc t cs)
theorem mem_load {b i : Nat} {ty : TypeId} {x : Operand} {d : TypeDesc} (H : Mem w0 w l) (hw : Region.wanted o (yielded ops a.tmps) = true) (ho : o.op = .load ty x) (hx : opnd a x = some (.pointer (some ⟨b, 0, none⟩))) (hm : l[i]? = some (b, t, cs))
    (hu : P.underlying ty = some d) (hd : (match d with | .struct _ | .array _ _ => true | _ => false) = true) (hi : (P.info? ty).map (·.size) = some cs.size)
    (h : wpList P ops Q rest (a.put o.dst (.agg cs)) w) : wpList P ops Q (o :: rest) a w := load_held (H.at i hm) hw ho hx hu hd hi h
theorem mem_store {b i : Nat} {ty : TypeId} {vs : Array Value} {x y : Operand} (H : Mem w0 w l) (hw : Region.wanted o (yielded ops a.tmps) = true) (ho : o.op = .store ty x y) (hx : opnd a x = some (.pointer (some ⟨b, 0, none⟩))) (hm : l[i]? = some (b, t, cs)) (hy : opnd a y = some (.agg vs))
    (hi : (P.info? ty).map (·.size) = some vs.size) (hs : cs.size = vs.size) (h1' : vs.toList.all (·.oneCell') = true)
    (h : ∀ w', Mem w0 w' (l.set i (b, t, vs)) → wpList P ops Q rest (a.put o.dst undef) w') : wpList P ops Q (o :: rest) a w :=
  store_held (H.at i hm) hw ho hx hy hi hs h1' fun w' g F => h w' (H.set i hm F g)
theorem mem_loadf {b i j : Nat} {ty : TypeId} {x : Operand} {d : TypeDesc} {v : Value} (H : Mem w0 w l) (hw : Region.wanted o (yielded ops a.tmps) = true) (ho : o.op = .load ty x) (hx : opnd a x = some (.pointer (some ⟨b, j, none⟩))) (hm : l[i]? = some (b, t, cs))
    (hu : P.underlying ty = some d) (hd : (match d with | .struct _ | .array _ _ => true | _ => false) = false) (hv : cs.toList[j]? = some v)
    (h : wpList P ops Q rest (a.put o.dst v) w) : wpList P ops Q (o :: rest) a w := load_fld (H.at i hm) hw ho hx hu hd hv h
theorem mem_storef {b i j : Nat} {ty : TypeId} {x y : Operand} {v : Value} (H : Mem w0 w l) (hw : Region.wanted o (yielded ops a.tmps) = true) (ho : o.op = .store ty x y) (hx : opnd a x = some (.pointer (some ⟨b, j, none⟩))) (hm : l[i]? = some (b, t, cs)) (hy : opnd a y = some v)
    (hi : (P.info? ty).map (·.size) = some 1) (hj' : decide (j < cs.size) = true) (h1 : v.oneCell' = true)
    (h : ∀ w', Mem w0 w' (l.set i (b, t, cs.setIfInBounds j v)) → wpList P ops Q rest (a.put o.dst undef) w') : wpList P ops Q (o :: rest) a w :=
  store_fld (H.at i hm) hw ho hx hy hi hj' h1 fun w' g F => h w' (H.set i hm F g)
end
end Go.Proofs.Ytoofmklknffhpaa
