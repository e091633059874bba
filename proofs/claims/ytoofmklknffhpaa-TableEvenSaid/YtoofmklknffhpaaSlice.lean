/-
  A slice that came in, opened: the cells of each element, however the elements are opened. Conditions: the types' shapes, and how one element is opened.
-/
import Derived.Deep.Slices
import Derived.Deep.Fields
import Derived.ChangeSame
import Derived.Lib.SmallJoins
import Derived.OpenShut
namespace Go.Proofs.Ytoofmklknffhpaa
set_option linter.unusedSimpArgs false
set_option linter.unusedVariables false
open Go.ChangeShapes Go.WideShapes Go.ChangeAt Go.RowKit Go.Deep

/-- the elements of a slice, m cells each: cell j of element k -/
def SliceAt {α : Type} (w : World) (A : Option Addr) (len m : Nat) (cells : α → List Value) (Fit : α → Prop) (xs : Nat → α) : Prop :=
  ∀ k, k < len → Fit (xs k) ∧ ∃ a, A = some a ∧ a.block < w.heap.size ∧ ∀ j v, (cells (xs k))[j]? = some v → w.cell? (a.add (k * m + j)) = some v
theorem SliceAt.plain {α : Type} {w : World} {A : Option Addr} {len m : Nat} {cells : α → List Value} {Fit : α → Prop} {xs : Nat → α} (h : SliceAt w A len m cells Fit xs) (hm : ∀ x, (cells x).length = m) (hm0 : 0 < m) (h0 : 0 < len) :
    ∃ b o, A = some ⟨b, o, none⟩ ∧ b < w.heap.size ∧ ∀ k, k < len → Fit (xs k) ∧ ∀ j v, (cells (xs k))[j]? = some v → w.cell? ⟨b, o + k * m + j, none⟩ = some v := by
  obtain ⟨_, a, ha, hb, hc⟩ := h 0 h0
  have hs : a.spot = none := by
    have hl : 0 < (cells (xs 0)).length := by rw [hm]; exact hm0
    have := hc 0 (cells (xs 0))[0] (List.getElem?_eq_getElem hl)
    have e : a.add (0 * m + 0) = a := by simp [Addr.add]
    rw [e] at this
    unfold World.cell? at this
    split at this
    · split at this
      · cases this
      · rename_i hh; simpa using hh
    · cases this
  obtain ⟨b, o, s⟩ := a
  have hs' : s = none := hs
  subst hs'
  refine ⟨b, o, ha, hb, fun k hk => ?_⟩
  obtain ⟨hf, a', ha', _, hc'⟩ := h k hk
  rw [ha] at ha'
  cases ha'
  refine ⟨hf, fun j v hj => ?_⟩
  have := hc' j v hj
  have e : (⟨b, o, none⟩ : Addr).add (k * m + j) = ⟨b, o + k * m + j, none⟩ := by
    unfold Addr.add
    split
    all_goals first | (simp; done) | (simp; omega)
  rwa [e] at this
section
variable {H : Type} {enc : TypeId × Value → H} {P : Program} {w : World} {base : Nat} {spare : Nat → Bool} {held : Bool}
theorem open_sliceOf {α : Type} [Inhabited α] {t e : TypeId} {r : Reach} {b0 m : Nat} {v : Value} {x : DataW H} {p : List MemPlace} (cells : α → List Value) (Fit : α → Prop) (ht : P.underlying t = some (.slice e)) (ce : P.cellsOf e = m) (hlen : ∀ y, (cells y).length = m) (hm0 : 0 < m)
    (he : ∀ fuel cs x, DataW.trod enc P w base spare held fuel e cs = some x → ∃ y : α, cs = cells y ∧ Fit y)
    (hv : Value.okWide P w r b0 t v) (h : DataW.Trod enc P w base spare held t v x p) :
    ∃ (A : Option Addr) (len cap : Nat) (xs : Nat → α), v = .slice A len cap ∧ len ≤ cap ∧ cap ≤ maxLen ∧ SliceAt w A len m cells Fit xs := by
  obtain ⟨A, len, cap, rfl⟩ := okWide_slice ht hv
  obtain ⟨fuel, hf⟩ := h
  rcases open_slice ht hf with ⟨hcs, _⟩ | ⟨a, len', cap', m', n, D, Pl, hcs, hb, hl, hm, hmm, _, hi⟩
  · simp [Value.cells] at hcs
    obtain ⟨rfl, rfl, rfl⟩ := hcs
    exact ⟨none, 0, 0, fun _ => default, rfl, Nat.le_refl _, Nat.zero_le _, fun k hk => absurd hk (by omega)⟩
  · simp [Value.cells] at hcs
    obtain ⟨rfl, rfl, rfl⟩ := hcs
    have hle : len ≤ m' := by rw [hmm]; split <;> omega
    have hex : ∀ k, k < len → ∃ y : α, Fit y ∧ a.block < w.heap.size ∧ ∀ j u, (cells y)[j]? = some u → w.cell? (a.add (k * m + j)) = some u := fun k hk => by
      obtain ⟨cs', hc, ht'⟩ := hi k (by omega)
      rw [ce] at hc
      obtain ⟨y, rfl, hy⟩ := he _ _ _ ht'
      obtain ⟨_, _, hat⟩ := World.cells?_some hc
      have hcell : ∀ j u, (cells y)[j]? = some u → w.cell? (a.add (k * m + j)) = some u := fun j u hj => by
        have hjl : j < m := by
          have := (List.getElem?_eq_some_iff.1 hj).1
          rwa [hlen] at this
        rw [← Go.Deep.add_add, hat j hjl, hj]
      refine ⟨y, hy, ?_, hcell⟩
      have hl0 : 0 < (cells y).length := by rw [hlen]; exact hm0
      have h2 := World.block_lt_of_cell? w _ (hcell 0 _ (List.getElem?_eq_getElem hl0))
      have hbk : (a.add (k * m + 0)).block = a.block := by unfold Addr.add; split <;> rfl
      rw [hbk] at h2
      exact h2
    obtain ⟨xs, hxs⟩ := choose_lt hex
    exact ⟨some a, len, cap, xs, rfl, hl, hm, fun k hk => ⟨(hxs k hk).1, a, rfl, (hxs k hk).2⟩⟩
/-- an element that is a whole number -/
theorem open_num {e : TypeId} {k : IntKind} (he : P.underlying e = some (.int k)) (fuel : Nat) (cs : List Value) (x : DataW H × List MemPlace) (h : DataW.trod enc P w base spare held fuel e cs = some x) : ∃ y : Int, cs = [.int k y] ∧ (Lit.int k y).wf = true := by
  obtain ⟨y, q, _, hw⟩ := DataW.trod_int he h
  exact ⟨y, q, hw⟩
/-- an element of three whole numbers -/
theorem open_num3 {e : TypeId} {f0 f1 f2 : Field} {k0 k1 k2 : IntKind} (he : P.underlying e = some (.struct #[f0, f1, f2])) (hone : oneCellFields P #[f0, f1, f2] = true) (ce : P.cellsOf e = 3)
    (u0 : P.underlying f0.type = some (.int k0)) (u1 : P.underlying f1.type = some (.int k1)) (u2 : P.underlying f2.type = some (.int k2)) (fuel : Nat) (cs : List Value) (x : DataW H × List MemPlace) (h : DataW.trod enc P w base spare held fuel e cs = some x) :
    ∃ y : Int × Int × Int, cs = [.int k0 y.1, .int k1 y.2.1, .int k2 y.2.2] ∧ ((Lit.int k0 y.1).wf = true ∧ (Lit.int k1 y.2.1).wf = true ∧ (Lit.int k2 y.2.2).wf = true) := by
  obtain ⟨xs, m, _, hx, hlen, hxl, hg⟩ := DataW.trod_struct he h
  rw [ce] at hlen
  match cs, hlen with
  | [c0, c1, c2], _ =>
    match xs, hxl with
    | [y0, y1, y2], _ =>
      obtain ⟨o0, q0⟩ := hone_of hone 0 f0 rfl
      have g0 := hg 0 f0 rfl
      rw [o0, q0] at g0
      obtain ⟨n0, e0, _, w0⟩ := DataW.trod_int u0 (show DataW.trod enc P w base spare held m f0.type [c0] = some y0 from g0)
      obtain ⟨o1, q1⟩ := hone_of hone 1 f1 rfl
      have g1 := hg 1 f1 rfl
      rw [o1, q1] at g1
      obtain ⟨n1, e1, _, w1⟩ := DataW.trod_int u1 (show DataW.trod enc P w base spare held m f1.type [c1] = some y1 from g1)
      obtain ⟨o2, q2⟩ := hone_of hone 2 f2 rfl
      have g2 := hg 2 f2 rfl
      rw [o2, q2] at g2
      obtain ⟨n2, e2, _, w2⟩ := DataW.trod_int u2 (show DataW.trod enc P w base spare held m f2.type [c2] = some y2 from g2)
      simp at e0 e1 e2
      subst e0 e1 e2
      exact ⟨(n0, n1, n2), rfl, w0, w1, w2⟩
end
end Go.Proofs.Ytoofmklknffhpaa
