/-
  A slice of acts (a number and a descriptor each) that came in, opened: the cells of each act. Conditions: the types' shapes.
-/
import Derived.Deep.Slices
import Derived.Deep.Fields
import Derived.ChangeSame
import Derived.Lib.SmallJoins
import Derived.OpenShut
import Derived.Test.YtfnhnicjomaelaaDescA
namespace Go.Proofs.Ytfnhnicjomaelaa
open Go.ChangeShapes Go.WideShapes Go.ChangeAt Go.RowKit Go.Deep

/-- an act: what, and a descriptor -/
structure ActV where
  o : Int
  i : Int
  l : Int
  f : Int
  d : Bool
instance : Inhabited ActV := ⟨⟨0, 0, 0, 0, false⟩⟩
/-- its numbers fit -/
structure ActV.Fits (x : ActV) : Prop where
  o : (Lit.int .i64 x.o).wf = true
  i : (Lit.int .u32 x.i).wf = true
  l : (Lit.int .u32 x.l).wf = true
  f : (Lit.int .u32 x.f).wf = true
/-- its five cells -/
def ActV.cells (x : ActV) : List Value := [.int .i64 x.o, .int .u32 x.i, .int .u32 x.l, .int .u32 x.f, .bool x.d]

section
variable {H : Type} {enc : TypeId × Value → H} {P : Program} {w : World} {base : Nat} {spare : Nat → Bool} {held : Bool}
theorem open_act {e : TypeId} {f0 f1 g0 g1 g2 g3 : Field} {fuel : Nat} {cs : List Value} {x : DataW H × List MemPlace} (he : P.underlying e = some (.struct #[f0, f1])) (hd : P.underlying f1.type = some (.struct #[g0, g1, g2, g3]))
    (ce : P.cellsOf e = 5) (cd : P.cellsOf f1.type = 4) (h0 : f0.offset = 0 ∧ P.cellsOf f0.type = 1 ∧ P.underlying f0.type = some (.int .i64)) (h1 : f1.offset = 1)
    (k0 : g0.offset = 0 ∧ P.cellsOf g0.type = 1 ∧ P.underlying g0.type = some (.int .u32)) (k1 : g1.offset = 1 ∧ P.cellsOf g1.type = 1 ∧ P.underlying g1.type = some (.int .u32))
    (k2 : g2.offset = 2 ∧ P.cellsOf g2.type = 1 ∧ P.underlying g2.type = some (.int .u32)) (k3 : g3.offset = 3 ∧ P.cellsOf g3.type = 1 ∧ P.underlying g3.type = some .bool)
    (h : DataW.trod enc P w base spare held fuel e cs = some x) : ∃ a : ActV, cs = a.cells ∧ a.Fits := by
  obtain ⟨xs, n, _, hx, hlen, hxl, hg⟩ := DataW.trod_struct he h
  rw [ce] at hlen
  match cs, hlen with
  | [c0, c1, c2, c3, c4], _ =>
    have e0 := hg 0 f0 rfl
    have e1 := hg 1 f1 rfl
    match xs, hxl with
    | [y0, y1], _ =>
      rw [h0.1, h0.2.1] at e0
      rw [h1, cd] at e1
      obtain ⟨o, q0, _, w0⟩ := DataW.trod_int h0.2.2 (show DataW.trod enc P w base spare held n f0.type [c0] = some y0 from e0)
      obtain ⟨zs, m, _, hz, _, hzl, hk⟩ := DataW.trod_struct hd (show DataW.trod enc P w base spare held n f1.type [c1, c2, c3, c4] = some y1 from e1)
      match zs, hzl with
      | [z0, z1, z2, z3], _ =>
        have a0 := hk 0 g0 rfl
        have a1 := hk 1 g1 rfl
        have a2 := hk 2 g2 rfl
        have a3 := hk 3 g3 rfl
        rw [k0.1, k0.2.1] at a0
        rw [k1.1, k1.2.1] at a1
        rw [k2.1, k2.2.1] at a2
        rw [k3.1, k3.2.1] at a3
        obtain ⟨i, q1, _, w1⟩ := DataW.trod_int k0.2.2 (show DataW.trod enc P w base spare held m g0.type [c1] = some z0 from a0)
        obtain ⟨l, q2, _, w2⟩ := DataW.trod_int k1.2.2 (show DataW.trod enc P w base spare held m g1.type [c2] = some z1 from a1)
        obtain ⟨f, q3, _, w3⟩ := DataW.trod_int k2.2.2 (show DataW.trod enc P w base spare held m g2.type [c3] = some z2 from a2)
        obtain ⟨d, q4, _⟩ := DataW.trod_bool k3.2.2 (show DataW.trod enc P w base spare held m g3.type [c4] = some z3 from a3)
        simp at q0 q1 q2 q3 q4
        subst q0 q1 q2 q3 q4
        exact ⟨⟨o, i, l, f, d⟩, rfl, ⟨w0, w1, w2, w3⟩⟩

/-- the acts of a slice: cell j of act k -/
def ActsAt (w : World) (A : Option Addr) (len : Nat) (acts : Nat → ActV) : Prop :=
  ∀ k, k < len → (acts k).Fits ∧ ∃ a, A = some a ∧ a.block < w.heap.size ∧ ∀ j v, (acts k).cells[j]? = some v → w.cell? (a.add (k * 5 + j)) = some v
theorem ActsAt.plain {w : World} {A : Option Addr} {len : Nat} {acts : Nat → ActV} (h : ActsAt w A len acts) (h0 : 0 < len) : ∃ b o, A = some ⟨b, o, none⟩ ∧ b < w.heap.size ∧
    ∀ k, k < len → (acts k).Fits ∧ ∀ j v, (acts k).cells[j]? = some v → w.cell? ⟨b, o + k * 5 + j, none⟩ = some v := by
  obtain ⟨_, a, ha, hb, hc⟩ := h 0 h0
  have hs : a.spot = none := by
    have := hc 0 _ rfl
    have e : a.add (0 * 5 + 0) = a := by simp [Addr.add]
    rw [e] at this
    unfold World.cell? at this
    split at this
    · split at this
      · cases this
      · rename_i hh; simpa using hh
    · cases this
  obtain ⟨b, o, s⟩ := a
  have hs' : s = none := hs
  subst hs'
  refine ⟨b, o, ha, hb, fun k hk => ?_⟩
  obtain ⟨hf, a', ha', _, hc'⟩ := h k hk
  rw [ha] at ha'
  cases ha'
  refine ⟨hf, fun j v hj => ?_⟩
  have := hc' j v hj
  have e : (⟨b, o, none⟩ : Addr).add (k * 5 + j) = ⟨b, o + k * 5 + j, none⟩ := by
    unfold Addr.add
    split
    all_goals first | (simp; done) | (simp; omega)
  rwa [e] at this
theorem open_acts {t e : TypeId} {f0 f1 g0 g1 g2 g3 : Field} {r : Reach} {b0 : Nat} {v : Value} {x : DataW H} {p : List MemPlace} (ht : P.underlying t = some (.slice e)) (he : P.underlying e = some (.struct #[f0, f1])) (hd : P.underlying f1.type = some (.struct #[g0, g1, g2, g3]))
    (ce : P.cellsOf e = 5) (cd : P.cellsOf f1.type = 4) (h0 : f0.offset = 0 ∧ P.cellsOf f0.type = 1 ∧ P.underlying f0.type = some (.int .i64)) (h1 : f1.offset = 1)
    (k0 : g0.offset = 0 ∧ P.cellsOf g0.type = 1 ∧ P.underlying g0.type = some (.int .u32)) (k1 : g1.offset = 1 ∧ P.cellsOf g1.type = 1 ∧ P.underlying g1.type = some (.int .u32))
    (k2 : g2.offset = 2 ∧ P.cellsOf g2.type = 1 ∧ P.underlying g2.type = some (.int .u32)) (k3 : g3.offset = 3 ∧ P.cellsOf g3.type = 1 ∧ P.underlying g3.type = some .bool)
    (hv : Value.okWide P w r b0 t v) (h : DataW.Trod enc P w base spare held t v x p) :
    ∃ (A : Option Addr) (len cap : Nat) (acts : Nat → ActV), v = .slice A len cap ∧ len ≤ cap ∧ cap ≤ maxLen ∧ ActsAt w A len acts := by
  obtain ⟨A, len, cap, rfl⟩ := okWide_slice ht hv
  obtain ⟨fuel, hf⟩ := h
  rcases open_slice ht hf with ⟨hcs, _⟩ | ⟨a, len', cap', m, n, D, Pl, hcs, hb, hl, hm, hmm, _, hi⟩
  · simp [Value.cells] at hcs
    obtain ⟨rfl, rfl, rfl⟩ := hcs
    exact ⟨none, 0, 0, fun _ => default, rfl, Nat.le_refl _, Nat.zero_le _, fun k hk => absurd hk (by omega)⟩
  · simp [Value.cells] at hcs
    obtain ⟨rfl, rfl, rfl⟩ := hcs
    have hle : len ≤ m := by rw [hmm]; split <;> omega
    have hex : ∀ k, k < len → ∃ y : ActV, y.Fits ∧ a.block < w.heap.size ∧ ∀ j u, y.cells[j]? = some u → w.cell? (a.add (k * 5 + j)) = some u := fun k hk => by
      obtain ⟨cs', hc, ht'⟩ := hi k (by omega)
      rw [ce] at hc
      obtain ⟨y, rfl, hy⟩ := open_act he hd ce cd h0 h1 k0 k1 k2 k3 ht'
      obtain ⟨_, _, hat⟩ := World.cells?_some hc
      have hcell : ∀ j u, y.cells[j]? = some u → w.cell? (a.add (k * 5 + j)) = some u := fun j u hj => by
        have hjl : j < 5 := by
          have := (List.getElem?_eq_some_iff.1 hj).1
          simpa [ActV.cells] using this
        rw [← Go.Deep.add_add, hat j hjl, hj]
      refine ⟨y, hy, ?_, hcell⟩
      have h2 := World.block_lt_of_cell? w _ (hcell 0 _ rfl)
      have hbk : (a.add (k * 5 + 0)).block = a.block := by unfold Addr.add; split <;> rfl
      rw [hbk] at h2
      exact h2
    obtain ⟨acts, hacts⟩ := choose_lt hex
    exact ⟨some a, len, cap, acts, rfl, hl, hm, fun k hk => ⟨(hacts k hk).1, a, rfl, (hacts k hk).2⟩⟩
end
end Go.Proofs.Ytfnhnicjomaelaa
