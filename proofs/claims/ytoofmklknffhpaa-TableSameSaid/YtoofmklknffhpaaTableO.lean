/-
  A table that came in, opened: its numbers, and where its slices lie. Conditions: the types' shapes.
-/
import Derived.Test.YtoofmklknffhpaaTableA
import Derived.Test.YtoofmklknffhpaaSlice
import Derived.Test.YtoofmklknffhpaaStruct
import Derived.Test.YtoofmklknffhpaaBase
namespace Go.Proofs.Ytoofmklknffhpaa
set_option linter.unusedSimpArgs false
set_option linter.unusedVariables false
open Go.Joins Go.ChangeShapes Go.WideShapes Go.ChangeAt Go.RowKit Go.Deep
section
variable {H : Type} {enc : TypeId × Value → H} {P : Program} {w : World} {base : Nat} {spare : Nat → Bool} {held : Bool}
/-- a slice inside of something -/
theorem open_sliceIn {α : Type} [Inhabited α] {t e : TypeId} {m fuel : Nat} {cs : List Value} {x : DataW H × List MemPlace} (cells : α → List Value) (Fit : α → Prop) (ht : P.underlying t = some (.slice e)) (ce : P.cellsOf e = m) (hlen : ∀ y, (cells y).length = m) (hm0 : 0 < m)
    (he : ∀ fuel cs x, DataW.trod enc P w base spare held fuel e cs = some x → ∃ y : α, cs = cells y ∧ Fit y)
    (hf : DataW.trod enc P w base spare held fuel t cs = some x) :
    ∃ (A : Option Addr) (len cap : Nat) (xs : Nat → α), cs = [.slice A len cap] ∧ len ≤ cap ∧ cap ≤ maxLen ∧ SliceAt w A len m cells Fit xs := by
  rcases open_slice ht hf with ⟨hcs, _⟩ | ⟨a, len, cap, m', n, D, Pl, hcs, hb, hl, hm, hmm, _, hi⟩
  · exact ⟨none, 0, 0, fun _ => default, hcs, Nat.le_refl _, Nat.zero_le _, fun k hk => absurd hk (by omega)⟩
  · have hle : len ≤ m' := by rw [hmm]; split <;> omega
    have hex : ∀ k, k < len → ∃ y : α, Fit y ∧ a.block < w.heap.size ∧ ∀ j u, (cells y)[j]? = some u → w.cell? (a.add (k * m + j)) = some u := fun k hk => by
      obtain ⟨cs', hc, ht'⟩ := hi k (by omega)
      rw [ce] at hc
      obtain ⟨y, rfl, hy⟩ := he _ _ _ ht'
      obtain ⟨_, _, hat⟩ := World.cells?_some hc
      have hcell : ∀ j u, (cells y)[j]? = some u → w.cell? (a.add (k * m + j)) = some u := fun j u hj => by
        have hjl : j < m := by
          have := (List.getElem?_eq_some_iff.1 hj).1
          rwa [hlen] at this
        rw [← Go.Deep.add_add, hat j hjl, hj]
      refine ⟨y, hy, ?_, hcell⟩
      have hl0 : 0 < (cells y).length := by rw [hlen]; exact hm0
      have h2 := World.block_lt_of_cell? w _ (hcell 0 _ (List.getElem?_eq_getElem hl0))
      have hbk : (a.add (k * m + 0)).block = a.block := by unfold Addr.add; split <;> rfl
      rw [hbk] at h2
      exact h2
    obtain ⟨xs, hxs⟩ := choose_lt hex
    exact ⟨some a, len, cap, xs, hcs, hl, hm, fun k hk => ⟨(hxs k hk).1, a, rfl, (hxs k hk).2⟩⟩
/-- an element of two whole numbers -/
theorem open_num2 {e : TypeId} {f0 f1 : Field} {k0 k1 : IntKind} (he : P.underlying e = some (.struct #[f0, f1])) (hone : oneCellFields P #[f0, f1] = true) (ce : P.cellsOf e = 2)
    (u0 : P.underlying f0.type = some (.int k0)) (u1 : P.underlying f1.type = some (.int k1)) (fuel : Nat) (cs : List Value) (x : DataW H × List MemPlace) (h : DataW.trod enc P w base spare held fuel e cs = some x) :
    ∃ y : Int × Int, cs = [.int k0 y.1, .int k1 y.2] ∧ ((Lit.int k0 y.1).wf = true ∧ (Lit.int k1 y.2).wf = true) := by
  obtain ⟨xs, m, _, hx, hlen, hxl, hg⟩ := DataW.trod_struct he h
  rw [ce] at hlen
  match cs, hlen with
  | [c0, c1], _ =>
    match xs, hxl with
    | [y0, y1], _ =>
      obtain ⟨o0, q0⟩ := hone_of hone 0 f0 rfl
      have g0 := hg 0 f0 rfl
      rw [o0, q0] at g0
      obtain ⟨n0, e0, _, w0⟩ := DataW.trod_int u0 (show DataW.trod enc P w base spare held m f0.type [c0] = some y0 from g0)
      obtain ⟨o1, q1⟩ := hone_of hone 1 f1 rfl
      have g1 := hg 1 f1 rfl
      rw [o1, q1] at g1
      obtain ⟨n1, e1, _, w1⟩ := DataW.trod_int u1 (show DataW.trod enc P w base spare held m f1.type [c1] = some y1 from g1)
      simp at e0 e1
      subst e0 e1
      exact ⟨(n0, n1), rfl, w0, w1⟩
end
abbrev i64C (y : Int) : List Value := [.int .i64 y]
abbrev i64F (y : Int) : Prop := (Lit.int .i64 y).wf = true
abbrev spC (y : Int × Int) : List Value := [.int .i64 y.1, .int .i64 y.2]
abbrev spF (y : Int × Int) : Prop := (Lit.int .i64 y.1).wf = true ∧ (Lit.int .i64 y.2).wf = true
theorem rowI_of {w : World} {A : Option Addr} {len : Nat} {xs : Nat → Int} (h : SliceAt w A len 1 i64C i64F xs) : RowI w.heap.size w A ((List.range len).map xs) := fun k x hx => by
  have hk : k < len := by
    have := (List.getElem?_eq_some_iff.1 hx).1
    simpa using this
  have e : x = xs k := by simpa [hk] using hx.symm
  obtain ⟨b, o, hA, hb, hc⟩ := h.plain (fun _ => rfl) (by omega) (Nat.lt_of_le_of_lt (Nat.zero_le _) hk)
  have hv := (hc k hk).2 0 (.int .i64 (xs k)) rfl
  rw [Nat.mul_one, Nat.add_zero] at hv
  exact ⟨b, o, hA, hb, by rw [e]; exact hv⟩
theorem rowS_of {w : World} {A : Option Addr} {len : Nat} {xs : Nat → Int × Int} (h : SliceAt w A len 2 spC spF xs) : RowS w.heap.size w A ((List.range len).map xs) := fun k x hx => by
  have hk : k < len := by
    have := (List.getElem?_eq_some_iff.1 hx).1
    simpa using this
  have e : x = xs k := by simpa [hk] using hx.symm
  obtain ⟨b, o, hA, hb, hc⟩ := h.plain (fun _ => rfl) (by omega) (Nat.lt_of_le_of_lt (Nat.zero_le _) hk)
  have hv := (hc k hk).2 0 (.int .i64 (xs k).1) rfl
  have hu := (hc k hk).2 1 (.int .i64 (xs k).2) rfl
  rw [Nat.add_zero] at hv
  exact ⟨b, o, hA, hb, by rw [e]; exact hv, by rw [e]; exact hu⟩
theorem open_table {H : Type} {enc : TypeId × Value → H} {w : World} {base : Nat} {spare : Nat → Bool} {held : Bool} {r : Reach} {b0 : Nat} {v : Value} {x : DataW H} {p : List MemPlace} (hv : Value.okWide Try.prog w r b0 25 v) (h : DataW.Trod enc Try.prog w base spare held 25 v x p) :
    ∃ (A1 A2 : Option Addr) (c1 c2 : Nat) (t : TB), v = .agg (tbC A1 A2 c1 c2 t) ∧ TbAt w.heap.size w A1 A2 c1 c2 t := by
  obtain ⟨cs, rfl, hsz⟩ := okWide_struct Try.underlying25 hv
  obtain ⟨l⟩ := cs
  match l, hsz.trans (show Try.prog.cellsOf 25 = 3 by kernel_rfl) with
  | [d0, d1, d2], _ =>
    obtain ⟨fuel, hf⟩ := h
    obtain ⟨xs, m, _, _, _, hlen, hg⟩ := DataW.trod_struct Try.underlying25 hf
    match xs, hlen with
    | [y0, y1, y2], _ =>
      obtain ⟨n0, e0, _, w0⟩ := DataW.trod_int Try.underlying3 (show DataW.trod enc Try.prog w base spare held m 3 [d0] = some y0 from hg 0 _ rfl)
      obtain ⟨A1, n1, c1, f1, e1, hl1, hc1, s1⟩ := open_sliceIn (m := 1) i64C i64F Try.underlying22 (by kernel_rfl) (fun _ => rfl) (by decide) (open_num Try.underlying3) (show DataW.trod enc Try.prog w base spare held m 22 [d1] = some y1 from hg 1 _ rfl)
      obtain ⟨A2, n2, c2, f2, e2, hl2, hc2, s2⟩ := open_sliceIn (m := 2) spC spF Try.underlying23 (by kernel_rfl) (fun _ => rfl) (by decide) (open_num2 Try.underlying36 (by kernel_rfl) (by kernel_rfl) Try.underlying3 Try.underlying3) (show DataW.trod enc Try.prog w base spare held m 23 [d2] = some y2 from hg 2 _ rfl)
      simp at e0 e1 e2
      subst e0 e1 e2
      refine ⟨A1, A2, c1, c2, ⟨n0, (List.range n1).map f1, (List.range n2).map f2⟩, by simp [tbC], rowI_of s1, rowS_of s2, by simpa using hl1, by simpa using hl2, hc1, hc2, bd_i64 w0, fun z hz => ?_, fun z hz => ?_⟩
      · obtain ⟨k, hk, rfl⟩ := List.mem_map.1 hz
        exact bd_i64 (s1 k (List.mem_range.1 hk)).1
      · obtain ⟨k, hk, rfl⟩ := List.mem_map.1 hz
        exact ⟨bd_i64 (s2 k (List.mem_range.1 hk)).1.1, bd_i64 (s2 k (List.mem_range.1 hk)).1.2⟩
end Go.Proofs.Ytoofmklknffhpaa
