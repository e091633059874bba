/-
  Rows of numbers that a call makes; the document's Same of numbers, Idle. Conditions: the table lies where its value says. Spans held against each other; the document's Moved. Conditions: the tables lie where their values say. A table that came in, opened: its numbers, and where its slices lie. Conditions: the types' shapes.
-/
import Derived.Test.YtaoaapbbadipfaaMGg
import Derived.Maps.AppendAt
import Derived.WalkMore
import Derived.OwnWalk
import Derived.Laws.StructEq
import Derived.Deep.QuietTactic
import Derived.Test.YtaoaapbbadipfaaMGe
import Derived.Test.YtaoaapbbadipfaaMGa
/- Rows of numbers that a call makes; the document's Same of numbers, Idle. Conditions: the table lies where its value says. -/
section
namespace Go.Proofs.Ytaoaapbbadipfaa
set_option linter.unusedSimpArgs false
set_option linter.unusedVariables false
set_option maxRecDepth 100000
open Go.ChangeShapes Go.WideShapes Go.ChangeAt Go.RowKit

theorem infoInt : (Try.prog.info? 3).map (fun i => (i.zero, i.size, i.bytes)) = some (some (.int .i64 0), 1, 8) := by kernel_rfl
theorem infoInt_parts : ∃ i, Try.prog.info? 3 = some i ∧ i.zero = some (.int .i64 0) ∧ i.size = 1 ∧ i.bytes = 8 := by
  have h := infoInt
  rcases hi : Try.prog.info? 3 with _ | i
  · rw [hi] at h; cases h
  · rw [hi] at h
    simp at h
    exact ⟨i, rfl, h.1, h.2.1, h.2.2⟩
abbrev ints (l : List Int) : List Value := l.map (Value.int .i64)
theorem row_keep {w w' : World} {base b2 : Nat} {ty : TypeId} {sz : Nat} {v : Value} {n : Nat} {xs : List Value} (h : w.ownsRow base ty sz v n xs) (hb : Below b2 w w') (hlt : ∀ r, v.ownBlock = some r → r < b2) : w'.ownsRow base ty sz v n xs := by
  refine ⟨h.1, ?_⟩
  rcases h.2 with h1 | ⟨g, cap, cur, rfl, h1, h2, h3⟩
  · exact .inl h1
  · exact .inr ⟨g, cap, cur, rfl, h1, (hb.block g (hlt g rfl)).trans h2, h3⟩
theorem row_lt {w : World} {base : Nat} {ty : TypeId} {sz : Nat} {v : Value} {n : Nat} {xs : List Value} (h : w.ownsRow base ty sz v n xs) : ∀ r, v.ownBlock = some r → base ≤ r ∧ r < w.heap.size := fun r hr => by
  rcases h.2 with ⟨rfl, _⟩ | ⟨g, cap, cur, rfl, h1, h2, _⟩
  · cases hr
  · cases hr
    exact ⟨h1, (Array.getElem?_eq_some_iff.1 h2).1⟩
theorem row_call {w w' : World} {base : Nat} {ty : TypeId} {sz : Nat} {v : Value} {n : Nat} {xs : List Value} (h : w.ownsRow base ty sz v n xs) (hb : Below w.heap.size w w') : w'.ownsRow base ty sz v n xs := row_keep h hb fun r hr => (row_lt h r hr).2
theorem row_base {w : World} {base base' : Nat} {ty : TypeId} {sz : Nat} {v : Value} {n : Nat} {xs : List Value} (h : w.ownsRow base ty sz v n xs) (hb : base' ≤ base) : w.ownsRow base' ty sz v n xs := by
  refine ⟨h.1, ?_⟩
  rcases h.2 with h1 | ⟨g, cap, cur, rfl, h1, h2, h3⟩
  · exact .inl h1
  · exact .inr ⟨g, cap, cur, rfl, by omega, h2, h3⟩
/-- boxes below a row stay while it grows -/
theorem Mem.grown {w0 W W' : World} {l : List (Nat × TypeId × Array Value)} {v : Value} {B : Nat} (h : Mem w0 W l) (hg : W.grownBy W' v.ownBlock) (hB : ∀ r, v.ownBlock = some r → B ≤ r) (hl : ∀ p, p ∈ l → p.1 < B) (hw : w0.heap.size ≤ B) : Mem w0 W' l := by
  refine ⟨h.below.grown hg h.below.size (fun j ej => Nat.le_trans hw (hB j ej)), fun p hp => ⟨(h.held p hp).1, ?_⟩, h.inc⟩
  have g := (h.held p hp).2
  refine Eq.trans ?_ g
  exact hg.block p.1 g.lt (fun e => by
    have := hB p.1 e.symm
    have := hl p hp
    omega)
/-- a slice that reads as a list of cells, nil let in -/
def Lies (w : World) (A : Option Addr) (n : Nat) (xs : List Value) : Prop := xs.length = n ∧ (0 < n → ∃ g, A = some ⟨g, 0, none⟩ ∧ g < w.heap.size ∧ ∀ j, j < n → w.cell? ⟨g, j, none⟩ = xs[j]?)
theorem lies_of_own {w : World} {base : Nat} {e : TypeId} {v : Value} {n : Nat} {xs : List Value} (h : w.ownsRow base e 1 v n xs) : ∃ A c, v = .slice A n c ∧ n ≤ c ∧ Lies w A n xs := by
  have hl : xs.length = n := by simpa using h.1
  rcases h.2 with ⟨hv, h0⟩ | ⟨g, cap, cur, hv, hb, hh, hrest⟩
  · exact ⟨none, 0, by rw [hv, h0], by omega, hl, fun h => by omega⟩
  · refine ⟨some ⟨g, 0, none⟩, cap, hv, ?_, hl, fun _ => ⟨g, rfl, (Array.getElem?_eq_some_iff.1 hh).1, fun j hj => ?_⟩⟩
    · exact hrest.1
    · subst hv
      exact World.ownsRow.cellAt h j (by omega)
theorem lies_below {w w' : World} {A : Option Addr} {n : Nat} {xs : List Value} (h : Lies w A n xs) (hb : Below w.heap.size w w') : Lies w' A n xs :=
  ⟨h.1, fun hn => let ⟨g, e, hg, hc⟩ := h.2 hn; ⟨g, e, Nat.lt_of_lt_of_le hg hb.size, fun j hj => (hb.cell (p := ⟨g, j, none⟩) hg).trans (hc j hj)⟩⟩
theorem below_draws (w : World) (n : Nat) : Below w.heap.size w (w.drewN n) := ⟨rfl, rfl, rfl, Nat.le_refl _, fun _ _ => rfl⟩
set_option maxRecDepth 100000 in
set_option maxHeartbeats 1000000 in
theorem same_p (A B : Option Addr) (n c c' : Nat) (xs : List Int) (w : World) (hn : n ≤ 4096) (hA : Lies w A n (ints xs)) (hB : Lies w B n (ints xs)) (hc : n ≤ c) (hc' : n ≤ c') :
    Calls Try.prog 27 #[.slice A n c, .slice B n c'] w fun e w' => e = .returned (.bool true) ∧ Below w.heap.size w w' := by
  have HA := Lib.hid hA
  have HB := Lib.hid hB
  clear hA hB
  go_enter Try.func27, Try.ntmps27
  go_wp2
  go_loopw [5] (fun i wr => ∃ k : Nat, k ≤ n ∧ i = .int .i64 k ∧ ∃ m, wr = w.drewN m) (fun i _ => n - (intOf i).toNat)
  case atStart => exact ⟨0, Nat.zero_le _, rfl, 0, rfl⟩
  case round =>
    obtain ⟨k, hk, rfl, m, rfl⟩ := hrel
    by_cases hlt : k < n
    · obtain ⟨g, rfl, _, hg⟩ := HA.out.2 (by omega)
      obtain ⟨g', rfl, _, hg'⟩ := HB.out.2 (by omega)
      have hl : k < xs.length := by have := HA.out.1; simp [ints] at this; omega
      have h1 : w.cell? ⟨g, k, none⟩ = some (.int .i64 xs[k]) := by rw [hg k hlt]; simp [hl]
      have h2 : w.cell? ⟨g', k, none⟩ = some (.int .i64 xs[k]) := by rw [hg' k hlt]; simp [hl]
      clear hg hg'
      go_wp2
      go_quiet (fail)
      go_wp2
      go_roundw
      case rel => exact ⟨k + 1, by omega, by go_num, m + nq, by simp⟩
      case measure => simp [intOf]; omega
    · go_wp2
      go_ret
      exact ⟨rfl, below_draws w m⟩
/-- the queues below k that have no class -/
def idleTo (sp : List (Int × Int)) (k : Nat) : List Int := ((List.range k).filter (fun i : Nat => decide (ownAt sp (i : Int) 0 < 0))).map Int.ofNat
theorem idleTo_yes {sp : List (Int × Int)} {k : Nat} (h : ownAt sp k 0 < 0) : idleTo sp (k + 1) = idleTo sp k ++ [(k : Int)] := by
  simp [idleTo, List.range_succ, List.filter_append, h]
theorem idleTo_no {sp : List (Int × Int)} {k : Nat} (h : ¬ ownAt sp k 0 < 0) : idleTo sp (k + 1) = idleTo sp k := by
  simp [idleTo, List.range_succ, List.filter_append, h]
theorem idleTo_len (sp : List (Int × Int)) (k : Nat) : (idleTo sp k).length ≤ k := by
  unfold idleTo
  rw [List.length_map]
  exact Nat.le_trans (List.length_filter_le _ _) (by simp)
def TB.idle (t : TB) : List Int := if t.right = true then idleTo t.sp t.q.toNat else []
def TB.idleE (t : TB) : Int := if t.right = true then 0 else 80
/-- what Idle, Moved and their like give: a row of numbers of their own -/
def GivesInts (w : World) (L : List Int) (E : Int) (e : Ending) (w' : World) : Prop := ∃ v, e = .returned (.tuple #[v, .int .i64 E]) ∧ w'.ownsRow w.heap.size 3 1 v L.length (ints L) ∧ Below w.heap.size w w'
end Go.Proofs.Ytaoaapbbadipfaa
end
/- Spans held against each other; the document's Moved. Conditions: the tables lie where their values say. -/
section
namespace Go.Proofs.Ytaoaapbbadipfaa
set_option linter.unusedSimpArgs false
set_option linter.unusedVariables false
set_option maxRecDepth 100000
open Go.ChangeShapes Go.WideShapes Go.ChangeAt Go.RowKit

/-- two structs held against each other, a whole number first -/
theorem eqFT_int {P : Program} {d : Nat} {xs ys : Array Value} {f : Field} {fs : List Field} {k k' : IntKind} {a b : Int} {r : Bool} {w : World} (hn : (f.name == "_") = false) (hu : P.underlying f.type = some (.int k'))
    (hx : (part f.type xs f.offset).run P w = .ok (.int k a) w) (hy : (part f.type ys f.offset).run P w = .ok (.int k b) w) (hr : (Op.eqFields (d + 1) xs ys fs).run P w = .ok r w) : (Op.eqFields (d + 1) xs ys (f :: fs)).run P w = .ok ((a == b) && r) w := by
  have hn' : f.name ≠ "_" := by simpa using hn
  simp only [Op.eqFields, ne_eq, hn', not_false_eq_true, if_true, Sem.run_bind, hx, hy, Result.andThen_ok, run_equalIn_int w d f.type k k' a b hu]
  cases h : (a == b)
  · simp
  · simp [hr]
set_option maxHeartbeats 4000000 in
theorem sp_eq (a b : Int × Int) (w : World) : (Op.equalIn 10000 59 (spv a) (spv b)).run Try.prog w = .ok (decide (a = b)) w := by
  rw [run_equalIn_struct w 9999 59 _ _ (by kernel_rfl) (by kernel_rfl)]
  have i := Try.underlying3
  unfold Program.fieldsOf
  rw [Try.underlying59]
  dsimp only
  have e : decide (a = b) = ((a.1 == b.1) && ((a.2 == b.2) && true)) := by
    obtain ⟨a1, a2⟩ := a
    obtain ⟨b1, b2⟩ := b
    simp [Prod.ext_iff]
    rfl
  rw [e]
  refine eqFT_int (d := 9998) (k := .i64) (by decide) i (by simp [go_sem]) (by simp [go_sem]) ?_
  refine eqFT_int (d := 9998) (k := .i64) (by decide) i (by simp [go_sem]) (by simp [go_sem]) ?_
  rfl
/-- the span of a priority -/
def TB.spAt (t : TB) (k : Nat) : Int × Int := t.sp.getD (t.cl.getD k 0).toNat (0, 0)
/-- the priorities below k whose spans differ -/
def movedTo (a b : TB) (k : Nat) : List Int := ((List.range k).filter (fun i : Nat => !decide (a.spAt i = b.spAt i))).map Int.ofNat
theorem movedTo_yes {a b : TB} {k : Nat} (h : decide (a.spAt k = b.spAt k) = false) : movedTo a b (k + 1) = movedTo a b k ++ [(k : Int)] := by
  simp [movedTo, List.range_succ, List.filter_append, h]
theorem movedTo_no {a b : TB} {k : Nat} (h : decide (a.spAt k = b.spAt k) = true) : movedTo a b (k + 1) = movedTo a b k := by
  simp [movedTo, List.range_succ, List.filter_append, h]
theorem movedTo_len (a b : TB) (k : Nat) : (movedTo a b k).length ≤ k := by
  unfold movedTo
  rw [List.length_map]
  exact Nat.le_trans (List.length_filter_le _ _) (by simp)
def movedL (a b : TB) : List Int := if a.right = true ∧ b.right = true then movedTo a b 16 else []
def movedE (a b : TB) : Int := if a.right = true ∧ b.right = true then 0 else 80
/-- a priority's span, where it lies -/
theorem TB.Ok.spanAt {t : TB} (h : t.Ok) {k : Nat} (hk : k < 16) : ∃ i : Nat, t.cl[k]? = some (i : Int) ∧ i < t.sp.length ∧ t.sp[i]? = some (t.spAt k) := by
  have hm := h.m
  obtain ⟨x, hx⟩ : ∃ x, t.cl[k]? = some x := ⟨t.cl[k]'(by omega), List.getElem?_eq_getElem _⟩
  have hx' := h.c x (List.mem_of_getElem? hx)
  obtain ⟨i, rfl⟩ := Int.eq_ofNat_of_zero_le hx'.1
  have hi : i < t.sp.length := by omega
  refine ⟨i, hx, hi, ?_⟩
  have e : t.spAt k = t.sp[i] := by
    unfold TB.spAt
    rw [List.getD_eq_getElem?_getD, List.getD_eq_getElem?_getD, hx]
    show t.sp[(i : Int).toNat]?.getD (0, 0) = _
    rw [Int.toNat_natCast, List.getElem?_eq_getElem hi]
    rfl
  rw [e, List.getElem?_eq_getElem hi]
end Go.Proofs.Ytaoaapbbadipfaa
end
/- A table that came in, opened: its numbers, and where its slices lie. Conditions: the types' shapes. -/
section
namespace Go.Proofs.Ytaoaapbbadipfaa
set_option linter.unusedSimpArgs false
set_option linter.unusedVariables false
set_option maxRecDepth 100000
open Go.Joins Go.ChangeShapes Go.WideShapes Go.ChangeAt Go.RowKit Go.Deep
section
variable {H : Type} {enc : TypeId × Value → H} {P : Program} {w : World} {base : Nat} {spare : Nat → Bool} {held : Bool}
/-- a slice inside of something -/
theorem open_sliceIn {α : Type} [Inhabited α] {t e : TypeId} {m fuel : Nat} {cs : List Value} {x : DataW H × List MemPlace} (cells : α → List Value) (Fit : α → Prop) (ht : P.underlying t = some (.slice e)) (ce : P.cellsOf e = m) (hlen : ∀ y, (cells y).length = m) (hm0 : 0 < m)
    (he : ∀ fuel cs x, DataW.trod enc P w base spare held fuel e cs = some x → ∃ y : α, cs = cells y ∧ Fit y)
    (hf : DataW.trod enc P w base spare held fuel t cs = some x) :
    ∃ (A : Option Addr) (len cap : Nat) (xs : Nat → α), cs = [.slice A len cap] ∧ len ≤ cap ∧ cap ≤ maxLen ∧ SliceAt w A len m cells Fit xs := by
  rcases open_slice ht hf with ⟨hcs, _⟩ | ⟨a, len, cap, m', n, D, Pl, hcs, hb, hl, hm, hmm, _, hi⟩
  · exact ⟨none, 0, 0, fun _ => default, hcs, Nat.le_refl _, Nat.zero_le _, fun k hk => absurd hk (by omega)⟩
  · have hle : len ≤ m' := by rw [hmm]; split <;> omega
    have hex : ∀ k, k < len → ∃ y : α, Fit y ∧ a.block < w.heap.size ∧ ∀ j u, (cells y)[j]? = some u → w.cell? (a.add (k * m + j)) = some u := fun k hk => by
      obtain ⟨cs', hc, ht'⟩ := hi k (by omega)
      rw [ce] at hc
      obtain ⟨y, rfl, hy⟩ := he _ _ _ ht'
      obtain ⟨_, _, hat⟩ := World.cells?_some hc
      have hcell : ∀ j u, (cells y)[j]? = some u → w.cell? (a.add (k * m + j)) = some u := fun j u hj => by
        have hjl : j < m := by
          have := (List.getElem?_eq_some_iff.1 hj).1
          rwa [hlen] at this
        rw [← Go.Deep.add_add, hat j hjl, hj]
      refine ⟨y, hy, ?_, hcell⟩
      have hl0 : 0 < (cells y).length := by rw [hlen]; exact hm0
      have h2 := World.block_lt_of_cell? w _ (hcell 0 _ (List.getElem?_eq_getElem hl0))
      have hbk : (a.add (k * m + 0)).block = a.block := by unfold Addr.add; split <;> rfl
      rw [hbk] at h2
      exact h2
    obtain ⟨xs, hxs⟩ := choose_lt hex
    exact ⟨some a, len, cap, xs, hcs, hl, hm, fun k hk => ⟨(hxs k hk).1, a, rfl, (hxs k hk).2⟩⟩
/-- an element of two whole numbers -/
theorem open_num2 {e : TypeId} {f0 f1 : Field} {k0 k1 : IntKind} (he : P.underlying e = some (.struct #[f0, f1])) (hone : oneCellFields P #[f0, f1] = true) (ce : P.cellsOf e = 2)
    (u0 : P.underlying f0.type = some (.int k0)) (u1 : P.underlying f1.type = some (.int k1)) (fuel : Nat) (cs : List Value) (x : DataW H × List MemPlace) (h : DataW.trod enc P w base spare held fuel e cs = some x) :
    ∃ y : Int × Int, cs = [.int k0 y.1, .int k1 y.2] ∧ ((Lit.int k0 y.1).wf = true ∧ (Lit.int k1 y.2).wf = true) := by
  obtain ⟨xs, m, _, hx, hlen, hxl, hg⟩ := DataW.trod_struct he h
  rw [ce] at hlen
  match cs, hlen with
  | [c0, c1], _ =>
    match xs, hxl with
    | [y0, y1], _ =>
      obtain ⟨o0, q0⟩ := hone_of hone 0 f0 rfl
      have g0 := hg 0 f0 rfl
      rw [o0, q0] at g0
      obtain ⟨n0, e0, _, w0⟩ := DataW.trod_int u0 (show DataW.trod enc P w base spare held m f0.type [c0] = some y0 from g0)
      obtain ⟨o1, q1⟩ := hone_of hone 1 f1 rfl
      have g1 := hg 1 f1 rfl
      rw [o1, q1] at g1
      obtain ⟨n1, e1, _, w1⟩ := DataW.trod_int u1 (show DataW.trod enc P w base spare held m f1.type [c1] = some y1 from g1)
      simp at e0 e1
      subst e0 e1
      exact ⟨(n0, n1), rfl, w0, w1⟩
end
abbrev i64C (y : Int) : List Value := [.int .i64 y]
abbrev i64F (y : Int) : Prop := (Lit.int .i64 y).wf = true
abbrev spC (y : Int × Int) : List Value := [.int .i64 y.1, .int .i64 y.2]
abbrev spF (y : Int × Int) : Prop := (Lit.int .i64 y.1).wf = true ∧ (Lit.int .i64 y.2).wf = true
theorem rowI_of {w : World} {A : Option Addr} {len : Nat} {xs : Nat → Int} (h : SliceAt w A len 1 i64C i64F xs) : RowI w.heap.size w A ((List.range len).map xs) := fun k x hx => by
  have hk : k < len := by
    have := (List.getElem?_eq_some_iff.1 hx).1
    simpa using this
  have e : x = xs k := by simpa [hk] using hx.symm
  obtain ⟨b, o, hA, hb, hc⟩ := h.plain (fun _ => rfl) (by omega) (Nat.lt_of_le_of_lt (Nat.zero_le _) hk)
  have hv := (hc k hk).2 0 (.int .i64 (xs k)) rfl
  rw [Nat.mul_one, Nat.add_zero] at hv
  exact ⟨b, o, hA, hb, by rw [e]; exact hv⟩
theorem rowS_of {w : World} {A : Option Addr} {len : Nat} {xs : Nat → Int × Int} (h : SliceAt w A len 2 spC spF xs) : RowS w.heap.size w A ((List.range len).map xs) := fun k x hx => by
  have hk : k < len := by
    have := (List.getElem?_eq_some_iff.1 hx).1
    simpa using this
  have e : x = xs k := by simpa [hk] using hx.symm
  obtain ⟨b, o, hA, hb, hc⟩ := h.plain (fun _ => rfl) (by omega) (Nat.lt_of_le_of_lt (Nat.zero_le _) hk)
  have hv := (hc k hk).2 0 (.int .i64 (xs k).1) rfl
  have hu := (hc k hk).2 1 (.int .i64 (xs k).2) rfl
  rw [Nat.add_zero] at hv
  exact ⟨b, o, hA, hb, by rw [e]; exact hv, by rw [e]; exact hu⟩
theorem open_table {H : Type} {enc : TypeId × Value → H} {w : World} {base : Nat} {spare : Nat → Bool} {held : Bool} {r : Reach} {b0 : Nat} {v : Value} {x : DataW H} {p : List MemPlace} (hv : Value.okWide Try.prog w r b0 32 v) (h : DataW.Trod enc Try.prog w base spare held 32 v x p) :
    ∃ (A1 A2 : Option Addr) (c1 c2 : Nat) (t : TB), v = .agg (tbC A1 A2 c1 c2 t) ∧ TbAt w.heap.size w A1 A2 c1 c2 t := by
  obtain ⟨cs, rfl, hsz⟩ := okWide_struct Try.underlying32 hv
  obtain ⟨l⟩ := cs
  match l, hsz.trans (show Try.prog.cellsOf 32 = 3 by kernel_rfl) with
  | [d0, d1, d2], _ =>
    obtain ⟨fuel, hf⟩ := h
    obtain ⟨xs, m, _, _, _, hlen, hg⟩ := DataW.trod_struct Try.underlying32 hf
    match xs, hlen with
    | [y0, y1, y2], _ =>
      obtain ⟨n0, e0, _, w0⟩ := DataW.trod_int Try.underlying3 (show DataW.trod enc Try.prog w base spare held m 3 [d0] = some y0 from hg 0 _ rfl)
      obtain ⟨A1, n1, c1, f1, e1, hl1, hc1, s1⟩ := open_sliceIn (m := 1) i64C i64F Try.underlying29 (by kernel_rfl) (fun _ => rfl) (by decide) (open_num Try.underlying3) (show DataW.trod enc Try.prog w base spare held m 29 [d1] = some y1 from hg 1 _ rfl)
      obtain ⟨A2, n2, c2, f2, e2, hl2, hc2, s2⟩ := open_sliceIn (m := 2) spC spF Try.underlying30 (by kernel_rfl) (fun _ => rfl) (by decide) (open_num2 Try.underlying59 (by kernel_rfl) (by kernel_rfl) Try.underlying3 Try.underlying3) (show DataW.trod enc Try.prog w base spare held m 30 [d2] = some y2 from hg 2 _ rfl)
      simp at e0 e1 e2
      subst e0 e1 e2
      refine ⟨A1, A2, c1, c2, ⟨n0, (List.range n1).map f1, (List.range n2).map f2⟩, by simp [tbC], rowI_of s1, rowS_of s2, by simpa using hl1, by simpa using hl2, hc1, hc2, bd_i64 w0, fun z hz => ?_, fun z hz => ?_⟩
      · obtain ⟨k, hk, rfl⟩ := List.mem_map.1 hz
        exact bd_i64 (s1 k (List.mem_range.1 hk)).1
      · obtain ⟨k, hk, rfl⟩ := List.mem_map.1 hz
        exact ⟨bd_i64 (s2 k (List.mem_range.1 hk)).1.1, bd_i64 (s2 k (List.mem_range.1 hk)).1.2⟩
end Go.Proofs.Ytaoaapbbadipfaa
end
