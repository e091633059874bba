/-
  Tallies as mathematics: six counters, what each call tells and leaves. Conditions: none. What the program's tallies do, as an interface; a law's state: two tallies that lie apart. Conditions: as the interface says. The calls, as steps of a law's state; the law begun. Conditions: as the interface says. What came in, opened: counters, acts of layer 12. Conditions: the types' shapes. The laws' own shown; two counters as values: are they the same. Conditions: as the interface says.
-/
import Derived.Test.YtdhjdkhhhdcjdaaRows
import Derived.Test.YtdhjdkhhhdcjdaaMGa
import Derived.Lib.Hide
import Derived.BigQuiet
import Derived.Deep.DeepCutAuto
import Derived.Deep.MidRow
import Derived.WalkKit
import Derived.ProofKit
/- Tallies as mathematics: six counters, what each call tells and leaves. Conditions: none. -/
section
namespace Go.Proofs.Ytdhjdkhhhdcjdaa.Ta
set_option linter.unusedSimpArgs false
set_option linter.unusedVariables false
set_option maxRecDepth 100000
open Go.ChangeShapes Go.WideShapes Go.ChangeAt Go.RowKit

abbrev I64 (x : Int) : Prop := -9223372036854775808 ≤ x ∧ x ≤ 9223372036854775807
abbrev U64 (x : Int) : Prop := 0 ≤ x ∧ x ≤ 18446744073709551615
/-- the counters of a queue -/
structure C6 where
  c0 : Int
  c1 : Int
  c2 : Int
  c3 : Int
  c4 : Int
  c5 : Int
deriving DecidableEq
def C6.get (c : C6) : Nat → Int
  | 0 => c.c0
  | 1 => c.c1
  | 2 => c.c2
  | 3 => c.c3
  | 4 => c.c4
  | 5 => c.c5
  | _ => 0
def mk6 (f : Nat → Int) : C6 := ⟨f 0, f 1, f 2, f 3, f 4, f 5⟩
def zero6 : C6 := ⟨0, 0, 0, 0, 0, 0⟩
def C6.put (c : C6) (i : Nat) (v : Int) : C6 := mk6 fun j => if j = i then v else c.get j
/-- 64 bits, with wraparound -/
abbrev w64 (x : Int) : Int := IntKind.u64.wrap x
def C6.add (c d : C6) : C6 := mk6 fun j => w64 (c.get j + d.get j)
/-- the first i of them are added -/
def C6.upto (c d : C6) (i : Nat) : C6 := mk6 fun j => if j < i then w64 (c.get j + d.get j) else c.get j
theorem get_mk (f : Nat → Int) {i : Nat} (h : i < 6) : (mk6 f).get i = f i := by
  match i, h with
  | 0, _ => rfl
  | 1, _ => rfl
  | 2, _ => rfl
  | 3, _ => rfl
  | 4, _ => rfl
  | 5, _ => rfl
theorem C6.ext' {c d : C6} (h : ∀ i, i < 6 → c.get i = d.get i) : c = d := by
  obtain ⟨a0, a1, a2, a3, a4, a5⟩ := c
  obtain ⟨b0, b1, b2, b3, b4, b5⟩ := d
  have h0 := h 0 (by omega)
  have h1 := h 1 (by omega)
  have h2 := h 2 (by omega)
  have h3 := h 3 (by omega)
  have h4 := h 4 (by omega)
  have h5 := h 5 (by omega)
  simp only [C6.get] at h0 h1 h2 h3 h4 h5
  subst h0 h1 h2 h3 h4 h5
  rfl
theorem get_put (c : C6) (k : Nat) (v : Int) {i : Nat} (h : i < 6) : (c.put k v).get i = if i = k then v else c.get i := get_mk _ h
theorem get_add (c d : C6) {i : Nat} (h : i < 6) : (c.add d).get i = w64 (c.get i + d.get i) := get_mk _ h
theorem get_upto (c d : C6) (k : Nat) {i : Nat} (h : i < 6) : (c.upto d k).get i = if i < k then w64 (c.get i + d.get i) else c.get i := get_mk _ h
theorem get_zero (i : Nat) : zero6.get i = 0 := by unfold zero6 C6.get; split <;> rfl
theorem upto_zero (c d : C6) : c.upto d 0 = c := C6.ext' fun i hi => by rw [get_upto _ _ _ hi, if_neg (by omega)]
theorem upto_six (c d : C6) : c.upto d 6 = c.add d := C6.ext' fun i hi => by rw [get_upto _ _ _ hi, get_add _ _ hi, if_pos hi]
theorem upto_next (c d : C6) (k : Nat) : (c.upto d k).put k (w64 (c.get k + d.get k)) = c.upto d (k + 1) := C6.ext' fun i hi => by
  rw [get_put _ _ _ hi, get_upto _ _ _ hi, get_upto _ _ _ hi]
  by_cases h1 : i = k
  · subst h1
    rw [if_pos rfl, if_pos (by omega)]
  · rw [if_neg h1]
    by_cases h2 : i < k
    · rw [if_pos h2, if_pos (by omega)]
    · rw [if_neg h2, if_neg (by omega)]
theorem upto_get (c d : C6) (k : Nat) (hk : k < 6) : (c.upto d k).get k = c.get k := by rw [get_upto _ _ _ hk, if_neg (by omega)]
def C6.Fits (c : C6) : Prop := ∀ i, i < 6 → U64 (c.get i)
theorem w64_in (x : Int) : U64 (w64 x) := by
  simp only [w64, IntKind.wrap, IntKind.bits, IntKind.signed]
  constructor <;> (simp; omega)
theorem w64_id {x : Int} (h : U64 x) : w64 x = x := by
  have h1 := h.1
  have h2 := h.2
  simp [w64, IntKind.wrap, IntKind.bits, IntKind.signed]
  omega
theorem w64_mod (x : Int) : w64 x = x % 18446744073709551616 := by
  simp [w64, IntKind.wrap, IntKind.bits, IntKind.signed]
theorem zero6_fits : zero6.Fits := fun i _ => by rw [get_zero]; exact ⟨by omega, by omega⟩
theorem C6.Fits.put {c : C6} (h : c.Fits) (k : Nat) {v : Int} (hv : U64 v) : (c.put k v).Fits := fun i hi => by
  rw [get_put _ _ _ hi]
  split
  · exact hv
  · exact h i hi
theorem add_fits (c d : C6) : (c.add d).Fits := fun i hi => by rw [get_add _ _ hi]; exact w64_in _
theorem upto_fits {c : C6} (h : c.Fits) (d : C6) (k : Nat) : (c.upto d k).Fits := fun i hi => by
  rw [get_upto _ _ _ hi]
  split
  · exact w64_in _
  · exact h i hi
theorem zero_add6 {d : C6} (h : d.Fits) : zero6.add d = d := C6.ext' fun i hi => by rw [get_add _ _ hi, get_zero, Int.zero_add, w64_id (h i hi)]
abbrev cvCs (c : C6) : List Value := [.int .u64 c.c0, .int .u64 c.c1, .int .u64 c.c2, .int .u64 c.c3, .int .u64 c.c4, .int .u64 c.c5]
abbrev cv (c : C6) : Value := .agg #[.int .u64 c.c0, .int .u64 c.c1, .int .u64 c.c2, .int .u64 c.c3, .int .u64 c.c4, .int .u64 c.c5]
abbrev row6 (c : C6) : Array Value := #[.int .u64 c.c0, .int .u64 c.c1, .int .u64 c.c2, .int .u64 c.c3, .int .u64 c.c4, .int .u64 c.c5]
theorem row6_get (c : C6) {i : Nat} (h : i < 6) : (row6 c)[i]? = some (.int .u64 (c.get i)) := by
  match i, h with
  | 0, _ => rfl
  | 1, _ => rfl
  | 2, _ => rfl
  | 3, _ => rfl
  | 4, _ => rfl
  | 5, _ => rfl
theorem row6_set (c : C6) {i : Nat} (h : i < 6) (v : Int) : (row6 c).setIfInBounds i (.int .u64 v) = row6 (c.put i v) := by
  match i, h with
  | 0, _ => rfl
  | 1, _ => rfl
  | 2, _ => rfl
  | 3, _ => rfl
  | 4, _ => rfl
  | 5, _ => rfl
/-- numbers, as counters -/
def of6 (l : List Int) : C6 := mk6 fun j => l.getD j 0
/-- a reader: where it lies, its queue, its next step, the count at which it began, what it has loaded -/
structure RD where
  r : Nat
  q : Nat
  at' : Nat
  s0 : Int
  l : List Int
/-- a tally: counters, sequence counts, a reader of it -/
structure TS where
  k : List C6
  s : List Int
  rd : Option RD
def hasQ (X : TS) (q : Int) : Bool := decide (0 ≤ q) && decide (q < X.s.length)
def sq (X : TS) (q : Int) : Int := X.s.getD q.toNat 0
def kq (X : TS) (q : Int) : C6 := X.k.getD q.toNat zero6
def TS.puts (X : TS) (q v : Int) : TS := { X with s := X.s.set q.toNat v }
def TS.putk (X : TS) (q : Int) (c : C6) : TS := { X with k := X.k.set q.toNat c }
def hasF (f : Int) : Bool := decide (0 ≤ f) && decide (f < 6)
def openE (X : TS) (q : Int) : Int := if hasQ X q = false then 2 else if sq X q % 2 = 1 then 111 else 0
def openS (X : TS) (q : Int) : TS := if openE X q = 0 then X.puts q (sq X q + 1) else X
def addE (X : TS) (q f : Int) : Int := if (hasQ X q && hasF f) = false then 2 else if sq X q % 2 = 0 then 120 else 0
def addS (X : TS) (q f v : Int) : TS := if addE X q f = 0 then X.putk q ((kq X q).put f.toNat (w64 ((kq X q).get f.toNat + v))) else X
def shutE (X : TS) (q : Int) : Int := if hasQ X q = false then 2 else if sq X q % 2 = 0 then 120 else 0
def shutS (X : TS) (q : Int) : TS := if shutE X q = 0 then X.puts q (sq X q + 1) else X
def noteS (X : TS) (q : Int) (c : C6) : TS := if openE X q = 0 then (X.putk q ((kq X q).add c)).puts q (sq X q + 2) else X
def readV (X : TS) (q : Int) : C6 := if openE X q = 0 then kq X q else zero6
def anyOdd (X : TS) : Bool := X.s.any fun v => decide (v % 2 = 1)
def sumE (X : TS) : Int := if anyOdd X = true then 111 else 0
def sumV (X : TS) : C6 := if anyOdd X = true then zero6 else X.k.foldl C6.add zero6
def readerE (X : TS) (q : Int) : Int := if hasQ X q = true then 0 else 2
/-- a reader's step -/
def stepE (X : TS) (R : RD) : Int := if R.at' = 0 then (if sq X R.q % 2 = 1 then 111 else 0) else if R.at' ≤ 6 then 0 else if sq X R.q = R.s0 then 0 else 111
def stepOk (X : TS) (R : RD) : Bool := decide (6 < R.at') && decide (sq X R.q = R.s0)
def stepV (X : TS) (R : RD) : C6 := if stepOk X R = true then of6 R.l else zero6
def stepR (X : TS) (R : RD) : RD :=
  if R.at' = 0 then (if sq X R.q % 2 = 1 then R else { R with at' := 1, s0 := sq X R.q, l := [] })
  else if R.at' ≤ 6 then { R with at' := R.at' + 1, l := R.l ++ [(kq X R.q).get (R.at' - 1)] } else { R with at' := 0, l := [] }
def okQ (n : Int) : Bool := decide (1 ≤ n) && decide (n ≤ 64)
def zeroT (n : Int) : TS := ⟨List.replicate n.toNat zero6, List.replicate n.toNat 0, none⟩
structure FitsR (n : Nat) (N : Nat) (R : RD) : Prop where
  q : R.q < n
  at7 : R.at' ≤ 7
  s0 : 0 ≤ R.s0 ∧ R.s0 ≤ N
  len : R.at' ≠ 0 → R.l.length + 1 = R.at'
  fl : ∀ v, v ∈ R.l → U64 v
structure FitsT (X : TS) (N : Nat) : Prop where
  len : X.k.length = X.s.length
  n1 : 1 ≤ X.s.length
  n64 : X.s.length ≤ 64
  fs : ∀ v, v ∈ X.s → 0 ≤ v ∧ v ≤ N
  fk : ∀ c, c ∈ X.k → C6.Fits c
  fr : ∀ R, X.rd = some R → FitsR X.s.length N R
theorem has_at {X : TS} {q : Int} (h : hasQ X q = true) : ∃ k : Nat, q = k ∧ k < X.s.length := by
  simp only [hasQ, Bool.and_eq_true, decide_eq_true_eq] at h
  exact ⟨q.toNat, by omega, by omega⟩
theorem has_of {X : TS} {k : Nat} (h : k < X.s.length) : hasQ X (k : Int) = true := by simp [hasQ, h]
theorem sq_at {X : TS} {k : Nat} (h : k < X.s.length) : X.s[k]? = some (sq X (k : Int)) := by
  rw [sq, Int.toNat_natCast, List.getD_eq_getElem?_getD, List.getElem?_eq_getElem h]
  rfl
theorem kq_at {X : TS} {N k : Nat} (hf : FitsT X N) (h : k < X.s.length) : X.k[k]? = some (kq X (k : Int)) := by
  rw [kq, Int.toNat_natCast, List.getD_eq_getElem?_getD, List.getElem?_eq_getElem (by rw [hf.len]; exact h)]
  rfl
theorem FitsT.sq {X : TS} {N k : Nat} (hf : FitsT X N) (h : k < X.s.length) : 0 ≤ sq X (k : Int) ∧ sq X (k : Int) ≤ N := hf.fs _ (List.mem_of_getElem? (sq_at h))
theorem FitsT.kq {X : TS} {N k : Nat} (hf : FitsT X N) (h : k < X.s.length) : (kq X (k : Int)).Fits := hf.fk _ (List.mem_of_getElem? (kq_at hf h))
theorem FitsR.mono {n N M : Nat} {R : RD} (h : FitsR n N R) (hM : N ≤ M) : FitsR n M R := { h with s0 := ⟨h.s0.1, by have := h.s0.2; omega⟩ }
theorem FitsT.mono {X : TS} {N M : Nat} (h : FitsT X N) (hM : N ≤ M) : FitsT X M := { h with fs := fun v hv => ⟨(h.fs v hv).1, by have := (h.fs v hv).2; omega⟩, fr := fun R hR => (h.fr R hR).mono hM }
theorem FitsT.puts {X : TS} {N M : Nat} (h : FitsT X N) (hM : N ≤ M) (q : Int) {v : Int} (hv : 0 ≤ v ∧ v ≤ M) : FitsT (X.puts q v) M := by
  have hm := h.mono hM
  refine ⟨?_, ?_, ?_, fun x hx => ?_, hm.fk, fun R hR => ?_⟩
  · simp only [TS.puts, List.length_set]; exact h.len
  · simp only [TS.puts, List.length_set]; exact h.n1
  · simp only [TS.puts, List.length_set]; exact h.n64
  · rcases List.mem_or_eq_of_mem_set hx with hx | rfl
    · exact hm.fs x hx
    · exact hv
  · simp only [TS.puts, List.length_set]
    exact hm.fr R hR
theorem FitsT.putk {X : TS} {N : Nat} (h : FitsT X N) (q : Int) {c : C6} (hc : c.Fits) : FitsT (X.putk q c) N := by
  refine ⟨?_, h.n1, h.n64, h.fs, fun x hx => ?_, h.fr⟩
  · simp only [TS.putk, List.length_set]; exact h.len
  · rcases List.mem_or_eq_of_mem_set hx with hx | rfl
    · exact h.fk x hx
    · exact hc
theorem FitsT.read {X : TS} {N : Nat} (h : FitsT X N) {R : RD} (hR : FitsR X.s.length N R) : FitsT { X with rd := some R } N :=
  { h with
    fr := fun R' e => by
      have : R = R' := by simpa using e
      subst this
      exact hR }
theorem FitsT.zero (n : Int) (h : okQ n = true) : FitsT (zeroT n) 0 := by
  simp only [okQ, Bool.and_eq_true, decide_eq_true_eq] at h
  refine ⟨by simp [zeroT], by simp [zeroT]; omega, by simp [zeroT]; omega, fun v hv => ?_, fun c hc => ?_, (fun R hR => by cases hR)⟩
  · rw [(List.mem_replicate.1 hv).2]; omega
  · rw [(List.mem_replicate.1 hc).2]; exact zero6_fits
theorem start_fits {n N : Nat} (r q : Nat) (hq : q < n) : FitsR n N ⟨r, q, 0, 0, []⟩ := ⟨hq, Nat.zero_le _, ⟨Int.le_refl _, Int.natCast_nonneg _⟩, (fun h => absurd rfl h), (fun v hv => by cases hv)⟩
theorem step_fits {X : TS} {N : Nat} {R : RD} (h : FitsT X N) (hR : FitsR X.s.length N R) : FitsR X.s.length N (stepR X R) := by
  unfold stepR
  split
  · split
    · exact hR
    · exact ⟨hR.q, by simp, h.sq hR.q, (fun _ => rfl), (fun v hv => by cases hv)⟩
  · rename_i h0
    split
    · rename_i h6
      refine ⟨hR.q, by simp; omega, hR.s0, (fun _ => by simp; exact hR.len h0), fun v hv => ?_⟩
      rcases List.mem_append.1 hv with hv | hv
      · exact hR.fl v hv
      · rw [List.mem_singleton.1 hv]
        exact h.kq hR.q _ (by omega)
    · exact ⟨hR.q, by simp, hR.s0, (fun h => absurd rfl h), (fun v hv => by cases hv)⟩
theorem of6_fits {l : List Int} (h : ∀ v, v ∈ l → U64 v) : (of6 l).Fits := fun i hi => by
  rw [of6, get_mk _ hi, List.getD_eq_getElem?_getD]
  cases hq : l[i]? with
  | none => exact ⟨by simp, by simp⟩
  | some v => exact h v (List.mem_of_getElem? hq)
/-! numbers in a block -/
def ints (l : List Int) : Array Value := (l.map (Value.int .i64)).toArray
theorem ints_size (l : List Int) : (ints l).size = l.length := by simp [ints]
theorem ints_get (l : List Int) (k : Nat) : (ints l)[k]? = (l[k]?).map (Value.int .i64) := by simp [ints]
theorem ints_set (l : List Int) (k : Nat) (v : Int) : (ints l).setIfInBounds k (.int .i64 v) = ints (l.set k v) := by
  simp [ints, List.map_set]
theorem ints_zero (n : Nat) : ints (List.replicate n 0) = (List.replicate n (Value.int .i64 0)).toArray := by simp [ints]
def nums (l : List Int) : Array Value := (l.map (Value.int .u64)).toArray
theorem nums_get (l : List Int) (k : Nat) : (nums l)[k]? = (l[k]?).map (Value.int .u64) := by simp [nums]
theorem nums_size (l : List Int) : (nums l).size = l.length := by simp [nums]
theorem wrap_id {x : Int} (h1 : -9223372036854775808 ≤ x) (h2 : x ≤ 9223372036854775807) : IntKind.i64.wrap x = x := by
  simp [IntKind.wrap, IntKind.bits, IntKind.signed]
  omega
end Go.Proofs.Ytdhjdkhhhdcjdaa.Ta
end
/- What the program's tallies do, as an interface; a law's state: two tallies that lie apart. Conditions: as the interface says. -/
section
namespace Go.Proofs.Ytdhjdkhhhdcjdaa.Ta
set_option linter.unusedSimpArgs false
set_option linter.unusedVariables false
set_option maxRecDepth 100000
open Go.ChangeShapes Go.WideShapes Go.ChangeAt Go.RowKit

abbrev PT := World → (Nat → Prop) → Nat → TS → Nat → Prop
abbrev sl (b : Nat) (l : List Int) : Value := .slice (some ⟨b, 0, none⟩) l.length l.length
/-- what a method does -/
def DidF (PAt : PT) (W : World) (own : Nat → Prop) (p : Nat) (s' : TS) (N : Nat) (v : Value) (e : Ending) (w' : World) : Prop :=
  e = .returned v ∧ (∃ own', PAt w' own' p s' N ∧ ∀ i, own' i → own i ∨ W.heap.size ≤ i) ∧ Foot own W w'
/-- what New gives -/
def NewF (PAt : PT) (W : World) (s : TS) (e : Ending) (w' : World) : Prop :=
  ∃ p own, e = .returned (.tuple #[.pointer (some ⟨p, 0, none⟩), .int .i64 0]) ∧ PAt w' own p s 0 ∧ Below W.heap.size W w' ∧ ∀ i, own i → W.heap.size ≤ i
/-- what Reader gives -/
def ReadF (PAt : PT) (W : World) (own : Nat → Prop) (p : Nat) (s : TS) (N q : Nat) (e : Ending) (w' : World) : Prop :=
  ∃ r, DidF PAt W own p { s with rd := some ⟨r, q, 0, 0, []⟩ } N (.tuple #[.pointer (some ⟨r, 0, none⟩), .int .i64 0]) e w'
theorem results_two {fn : Func} {p q : Tmp} (h : fn.results = #[.tmp p, .tmp q]) (tmps : Array Value) (P : Program) (w : World) : (results fn tmps).run P w = .ok (.tuple #[tmps.getD p undef, tmps.getD q undef]) w := by
  simp [results, h, go_sem]
theorem Held.num {W : World} {b : Nat} {t : TypeId} {l : List Int} (h : Held W b t (ints l)) {k : Nat} {v : Int} (hk : l[k]? = some v) : W.cell? ⟨b, k, none⟩ = some (.int .i64 v) := by
  rw [h.cell k, ints_get, hk]
  rfl
theorem Held.six {W : World} {b : Nat} {t : TypeId} {c : C6} (h : Held W b t (row6 c)) {k : Nat} (hk : k < 6) : W.cell? ⟨b, k, none⟩ = some (.int .u64 (c.get k)) := by
  rw [h.cell k, row6_get c hk]
/-- what lies somewhere stays, if what it owns stays -/
structure PtOk (P : PT) : Prop where
  on : ∀ {W W' : World} {own : Nat → Prop} {p : Nat} {s : TS} {N : Nat}, P W own p s N → (∀ i, own i → W'.heap[i]? = W.heap[i]?) → W.heap.size ≤ W'.heap.size → P W' own p s N
  lt : ∀ {W : World} {own : Nat → Prop} {p : Nat} {s : TS} {N : Nat}, P W own p s N → ∀ i, own i → i < W.heap.size
/-- no tally -/
def NoT : PT := fun _ own _ _ _ => ∀ i, ¬ own i
theorem NoT.pt : PtOk NoT := ⟨fun h _ _ => h, fun h i hi => absurd hi (h i)⟩
/-- a law's state: two tallies that lie apart, what the law holds in the blocks T -/
def Kept (T : Nat → Prop) (K : World → Prop) : Prop := ∀ X Y : World, K X → X.heap.size ≤ Y.heap.size → (∀ i, T i → Y.heap[i]? = X.heap[i]?) → K Y
structure St0 (P1 P2 : PT) (W0 W : World) (T : Nat → Prop) (K : World → Prop) (p1 : Nat) (s1 : TS) (N1 : Nat) (p2 : Nat) (s2 : TS) (N2 : Nat) (own own2 : Nat → Prop) : Prop where
  a1 : P1 W own p1 s1 N1
  a2 : P2 W own2 p2 s2 N2
  sep : ∀ i, own i → ¬ own2 i
  b1 : ∀ i, own i → W0.heap.size ≤ i
  b2 : ∀ i, own2 i → W0.heap.size ≤ i
  below : Below W0.heap.size W0 W
  free : ∀ i, T i → i < W.heap.size ∧ ¬ own i ∧ ¬ own2 i
  keep : K W
def St (P1 P2 : PT) (W0 W : World) (T : Nat → Prop) (K : World → Prop) (p1 : Nat) (s1 : TS) (N1 : Nat) (p2 : Nat) (s2 : TS) (N2 : Nat) : Prop := ∃ own own2, St0 P1 P2 W0 W T K p1 s1 N1 p2 s2 N2 own own2
section
variable {P1 P2 : PT} {W0 W W' : World} {T T' : Nat → Prop} {K K' : World → Prop} {p1 N1 p2 N2 : Nat} {s1 s2 : TS}
theorem St.symm (h : St P1 P2 W0 W T K p1 s1 N1 p2 s2 N2) : St P2 P1 W0 W T K p2 s2 N2 p1 s1 N1 := by
  obtain ⟨own, own2, h⟩ := h
  exact ⟨own2, own, h.a2, h.a1, fun i h2 h1 => h.sep i h1 h2, h.b2, h.b1, h.below, fun i hi => ⟨(h.free i hi).1, (h.free i hi).2.2, (h.free i hi).2.1⟩, h.keep⟩
theorem St.bel (h : St P1 P2 W0 W T K p1 s1 N1 p2 s2 N2) : Below W0.heap.size W0 W := by
  obtain ⟨own, own2, h⟩ := h
  exact h.below
theorem St.kp (h : St P1 P2 W0 W T K p1 s1 N1 p2 s2 N2) : K W := by
  obtain ⟨own, own2, h⟩ := h
  exact h.keep
/-- what is new is the law's own -/
theorem St.grow (o1 : PtOk P1) (o2 : PtOk P2) (h : St P1 P2 W0 W T K p1 s1 N1 p2 s2 N2) (hb : Below W.heap.size W W') (hT : ∀ i, T' i → T i ∨ (W.heap.size ≤ i ∧ i < W'.heap.size)) (hK : K' W') : St P1 P2 W0 W' T' K' p1 s1 N1 p2 s2 N2 := by
  obtain ⟨own, own2, h⟩ := h
  refine ⟨own, own2, o1.on h.a1 (fun i hi => hb.block i (o1.lt h.a1 i hi)) hb.size, o2.on h.a2 (fun i hi => hb.block i (o2.lt h.a2 i hi)) hb.size, h.sep, h.b1, h.b2, h.below.trans (hb.mono h.below.size), fun i hi => ?_, hK⟩
  rcases hT i hi with h1 | h1
  · exact ⟨Nat.lt_of_lt_of_le (h.free i h1).1 hb.size, (h.free i h1).2⟩
  · refine ⟨h1.2, fun h2 => ?_, fun h2 => ?_⟩
    · have := o1.lt h.a1 i h2
      omega
    · have := o2.lt h.a2 i h2
      omega
theorem St.on (o1 : PtOk P1) (o2 : PtOk P2) (hk : Kept T K) (h : St P1 P2 W0 W T K p1 s1 N1 p2 s2 N2) (hb : Below W.heap.size W W') : St P1 P2 W0 W' T K p1 s1 N1 p2 s2 N2 := by
  refine h.grow o1 o2 hb (fun i hi => .inl hi) ?_
  obtain ⟨own, own2, h⟩ := h
  exact hk W W' h.keep hb.size fun i hi => hb.block i (h.free i hi).1
theorem Kept.no (T : Nat → Prop) : Kept T (fun _ => True) := fun _ _ _ _ _ => trivial
/-- a call that changes the first of them -/
theorem St.step (o1 : PtOk P1) (o2 : PtOk P2) (hk : Kept T K) (h : St P1 P2 W0 W T K p1 s1 N1 p2 s2 N2) {f : Nat} {args : Array Value} {s' : TS} {N' : Nat} {v : Value}
    (hc : ∀ own, P1 W own p1 s1 N1 → Calls Try.prog f args W (DidF P1 W own p1 s' N' v)) : Calls Try.prog f args W fun e w' => e = .returned v ∧ St P1 P2 W0 w' T K p1 s' N' p2 s2 N2 := by
  obtain ⟨own, own2, h⟩ := h
  refine (hc own h.a1).mono ?_
  rintro e w' ⟨rfl, ⟨own', a, ho⟩, hF⟩
  have h2 : ∀ i, own2 i → w'.heap[i]? = W.heap[i]? := fun i hi => hF.block i (o2.lt h.a2 i hi) fun e => h.sep i e hi
  have hT : ∀ i, T i → w'.heap[i]? = W.heap[i]? := fun i hi => hF.block i (h.free i hi).1 (h.free i hi).2.1
  have hws := h.below.size
  refine ⟨rfl, own', own2, a, o2.on h.a2 h2 hF.size, fun i hi h3 => ?_, fun i hi => ?_, h.b2, ⟨hF.os.trans h.below.os, hF.tape.trans h.below.tape, hF.output.trans h.below.output, Nat.le_trans h.below.size hF.size, fun i hi => (hF.block i (Nat.lt_of_lt_of_le hi h.below.size) (fun e => by have := h.b1 i e; omega)).trans (h.below.block i hi)⟩, fun i hi => ?_, hk W w' h.keep hF.size hT⟩
  · rcases ho i hi with e | e
    · exact h.sep i e h3
    · have := o2.lt h.a2 i h3
      omega
  · rcases ho i hi with e | e
    · exact h.b1 i e
    · omega
  · have hf := h.free i hi
    refine ⟨Nat.lt_of_lt_of_le hf.1 hF.size, fun e => ?_, hf.2.2⟩
    rcases ho i e with e | e
    · exact hf.2.1 e
    · omega
end
/-- what the program does -/
structure PTally (P : PT) : Prop where
  pt : PtOk P
  ok : ∀ {W : World} {own : Nat → Prop} {p : Nat} {s : TS} {N : Nat}, P W own p s N → FitsT s N
  new_no : ∀ (n : Int), I64 n → okQ n = false → ∀ W : World, Calls Try.prog 11 #[.int .i64 n] W fun e w' => e = .returned (.tuple #[.pointer none, .int .i64 2]) ∧ Below W.heap.size W w'
  new_yes : ∀ (n : Int), okQ n = true → ∀ W : World, Calls Try.prog 11 #[.int .i64 n] W (NewF P W (zeroT n))
  opn : ∀ (W : World) (own : Nat → Prop) (p : Nat) (s : TS) (N : Nat) (q : Int), I64 q → N ≤ 1000000 → P W own p s N → Calls Try.prog 19 #[.pointer (some ⟨p, 0, none⟩), .int .i64 q] W (DidF P W own p (openS s q) (N + 2) (.int .i64 (openE s q)))
  add : ∀ (W : World) (own : Nat → Prop) (p : Nat) (s : TS) (N : Nat) (q f v : Int), I64 q → I64 f → (0 ≤ v ∧ v ≤ 4294967295) → N ≤ 1000000 → P W own p s N → Calls Try.prog 20 #[.pointer (some ⟨p, 0, none⟩), .int .i64 q, .int .i64 f, .int .u32 v] W (DidF P W own p (addS s q f v) N (.int .i64 (addE s q f)))
  shut : ∀ (W : World) (own : Nat → Prop) (p : Nat) (s : TS) (N : Nat) (q : Int), I64 q → N ≤ 1000000 → P W own p s N → Calls Try.prog 21 #[.pointer (some ⟨p, 0, none⟩), .int .i64 q] W (DidF P W own p (shutS s q) (N + 2) (.int .i64 (shutE s q)))
  note : ∀ (W : World) (own : Nat → Prop) (p : Nat) (s : TS) (N : Nat) (q : Int) (c : C6), I64 q → c.Fits → N ≤ 1000000 → P W own p s N → Calls Try.prog 22 #[.pointer (some ⟨p, 0, none⟩), .int .i64 q, cv c] W (DidF P W own p (noteS s q c) (N + 2) (.int .i64 (openE s q)))
  read : ∀ (W : World) (own : Nat → Prop) (p : Nat) (s : TS) (N : Nat) (q : Int), I64 q → N ≤ 1000000 → P W own p s N → Calls Try.prog 17 #[.pointer (some ⟨p, 0, none⟩), .int .i64 q] W (DidF P W own p s N (.tuple #[cv (readV s q), .int .i64 (openE s q)]))
  sum : ∀ (W : World) (own : Nat → Prop) (p : Nat) (s : TS) (N : Nat), N ≤ 1000000 → P W own p s N → Calls Try.prog 18 #[.pointer (some ⟨p, 0, none⟩)] W (DidF P W own p s N (.tuple #[cv (sumV s), .int .i64 (sumE s)]))
  reader_no : ∀ (W : World) (own : Nat → Prop) (p : Nat) (s : TS) (N : Nat) (q : Int), I64 q → hasQ s q = false → N ≤ 1000000 → P W own p s N → Calls Try.prog 13 #[.pointer (some ⟨p, 0, none⟩), .int .i64 q] W (DidF P W own p s N (.tuple #[.pointer none, .int .i64 2]))
  reader_yes : ∀ (W : World) (own : Nat → Prop) (p : Nat) (s : TS) (N k : Nat), k < s.s.length → s.rd = none → N ≤ 1000000 → P W own p s N → Calls Try.prog 13 #[.pointer (some ⟨p, 0, none⟩), .int .i64 (k : Int)] W (ReadF P W own p s N k)
  step : ∀ (W : World) (own : Nat → Prop) (p : Nat) (s : TS) (N : Nat) (R : RD), s.rd = some R → N ≤ 1000000 → P W own p s N → Calls Try.prog 14 #[.pointer (some ⟨R.r, 0, none⟩)] W (DidF P W own p { s with rd := some (stepR s R) } N (.tuple #[cv (stepV s R), .bool (stepOk s R), .int .i64 (stepE s R)]))
  nopn : ∀ (W : World) (q : Int), Calls Try.prog 19 #[.pointer none, .int .i64 q] W fun e w' => e = .returned (.int .i64 1) ∧ Below W.heap.size W w'
  nadd : ∀ (W : World) (q f v : Int), Calls Try.prog 20 #[.pointer none, .int .i64 q, .int .i64 f, .int .u32 v] W fun e w' => e = .returned (.int .i64 1) ∧ Below W.heap.size W w'
  nshut : ∀ (W : World) (q : Int), Calls Try.prog 21 #[.pointer none, .int .i64 q] W fun e w' => e = .returned (.int .i64 1) ∧ Below W.heap.size W w'
  nnote : ∀ (W : World) (q : Int) (c : C6), Calls Try.prog 22 #[.pointer none, .int .i64 q, cv c] W fun e w' => e = .returned (.int .i64 1) ∧ Below W.heap.size W w'
  nread : ∀ (W : World) (q : Int), Calls Try.prog 17 #[.pointer none, .int .i64 q] W fun e w' => e = .returned (.tuple #[cv zero6, .int .i64 1]) ∧ Below W.heap.size W w'
  nsum : ∀ (W : World), Calls Try.prog 18 #[.pointer none] W fun e w' => e = .returned (.tuple #[cv zero6, .int .i64 1]) ∧ Below W.heap.size W w'
  nreader : ∀ (W : World) (q : Int), Calls Try.prog 13 #[.pointer none, .int .i64 q] W fun e w' => e = .returned (.tuple #[.pointer none, .int .i64 1]) ∧ Below W.heap.size W w'
  nstep : ∀ (W : World), Calls Try.prog 14 #[.pointer none] W fun e w' => e = .returned (.tuple #[cv zero6, .bool false, .int .i64 1]) ∧ Below W.heap.size W w'
end Go.Proofs.Ytdhjdkhhhdcjdaa.Ta
end
/- The calls, as steps of a law's state; the law begun. Conditions: as the interface says. -/
section
namespace Go.Proofs.Ytdhjdkhhhdcjdaa.Ta
set_option linter.unusedSimpArgs false
set_option linter.unusedVariables false
set_option maxRecDepth 100000
open Go.ChangeShapes Go.WideShapes Go.ChangeAt Go.RowKit

theorem St.start (w : World) (s : TS) : St NoT NoT w w (fun _ => False) (fun _ => True) 0 s 0 0 s 0 :=
  ⟨fun _ => False, fun _ => False, fun _ h => h, fun _ h => h, fun _ h => h.elim, fun _ h => h.elim, fun _ h => h.elim, Below.refl _ _, fun _ h => h.elim, trivial⟩
section
variable {P1 P2 P : PT} {W0 W W' : World} {T T' : Nat → Prop} {K K' : World → Prop} {p1 N1 p2 N2 : Nat} {s1 s2 s : TS}
/-- the first of them is made -/
theorem St.made (o2 : PtOk P2) (hk : Kept T K) (h : St NoT P2 W0 W T K p1 s1 N1 p2 s2 N2) {f : Nat} {args : Array Value} (hc : Calls Try.prog f args W (NewF P W s)) : Calls Try.prog f args W fun e w' => ∃ p, e = .returned (.tuple #[.pointer (some ⟨p, 0, none⟩), .int .i64 0]) ∧ St P P2 W0 w' T K p s 0 p2 s2 N2 := by
  obtain ⟨own, own2, h⟩ := h
  refine hc.mono ?_
  rintro e w' ⟨p, own', rfl, hP, hb, hn⟩
  have hz := h.below.size
  refine ⟨p, rfl, own', own2, hP, o2.on h.a2 (fun i hi => hb.block i (o2.lt h.a2 i hi)) hb.size, fun i h1 h2 => ?_, fun i hi => by have := hn i hi; omega, h.b2, h.below.trans (hb.mono hz), fun i hi => ⟨Nat.lt_of_lt_of_le (h.free i hi).1 hb.size, fun e => ?_, (h.free i hi).2.2⟩, hk W w' h.keep hb.size fun i hi => hb.block i (h.free i hi).1⟩
  · have := hn i h1
    have := o2.lt h.a2 i h2
    omega
  · have := hn i e
    have := (h.free i hi).1
    omega
theorem St.newL (hP : PTally P) (o2 : PtOk P2) (hk : Kept T K) (h : St NoT P2 W0 W T K p1 s1 N1 p2 s2 N2) (n : Int) (ho : okQ n = true) : Calls Try.prog 11 #[.int .i64 n] W fun e w' => ∃ p, e = .returned (.tuple #[.pointer (some ⟨p, 0, none⟩), .int .i64 0]) ∧ St P P2 W0 w' T K p (zeroT n) 0 p2 s2 N2 :=
  h.made o2 hk (hP.new_yes n ho W)
theorem St.stepD (o1 : PtOk P1) (o2 : PtOk P2) (hk : Kept T K) {own own2 : Nat → Prop} (h : St0 P1 P2 W0 W T K p1 s1 N1 p2 s2 N2 own own2) {s' : TS} {N' : Nat} {v : Value} {e : Ending} {w' : World} (hd : DidF P1 W own p1 s' N' v e w') : e = .returned v ∧ St P1 P2 W0 w' T K p1 s' N' p2 s2 N2 := by
  obtain ⟨rfl, ⟨own', a, ho⟩, hF⟩ := hd
  have h2 : ∀ i, own2 i → w'.heap[i]? = W.heap[i]? := fun i hi => hF.block i (o2.lt h.a2 i hi) fun e => h.sep i e hi
  have hT : ∀ i, T i → w'.heap[i]? = W.heap[i]? := fun i hi => hF.block i (h.free i hi).1 (h.free i hi).2.1
  have hws := h.below.size
  refine ⟨rfl, own', own2, a, o2.on h.a2 h2 hF.size, fun i hi h3 => ?_, fun i hi => ?_, h.b2, ⟨hF.os.trans h.below.os, hF.tape.trans h.below.tape, hF.output.trans h.below.output, Nat.le_trans h.below.size hF.size, fun i hi => (hF.block i (Nat.lt_of_lt_of_le hi h.below.size) (fun e => by have := h.b1 i e; omega)).trans (h.below.block i hi)⟩, fun i hi => ?_, hk W w' h.keep hF.size hT⟩
  · rcases ho i hi with e | e
    · exact h.sep i e h3
    · have := o2.lt h.a2 i h3
      omega
  · rcases ho i hi with e | e
    · exact h.b1 i e
    · omega
  · have hf := h.free i hi
    refine ⟨Nat.lt_of_lt_of_le hf.1 hF.size, fun e => ?_, hf.2.2⟩
    rcases ho i e with e | e
    · exact hf.2.1 e
    · omega
/-- less is held from now on -/
theorem St.less (h : St P1 P2 W0 W T K p1 s1 N1 p2 s2 N2) (hT : ∀ i, T' i → T i) (hK : K W → K' W) : St P1 P2 W0 W T' K' p1 s1 N1 p2 s2 N2 := by
  obtain ⟨own, own2, h⟩ := h
  exact ⟨own, own2, h.a1, h.a2, h.sep, h.b1, h.b2, h.below, fun i hi => h.free i (hT i hi), hK h.keep⟩
theorem St.none (h : St P1 P2 W0 W T K p1 s1 N1 p2 s2 N2) : St P1 P2 W0 W (fun _ => False) (fun _ => True) p1 s1 N1 p2 s2 N2 := h.less (fun _ h => h.elim) fun _ => trivial
theorem Kept.box (hk : Kept T K) (b : Nat) (ty : TypeId) (cs : Array Value) : Kept (fun i => T i ∨ i = b) (fun X => K X ∧ Held X b ty cs) := fun X Y h hs hb =>
  ⟨hk X Y h.1 hs fun i hi => hb i (.inl hi), (hb b (.inr rfl)).trans h.2⟩
theorem St.box (o1 : PtOk P1) (o2 : PtOk P2) (hk : Kept T K) (O : St P1 P2 W0 W T K p1 s1 N1 p2 s2 N2) {b : Nat} {ty : TypeId} {cs : Array Value} (H : Mem W W' [(b, ty, cs)]) : St P1 P2 W0 W' (fun i => T i ∨ i = b) (fun X => K X ∧ Held X b ty cs) p1 s1 N1 p2 s2 N2 := by
  have hh := H.held _ List.mem_cons_self
  refine O.grow o1 o2 H.below (fun i hi => hi.imp id fun e => by rw [e]; exact ⟨hh.1, hh.2.lt⟩) ⟨?_, hh.2⟩
  obtain ⟨own, own2, h⟩ := O
  exact hk W W' h.keep H.below.size fun i hi => H.below.block i (h.free i hi).1
theorem pack_more (o1 : PtOk P1) (o2 : PtOk P2) (hk : Kept T K) (O : St P1 P2 W0 W T K p1 s1 N1 p2 s2 N2) {b : Nat} {ty : TypeId} {cs : Array Value} (H : Mem W W' [(b, ty, cs)]) :
    ∃ T' K', Kept T' K' ∧ (∀ X, K' X → K X ∧ Held X b ty cs) ∧ (∀ i, T i → T' i) ∧ St P1 P2 W0 W' T' K' p1 s1 N1 p2 s2 N2 :=
  ⟨_, _, hk.box b ty cs, fun X h => h, fun i hi => .inl hi, O.box o1 o2 hk H⟩
theorem St.facts (hP : PTally P) (h : St P P2 W0 W T K p1 s1 N1 p2 s2 N2) : FitsT s1 N1 := by
  obtain ⟨own, own2, h⟩ := h
  exact hP.ok h.a1
end
section
variable {P P2 : PT} (hP : PTally P) (o2 : PtOk P2) {W0 W : World} {T : Nat → Prop} {K : World → Prop} (hk : Kept T K) {p1 N1 p2 N2 : Nat} {s1 s2 : TS}
include hP o2 hk
theorem openL (h : St P P2 W0 W T K p1 s1 N1 p2 s2 N2) (hN : N1 ≤ 1000000) (q : Int) (hq : I64 q) : Calls Try.prog 19 #[.pointer (some ⟨p1, 0, none⟩), .int .i64 q] W fun e w' => e = .returned (.int .i64 (openE s1 q)) ∧ St P P2 W0 w' T K p1 (openS s1 q) (N1 + 2) p2 s2 N2 :=
  h.step hP.pt o2 hk fun own a1 => hP.opn W own p1 s1 N1 q hq hN a1
theorem addL (h : St P P2 W0 W T K p1 s1 N1 p2 s2 N2) (hN : N1 ≤ 1000000) (q f v : Int) (hq : I64 q) (hf : I64 f) (hv : 0 ≤ v ∧ v ≤ 4294967295) : Calls Try.prog 20 #[.pointer (some ⟨p1, 0, none⟩), .int .i64 q, .int .i64 f, .int .u32 v] W fun e w' => e = .returned (.int .i64 (addE s1 q f)) ∧ St P P2 W0 w' T K p1 (addS s1 q f v) N1 p2 s2 N2 :=
  h.step hP.pt o2 hk fun own a1 => hP.add W own p1 s1 N1 q f v hq hf hv hN a1
theorem shutL (h : St P P2 W0 W T K p1 s1 N1 p2 s2 N2) (hN : N1 ≤ 1000000) (q : Int) (hq : I64 q) : Calls Try.prog 21 #[.pointer (some ⟨p1, 0, none⟩), .int .i64 q] W fun e w' => e = .returned (.int .i64 (shutE s1 q)) ∧ St P P2 W0 w' T K p1 (shutS s1 q) (N1 + 2) p2 s2 N2 :=
  h.step hP.pt o2 hk fun own a1 => hP.shut W own p1 s1 N1 q hq hN a1
theorem noteL (h : St P P2 W0 W T K p1 s1 N1 p2 s2 N2) (hN : N1 ≤ 1000000) (q : Int) (c : C6) (hq : I64 q) (hc : c.Fits) : Calls Try.prog 22 #[.pointer (some ⟨p1, 0, none⟩), .int .i64 q, cv c] W fun e w' => e = .returned (.int .i64 (openE s1 q)) ∧ St P P2 W0 w' T K p1 (noteS s1 q c) (N1 + 2) p2 s2 N2 :=
  h.step hP.pt o2 hk fun own a1 => hP.note W own p1 s1 N1 q c hq hc hN a1
theorem readL (h : St P P2 W0 W T K p1 s1 N1 p2 s2 N2) (hN : N1 ≤ 1000000) (q : Int) (hq : I64 q) : Calls Try.prog 17 #[.pointer (some ⟨p1, 0, none⟩), .int .i64 q] W fun e w' => e = .returned (.tuple #[cv (readV s1 q), .int .i64 (openE s1 q)]) ∧ St P P2 W0 w' T K p1 s1 N1 p2 s2 N2 :=
  h.step hP.pt o2 hk fun own a1 => hP.read W own p1 s1 N1 q hq hN a1
theorem sumL (h : St P P2 W0 W T K p1 s1 N1 p2 s2 N2) (hN : N1 ≤ 1000000) : Calls Try.prog 18 #[.pointer (some ⟨p1, 0, none⟩)] W fun e w' => e = .returned (.tuple #[cv (sumV s1), .int .i64 (sumE s1)]) ∧ St P P2 W0 w' T K p1 s1 N1 p2 s2 N2 :=
  h.step hP.pt o2 hk fun own a1 => hP.sum W own p1 s1 N1 hN a1
theorem readerL_no (h : St P P2 W0 W T K p1 s1 N1 p2 s2 N2) (hN : N1 ≤ 1000000) (q : Int) (hq : I64 q) (hn : hasQ s1 q = false) : Calls Try.prog 13 #[.pointer (some ⟨p1, 0, none⟩), .int .i64 q] W fun e w' => e = .returned (.tuple #[.pointer none, .int .i64 2]) ∧ St P P2 W0 w' T K p1 s1 N1 p2 s2 N2 :=
  h.step hP.pt o2 hk fun own a1 => hP.reader_no W own p1 s1 N1 q hq hn hN a1
theorem stepL (h : St P P2 W0 W T K p1 s1 N1 p2 s2 N2) (hN : N1 ≤ 1000000) (R : RD) (hR : s1.rd = some R) : Calls Try.prog 14 #[.pointer (some ⟨R.r, 0, none⟩)] W fun e w' => e = .returned (.tuple #[cv (stepV s1 R), .bool (stepOk s1 R), .int .i64 (stepE s1 R)]) ∧ St P P2 W0 w' T K p1 { s1 with rd := some (stepR s1 R) } N1 p2 s2 N2 :=
  h.step hP.pt o2 hk fun own a1 => hP.step W own p1 s1 N1 R hR hN a1
theorem readerL (h : St P P2 W0 W T K p1 s1 N1 p2 s2 N2) (hN : N1 ≤ 1000000) (k : Nat) (hq : k < s1.s.length) (hr : s1.rd = none) : Calls Try.prog 13 #[.pointer (some ⟨p1, 0, none⟩), .int .i64 (k : Int)] W fun e w' => ∃ r, e = .returned (.tuple #[.pointer (some ⟨r, 0, none⟩), .int .i64 0]) ∧ St P P2 W0 w' T K p1 { s1 with rd := some ⟨r, k, 0, 0, []⟩ } N1 p2 s2 N2 := by
  obtain ⟨own, own2, h⟩ := h
  refine (hP.reader_yes W own p1 s1 N1 k hq hr hN h.a1).mono ?_
  rintro e w' ⟨r, hd⟩
  obtain ⟨q1, q2⟩ := St.stepD hP.pt o2 hk h hd
  exact ⟨r, q1, q2⟩
end
end Go.Proofs.Ytdhjdkhhhdcjdaa.Ta
end
/- What came in, opened: counters, acts of layer 12. Conditions: the types' shapes. -/
section
namespace Go.Proofs.Ytdhjdkhhhdcjdaa.Ta
set_option linter.unusedSimpArgs false
set_option linter.unusedVariables false
set_option maxRecDepth 100000
open Go.Joins Go.Deep Go.ChangeShapes Go.WideShapes Go.ChangeAt Go.RowKit

/-- an act -/
structure AX where
  d : Int
  q : Int
  f : Int
  v : Int
  c : C6
abbrev axC (x : AX) : List Value := [.int .i64 x.d, .int .i64 x.q, .int .i64 x.f, .int .u32 x.v, .int .u64 x.c.c0, .int .u64 x.c.c1, .int .u64 x.c.c2, .int .u64 x.c.c3, .int .u64 x.c.c4, .int .u64 x.c.c5]
abbrev axA (x : AX) : Array Value := (axC x).toArray
structure AX.Fits (x : AX) : Prop where
  d : I64 x.d
  q : I64 x.q
  f : I64 x.f
  v : 0 ≤ x.v ∧ x.v ≤ 4294967295
  c : x.c.Fits
instance : Inhabited AX := ⟨⟨0, 0, 0, 0, zero6⟩⟩
theorem axC_len (x : AX) : (axC x).length = 10 := rfl
theorem fits6 {a b c d e f : Int} (h0 : U64 a) (h1 : U64 b) (h2 : U64 c) (h3 : U64 d) (h4 : U64 e) (h5 : U64 f) : C6.Fits ⟨a, b, c, d, e, f⟩ := fun i hi => by
  match i, hi with
  | 0, _ => exact h0
  | 1, _ => exact h1
  | 2, _ => exact h2
  | 3, _ => exact h3
  | 4, _ => exact h4
  | 5, _ => exact h5
section
variable {H : Type} {enc : TypeId × Value → H} {P : Program} {w : World} {base : Nat} {spare : Nat → Bool} {held : Bool}
theorem el_counts (fuel : Nat) (cs : List Value) (x : DataW H × List MemPlace) (h : DataW.trod enc Try.prog w base spare held fuel 42 cs = some x) : ∃ c : C6, cs = cvCs c ∧ c.Fits := by
  obtain ⟨xs, m, _, _, hlen, hxl, hg⟩ := DataW.trod_struct Try.underlying42 h
  rw [show Try.prog.cellsOf 42 = 6 by kernel_rfl] at hlen
  match cs, hlen with
  | [c0, c1, c2, c3, c4, c5], _ =>
    match xs, hxl with
    | [y0, y1, y2, y3, y4, y5], _ =>
      obtain ⟨n0, e0, _, w0⟩ := DataW.trod_int Try.underlying40 (show DataW.trod enc Try.prog w base spare held m 40 [c0] = some y0 from hg 0 _ rfl)
      obtain ⟨n1, e1, _, w1⟩ := DataW.trod_int Try.underlying40 (show DataW.trod enc Try.prog w base spare held m 40 [c1] = some y1 from hg 1 _ rfl)
      obtain ⟨n2, e2, _, w2⟩ := DataW.trod_int Try.underlying40 (show DataW.trod enc Try.prog w base spare held m 40 [c2] = some y2 from hg 2 _ rfl)
      obtain ⟨n3, e3, _, w3⟩ := DataW.trod_int Try.underlying40 (show DataW.trod enc Try.prog w base spare held m 40 [c3] = some y3 from hg 3 _ rfl)
      obtain ⟨n4, e4, _, w4⟩ := DataW.trod_int Try.underlying40 (show DataW.trod enc Try.prog w base spare held m 40 [c4] = some y4 from hg 4 _ rfl)
      obtain ⟨n5, e5, _, w5⟩ := DataW.trod_int Try.underlying40 (show DataW.trod enc Try.prog w base spare held m 40 [c5] = some y5 from hg 5 _ rfl)
      simp at e0 e1 e2 e3 e4 e5
      subst e0 e1 e2 e3 e4 e5
      exact ⟨⟨n0, n1, n2, n3, n4, n5⟩, rfl, fits6 (bd_u64 w0) (bd_u64 w1) (bd_u64 w2) (bd_u64 w3) (bd_u64 w4) (bd_u64 w5)⟩
theorem open_counts {r : Reach} {b0 : Nat} {v : Value} {x : DataW H} {p : List MemPlace} (hv : Value.okWide Try.prog w r b0 42 v) (h : DataW.Trod enc Try.prog w base spare held 42 v x p) : ∃ c : C6, v = cv c ∧ c.Fits := by
  obtain ⟨cs, rfl, hsz⟩ := okWide_struct Try.underlying42 hv
  obtain ⟨l⟩ := cs
  obtain ⟨fuel, hf⟩ := h
  obtain ⟨q, e, hq⟩ := el_counts fuel l _ (by simpa [Value.cells] using hf)
  exact ⟨q, by rw [e], hq⟩
theorem el_act (fuel : Nat) (cs : List Value) (x : DataW H × List MemPlace) (h : DataW.trod enc Try.prog w base spare held fuel 44 cs = some x) : ∃ y : AX, cs = axC y ∧ y.Fits := by
  obtain ⟨xs, m, _, _, hlen, hxl, hg⟩ := DataW.trod_struct Try.underlying44 h
  rw [show Try.prog.cellsOf 44 = 10 by kernel_rfl] at hlen
  match cs, hlen with
  | [c0, c1, c2, c3, c4, c5, c6, c7, c8, c9], _ =>
    match xs, hxl with
    | [y0, y1, y2, y3, y4], _ =>
      obtain ⟨n0, e0, _, w0⟩ := DataW.trod_int Try.underlying3 (show DataW.trod enc Try.prog w base spare held m 3 [c0] = some y0 from hg 0 _ rfl)
      obtain ⟨n1, e1, _, w1⟩ := DataW.trod_int Try.underlying3 (show DataW.trod enc Try.prog w base spare held m 3 [c1] = some y1 from hg 1 _ rfl)
      obtain ⟨n2, e2, _, w2⟩ := DataW.trod_int Try.underlying3 (show DataW.trod enc Try.prog w base spare held m 3 [c2] = some y2 from hg 2 _ rfl)
      obtain ⟨n3, e3, _, w3⟩ := DataW.trod_int Try.underlying39 (show DataW.trod enc Try.prog w base spare held m 39 [c3] = some y3 from hg 3 _ rfl)
      obtain ⟨⟨a, b, c, d, f, g⟩, e4, g1⟩ := el_counts m [c4, c5, c6, c7, c8, c9] y4 (hg 4 _ rfl)
      simp at e0 e1 e2 e3
      subst e0 e1 e2 e3
      injection e4 with f0 e4
      injection e4 with f1 e4
      injection e4 with f2 e4
      injection e4 with f3 e4
      injection e4 with f4 e4
      injection e4 with f5 e4
      subst f0 f1 f2 f3 f4 f5
      exact ⟨⟨n0, n1, n2, n3, ⟨a, b, c, d, f, g⟩⟩, rfl, ⟨bd_i64 w0, bd_i64 w1, bd_i64 w2, bd_u32 w3, g1⟩⟩
/-- the acts of a slice -/
def ActsX (w : World) (A : Option Addr) (n : Nat) (xs : Nat → AX) : Prop := SliceAt w A n 10 axC AX.Fits xs
theorem open_acts12 {r : Reach} {b0 : Nat} {v : Value} {x : DataW H} {p : List MemPlace} (hv : Value.okWide Try.prog w r b0 22 v) (h : DataW.Trod enc Try.prog w base spare held 22 v x p) : ∃ A len cap xs, v = .slice A len cap ∧ len ≤ cap ∧ cap ≤ maxLen ∧ ActsX w A len xs :=
  open_sliceOf (m := 10) axC AX.Fits Try.underlying22 (by kernel_rfl) axC_len (by decide) el_act hv h
end
end Go.Proofs.Ytdhjdkhhhdcjdaa.Ta
end
/- The laws' own shown; two counters as values: are they the same. Conditions: as the interface says. -/
section
namespace Go.Proofs.Ytdhjdkhhhdcjdaa.Ta
set_option linter.unusedSimpArgs false
set_option linter.unusedVariables false
set_option maxRecDepth 100000
open Go.Joins Go.Deep Go.ChangeShapes Go.WideShapes Go.ChangeAt Go.RowKit

def T0 : Nat → Prop := fun _ => False
def K0 : World → Prop := fun _ => True
theorem kept0 : Kept T0 K0 := Kept.no _
def z0 : TS := ⟨[], [], none⟩
abbrev SN (P : PT) (W0 W : World) (T : Nat → Prop) (K : World → Prop) (p : Nat) (s : TS) (N : Nat) : Prop := St P NoT W0 W T K p s N 0 z0 0
theorem told {f : Nat} {args : Array Value} {W : World} {v v' : Value} {R R' : World → Prop} (h : Calls Try.prog f args W fun e w' => e = .returned v ∧ R w') (hv : v = v') (hR : ∀ w, R w → R' w) : Calls Try.prog f args W fun e w' => e = .returned v' ∧ R' w' :=
  h.mono fun e w' ⟨h1, h2⟩ => ⟨hv ▸ h1, hR w' h2⟩
theorem cInfo : (Try.prog.info? 42).map (·.size) = some 6 := by kernel_rfl
theorem c6_same (p q : C6) : ((p.c0 == q.c0) && ((p.c1 == q.c1) && ((p.c2 == q.c2) && ((p.c3 == q.c3) && ((p.c4 == q.c4) && (p.c5 == q.c5)))))) = decide (p = q) := by
  obtain ⟨a1, a2, a3, a4, a5, a6⟩ := p
  obtain ⟨b1, b2, b3, b4, b5, b6⟩ := q
  rw [Bool.eq_iff_iff]
  simp
theorem eq_c6 (p q : C6) (w : World) : (Op.equalIn 10000 42 (cv p) (cv q)).run Try.prog w = .ok (decide (p = q)) w := by
  rw [← c6_same]
  have key : ∀ (a b : Int) (d : Bool), (if a = b then Result.ok d w else Result.ok false w : Result Bool) = Result.ok ((a == b) && d) w := by
    intro a b d
    by_cases h : a = b <;> simp [h]
  have k1 : ∀ (a b : Int), (if a = b then Result.ok true w else Result.ok false w : Result Bool) = Result.ok (a == b) w := by
    intro a b
    by_cases h : a = b <;> simp [h]
  go_simp
section
variable {ops : Array Oper} {rest : List Oper} {o : Oper} {a : Act} {w : World} {Q : Exit → Act → World → Prop}
theorem wpList_eql {x y : Operand} {t : TypeId} {c d : C6} {r : Bool} (hw : Region.wanted o (yielded ops a.tmps) = true) (ho : o.op = .binOp .eql 42 x y t) (hx : opnd a x = some (cv c)) (hy : opnd a y = some (cv d)) (hr : decide (c = d) = r)
    (h : wpList Try.prog ops Q rest (a.put o.dst (.bool r)) w) : wpList Try.prog ops Q (o :: rest) a w := by
  refine wpList_wanted hw fun K hK => ?_
  unfold Oper.wp execOp
  simp only [ho, opnd_eval hx, opnd_eval hy, Sem.run_bind, Sem.run_pure, Result.andThen_ok]
  rw [run_eqGuard_agg _ _ _ _ _ _ _ (by kernel_rfl)]
  simp only [Result.andThen_ok]
  rw [run_eql_struct, eq_c6, hr]
  exact hK _ _ h
theorem wpList_neq {x y : Operand} {t : TypeId} {c d : C6} {r : Bool} (hw : Region.wanted o (yielded ops a.tmps) = true) (ho : o.op = .binOp .neq 42 x y t) (hx : opnd a x = some (cv c)) (hy : opnd a y = some (cv d)) (hr : decide (c = d) = r)
    (h : wpList Try.prog ops Q rest (a.put o.dst (.bool (!r))) w) : wpList Try.prog ops Q (o :: rest) a w := by
  refine wpList_wanted hw fun K hK => ?_
  unfold Oper.wp execOp
  simp only [ho, opnd_eval hx, opnd_eval hy, Sem.run_bind, Sem.run_pure, Result.andThen_ok]
  rw [run_eqGuard_agg _ _ _ _ _ _ _ (by kernel_rfl)]
  simp only [Result.andThen_ok]
  rw [run_neq_struct, eq_c6, hr]
  exact hK _ _ h
end
theorem yields_cellR {P : Program} {ops : Array Oper} {o : Oper} {a : Act} {R : World → Prop} {b j : Nat} {ty : TypeId} {x : Operand} {d : TypeDesc} {v : Value} (hR : ∀ w, R w → w.cell? ⟨b, j, none⟩ = some v) (hw : Region.wanted o (yielded ops a.tmps) = true) (ho : o.op = .load ty x) (hx : opnd a x = some (.pointer (some ⟨b, j, none⟩)))
    (hu : P.underlying ty = some d) (hd : (match d with | .struct _ | .array _ _ => true | _ => false) = false) : YieldsG P ops R o v a := by
  refine ⟨hw, fun w h => ?_, fun w => ?_⟩
  · have hc : w.cell? ⟨b, j, none⟩ = some v := hR w h
    have hagg : (isAgg ty).run P w = .ok false w := by
      unfold isAgg
      rw [Sem.run_bind, run_underlying hu w]
      cases d <;> simp_all
    unfold execOp
    simp only [ho, opnd_eval hx, Instr.loadAt, Instr.sureAddr, Sem.run_bind, Sem.run_pure, Result.andThen_ok, loadVar, hagg]
    simp [go_sem, hc]
  · unfold Oper.about
    rw [ho]
theorem yields_eql {ops : Array Oper} {o : Oper} {a : Act} {R : World → Prop} {x y : Operand} {t : TypeId} {p q : C6} {r : Bool} (hw : Region.wanted o (yielded ops a.tmps) = true) (ho : o.op = .binOp .eql 42 x y t) (hx : opnd a x = some (cv p)) (hy : opnd a y = some (cv q)) (hr : decide (p = q) = r) : YieldsG Try.prog ops R o (.bool r) a := by
  refine ⟨hw, fun w _ => ?_, fun w => ?_⟩
  · unfold execOp
    simp only [ho, opnd_eval hx, opnd_eval hy, Sem.run_bind, Sem.run_pure, Result.andThen_ok]
    rw [run_eqGuard_agg _ _ _ _ _ _ _ (by kernel_rfl)]
    simp only [Result.andThen_ok]
    rw [run_eql_struct, eq_c6, hr]
    rfl
  · unfold Oper.about
    rw [ho]
section
variable {P : PT}
theorem shown12 (hP : PTally P) (w : World) : Calls Try.prog 10 #[] w fun e w' => e = .returned (.bool true) ∧ Below w.heap.size w w' := by
  have H := Mem.start w
  have hk := kept0
  have O := Lib.hid (show St NoT NoT w w T0 K0 0 z0 0 0 z0 0 from St.start w z0)
  have HF := Lib.hid (fun (X : World) (_ : K0 X) => True.intro)
  go_enter Try.func10, Try.ntmps10
  go_upto_region 2 with (first
    | (go_at_call 11; refine (O.out.newL hP NoT.pt hk 2 (by decide)).mono ?_; rintro e w2 ⟨p, rfl, O2⟩; clear O H; have O := Lib.hid (show SN P w w2 T0 K0 p (zeroT 2) 0 from O2); clear O2; have H := Mem.start w2))
  go_upto_region 3 with (first
    | (go_at_call 22; refine (told (noteL hP NoT.pt hk O.out (by omega) 1 ⟨2, 0, 0, 0, 0, 0⟩ (by omega) (fits6 (by omega) (by omega) (by omega) (by omega) (by omega) (by omega))) (v' := .int .i64 0) (R' := fun w' => SN P w w' T0 K0 p (⟨[zero6, ⟨2, 0, 0, 0, 0, 0⟩], [0, 2], none⟩ : TS) 2) (rfl) (fun _ h => h)).mono ?_; rintro e w2 ⟨rfl, O2⟩; clear O H; have O := Lib.hid O2; clear O2; have H := Mem.start w2))
  go_upto_region 4 with (first
    | (go_at_call 17; refine (told (readL hP NoT.pt hk O.out (by omega) 1 (by omega)) (v' := .tuple #[cv ⟨2, 0, 0, 0, 0, 0⟩, .int .i64 0]) (R' := fun w' => SN P w w' T0 K0 p (⟨[zero6, ⟨2, 0, 0, 0, 0, 0⟩], [0, 2], none⟩ : TS) 2) (rfl) (fun _ h => h)).mono ?_; rintro e w2 ⟨rfl, O2⟩; clear O H; have O := Lib.hid O2; clear O2; have H := Mem.start w2)
    | ((with_reducible show wpList _ _ _ _ _ (World.alloc _ (.cells _ _))); refine mem_newb (l := []) H ?_; intro bx w3 hbk H2; try rw [← hbk]; clear hbk H; have H := H2; clear H2; simp only [List.cons_append, List.nil_append, List.set_cons_zero, List.set_cons_succ, List.setIfInBounds_toArray] at H)
    | ((with_reducible show wpList _ _ _ (⟨_, .store 42 _ _, _, _, _, _⟩ :: _) _ _); refine mem_store (i := 0) H (by first | exact wanted_none rfl | exact wanted_some rfl rfl rfl rfl) (by exact rfl) (by exact rfl) (by exact rfl) (by exact rfl) (by exact cInfo) (by exact rfl) (by exact rfl) ?_; intro w2 H2; clear H; have H := H2; clear H2; simp only [List.cons_append, List.nil_append, List.set_cons_zero, List.set_cons_succ, List.setIfInBounds_toArray] at H))
  obtain ⟨T1, K1, hk1, hK1, hT1, O1⟩ := pack_more hP.pt NoT.pt hk O.out H
  have F1 := Lib.hid (fun (X : World) (h : K1 X) => And.intro (hK1 X h).2 (HF.out X (hK1 X h).1))
  clear H O hk HF hK1 hT1
  have hk := hk1
  have O := Lib.hid O1
  have HF := F1
  clear hk1 O1 F1
  have H := True.intro
  go_upto_region 5 with (first
    | (go_at_call 19; refine (told (openL hP NoT.pt hk O.out (by omega) 1 (by omega)) (v' := .int .i64 0) (R' := fun w' => SN P w w' T1 K1 p (⟨[zero6, ⟨2, 0, 0, 0, 0, 0⟩], [0, 3], none⟩ : TS) 4) (rfl) (fun _ h => h)).mono ?_; rintro e w2 ⟨rfl, O2⟩; clear O H; have O := Lib.hid O2; clear O2; have H := Mem.start w2))
  go_upto_region 6 with (first
    | (go_at_call 18; refine (told (sumL hP NoT.pt hk O.out (by omega)  ) (v' := .tuple #[cv zero6, .int .i64 111]) (R' := fun w' => SN P w w' T1 K1 p (⟨[zero6, ⟨2, 0, 0, 0, 0, 0⟩], [0, 3], none⟩ : TS) 4) (rfl) (fun _ h => h)).mono ?_; rintro e w2 ⟨rfl, O2⟩; clear O H; have O := Lib.hid O2; clear O2; have H := Mem.start w2)
    | ((with_reducible show wpList _ _ _ _ _ (World.alloc _ (.cells _ _))); refine mem_newb (l := []) H ?_; intro bz w3 hbk H2; try rw [← hbk]; clear hbk H; have H := H2; clear H2; simp only [List.cons_append, List.nil_append, List.set_cons_zero, List.set_cons_succ, List.setIfInBounds_toArray] at H)
    | ((with_reducible show wpList _ _ _ (⟨_, .store 42 _ _, _, _, _, _⟩ :: _) _ _); refine mem_store (i := 0) H (by first | exact wanted_none rfl | exact wanted_some rfl rfl rfl rfl) (by exact rfl) (by exact rfl) (by exact rfl) (by exact rfl) (by exact cInfo) (by exact rfl) (by exact rfl) ?_; intro w2 H2; clear H; have H := H2; clear H2; simp only [List.cons_append, List.nil_append, List.set_cons_zero, List.set_cons_succ, List.setIfInBounds_toArray] at H))
  have O2 := St.on hP.pt NoT.pt hk O.out H.below
  clear H O
  have O := Lib.hid O2
  clear O2
  have H := True.intro
  go_upto_region 7 with (first
    | (go_at_call 11; refine (hP.new_no 0 (by omega) (by decide) _).mono ?_; rintro e w2 ⟨rfl, hb⟩; have O2 := St.on hP.pt NoT.pt hk O.out hb; clear O H hb; have O := Lib.hid O2; clear O2; have H := Mem.start w2))
  have g1 := (HF.out _ O.out.kp).1
  clear HF hk
  go_wp2_with (first
    | go_skip
    | ((with_reducible show wpList _ _ _ (⟨_, .load 42 _, _, _, _, _⟩ :: _) _ _); refine load_held g1 (by first | exact wanted_none rfl | exact wanted_some rfl rfl rfl rfl) (by exact rfl) (by exact rfl) Try.underlying42 rfl cInfo ?_)
    | ((with_reducible show wpList _ _ _ (⟨_, .binOp .eql 42 _ _ _, _, _, _, _⟩ :: _) _ _); refine wpList_eql (by first | exact wanted_none rfl | exact wanted_some rfl rfl rfl rfl) (by exact rfl) (by exact rfl) (by exact rfl) (r := true) (by decide) ?_))
  go_ret
  exact ⟨by simp, O.out.bel⟩
end
end Go.Proofs.Ytdhjdkhhhdcjdaa.Ta
end
