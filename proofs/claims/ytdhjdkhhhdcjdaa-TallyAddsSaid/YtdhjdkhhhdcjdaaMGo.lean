/-
  Cells, locks and counts as mathematics: what each call tells and leaves. Conditions: none. Where the document's cells lie; what reading them tells. Conditions: they lie where their pointer says. What the document's methods do in memory. Conditions: the cells lie where their pointer says. What the document's methods do in memory, the longer ones. Conditions: the cells lie where their pointer says. What the document's New makes. Conditions: none. What the program's cells do, as an interface; the document's; a law's state: two cells that lie apart. Conditions: as the interface says.
-/
import Derived.Test.YtdhjdkhhhdcjdaaRows
import Derived.Test.YtdhjdkhhhdcjdaaMGa
import Derived.Lib.Hide
import Derived.BigQuiet
import Derived.Deep.DeepCutAuto
import Derived.WalkKit
import Derived.ProofKit
/- Cells, locks and counts as mathematics: what each call tells and leaves. Conditions: none. -/
section
namespace Go.Proofs.Ytdhjdkhhhdcjdaa.Ce
set_option linter.unusedSimpArgs false
set_option linter.unusedVariables false
set_option maxRecDepth 100000
open Go.ChangeShapes Go.WideShapes Go.ChangeAt Go.RowKit

abbrev I64 (x : Int) : Prop := -9223372036854775808 ≤ x ∧ x ≤ 9223372036854775807
/-- cells, holders (and one more; 0: free), counts -/
structure CC where
  c : List Int
  l : List Int
  s : List Int
structure FitsC (s : CC) (N : Nat) : Prop where
  fc : ∀ v, v ∈ s.c → I64 v
  fl : ∀ v, v ∈ s.l → 0 ≤ v ∧ v ≤ 64
  fs : ∀ v, v ∈ s.s → 0 ≤ v ∧ v ≤ N
  cn : s.c.length ≤ 1000
  ln : s.l.length ≤ 1000
  sn : s.s.length ≤ 1000
def has (l : List Int) (i : Int) : Bool := decide (0 ≤ i) && decide (i < l.length)
def val (l : List Int) (i : Int) : Int := l.getD i.toNat 0
def put (l : List Int) (i v : Int) : List Int := l.set i.toNat v
def cellE (b : Bool) : Int := if b = true then 0 else 2
def loadV (s : CC) (i : Int) : Int := if has s.c i = true then val s.c i else 0
def storeS (s : CC) (i v : Int) : CC := if has s.c i = true then { s with c := put s.c i v } else s
def addV (s : CC) (i v : Int) : Int := if has s.c i = true then IntKind.i64.wrap (val s.c i + v) else 0
def addS (s : CC) (i v : Int) : CC := if has s.c i = true then { s with c := put s.c i (IntKind.i64.wrap (val s.c i + v)) } else s
def swapV (s : CC) (i o : Int) : Bool := has s.c i && decide (val s.c i = o)
def swapS (s : CC) (i o v : Int) : CC := if swapV s i o = true then { s with c := put s.c i v } else s
def actor (a : Int) : Bool := decide (0 ≤ a) && decide (a < 64)
def lockE (s : CC) (i a : Int) : Int := if (has s.l i && actor a) = false then 2 else if val s.l i = 0 then 0 else 110
def lockS (s : CC) (i a : Int) : CC := if lockE s i a = 0 then { s with l := put s.l i (a + 1) } else s
def unlockE (s : CC) (i a : Int) : Int := if (has s.l i && actor a) = false then 2 else if val s.l i = a + 1 then 0 else 110
def unlockS (s : CC) (i a : Int) : CC := if unlockE s i a = 0 then { s with l := put s.l i 0 } else s
def holder (s : CC) (i : Int) : Int := if has s.l i = true then val s.l i - 1 else -1
def stepE (s : CC) (i odd : Int) : Int := if has s.s i = false then 2 else if val s.s i % 2 = odd then 0 else 111
def stepS (s : CC) (i odd : Int) : CC := if stepE s i odd = 0 then { s with s := put s.s i (val s.s i + 1) } else s
def beginV (s : CC) (i : Int) : Int := if (has s.s i && decide (val s.s i % 2 = 0)) = true then val s.s i else 0
def beginE (s : CC) (i : Int) : Int := if has s.s i = false then 2 else if val s.s i % 2 = 0 then 0 else 111
def endV (s : CC) (i at' : Int) : Bool := has s.s i && decide (val s.s i = at')
def okNum (n : Int) : Bool := decide (0 ≤ n) && decide (n ≤ 1000)
def okNew (n m k : Int) : Bool := okNum n && okNum m && okNum k
def zeroC (n m k : Int) : CC := ⟨List.replicate n.toNat 0, List.replicate m.toNat 0, List.replicate k.toNat 0⟩
theorem has_at {l : List Int} {i : Int} (h : has l i = true) : ∃ k : Nat, i = k ∧ k < l.length ∧ l[k]? = some (val l i) := by
  simp only [has, Bool.and_eq_true, decide_eq_true_eq] at h
  refine ⟨i.toNat, by omega, by omega, ?_⟩
  rw [val, List.getD_eq_getElem?_getD, List.getElem?_eq_getElem (show i.toNat < l.length by omega)]
  rfl
theorem has_no {l : List Int} {i : Int} (h : has l i = false) (h0 : ¬ i < 0) : (l.length : Int) ≤ i := by
  simp only [has, Bool.and_eq_false_iff, decide_eq_false_iff_not] at h
  omega
theorem val_mem {l : List Int} {i : Int} (h : has l i = true) : val l i ∈ l := by
  obtain ⟨k, _, _, e⟩ := has_at h
  exact List.mem_of_getElem? e
theorem has_put (l : List Int) (i v j : Int) : has (put l i v) j = has l j := by simp [has, put]
theorem put_mem {l : List Int} {i v x : Int} (h : x ∈ put l i v) : x ∈ l ∨ x = v := List.mem_or_eq_of_mem_set h
theorem put_len (l : List Int) (i v : Int) : (put l i v).length = l.length := by simp [put]
theorem val_put {l : List Int} {i v : Int} (h : has l i = true) : val (put l i v) i = v := by
  obtain ⟨k, rfl, hk, _⟩ := has_at h
  simp [val, put, hk]
theorem val_other {l : List Int} {i j v : Int} (h : has l i = true) (hj : has l j = true) (hne : i ≠ j) : val (put l i v) j = val l j := by
  obtain ⟨k, rfl, hk, _⟩ := has_at h
  obtain ⟨m, rfl, hm, _⟩ := has_at hj
  have : k ≠ m := fun e => hne (by rw [e])
  simp [val, put, this]
theorem FitsC.mono {s : CC} {N M : Nat} (h : FitsC s N) (hM : N ≤ M) : FitsC s M := { h with fs := fun v hv => ⟨(h.fs v hv).1, by have := (h.fs v hv).2; omega⟩ }
theorem FitsC.putc {s : CC} {N : Nat} (h : FitsC s N) (i : Int) {v : Int} (hv : I64 v) : FitsC { s with c := put s.c i v } N :=
  { h with fc := fun x hx => (put_mem hx).elim (h.fc x) (fun e => by rw [e]; exact hv), cn := by rw [put_len]; exact h.cn }
theorem FitsC.putl {s : CC} {N : Nat} (h : FitsC s N) (i : Int) {v : Int} (hv : 0 ≤ v ∧ v ≤ 64) : FitsC { s with l := put s.l i v } N :=
  { h with fl := fun x hx => (put_mem hx).elim (h.fl x) (fun e => by rw [e]; exact hv), ln := by rw [put_len]; exact h.ln }
theorem FitsC.puts {s : CC} {N M : Nat} (h : FitsC s N) (hM : N ≤ M) (i : Int) {v : Int} (hv : 0 ≤ v ∧ v ≤ M) : FitsC { s with s := put s.s i v } M :=
  { h.mono hM with fs := fun x hx => (put_mem hx).elim ((h.mono hM).fs x) (fun e => by rw [e]; exact hv), sn := by rw [put_len]; exact h.sn }
theorem FitsC.zero (n m k : Int) (h : okNew n m k = true) : FitsC (zeroC n m k) 0 := by
  simp only [okNew, okNum, Bool.and_eq_true, decide_eq_true_eq] at h
  obtain ⟨⟨⟨h1, h2⟩, h3, h4⟩, h5, h6⟩ := h
  refine ⟨fun v hv => ?_, fun v hv => ?_, fun v hv => ?_, ?_, ?_, ?_⟩
  · rw [(List.mem_replicate.1 hv).2]; omega
  · rw [(List.mem_replicate.1 hv).2]; omega
  · rw [(List.mem_replicate.1 hv).2]; omega
  all_goals (simp [zeroC]; omega)
theorem wrap_i64 (x : Int) : I64 (IntKind.i64.wrap x) := by
  simp only [IntKind.wrap, IntKind.bits, IntKind.signed]
  constructor <;> (simp; omega)
theorem wrap_id {x : Int} (h1 : -9223372036854775808 ≤ x) (h2 : x ≤ 9223372036854775807) : IntKind.i64.wrap x = x := by
  simp [IntKind.wrap, IntKind.bits, IntKind.signed]
  omega
/-! numbers in a block -/
def ints (l : List Int) : Array Value := (l.map (Value.int .i64)).toArray
theorem ints_size (l : List Int) : (ints l).size = l.length := by simp [ints]
theorem ints_get (l : List Int) (k : Nat) : (ints l)[k]? = (l[k]?).map (Value.int .i64) := by simp [ints]
theorem ints_set (l : List Int) (k : Nat) (v : Int) : (ints l).setIfInBounds k (.int .i64 v) = ints (l.set k v) := by
  simp [ints, List.map_set]
theorem ints_zero (n : Nat) : ints (List.replicate n 0) = (List.replicate n (Value.int .i64 0)).toArray := by simp [ints]
end Go.Proofs.Ytdhjdkhhhdcjdaa.Ce
end
/- Where the document's cells lie; what reading them tells. Conditions: they lie where their pointer says. -/
section
namespace Go.Proofs.Ytdhjdkhhhdcjdaa.Ce
set_option linter.unusedSimpArgs false
set_option linter.unusedVariables false
set_option maxRecDepth 100000
open Go.ChangeShapes Go.WideShapes Go.ChangeAt Go.RowKit

abbrev PT := World → (Nat → Prop) → Nat → CC → Nat → Prop
abbrev sl (b : Nat) (l : List Int) : Value := .slice (some ⟨b, 0, none⟩) l.length l.length
/-- what a method does -/
def DidF (PAt : PT) (W : World) (own : Nat → Prop) (p : Nat) (s' : CC) (N : Nat) (v : Value) (e : Ending) (w' : World) : Prop :=
  e = .returned v ∧ (∃ own', PAt w' own' p s' N ∧ ∀ i, own' i → own i ∨ W.heap.size ≤ i) ∧ Foot own W w'
/-- what New gives -/
def NewF (PAt : PT) (W : World) (s : CC) (e : Ending) (w' : World) : Prop :=
  ∃ p own, e = .returned (.tuple #[.pointer (some ⟨p, 0, none⟩), .int .i64 0]) ∧ PAt w' own p s 0 ∧ Below W.heap.size W w' ∧ ∀ i, own i → W.heap.size ≤ i
theorem results_two {fn : Func} {p q : Tmp} (h : fn.results = #[.tmp p, .tmp q]) (tmps : Array Value) (P : Program) (w : World) : (results fn tmps).run P w = .ok (.tuple #[tmps.getD p undef, tmps.getD q undef]) w := by
  simp [results, h, go_sem]
section
variable {W W' : World} {own : Nat → Prop} {p bc bl bs N : Nat} {s : CC}
theorem Held.num {b : Nat} {t : TypeId} {l : List Int} (h : Held W b t (ints l)) {k : Nat} {v : Int} (hk : l[k]? = some v) : W.cell? ⟨b, k, none⟩ = some (.int .i64 v) := by
  rw [h.cell k, ints_get, hk]
  rfl
end
end Go.Proofs.Ytdhjdkhhhdcjdaa.Ce
end
/- What the document's methods do in memory. Conditions: the cells lie where their pointer says. -/
section
namespace Go.Proofs.Ytdhjdkhhhdcjdaa.Ce
set_option linter.unusedSimpArgs false
set_option linter.unusedVariables false
set_option maxRecDepth 100000
open Go.ChangeShapes Go.WideShapes Go.ChangeAt Go.RowKit

end Go.Proofs.Ytdhjdkhhhdcjdaa.Ce
end
/- What the document's methods do in memory, the longer ones. Conditions: the cells lie where their pointer says. -/
section
namespace Go.Proofs.Ytdhjdkhhhdcjdaa.Ce
set_option linter.unusedSimpArgs false
set_option linter.unusedVariables false
set_option maxRecDepth 100000
open Go.ChangeShapes Go.WideShapes Go.ChangeAt Go.RowKit

section
variable {F : Fence} {n : Nat} {P : Program} {o : Oper} {a : Act} {w : World} {Q : Exit → Act → World → Prop}
/-- a cell that was there is written, as an operation alone -/
theorem wpIn_store_old {b j : Nat} {ty : TypeId} {x y : Operand} {v v0 : Value} {K : Act → World → Prop} (hc : w.cell? ⟨b, j, none⟩ = some v0) (hf : w.frozen? ⟨b, j, none⟩ = false) (ho : o.op = .store ty x y) (hx : opnd a x = some (.pointer (some ⟨b, j, none⟩))) (hy : opnd a y = some v)
    (hi : (P.info? ty).map (·.size) = some 1) (h1 : v.oneCell' = true) (h : K (a.put o.dst undef) (w.setCell ⟨b, j, none⟩ v)) : o.wpIn F n P a w K Q := by
  refine ⟨by simp [Oper.about, ho], ?_⟩
  rw [Oper.semAt_plain F _ _ (by rw [ho]; intro c hc'; cases hc')]
  have hcs : v.cells = #[v] := by cases v <;> first | rfl | cases h1
  have hst : (storeVar ty ⟨b, j, none⟩ v).run P w = .ok () (w.setCell ⟨b, j, none⟩ v) := by
    cases hq : P.info? ty with
    | none => simp [hq] at hi
    | some i =>
      have hs : i.size = 1 := by simpa [hq] using hi
      simp [storeVar, sizeOf, typeInfo, hq, hcs, hs, storeCells, Addr.add_mid, run_store P w _ v _ h1, hc, hf]
  unfold execOp
  simp only [ho, opnd_eval hx, opnd_eval hy, Instr.storeAt, Instr.sureAddr, Sem.run_bind, Sem.run_pure, Result.andThen_ok, hst]
  exact h
end
theorem DidF.pre {P : PT} {W W1 w' : World} {own : Nat → Prop} {p N : Nat} {s : CC} {v : Value} {e : Ending} (hb : Below W.heap.size W W1) (h : DidF P W1 own p s N v e w') : DidF P W own p s N v e w' :=
  ⟨h.1, (by obtain ⟨o, a, b⟩ := h.2.1; exact ⟨o, a, fun i hi => (b i hi).imp id fun e => Nat.le_trans hb.size e⟩), (Foot.of_below hb).trans' h.2.2⟩
theorem i64Info : (Try.prog.info? 2).map (·.size) = some 1 := by kernel_rfl
end Go.Proofs.Ytdhjdkhhhdcjdaa.Ce
end
/- What the document's New makes. Conditions: none. -/
section
namespace Go.Proofs.Ytdhjdkhhhdcjdaa.Ce
set_option linter.unusedSimpArgs false
set_option linter.unusedVariables false
set_option maxRecDepth 100000
open Go.ChangeShapes Go.WideShapes Go.ChangeAt Go.RowKit

theorem infoI64 : (Try.prog.info? 2).map (fun i => (i.zero, i.size, i.bytes)) = some (some (.int .i64 0), 1, 8) := by kernel_rfl
theorem infoInt : (Try.prog.info? 3).map (fun i => (i.zero, i.size, i.bytes)) = some (some (.int .i64 0), 1, 8) := by kernel_rfl
theorem made_ints (n : Nat) : madeCells (Value.int .i64 0).cells n = ints (List.replicate n 0) := by
  rw [ints_zero]
  apply Array.ext
  · simp [madeCells, Value.cells]
  · intro i h1 h2
    simp [madeCells, Value.cells, Nat.mod_one]
theorem make_i64 (W : World) (n : Nat) (hn : n ≤ 4096) : (Instr.makeSlice 68 (.int .i64 n) (.int .i64 n)).run Try.prog W = .ok (.slice (some ⟨W.heap.size, 0, none⟩) n n) (W.alloc (.cells (ints (List.replicate n 0)) 2)) := by
  obtain ⟨i0, hi, hz0, hz1, hz2⟩ := info_parts infoI64
  have h := run_makeSlice (P := Try.prog) W 68 2 i0 _ Try.underlying68 hi hz0 .i64 .i64 n n (by omega) (by omega) (by rw [hz1]; omega) (by rw [hz2]; omega) (by omega)
  rw [hz1] at h
  simp only [Int.toNat_natCast, Nat.mul_one] at h
  rw [made_ints] at h
  exact h
theorem make_int (W : World) (n : Nat) (hn : n ≤ 4096) : (Instr.makeSlice 87 (.int .i64 n) (.int .i64 n)).run Try.prog W = .ok (.slice (some ⟨W.heap.size, 0, none⟩) n n) (W.alloc (.cells (ints (List.replicate n 0)) 3)) := by
  obtain ⟨i0, hi, hz0, hz1, hz2⟩ := info_parts infoInt
  have h := run_makeSlice (P := Try.prog) W 87 3 i0 _ Try.underlying87 hi hz0 .i64 .i64 n n (by omega) (by omega) (by rw [hz1]; omega) (by rw [hz2]; omega) (by omega)
  rw [hz1] at h
  simp only [Int.toNat_natCast, Nat.mul_one] at h
  rw [made_ints] at h
  exact h
section
variable {F : Fence} {n : Nat} {P : Program} {o : Oper} {a : Act} {w : World} {Q : Exit → Act → World → Prop}
theorem wpIn_make {ty : TypeId} {x y : Operand} {v u r : Value} {w' : World} {K : Act → World → Prop} (ho : o.op = .makeSlice ty x y) (hx : opnd a x = some v) (hy : opnd a y = some u) (hm : (Instr.makeSlice ty v u).run P w = .ok r w') (h : K (a.put o.dst r) w') : o.wpIn F n P a w K Q := by
  refine ⟨by simp [Oper.about, ho], ?_⟩
  rw [Oper.semAt_plain F _ _ (by rw [ho]; intro c hc'; cases hc')]
  unfold execOp
  simp only [ho, opnd_eval hx, opnd_eval hy, Sem.run_bind, Sem.run_pure, Result.andThen_ok, hm]
  exact h
end
end Go.Proofs.Ytdhjdkhhhdcjdaa.Ce
end
/- What the program's cells do, as an interface; the document's; a law's state: two cells that lie apart. Conditions: as the interface says. -/
section
namespace Go.Proofs.Ytdhjdkhhhdcjdaa.Ce
set_option linter.unusedSimpArgs false
set_option linter.unusedVariables false
set_option maxRecDepth 100000
open Go.ChangeShapes Go.WideShapes Go.ChangeAt Go.RowKit

/-- what lies somewhere stays, if what it owns stays -/
structure PtOk (P : PT) : Prop where
  on : ∀ {W W' : World} {own : Nat → Prop} {p : Nat} {s : CC} {N : Nat}, P W own p s N → (∀ i, own i → W'.heap[i]? = W.heap[i]?) → W.heap.size ≤ W'.heap.size → P W' own p s N
  lt : ∀ {W : World} {own : Nat → Prop} {p : Nat} {s : CC} {N : Nat}, P W own p s N → ∀ i, own i → i < W.heap.size
/-- no cells -/
def NoT : PT := fun _ own _ _ _ => ∀ i, ¬ own i
theorem NoT.pt : PtOk NoT := ⟨fun h _ _ => h, fun h i hi => absurd hi (h i)⟩
/-- a law's state: two cells that lie apart, what the law holds in the blocks T -/
def Kept (T : Nat → Prop) (K : World → Prop) : Prop := ∀ X Y : World, K X → X.heap.size ≤ Y.heap.size → (∀ i, T i → Y.heap[i]? = X.heap[i]?) → K Y
structure St0 (P1 P2 : PT) (W0 W : World) (T : Nat → Prop) (K : World → Prop) (p1 : Nat) (s1 : CC) (N1 : Nat) (p2 : Nat) (s2 : CC) (N2 : Nat) (own own2 : Nat → Prop) : Prop where
  a1 : P1 W own p1 s1 N1
  a2 : P2 W own2 p2 s2 N2
  sep : ∀ i, own i → ¬ own2 i
  b1 : ∀ i, own i → W0.heap.size ≤ i
  b2 : ∀ i, own2 i → W0.heap.size ≤ i
  below : Below W0.heap.size W0 W
  free : ∀ i, T i → i < W.heap.size ∧ ¬ own i ∧ ¬ own2 i
  keep : K W
def St (P1 P2 : PT) (W0 W : World) (T : Nat → Prop) (K : World → Prop) (p1 : Nat) (s1 : CC) (N1 : Nat) (p2 : Nat) (s2 : CC) (N2 : Nat) : Prop := ∃ own own2, St0 P1 P2 W0 W T K p1 s1 N1 p2 s2 N2 own own2
section
variable {P1 P2 : PT} {W0 W W' : World} {T T' : Nat → Prop} {K K' : World → Prop} {p1 N1 p2 N2 : Nat} {s1 s2 : CC}
theorem St.symm (h : St P1 P2 W0 W T K p1 s1 N1 p2 s2 N2) : St P2 P1 W0 W T K p2 s2 N2 p1 s1 N1 := by
  obtain ⟨own, own2, h⟩ := h
  exact ⟨own2, own, h.a2, h.a1, fun i h2 h1 => h.sep i h1 h2, h.b2, h.b1, h.below, fun i hi => ⟨(h.free i hi).1, (h.free i hi).2.2, (h.free i hi).2.1⟩, h.keep⟩
theorem St.bel (h : St P1 P2 W0 W T K p1 s1 N1 p2 s2 N2) : Below W0.heap.size W0 W := by
  obtain ⟨own, own2, h⟩ := h
  exact h.below
theorem St.kp (h : St P1 P2 W0 W T K p1 s1 N1 p2 s2 N2) : K W := by
  obtain ⟨own, own2, h⟩ := h
  exact h.keep
/-- what is new is the law's own -/
theorem St.grow (o1 : PtOk P1) (o2 : PtOk P2) (h : St P1 P2 W0 W T K p1 s1 N1 p2 s2 N2) (hb : Below W.heap.size W W') (hT : ∀ i, T' i → T i ∨ (W.heap.size ≤ i ∧ i < W'.heap.size)) (hK : K' W') : St P1 P2 W0 W' T' K' p1 s1 N1 p2 s2 N2 := by
  obtain ⟨own, own2, h⟩ := h
  refine ⟨own, own2, o1.on h.a1 (fun i hi => hb.block i (o1.lt h.a1 i hi)) hb.size, o2.on h.a2 (fun i hi => hb.block i (o2.lt h.a2 i hi)) hb.size, h.sep, h.b1, h.b2, h.below.trans (hb.mono h.below.size), fun i hi => ?_, hK⟩
  rcases hT i hi with h1 | h1
  · exact ⟨Nat.lt_of_lt_of_le (h.free i h1).1 hb.size, (h.free i h1).2⟩
  · refine ⟨h1.2, fun h2 => ?_, fun h2 => ?_⟩
    · have := o1.lt h.a1 i h2
      omega
    · have := o2.lt h.a2 i h2
      omega
theorem St.on (o1 : PtOk P1) (o2 : PtOk P2) (hk : Kept T K) (h : St P1 P2 W0 W T K p1 s1 N1 p2 s2 N2) (hb : Below W.heap.size W W') : St P1 P2 W0 W' T K p1 s1 N1 p2 s2 N2 := by
  refine h.grow o1 o2 hb (fun i hi => .inl hi) ?_
  obtain ⟨own, own2, h⟩ := h
  exact hk W W' h.keep hb.size fun i hi => hb.block i (h.free i hi).1
theorem Kept.no (T : Nat → Prop) : Kept T (fun _ => True) := fun _ _ _ _ _ => trivial
/-- a call that changes the first of them -/
theorem St.step (o1 : PtOk P1) (o2 : PtOk P2) (hk : Kept T K) (h : St P1 P2 W0 W T K p1 s1 N1 p2 s2 N2) {f : Nat} {args : Array Value} {s' : CC} {N' : Nat} {v : Value}
    (hc : ∀ own, P1 W own p1 s1 N1 → Calls Try.prog f args W (DidF P1 W own p1 s' N' v)) : Calls Try.prog f args W fun e w' => e = .returned v ∧ St P1 P2 W0 w' T K p1 s' N' p2 s2 N2 := by
  obtain ⟨own, own2, h⟩ := h
  refine (hc own h.a1).mono ?_
  rintro e w' ⟨rfl, ⟨own', a, ho⟩, hF⟩
  have h2 : ∀ i, own2 i → w'.heap[i]? = W.heap[i]? := fun i hi => hF.block i (o2.lt h.a2 i hi) fun e => h.sep i e hi
  have hT : ∀ i, T i → w'.heap[i]? = W.heap[i]? := fun i hi => hF.block i (h.free i hi).1 (h.free i hi).2.1
  have hws := h.below.size
  refine ⟨rfl, own', own2, a, o2.on h.a2 h2 hF.size, fun i hi h3 => ?_, fun i hi => ?_, h.b2, ⟨hF.os.trans h.below.os, hF.tape.trans h.below.tape, hF.output.trans h.below.output, Nat.le_trans h.below.size hF.size, fun i hi => (hF.block i (Nat.lt_of_lt_of_le hi h.below.size) (fun e => by have := h.b1 i e; omega)).trans (h.below.block i hi)⟩, fun i hi => ?_, hk W w' h.keep hF.size hT⟩
  · rcases ho i hi with e | e
    · exact h.sep i e h3
    · have := o2.lt h.a2 i h3
      omega
  · rcases ho i hi with e | e
    · exact h.b1 i e
    · omega
  · have hf := h.free i hi
    refine ⟨Nat.lt_of_lt_of_le hf.1 hF.size, fun e => ?_, hf.2.2⟩
    rcases ho i e with e | e
    · exact hf.2.1 e
    · omega
end
end Go.Proofs.Ytdhjdkhhhdcjdaa.Ce
end
