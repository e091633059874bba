/-
  Cells, locks and counts as mathematics: what each call tells and leaves. Conditions: none. Where the document's cells lie; what reading them tells. Conditions: they lie where their pointer says. What the document's methods do in memory. Conditions: the cells lie where their pointer says. What the document's methods do in memory, the longer ones. Conditions: the cells lie where their pointer says.
-/
import Derived.Test.YtoajgaljccaccaaRows
import Derived.Test.YtoajgaljccaccaaMGa
import Derived.Lib.Hide
import Derived.BigQuiet
import Derived.Deep.DeepCutAuto
import Derived.WalkKit
import Derived.ProofKit
/- Cells, locks and counts as mathematics: what each call tells and leaves. Conditions: none. -/
section
namespace Go.Proofs.Ytoajgaljccaccaa.Ce
set_option linter.unusedSimpArgs false
set_option linter.unusedVariables false
set_option maxRecDepth 100000
open Go.ChangeShapes Go.WideShapes Go.ChangeAt Go.RowKit

abbrev I64 (x : Int) : Prop := -9223372036854775808 ≤ x ∧ x ≤ 9223372036854775807
/-- cells, holders (and one more; 0: free), counts -/
structure CC where
  c : List Int
  l : List Int
  s : List Int
structure FitsC (s : CC) (N : Nat) : Prop where
  fc : ∀ v, v ∈ s.c → I64 v
  fl : ∀ v, v ∈ s.l → 0 ≤ v ∧ v ≤ 64
  fs : ∀ v, v ∈ s.s → 0 ≤ v ∧ v ≤ N
  cn : s.c.length ≤ 1000
  ln : s.l.length ≤ 1000
  sn : s.s.length ≤ 1000
def has (l : List Int) (i : Int) : Bool := decide (0 ≤ i) && decide (i < l.length)
def val (l : List Int) (i : Int) : Int := l.getD i.toNat 0
def put (l : List Int) (i v : Int) : List Int := l.set i.toNat v
def cellE (b : Bool) : Int := if b = true then 0 else 2
def loadV (s : CC) (i : Int) : Int := if has s.c i = true then val s.c i else 0
def storeS (s : CC) (i v : Int) : CC := if has s.c i = true then { s with c := put s.c i v } else s
def addV (s : CC) (i v : Int) : Int := if has s.c i = true then IntKind.i64.wrap (val s.c i + v) else 0
def addS (s : CC) (i v : Int) : CC := if has s.c i = true then { s with c := put s.c i (IntKind.i64.wrap (val s.c i + v)) } else s
def swapV (s : CC) (i o : Int) : Bool := has s.c i && decide (val s.c i = o)
def swapS (s : CC) (i o v : Int) : CC := if swapV s i o = true then { s with c := put s.c i v } else s
def actor (a : Int) : Bool := decide (0 ≤ a) && decide (a < 64)
def lockE (s : CC) (i a : Int) : Int := if (has s.l i && actor a) = false then 2 else if val s.l i = 0 then 0 else 110
def lockS (s : CC) (i a : Int) : CC := if lockE s i a = 0 then { s with l := put s.l i (a + 1) } else s
def unlockE (s : CC) (i a : Int) : Int := if (has s.l i && actor a) = false then 2 else if val s.l i = a + 1 then 0 else 110
def unlockS (s : CC) (i a : Int) : CC := if unlockE s i a = 0 then { s with l := put s.l i 0 } else s
def holder (s : CC) (i : Int) : Int := if has s.l i = true then val s.l i - 1 else -1
def stepE (s : CC) (i odd : Int) : Int := if has s.s i = false then 2 else if val s.s i % 2 = odd then 0 else 111
def stepS (s : CC) (i odd : Int) : CC := if stepE s i odd = 0 then { s with s := put s.s i (val s.s i + 1) } else s
def beginV (s : CC) (i : Int) : Int := if (has s.s i && decide (val s.s i % 2 = 0)) = true then val s.s i else 0
def beginE (s : CC) (i : Int) : Int := if has s.s i = false then 2 else if val s.s i % 2 = 0 then 0 else 111
def endV (s : CC) (i at' : Int) : Bool := has s.s i && decide (val s.s i = at')
def okNum (n : Int) : Bool := decide (0 ≤ n) && decide (n ≤ 1000)
def okNew (n m k : Int) : Bool := okNum n && okNum m && okNum k
def zeroC (n m k : Int) : CC := ⟨List.replicate n.toNat 0, List.replicate m.toNat 0, List.replicate k.toNat 0⟩
theorem has_at {l : List Int} {i : Int} (h : has l i = true) : ∃ k : Nat, i = k ∧ k < l.length ∧ l[k]? = some (val l i) := by
  simp only [has, Bool.and_eq_true, decide_eq_true_eq] at h
  refine ⟨i.toNat, by omega, by omega, ?_⟩
  rw [val, List.getD_eq_getElem?_getD, List.getElem?_eq_getElem (show i.toNat < l.length by omega)]
  rfl
theorem has_no {l : List Int} {i : Int} (h : has l i = false) (h0 : ¬ i < 0) : (l.length : Int) ≤ i := by
  simp only [has, Bool.and_eq_false_iff, decide_eq_false_iff_not] at h
  omega
theorem val_mem {l : List Int} {i : Int} (h : has l i = true) : val l i ∈ l := by
  obtain ⟨k, _, _, e⟩ := has_at h
  exact List.mem_of_getElem? e
theorem has_put (l : List Int) (i v j : Int) : has (put l i v) j = has l j := by simp [has, put]
theorem put_mem {l : List Int} {i v x : Int} (h : x ∈ put l i v) : x ∈ l ∨ x = v := List.mem_or_eq_of_mem_set h
theorem put_len (l : List Int) (i v : Int) : (put l i v).length = l.length := by simp [put]
theorem val_put {l : List Int} {i v : Int} (h : has l i = true) : val (put l i v) i = v := by
  obtain ⟨k, rfl, hk, _⟩ := has_at h
  simp [val, put, hk]
theorem val_other {l : List Int} {i j v : Int} (h : has l i = true) (hj : has l j = true) (hne : i ≠ j) : val (put l i v) j = val l j := by
  obtain ⟨k, rfl, hk, _⟩ := has_at h
  obtain ⟨m, rfl, hm, _⟩ := has_at hj
  have : k ≠ m := fun e => hne (by rw [e])
  simp [val, put, this]
theorem FitsC.mono {s : CC} {N M : Nat} (h : FitsC s N) (hM : N ≤ M) : FitsC s M := { h with fs := fun v hv => ⟨(h.fs v hv).1, by have := (h.fs v hv).2; omega⟩ }
theorem FitsC.putc {s : CC} {N : Nat} (h : FitsC s N) (i : Int) {v : Int} (hv : I64 v) : FitsC { s with c := put s.c i v } N :=
  { h with fc := fun x hx => (put_mem hx).elim (h.fc x) (fun e => by rw [e]; exact hv), cn := by rw [put_len]; exact h.cn }
theorem FitsC.putl {s : CC} {N : Nat} (h : FitsC s N) (i : Int) {v : Int} (hv : 0 ≤ v ∧ v ≤ 64) : FitsC { s with l := put s.l i v } N :=
  { h with fl := fun x hx => (put_mem hx).elim (h.fl x) (fun e => by rw [e]; exact hv), ln := by rw [put_len]; exact h.ln }
theorem FitsC.puts {s : CC} {N M : Nat} (h : FitsC s N) (hM : N ≤ M) (i : Int) {v : Int} (hv : 0 ≤ v ∧ v ≤ M) : FitsC { s with s := put s.s i v } M :=
  { h.mono hM with fs := fun x hx => (put_mem hx).elim ((h.mono hM).fs x) (fun e => by rw [e]; exact hv), sn := by rw [put_len]; exact h.sn }
theorem FitsC.zero (n m k : Int) (h : okNew n m k = true) : FitsC (zeroC n m k) 0 := by
  simp only [okNew, okNum, Bool.and_eq_true, decide_eq_true_eq] at h
  obtain ⟨⟨⟨h1, h2⟩, h3, h4⟩, h5, h6⟩ := h
  refine ⟨fun v hv => ?_, fun v hv => ?_, fun v hv => ?_, ?_, ?_, ?_⟩
  · rw [(List.mem_replicate.1 hv).2]; omega
  · rw [(List.mem_replicate.1 hv).2]; omega
  · rw [(List.mem_replicate.1 hv).2]; omega
  all_goals (simp [zeroC]; omega)
theorem wrap_i64 (x : Int) : I64 (IntKind.i64.wrap x) := by
  simp only [IntKind.wrap, IntKind.bits, IntKind.signed]
  constructor <;> (simp; omega)
theorem wrap_id {x : Int} (h1 : -9223372036854775808 ≤ x) (h2 : x ≤ 9223372036854775807) : IntKind.i64.wrap x = x := by
  simp [IntKind.wrap, IntKind.bits, IntKind.signed]
  omega
/-! numbers in a block -/
def ints (l : List Int) : Array Value := (l.map (Value.int .i64)).toArray
theorem ints_size (l : List Int) : (ints l).size = l.length := by simp [ints]
theorem ints_get (l : List Int) (k : Nat) : (ints l)[k]? = (l[k]?).map (Value.int .i64) := by simp [ints]
theorem ints_set (l : List Int) (k : Nat) (v : Int) : (ints l).setIfInBounds k (.int .i64 v) = ints (l.set k v) := by
  simp [ints, List.map_set]
theorem ints_zero (n : Nat) : ints (List.replicate n 0) = (List.replicate n (Value.int .i64 0)).toArray := by simp [ints]
end Go.Proofs.Ytoajgaljccaccaa.Ce
end
/- Where the document's cells lie; what reading them tells. Conditions: they lie where their pointer says. -/
section
namespace Go.Proofs.Ytoajgaljccaccaa.Ce
set_option linter.unusedSimpArgs false
set_option linter.unusedVariables false
set_option maxRecDepth 100000
open Go.ChangeShapes Go.WideShapes Go.ChangeAt Go.RowKit

abbrev PT := World → (Nat → Prop) → Nat → CC → Nat → Prop
abbrev sl (b : Nat) (l : List Int) : Value := .slice (some ⟨b, 0, none⟩) l.length l.length
structure DAt (W : World) (own : Nat → Prop) (p bc bl bs : Nat) (s : CC) (N : Nat) : Prop where
  box : Held W p 58 #[sl bc s.c, sl bl s.l, sl bs s.s]
  hc : ∃ t, Held W bc t (ints s.c)
  hl : ∃ t, Held W bl t (ints s.l)
  hs : ∃ t, Held W bs t (ints s.s)
  ne : p ≠ bc ∧ p ≠ bl ∧ p ≠ bs ∧ bc ≠ bl ∧ bc ≠ bs ∧ bl ≠ bs
  own : ∀ i, own i ↔ i = p ∨ i = bc ∨ i = bl ∨ i = bs
  fits : FitsC s N
def DocAt : PT := fun W own p s N => ∃ bc bl bs, DAt W own p bc bl bs s N
/-- what a method does -/
def DidF (PAt : PT) (W : World) (own : Nat → Prop) (p : Nat) (s' : CC) (N : Nat) (v : Value) (e : Ending) (w' : World) : Prop :=
  e = .returned v ∧ (∃ own', PAt w' own' p s' N ∧ ∀ i, own' i → own i ∨ W.heap.size ≤ i) ∧ Foot own W w'
/-- what New gives -/
def NewF (PAt : PT) (W : World) (s : CC) (e : Ending) (w' : World) : Prop :=
  ∃ p own, e = .returned (.tuple #[.pointer (some ⟨p, 0, none⟩), .int .i64 0]) ∧ PAt w' own p s 0 ∧ Below W.heap.size W w' ∧ ∀ i, own i → W.heap.size ≤ i
theorem results_two {fn : Func} {p q : Tmp} (h : fn.results = #[.tmp p, .tmp q]) (tmps : Array Value) (P : Program) (w : World) : (results fn tmps).run P w = .ok (.tuple #[tmps.getD p undef, tmps.getD q undef]) w := by
  simp [results, h, go_sem]
section
variable {W W' : World} {own : Nat → Prop} {p bc bl bs N : Nat} {s : CC}
theorem DAt.lt (h : DAt W own p bc bl bs s N) (i : Nat) (hi : own i) : i < W.heap.size := by
  obtain ⟨_, h1⟩ := h.hc
  obtain ⟨_, h2⟩ := h.hl
  obtain ⟨_, h3⟩ := h.hs
  rcases (h.own i).1 hi with rfl | rfl | rfl | rfl
  · exact h.box.lt
  · exact h1.lt
  · exact h2.lt
  · exact h3.lt
theorem DAt.on (h : DAt W own p bc bl bs s N) (hs : ∀ i, own i → W'.heap[i]? = W.heap[i]?) : DAt W' own p bc bl bs s N := by
  obtain ⟨t1, h1⟩ := h.hc
  obtain ⟨t2, h2⟩ := h.hl
  obtain ⟨t3, h3⟩ := h.hs
  exact { h with
    box := (hs p ((h.own p).2 (.inl rfl))).trans h.box
    hc := ⟨t1, (hs bc ((h.own bc).2 (.inr (.inl rfl)))).trans h1⟩
    hl := ⟨t2, (hs bl ((h.own bl).2 (.inr (.inr (.inl rfl))))).trans h2⟩
    hs := ⟨t3, (hs bs ((h.own bs).2 (.inr (.inr (.inr rfl))))).trans h3⟩ }
theorem DAt.below (h : DAt W own p bc bl bs s N) (hb : Below W.heap.size W W') : DAt W' own p bc bl bs s N := h.on fun i hi => hb.block i (h.lt i hi)
theorem DAt.mono (h : DAt W own p bc bl bs s N) {M : Nat} (hM : N ≤ M) : DAt W own p bc bl bs s M := { h with fits := h.fits.mono hM }
/-- nothing is changed -/
theorem DAt.same (h : DAt W own p bc bl bs s N) {v : Value} {e : Ending} {w' : World} (he : e = .returned v) (hb : Below W.heap.size W w') : DidF DocAt W own p s N v e w' :=
  ⟨he, ⟨own, ⟨bc, bl, bs, h.below hb⟩, fun i hi => .inl hi⟩, Foot.of_below hb⟩
theorem DAt.putc (h : DAt W own p bc bl bs s N) {k : Nat} {v : Int} (hv : I64 v) {e : Ending} {r : Value} (he : e = .returned r) : DidF DocAt W own p { s with c := put s.c k v } N r e (W.setCell ⟨bc, k, none⟩ (.int .i64 v)) := by
  obtain ⟨t1, h1⟩ := h.hc
  obtain ⟨t2, h2⟩ := h.hl
  obtain ⟨t3, h3⟩ := h.hs
  obtain ⟨n1, n2, n3, n4, n5, n6⟩ := h.ne
  refine ⟨he, ⟨own, ⟨bc, bl, bs, ?_, ⟨t1, ?_⟩, ⟨t2, h2.other n4.symm _ _⟩, ⟨t3, h3.other n5.symm _ _⟩, h.ne, h.own, h.fits.putc _ hv⟩, fun i hi => .inl hi⟩, (Foot.refl own W).setCell (fun _ => (h.own bc).2 (.inr (.inl rfl))) _⟩
  · have := h.box.other n1 k (.int .i64 v)
    simp only [sl, put_len]
    exact this
  · have := h1.set k (.int .i64 v)
    rw [ints_set] at this
    exact this
theorem DAt.putl (h : DAt W own p bc bl bs s N) {k : Nat} {v : Int} (hv : 0 ≤ v ∧ v ≤ 64) {e : Ending} {r : Value} (he : e = .returned r) : DidF DocAt W own p { s with l := put s.l k v } N r e (W.setCell ⟨bl, k, none⟩ (.int .i64 v)) := by
  obtain ⟨t1, h1⟩ := h.hc
  obtain ⟨t2, h2⟩ := h.hl
  obtain ⟨t3, h3⟩ := h.hs
  obtain ⟨n1, n2, n3, n4, n5, n6⟩ := h.ne
  refine ⟨he, ⟨own, ⟨bc, bl, bs, ?_, ⟨t1, h1.other n4 _ _⟩, ⟨t2, ?_⟩, ⟨t3, h3.other n6.symm _ _⟩, h.ne, h.own, h.fits.putl _ hv⟩, fun i hi => .inl hi⟩, (Foot.refl own W).setCell (fun _ => (h.own bl).2 (.inr (.inr (.inl rfl)))) _⟩
  · have := h.box.other n2 k (.int .i64 v)
    simp only [sl, put_len]
    exact this
  · have := h2.set k (.int .i64 v)
    rw [ints_set] at this
    exact this
theorem DAt.puts (h : DAt W own p bc bl bs s N) {k : Nat} {v : Int} {M : Nat} (hM : N ≤ M) (hv : 0 ≤ v ∧ v ≤ M) {e : Ending} {r : Value} (he : e = .returned r) : DidF DocAt W own p { s with s := put s.s k v } M r e (W.setCell ⟨bs, k, none⟩ (.int .i64 v)) := by
  obtain ⟨t1, h1⟩ := h.hc
  obtain ⟨t2, h2⟩ := h.hl
  obtain ⟨t3, h3⟩ := h.hs
  obtain ⟨n1, n2, n3, n4, n5, n6⟩ := h.ne
  refine ⟨he, ⟨own, ⟨bc, bl, bs, ?_, ⟨t1, h1.other n5 _ _⟩, ⟨t2, h2.other n6 _ _⟩, ⟨t3, ?_⟩, h.ne, h.own, h.fits.puts hM _ hv⟩, fun i hi => .inl hi⟩, (Foot.refl own W).setCell (fun _ => (h.own bs).2 (.inr (.inr (.inr rfl)))) _⟩
  · have := h.box.other n3 k (.int .i64 v)
    simp only [sl, put_len]
    exact this
  · have := h3.set k (.int .i64 v)
    rw [ints_set] at this
    exact this
theorem Held.num {b : Nat} {t : TypeId} {l : List Int} (h : Held W b t (ints l)) {k : Nat} {v : Int} (hk : l[k]? = some v) : W.cell? ⟨b, k, none⟩ = some (.int .i64 v) := by
  rw [h.cell k, ints_get, hk]
  rfl
end
theorem load_r (W : World) (own : Nat → Prop) (p : Nat) (s : CC) (N : Nat) (i : Int) (h : DocAt W own p s N) : Calls Try.prog 15 #[.pointer (some ⟨p, 0, none⟩), .int .i64 i] W (DidF DocAt W own p s N (.tuple #[.int .i64 (loadV s i), .int .i64 (cellE (has s.c i))])) := by
  obtain ⟨bc, bl, bs, h⟩ := h
  have c0 : W.cell? ⟨p, 0, none⟩ = some (.slice (some ⟨bc, 0, none⟩) s.c.length s.c.length) := h.box.cell 0
  have HB := Lib.hid (Below.refl W.heap.size W)
  have HD := Lib.hid h
  cases hh : has s.c i with
  | true =>
    obtain ⟨k, rfl, hk, hv⟩ := has_at hh
    obtain ⟨t1, h1⟩ := h.hc
    have g0 := Held.num h1 hv
    have e1 : loadV s k = val s.c k := by rw [loadV, if_pos hh]
    rw [e1]
    have t0 : ¬ ((k : Int) < 0) := by omega
    have t2 : ¬ s.c.length ≤ k := by omega
    clear e1 hh h h1 hv
    generalize val s.c k = v at *
    generalize s.c.length = n at *
    go_enter Try.func15, Try.ntmps15
    go_wp2
    refine bodyPost_ret (results_two rfl _ _ _) rfl ?_
    exact HD.out.same rfl HB.out
  | false =>
    have e1 : loadV s i = 0 := by rw [loadV, hh]; rfl
    rw [e1]
    by_cases h0 : i < 0
    · clear e1 hh h
      go_enter Try.func15, Try.ntmps15
      go_wp2
      refine bodyPost_ret (results_two rfl _ _ _) rfl ?_
      exact HD.out.same rfl HB.out
    · have t1 := has_no hh h0
      clear e1 hh h
      generalize s.c.length = n at *
      go_enter Try.func15, Try.ntmps15
      go_wp2
      refine bodyPost_ret (results_two rfl _ _ _) rfl ?_
      exact HD.out.same rfl HB.out
end Go.Proofs.Ytoajgaljccaccaa.Ce
end
/- What the document's methods do in memory. Conditions: the cells lie where their pointer says. -/
section
namespace Go.Proofs.Ytoajgaljccaccaa.Ce
set_option linter.unusedSimpArgs false
set_option linter.unusedVariables false
set_option maxRecDepth 100000
open Go.ChangeShapes Go.WideShapes Go.ChangeAt Go.RowKit

theorem end_r (W : World) (own : Nat → Prop) (p : Nat) (s : CC) (N : Nat) (i : Int) (a : Int) (h : DocAt W own p s N) : Calls Try.prog 51 #[.pointer (some ⟨p, 0, none⟩), .int .i64 i, .int .i64 a] W (DidF DocAt W own p s N (.tuple #[.bool (endV s i a), .int .i64 (cellE (has s.s i))])) := by
  obtain ⟨bc, bl, bs, h⟩ := h
  have c0 : W.cell? ⟨p, 2, none⟩ = some (.slice (some ⟨bs, 0, none⟩) s.s.length s.s.length) := h.box.cell 2
  have HB := Lib.hid (Below.refl W.heap.size W)
  have HD := Lib.hid h
  cases hh : has s.s i with
  | false =>
    have e1 := (fun (e : has s.s i = false) => show endV s i a = false by rw [endV, e]; rfl) hh
    rw [e1, show cellE false = 2 from rfl]
    by_cases h0 : i < 0
    · clear e1 hh h
      go_enter Try.func51, Try.ntmps51
      go_wp2
      refine bodyPost_ret (results_two rfl _ _ _) rfl ?_
      exact HD.out.same rfl HB.out
    · have t1 := has_no hh h0
      clear e1 hh h
      generalize s.s.length = n at *
      go_enter Try.func51, Try.ntmps51
      go_wp2
      refine bodyPost_ret (results_two rfl _ _ _) rfl ?_
      exact HD.out.same rfl HB.out
  | true =>
    obtain ⟨k, rfl, hk, hv⟩ := has_at hh
    obtain ⟨t1, h1⟩ := h.hs
    have g0 := Held.num h1 hv
    have z0 : W.frozen? ⟨bs, k, none⟩ = false := h1.frozen k
    have t0 : ¬ ((k : Int) < 0) := by omega
    have t2 : ¬ s.s.length ≤ k := by omega
    have hm := h.fits.fs _ (val_mem hh)
    have e1 : endV s k a = decide (val s.s k = a) := by rw [endV, hh]; rfl
    rw [e1, show cellE true = 0 from rfl]
    clear e1 hh h h1 hv
    generalize val s.s k = v at *
    generalize s.s.length = n at *
    go_enter Try.func51, Try.ntmps51
    go_wp2
    refine bodyPost_ret (results_two rfl _ _ _) rfl ?_
    exact HD.out.same (by simp [Bool.beq_eq_decide_eq]) HB.out
theorem holder_r (W : World) (own : Nat → Prop) (p : Nat) (s : CC) (N : Nat) (i : Int) (h : DocAt W own p s N) : Calls Try.prog 17 #[.pointer (some ⟨p, 0, none⟩), .int .i64 i] W (DidF DocAt W own p s N (.int .i64 (holder s i))) := by
  obtain ⟨bc, bl, bs, h⟩ := h
  have c0 : W.cell? ⟨p, 1, none⟩ = some (.slice (some ⟨bl, 0, none⟩) s.l.length s.l.length) := h.box.cell 1
  have HB := Lib.hid (Below.refl W.heap.size W)
  have HD := Lib.hid h
  cases hh : has s.l i with
  | false =>
    have e1 := (fun (e : has s.l i = false) => show holder s i = -1 by rw [holder, e]; rfl) hh
    rw [e1]
    by_cases h0 : i < 0
    · clear e1 hh h
      go_enter Try.func17, Try.ntmps17
      go_wp2
      go_ret
      exact HD.out.same rfl HB.out
    · have t1 := has_no hh h0
      clear e1 hh h
      generalize s.l.length = n at *
      go_enter Try.func17, Try.ntmps17
      go_wp2
      go_ret
      exact HD.out.same rfl HB.out
  | true =>
    obtain ⟨k, rfl, hk, hv⟩ := has_at hh
    obtain ⟨t1, h1⟩ := h.hl
    have g0 := Held.num h1 hv
    have z0 : W.frozen? ⟨bl, k, none⟩ = false := h1.frozen k
    have t0 : ¬ ((k : Int) < 0) := by omega
    have t2 : ¬ s.l.length ≤ k := by omega
    have hm := h.fits.fl _ (val_mem hh)
    have e1 : holder s k = val s.l k - 1 := by rw [holder, if_pos hh]
    rw [e1]
    clear e1 hh h h1 hv
    generalize val s.l k = v at *
    generalize s.l.length = n at *
    go_enter Try.func17, Try.ntmps17
    go_wp2
    go_ret
    exact HD.out.same (by simp only [wrap_id (show -9223372036854775808 ≤ v - 1 by omega) (show v - 1 ≤ 9223372036854775807 by omega)]; rfl) HB.out
theorem store_r (W : World) (own : Nat → Prop) (p : Nat) (s : CC) (N : Nat) (i : Int) (a : Int) (ha : I64 a) (h : DocAt W own p s N) : Calls Try.prog 29 #[.pointer (some ⟨p, 0, none⟩), .int .i64 i, .int .i64 a] W (DidF DocAt W own p (storeS s i a) N (.int .i64 (cellE (has s.c i)))) := by
  obtain ⟨bc, bl, bs, h⟩ := h
  have c0 : W.cell? ⟨p, 0, none⟩ = some (.slice (some ⟨bc, 0, none⟩) s.c.length s.c.length) := h.box.cell 0
  have HB := Lib.hid (Below.refl W.heap.size W)
  have HD := Lib.hid h
  cases hh : has s.c i with
  | false =>
    have e1 := (fun (e : has s.c i = false) => show storeS s i a = s by rw [storeS, e]; rfl) hh
    rw [e1, show cellE false = 2 from rfl]
    by_cases h0 : i < 0
    · clear e1 hh h
      go_enter Try.func29, Try.ntmps29
      go_wp2
      go_ret
      exact HD.out.same rfl HB.out
    · have t1 := has_no hh h0
      clear e1 hh h
      generalize s.c.length = n at *
      go_enter Try.func29, Try.ntmps29
      go_wp2
      go_ret
      exact HD.out.same rfl HB.out
  | true =>
    obtain ⟨k, rfl, hk, hv⟩ := has_at hh
    obtain ⟨t1, h1⟩ := h.hc
    have g0 := Held.num h1 hv
    have z0 : W.frozen? ⟨bc, k, none⟩ = false := h1.frozen k
    have t0 : ¬ ((k : Int) < 0) := by omega
    have t2 : ¬ s.c.length ≤ k := by omega
    have hm := h.fits.fc _ (val_mem hh)
    have e1 : storeS s k a = { s with c := put s.c k a } := by rw [storeS, if_pos hh]
    rw [e1, show cellE true = 0 from rfl]
    clear e1 hh h h1 hv
    generalize val s.c k = v at *
    generalize s.c.length = n at *
    go_enter Try.func29, Try.ntmps29
    go_wp2
    go_ret
    exact HD.out.putc ha rfl
theorem swap_r (W : World) (own : Nat → Prop) (p : Nat) (s : CC) (N : Nat) (i : Int) (a b : Int) (hb : I64 b) (h : DocAt W own p s N) : Calls Try.prog 49 #[.pointer (some ⟨p, 0, none⟩), .int .i64 i, .int .i64 a, .int .i64 b] W (DidF DocAt W own p (swapS s i a b) N (.tuple #[.bool (swapV s i a), .int .i64 (cellE (has s.c i))])) := by
  obtain ⟨bc, bl, bs, h⟩ := h
  have c0 : W.cell? ⟨p, 0, none⟩ = some (.slice (some ⟨bc, 0, none⟩) s.c.length s.c.length) := h.box.cell 0
  have HB := Lib.hid (Below.refl W.heap.size W)
  have HD := Lib.hid h
  cases hh : has s.c i with
  | false =>
    have e1 := (fun (e : has s.c i = false) => show swapV s i a = false by rw [swapV, e]; rfl) hh
    rw [swapS, e1, show cellE false = 2 from rfl]
    simp only [Bool.false_eq_true, if_false]
    by_cases h0 : i < 0
    · clear e1 hh h
      go_enter Try.func49, Try.ntmps49
      go_wp2
      refine bodyPost_ret (results_two rfl _ _ _) rfl ?_
      exact HD.out.same rfl HB.out
    · have t1 := has_no hh h0
      clear e1 hh h
      generalize s.c.length = n at *
      go_enter Try.func49, Try.ntmps49
      go_wp2
      refine bodyPost_ret (results_two rfl _ _ _) rfl ?_
      exact HD.out.same rfl HB.out
  | true =>
    obtain ⟨k, rfl, hk, hv⟩ := has_at hh
    obtain ⟨t1, h1⟩ := h.hc
    have g0 := Held.num h1 hv
    have z0 : W.frozen? ⟨bc, k, none⟩ = false := h1.frozen k
    have t0 : ¬ ((k : Int) < 0) := by omega
    have t2 : ¬ s.c.length ≤ k := by omega
    have hm := h.fits.fc _ (val_mem hh)
    by_cases ho : val s.c k = a
    · have e1 : swapV s k a = true := by rw [swapV, hh]; simpa using ho
      have e2 : swapS s k a b = { s with c := put s.c k b } := by rw [swapS, if_pos e1]
      rw [e1, e2, show cellE true = 0 from rfl]
      clear e1 e2 hh h h1 hv
      generalize val s.c k = v at *
      generalize s.c.length = n at *
      subst ho
      go_enter Try.func49, Try.ntmps49
      go_wp2
      refine bodyPost_ret (results_two rfl _ _ _) rfl ?_
      exact HD.out.putc hb rfl
    · have e1 : swapV s k a = false := by rw [swapV, hh]; simpa using ho
      have e2 : swapS s k a b = s := by rw [swapS, e1]; rfl
      rw [e1, e2, show cellE true = 0 from rfl]
      clear e1 e2 hh h h1 hv
      generalize val s.c k = v at *
      generalize s.c.length = n at *
      have tq : (v != a) = true := by simpa using ho
      go_enter Try.func49, Try.ntmps49
      go_wp2
      refine bodyPost_ret (results_two rfl _ _ _) rfl ?_
      exact HD.out.same rfl HB.out
end Go.Proofs.Ytoajgaljccaccaa.Ce
end
/- What the document's methods do in memory, the longer ones. Conditions: the cells lie where their pointer says. -/
section
namespace Go.Proofs.Ytoajgaljccaccaa.Ce
set_option linter.unusedSimpArgs false
set_option linter.unusedVariables false
set_option maxRecDepth 100000
open Go.ChangeShapes Go.WideShapes Go.ChangeAt Go.RowKit

section
variable {F : Fence} {n : Nat} {P : Program} {o : Oper} {a : Act} {w : World} {Q : Exit → Act → World → Prop}
/-- a cell that was there is written, as an operation alone -/
theorem wpIn_store_old {b j : Nat} {ty : TypeId} {x y : Operand} {v v0 : Value} {K : Act → World → Prop} (hc : w.cell? ⟨b, j, none⟩ = some v0) (hf : w.frozen? ⟨b, j, none⟩ = false) (ho : o.op = .store ty x y) (hx : opnd a x = some (.pointer (some ⟨b, j, none⟩))) (hy : opnd a y = some v)
    (hi : (P.info? ty).map (·.size) = some 1) (h1 : v.oneCell' = true) (h : K (a.put o.dst undef) (w.setCell ⟨b, j, none⟩ v)) : o.wpIn F n P a w K Q := by
  refine ⟨by simp [Oper.about, ho], ?_⟩
  rw [Oper.semAt_plain F _ _ (by rw [ho]; intro c hc'; cases hc')]
  have hcs : v.cells = #[v] := by cases v <;> first | rfl | cases h1
  have hst : (storeVar ty ⟨b, j, none⟩ v).run P w = .ok () (w.setCell ⟨b, j, none⟩ v) := by
    cases hq : P.info? ty with
    | none => simp [hq] at hi
    | some i =>
      have hs : i.size = 1 := by simpa [hq] using hi
      simp [storeVar, sizeOf, typeInfo, hq, hcs, hs, storeCells, Addr.add_mid, run_store P w _ v _ h1, hc, hf]
  unfold execOp
  simp only [ho, opnd_eval hx, opnd_eval hy, Instr.storeAt, Instr.sureAddr, Sem.run_bind, Sem.run_pure, Result.andThen_ok, hst]
  exact h
end
theorem DidF.pre {P : PT} {W W1 w' : World} {own : Nat → Prop} {p N : Nat} {s : CC} {v : Value} {e : Ending} (hb : Below W.heap.size W W1) (h : DidF P W1 own p s N v e w') : DidF P W own p s N v e w' :=
  ⟨h.1, (by obtain ⟨o, a, b⟩ := h.2.1; exact ⟨o, a, fun i hi => (b i hi).imp id fun e => Nat.le_trans hb.size e⟩), (Foot.of_below hb).trans' h.2.2⟩
theorem i64Info : (Try.prog.info? 2).map (·.size) = some 1 := by kernel_rfl
theorem add_r (W : World) (own : Nat → Prop) (p : Nat) (s : CC) (N : Nat) (i : Int) (a : Int) (ha : I64 a) (h : DocAt W own p s N) : Calls Try.prog 48 #[.pointer (some ⟨p, 0, none⟩), .int .i64 i, .int .i64 a] W (DidF DocAt W own p (addS s i a) N (.tuple #[.int .i64 (addV s i a), .int .i64 (cellE (has s.c i))])) := by
  obtain ⟨bc, bl, bs, h⟩ := h
  have c0 : W.cell? ⟨p, 0, none⟩ = some (.slice (some ⟨bc, 0, none⟩) s.c.length s.c.length) := h.box.cell 0
  have HB := Lib.hid (Below.refl W.heap.size W)
  have HD := Lib.hid h
  cases hh : has s.c i with
  | false =>
    have e1 := (fun (e : has s.c i = false) => (⟨by rw [addS, e]; rfl, by rw [addV, e]; rfl⟩ : addS s i a = s ∧ addV s i a = 0)) hh
    rw [e1.1, e1.2, show cellE false = 2 from rfl]
    by_cases h0 : i < 0
    · clear e1 hh h
      go_enter Try.func48, Try.ntmps48
      go_wp2
      refine bodyPost_ret (results_two rfl _ _ _) rfl ?_
      exact HD.out.same rfl HB.out
    · have t1 := has_no hh h0
      clear e1 hh h
      generalize s.c.length = n at *
      go_enter Try.func48, Try.ntmps48
      go_wp2
      refine bodyPost_ret (results_two rfl _ _ _) rfl ?_
      exact HD.out.same rfl HB.out
  | true =>
    obtain ⟨k, rfl, hk, hv⟩ := has_at hh
    obtain ⟨t1, h1⟩ := h.hc
    have g0 := Held.num h1 hv
    have z0 : W.frozen? ⟨bc, k, none⟩ = false := h1.frozen k
    have t0 : ¬ ((k : Int) < 0) := by omega
    have t2 : ¬ s.c.length ≤ k := by omega
    have hm := h.fits.fc _ (val_mem hh)
    have e1 : addS s k a = { s with c := put s.c k (IntKind.i64.wrap (val s.c k + a)) } := by rw [addS, if_pos hh]
    have e2 : addV s k a = IntKind.i64.wrap (val s.c k + a) := by rw [addV, if_pos hh]
    · skip
      rw [e1, e2, show cellE true = 0 from rfl]
      clear e1 e2 hh
      have hp := h.box.lt
      have hb := h1.lt
      obtain ⟨v, hv0⟩ : ∃ v, val s.c k = v := ⟨_, rfl⟩
      obtain ⟨n, hn⟩ : ∃ n, s.c.length = n := ⟨_, rfl⟩
      rw [hv0] at g0 hm ⊢
      rw [hn] at c0 hk t2
      have HV := Lib.hid hv0
      have HN := Lib.hid hn
      clear h h1 hv hv0 hn
      go_enter Try.func48, Try.ntmps48
      go_upto_region 3 with (fail)
      have H := Mem.start W
      refine region_memk H 15 16 rfl (by kernel_rfl) (fun wr0 hcl hS => ?_)
      clear H
      refine wpAnyG_pure (i := 0) (v := .pointer (some ⟨p, 0, none⟩)) rfl rfl (by kernel_rfl) (by kernel_rfl) (by kernel_rfl) (fun _ _ _ h => h) (by decide) ⟨by rfl, fun w _ => (by go_simp; try (first | (simp only [IntKind.wrap_u32]; done) | rfl)), fun _ => rfl⟩ (.inr hS) ?_
      have hc1 := hcl.step (i := 0) (by kernel_rfl)
      clear hcl; have hcl := hc1; clear hc1; simp only [List.getElem_toArray, List.getElem_cons_zero, List.getElem_cons_succ, Act.put, List.setIfInBounds_toArray, List.set_cons_zero, List.set_cons_succ]
      refine wpAnyG_pure (i := 1) (v := .pointer (some ⟨p, 0, none⟩)) rfl rfl (by kernel_rfl) (by kernel_rfl) (by kernel_rfl) (fun _ _ _ h => h) (by decide) ⟨by rfl, fun w _ => (by go_simp; try (first | (simp only [IntKind.wrap_u32]; done) | rfl)), fun _ => rfl⟩ (.inr hS) ?_
      have hc1 := hcl.step (i := 1) (by kernel_rfl)
      clear hcl; have hcl := hc1; clear hc1; simp only [List.getElem_toArray, List.getElem_cons_zero, List.getElem_cons_succ, Act.put, List.setIfInBounds_toArray, List.set_cons_zero, List.set_cons_succ]
      refine wpAnyG_pure (i := 2) (v := .pointer (some ⟨p, 0, none⟩)) rfl rfl (by kernel_rfl) (by kernel_rfl) (by kernel_rfl) (fun _ _ _ h => h) (by decide) ⟨by rfl, fun w _ => (by go_simp; try (first | (simp only [IntKind.wrap_u32]; done) | rfl)), fun _ => rfl⟩ (.inr hS) ?_
      have hc1 := hcl.step (i := 2) (by kernel_rfl)
      clear hcl; have hcl := hc1; clear hc1; simp only [List.getElem_toArray, List.getElem_cons_zero, List.getElem_cons_succ, Act.put, List.setIfInBounds_toArray, List.set_cons_zero, List.set_cons_succ]
      refine wpAnyG_take (i := 3) 1 (v := .slice (some ⟨bc, 0, none⟩) n n) rfl rfl (by kernel_rfl) (by kernel_rfl) (by kernel_rfl) (fun _ _ _ h => h) (by kernel_rfl) (by decide) hcl (yields_old c0 hp (by exact rfl) (by exact rfl) (by exact rfl) (by first | exact Try.underlying3 | exact Try.underlying2 | exact Try.underlying55) rfl) hS (fun hc1 => ?_)
      clear hcl; have hcl := hc1; clear hc1; simp only [List.getElem_toArray, List.getElem_cons_zero, List.getElem_cons_succ, Act.put, List.setIfInBounds_toArray, List.set_cons_zero, List.set_cons_succ]
      refine wpAnyG_pure (i := 4) (v := .int .i64 k) rfl rfl (by kernel_rfl) (by kernel_rfl) (by kernel_rfl) (fun _ _ _ h => h) (by decide) ⟨by rfl, fun w _ => (by go_simp; try (first | (simp only [IntKind.wrap_u32]; done) | rfl)), fun _ => rfl⟩ (.inr hS) ?_
      have hc1 := hcl.step (i := 4) (by kernel_rfl)
      clear hcl; have hcl := hc1; clear hc1; simp only [List.getElem_toArray, List.getElem_cons_zero, List.getElem_cons_succ, Act.put, List.setIfInBounds_toArray, List.set_cons_zero, List.set_cons_succ]
      refine wpAnyG_pure (i := 5) (v := .pointer (some ⟨p, 0, none⟩)) rfl rfl (by kernel_rfl) (by kernel_rfl) (by kernel_rfl) (fun _ _ _ h => h) (by decide) ⟨by rfl, fun w _ => (by go_simp; try (first | (simp only [IntKind.wrap_u32]; done) | rfl)), fun _ => rfl⟩ (.inr hS) ?_
      have hc1 := hcl.step (i := 5) (by kernel_rfl)
      clear hcl; have hcl := hc1; clear hc1; simp only [List.getElem_toArray, List.getElem_cons_zero, List.getElem_cons_succ, Act.put, List.setIfInBounds_toArray, List.set_cons_zero, List.set_cons_succ]
      refine wpAnyG_pure (i := 6) (v := .pointer (some ⟨p, 0, none⟩)) rfl rfl (by kernel_rfl) (by kernel_rfl) (by kernel_rfl) (fun _ _ _ h => h) (by decide) ⟨by rfl, fun w _ => (by go_simp; try (first | (simp only [IntKind.wrap_u32]; done) | rfl)), fun _ => rfl⟩ (.inr hS) ?_
      have hc1 := hcl.step (i := 6) (by kernel_rfl)
      clear hcl; have hcl := hc1; clear hc1; simp only [List.getElem_toArray, List.getElem_cons_zero, List.getElem_cons_succ, Act.put, List.setIfInBounds_toArray, List.set_cons_zero, List.set_cons_succ]
      refine wpAnyG_pure (i := 7) (v := .pointer (some ⟨p, 0, none⟩)) rfl rfl (by kernel_rfl) (by kernel_rfl) (by kernel_rfl) (fun _ _ _ h => h) (by decide) ⟨by rfl, fun w _ => (by go_simp; try (first | (simp only [IntKind.wrap_u32]; done) | rfl)), fun _ => rfl⟩ (.inr hS) ?_
      have hc1 := hcl.step (i := 7) (by kernel_rfl)
      clear hcl; have hcl := hc1; clear hc1; simp only [List.getElem_toArray, List.getElem_cons_zero, List.getElem_cons_succ, Act.put, List.setIfInBounds_toArray, List.set_cons_zero, List.set_cons_succ]
      refine wpAnyG_take (i := 8) 1 (v := .slice (some ⟨bc, 0, none⟩) n n) rfl rfl (by kernel_rfl) (by kernel_rfl) (by kernel_rfl) (fun _ _ _ h => h) (by kernel_rfl) (by decide) hcl (yields_old c0 hp (by exact rfl) (by exact rfl) (by exact rfl) (by first | exact Try.underlying3 | exact Try.underlying2 | exact Try.underlying55) rfl) hS (fun hc1 => ?_)
      clear hcl; have hcl := hc1; clear hc1; simp only [List.getElem_toArray, List.getElem_cons_zero, List.getElem_cons_succ, Act.put, List.setIfInBounds_toArray, List.set_cons_zero, List.set_cons_succ]
      refine wpAnyG_pure (i := 9) (v := .int .i64 k) rfl rfl (by kernel_rfl) (by kernel_rfl) (by kernel_rfl) (fun _ _ _ h => h) (by decide) ⟨by rfl, fun w _ => (by go_simp; try (first | (simp only [IntKind.wrap_u32]; done) | rfl)), fun _ => rfl⟩ (.inr hS) ?_
      have hc1 := hcl.step (i := 9) (by kernel_rfl)
      clear hcl; have hcl := hc1; clear hc1; simp only [List.getElem_toArray, List.getElem_cons_zero, List.getElem_cons_succ, Act.put, List.setIfInBounds_toArray, List.set_cons_zero, List.set_cons_succ]
      refine wpAnyG_pure (i := 10) (v := .pointer (some ⟨bc, k, none⟩)) rfl rfl (by kernel_rfl) (by kernel_rfl) (by kernel_rfl) (fun _ _ _ h => h) (by decide) ⟨by rfl, fun w _ => (by go_simp; try (first | (simp only [IntKind.wrap_u32]; done) | rfl | rfl | (simp [t0, t2, hk]; done) | (simp [t0, t2, hk, Addr.add]; done))), fun _ => rfl⟩ (.inr hS) ?_
      have hc1 := hcl.step (i := 10) (by kernel_rfl)
      clear hcl; have hcl := hc1; clear hc1; simp only [List.getElem_toArray, List.getElem_cons_zero, List.getElem_cons_succ, Act.put, List.setIfInBounds_toArray, List.set_cons_zero, List.set_cons_succ]
      refine wpAnyG_take (i := 11) 1 (v := .int .i64 v) rfl rfl (by kernel_rfl) (by kernel_rfl) (by kernel_rfl) (fun _ _ _ h => h) (by kernel_rfl) (by decide) hcl (yields_old g0 hb (by exact rfl) (by exact rfl) (by exact rfl) (by first | exact Try.underlying3 | exact Try.underlying2 | exact Try.underlying55) rfl) hS (fun hc1 => ?_)
      clear hcl; have hcl := hc1; clear hc1; simp only [List.getElem_toArray, List.getElem_cons_zero, List.getElem_cons_succ, Act.put, List.setIfInBounds_toArray, List.set_cons_zero, List.set_cons_succ]
      refine wpAnyG_pure (i := 12) (v := .int .i64 a) rfl rfl (by kernel_rfl) (by kernel_rfl) (by kernel_rfl) (fun _ _ _ h => h) (by decide) ⟨by rfl, fun w _ => (by go_simp; try (first | (simp only [IntKind.wrap_u32]; done) | rfl)), fun _ => rfl⟩ (.inr hS) ?_
      have hc1 := hcl.step (i := 12) (by kernel_rfl)
      clear hcl; have hcl := hc1; clear hc1; simp only [List.getElem_toArray, List.getElem_cons_zero, List.getElem_cons_succ, Act.put, List.setIfInBounds_toArray, List.set_cons_zero, List.set_cons_succ]
      refine wpAnyG_pure (i := 13) (v := .int .i64 (IntKind.i64.wrap (v + a))) rfl rfl (by kernel_rfl) (by kernel_rfl) (by kernel_rfl) (fun _ _ _ h => h) (by decide) ⟨by rfl, fun w _ => (by go_simp; try (first | (simp only [IntKind.wrap_u32]; done) | rfl)), fun _ => rfl⟩ (.inr hS) ?_
      have hc1 := hcl.step (i := 13) (by kernel_rfl)
      clear hcl; have hcl := hc1; clear hc1; simp only [List.getElem_toArray, List.getElem_cons_zero, List.getElem_cons_succ, Act.put, List.setIfInBounds_toArray, List.set_cons_zero, List.set_cons_succ]
      refine wpAnyG_pure (i := 14) (v := .pointer (some ⟨bc, k, none⟩)) rfl rfl (by kernel_rfl) (by kernel_rfl) (by kernel_rfl) (fun _ _ _ h => h) (by decide) ⟨by rfl, fun w _ => (by go_simp; try (first | (simp only [IntKind.wrap_u32]; done) | rfl | rfl | (simp [t0, t2, hk]; done) | (simp [t0, t2, hk, Addr.add]; done))), fun _ => rfl⟩ (.inr hS) ?_
      have hc1 := hcl.step (i := 14) (by kernel_rfl)
      clear hcl; have hcl := hc1; clear hc1; simp only [List.getElem_toArray, List.getElem_cons_zero, List.getElem_cons_succ, Act.put, List.setIfInBounds_toArray, List.set_cons_zero, List.set_cons_succ]
      refine wpAnyG_one (i := 15) (by kernel_rfl) rfl (fun K hK => ?_)
      refine wpIn_store_old (b := bc) (j := k) (v := .int .i64 (IntKind.i64.wrap (v + a))) (v0 := .int .i64 v) ((hS.old (p := ⟨bc, k, none⟩) hb).trans g0) ((hS.below.frozen (p := ⟨bc, k, none⟩) hb).trans z0) rfl (by exact rfl) (by exact rfl) (by exact i64Info) rfl ?_
      refine hK _ _ (.inl (by kernel_rfl)) ?_
      clear hK K
      refine wpAnyG_done (by kernel_rfl) ?_ _
      have HS := Lib.hid hS
      clear hS hcl
      have B1 := HD.out.below HS.out.below
      obtain ⟨t9, h9⟩ := B1.hc
      have c9 : (wr0.setCell ⟨bc, k, none⟩ (.int .i64 (IntKind.i64.wrap (v + a)))).cell? ⟨p, 0, none⟩ = some (.slice (some ⟨bc, 0, none⟩) n n) := by
        have := (B1.box.other B1.ne.1 k (.int .i64 (IntKind.i64.wrap (v + a)))).cell 0
        rw [← HN.out]
        exact this
      have g9 : (wr0.setCell ⟨bc, k, none⟩ (.int .i64 (IntKind.i64.wrap (v + a)))).cell? ⟨bc, k, none⟩ = some (.int .i64 (IntKind.i64.wrap (v + a))) := by
        rw [(h9.set k (.int .i64 (IntKind.i64.wrap (v + a)))).cell k]
        have := HN.out
        rw [ints_set, ints_get, List.getElem?_set_self (by omega)]
        rfl
      have HX := Lib.hid ((B1.putc (k := k) (wrap_i64 (v + a)) (e := .returned (.tuple #[.int .i64 (IntKind.i64.wrap (v + a)), .int .i64 0])) rfl).pre HS.out.below)
      clear B1 h9 c0 g0 z0
      generalize wr0.setCell ⟨bc, k, none⟩ (.int .i64 (IntKind.i64.wrap (v + a))) = w9 at *
      generalize IntKind.i64.wrap (v + a) = z at *
      go_wp2
      refine bodyPost_ret (results_two rfl _ _ _) rfl ?_
      exact HX.out
theorem step_r (W : World) (own : Nat → Prop) (p : Nat) (s : CC) (N : Nat) (i : Int) (a : Int) (hN : N ≤ 1000000) (h : DocAt W own p s N) : Calls Try.prog 47 #[.pointer (some ⟨p, 0, none⟩), .int .i64 i, .int .i64 a] W (DidF DocAt W own p (stepS s i a) (N + 1) (.int .i64 (stepE s i a))) := by
  obtain ⟨bc, bl, bs, h⟩ := h
  have c0 : W.cell? ⟨p, 2, none⟩ = some (.slice (some ⟨bs, 0, none⟩) s.s.length s.s.length) := h.box.cell 2
  have HB := Lib.hid (Below.refl W.heap.size W)
  have HD := Lib.hid h
  cases hh : has s.s i with
  | false =>
    have e1 := (fun (e : has s.s i = false) => (⟨by rw [stepS, stepE, e]; rfl, by rw [stepE, e]; rfl⟩ : stepS s i a = s ∧ stepE s i a = 2)) hh
    rw [e1.1, e1.2]
    by_cases h0 : i < 0
    · clear e1 hh h
      go_enter Try.func47, Try.ntmps47
      go_wp2
      go_ret
      exact (HD.out.mono (Nat.le_succ N)).same rfl HB.out
    · have t1 := has_no hh h0
      clear e1 hh h
      generalize s.s.length = n at *
      go_enter Try.func47, Try.ntmps47
      go_wp2
      go_ret
      exact (HD.out.mono (Nat.le_succ N)).same rfl HB.out
  | true =>
    obtain ⟨k, rfl, hk, hv⟩ := has_at hh
    obtain ⟨t1, h1⟩ := h.hs
    have g0 := Held.num h1 hv
    have z0 : W.frozen? ⟨bs, k, none⟩ = false := h1.frozen k
    have t0 : ¬ ((k : Int) < 0) := by omega
    have t2 : ¬ s.s.length ≤ k := by omega
    have hm := h.fits.fs _ (val_mem hh)
    by_cases ho : val s.s k % 2 = a
    · have e1 : stepE s k a = 0 := by rw [stepE, hh]; simpa using ho
      have e2 : stepS s k a = { s with s := put s.s k (val s.s k + 1) } := by rw [stepS, if_pos e1]
      rw [e1, e2]
      clear e1 e2 hh
      have hp := h.box.lt
      have hb := h1.lt
      obtain ⟨v, hv0⟩ : ∃ v, val s.s k = v := ⟨_, rfl⟩
      obtain ⟨n, hn⟩ : ∃ n, s.s.length = n := ⟨_, rfl⟩
      rw [hv0] at g0 hm ⊢
      rw [hn] at c0 hk t2
      have HV := Lib.hid hv0
      have HN := Lib.hid hn
      clear h h1 hv hv0 hn
      rw [HV.out] at ho
      have tq : (v % 2 != a) = false := by simpa using ho
      have tw := wrap_id (x := v + 1) (by omega) (by omega)
      go_enter Try.func47, Try.ntmps47
      go_upto_region 5 with (fail)
      have H := Mem.start W
      refine region_memk H 14 15 rfl (by kernel_rfl) (fun wr0 hcl hS => ?_)
      clear H
      refine wpAnyG_pure (i := 0) (v := .pointer (some ⟨p, 0, none⟩)) rfl rfl (by kernel_rfl) (by kernel_rfl) (by kernel_rfl) (fun _ _ _ h => h) (by decide) ⟨by rfl, fun w _ => (by go_simp; try (first | (simp only [IntKind.wrap_u32]; done) | rfl)), fun _ => rfl⟩ (.inr hS) ?_
      have hc1 := hcl.step (i := 0) (by kernel_rfl)
      clear hcl; have hcl := hc1; clear hc1; simp only [List.getElem_toArray, List.getElem_cons_zero, List.getElem_cons_succ, Act.put, List.setIfInBounds_toArray, List.set_cons_zero, List.set_cons_succ]
      refine wpAnyG_pure (i := 1) (v := .pointer (some ⟨p, 0, none⟩)) rfl rfl (by kernel_rfl) (by kernel_rfl) (by kernel_rfl) (fun _ _ _ h => h) (by decide) ⟨by rfl, fun w _ => (by go_simp; try (first | (simp only [IntKind.wrap_u32]; done) | rfl)), fun _ => rfl⟩ (.inr hS) ?_
      have hc1 := hcl.step (i := 1) (by kernel_rfl)
      clear hcl; have hcl := hc1; clear hc1; simp only [List.getElem_toArray, List.getElem_cons_zero, List.getElem_cons_succ, Act.put, List.setIfInBounds_toArray, List.set_cons_zero, List.set_cons_succ]
      refine wpAnyG_pure (i := 2) (v := .pointer (some ⟨p, 2, none⟩)) rfl rfl (by kernel_rfl) (by kernel_rfl) (by kernel_rfl) (fun _ _ _ h => h) (by decide) ⟨by rfl, fun w _ => (by go_simp; try (first | (simp only [IntKind.wrap_u32]; done) | rfl)), fun _ => rfl⟩ (.inr hS) ?_
      have hc1 := hcl.step (i := 2) (by kernel_rfl)
      clear hcl; have hcl := hc1; clear hc1; simp only [List.getElem_toArray, List.getElem_cons_zero, List.getElem_cons_succ, Act.put, List.setIfInBounds_toArray, List.set_cons_zero, List.set_cons_succ]
      refine wpAnyG_take (i := 3) 1 (v := .slice (some ⟨bs, 0, none⟩) n n) rfl rfl (by kernel_rfl) (by kernel_rfl) (by kernel_rfl) (fun _ _ _ h => h) (by kernel_rfl) (by decide) hcl (yields_old c0 hp (by exact rfl) (by exact rfl) (by exact rfl) (by first | exact Try.underlying3 | exact Try.underlying2 | exact Try.underlying55) rfl) hS (fun hc1 => ?_)
      clear hcl; have hcl := hc1; clear hc1; simp only [List.getElem_toArray, List.getElem_cons_zero, List.getElem_cons_succ, Act.put, List.setIfInBounds_toArray, List.set_cons_zero, List.set_cons_succ]
      refine wpAnyG_pure (i := 4) (v := .int .i64 k) rfl rfl (by kernel_rfl) (by kernel_rfl) (by kernel_rfl) (fun _ _ _ h => h) (by decide) ⟨by rfl, fun w _ => (by go_simp; try (first | (simp only [IntKind.wrap_u32]; done) | rfl)), fun _ => rfl⟩ (.inr hS) ?_
      have hc1 := hcl.step (i := 4) (by kernel_rfl)
      clear hcl; have hcl := hc1; clear hc1; simp only [List.getElem_toArray, List.getElem_cons_zero, List.getElem_cons_succ, Act.put, List.setIfInBounds_toArray, List.set_cons_zero, List.set_cons_succ]
      refine wpAnyG_pure (i := 5) (v := .pointer (some ⟨p, 0, none⟩)) rfl rfl (by kernel_rfl) (by kernel_rfl) (by kernel_rfl) (fun _ _ _ h => h) (by decide) ⟨by rfl, fun w _ => (by go_simp; try (first | (simp only [IntKind.wrap_u32]; done) | rfl)), fun _ => rfl⟩ (.inr hS) ?_
      have hc1 := hcl.step (i := 5) (by kernel_rfl)
      clear hcl; have hcl := hc1; clear hc1; simp only [List.getElem_toArray, List.getElem_cons_zero, List.getElem_cons_succ, Act.put, List.setIfInBounds_toArray, List.set_cons_zero, List.set_cons_succ]
      refine wpAnyG_pure (i := 6) (v := .pointer (some ⟨p, 0, none⟩)) rfl rfl (by kernel_rfl) (by kernel_rfl) (by kernel_rfl) (fun _ _ _ h => h) (by decide) ⟨by rfl, fun w _ => (by go_simp; try (first | (simp only [IntKind.wrap_u32]; done) | rfl)), fun _ => rfl⟩ (.inr hS) ?_
      have hc1 := hcl.step (i := 6) (by kernel_rfl)
      clear hcl; have hcl := hc1; clear hc1; simp only [List.getElem_toArray, List.getElem_cons_zero, List.getElem_cons_succ, Act.put, List.setIfInBounds_toArray, List.set_cons_zero, List.set_cons_succ]
      refine wpAnyG_pure (i := 7) (v := .pointer (some ⟨p, 2, none⟩)) rfl rfl (by kernel_rfl) (by kernel_rfl) (by kernel_rfl) (fun _ _ _ h => h) (by decide) ⟨by rfl, fun w _ => (by go_simp; try (first | (simp only [IntKind.wrap_u32]; done) | rfl)), fun _ => rfl⟩ (.inr hS) ?_
      have hc1 := hcl.step (i := 7) (by kernel_rfl)
      clear hcl; have hcl := hc1; clear hc1; simp only [List.getElem_toArray, List.getElem_cons_zero, List.getElem_cons_succ, Act.put, List.setIfInBounds_toArray, List.set_cons_zero, List.set_cons_succ]
      refine wpAnyG_take (i := 8) 1 (v := .slice (some ⟨bs, 0, none⟩) n n) rfl rfl (by kernel_rfl) (by kernel_rfl) (by kernel_rfl) (fun _ _ _ h => h) (by kernel_rfl) (by decide) hcl (yields_old c0 hp (by exact rfl) (by exact rfl) (by exact rfl) (by first | exact Try.underlying3 | exact Try.underlying2 | exact Try.underlying55) rfl) hS (fun hc1 => ?_)
      clear hcl; have hcl := hc1; clear hc1; simp only [List.getElem_toArray, List.getElem_cons_zero, List.getElem_cons_succ, Act.put, List.setIfInBounds_toArray, List.set_cons_zero, List.set_cons_succ]
      refine wpAnyG_pure (i := 9) (v := .int .i64 k) rfl rfl (by kernel_rfl) (by kernel_rfl) (by kernel_rfl) (fun _ _ _ h => h) (by decide) ⟨by rfl, fun w _ => (by go_simp; try (first | (simp only [IntKind.wrap_u32]; done) | rfl)), fun _ => rfl⟩ (.inr hS) ?_
      have hc1 := hcl.step (i := 9) (by kernel_rfl)
      clear hcl; have hcl := hc1; clear hc1; simp only [List.getElem_toArray, List.getElem_cons_zero, List.getElem_cons_succ, Act.put, List.setIfInBounds_toArray, List.set_cons_zero, List.set_cons_succ]
      refine wpAnyG_pure (i := 10) (v := .pointer (some ⟨bs, k, none⟩)) rfl rfl (by kernel_rfl) (by kernel_rfl) (by kernel_rfl) (fun _ _ _ h => h) (by decide) ⟨by rfl, fun w _ => (by go_simp; try (first | (simp only [IntKind.wrap_u32]; done) | rfl | rfl | (simp [t0, t2, hk]; done) | (simp [t0, t2, hk, Addr.add]; done))), fun _ => rfl⟩ (.inr hS) ?_
      have hc1 := hcl.step (i := 10) (by kernel_rfl)
      clear hcl; have hcl := hc1; clear hc1; simp only [List.getElem_toArray, List.getElem_cons_zero, List.getElem_cons_succ, Act.put, List.setIfInBounds_toArray, List.set_cons_zero, List.set_cons_succ]
      refine wpAnyG_take (i := 11) 1 (v := .int .i64 v) rfl rfl (by kernel_rfl) (by kernel_rfl) (by kernel_rfl) (fun _ _ _ h => h) (by kernel_rfl) (by decide) hcl (yields_old g0 hb (by exact rfl) (by exact rfl) (by exact rfl) (by first | exact Try.underlying3 | exact Try.underlying2 | exact Try.underlying55) rfl) hS (fun hc1 => ?_)
      clear hcl; have hcl := hc1; clear hc1; simp only [List.getElem_toArray, List.getElem_cons_zero, List.getElem_cons_succ, Act.put, List.setIfInBounds_toArray, List.set_cons_zero, List.set_cons_succ]
      refine wpAnyG_pure (i := 12) (v := .int .i64 (v + 1)) rfl rfl (by kernel_rfl) (by kernel_rfl) (by kernel_rfl) (fun _ _ _ h => h) (by decide) ⟨by rfl, fun w _ => (by go_simp; try (first | (simp only [IntKind.wrap_u32]; done) | rfl | (simp [tw]; done) | (rw [tw]; rfl))), fun _ => rfl⟩ (.inr hS) ?_
      have hc1 := hcl.step (i := 12) (by kernel_rfl)
      clear hcl; have hcl := hc1; clear hc1; simp only [List.getElem_toArray, List.getElem_cons_zero, List.getElem_cons_succ, Act.put, List.setIfInBounds_toArray, List.set_cons_zero, List.set_cons_succ]
      refine wpAnyG_pure (i := 13) (v := .pointer (some ⟨bs, k, none⟩)) rfl rfl (by kernel_rfl) (by kernel_rfl) (by kernel_rfl) (fun _ _ _ h => h) (by decide) ⟨by rfl, fun w _ => (by go_simp; try (first | (simp only [IntKind.wrap_u32]; done) | rfl | rfl | (simp [t0, t2, hk]; done) | (simp [t0, t2, hk, Addr.add]; done))), fun _ => rfl⟩ (.inr hS) ?_
      have hc1 := hcl.step (i := 13) (by kernel_rfl)
      clear hcl; have hcl := hc1; clear hc1; simp only [List.getElem_toArray, List.getElem_cons_zero, List.getElem_cons_succ, Act.put, List.setIfInBounds_toArray, List.set_cons_zero, List.set_cons_succ]
      refine wpAnyG_one (i := 14) (by kernel_rfl) rfl (fun K hK => ?_)
      refine wpIn_store_old (b := bs) (j := k) (v := .int .i64 (v + 1)) (v0 := .int .i64 v) ((hS.old (p := ⟨bs, k, none⟩) hb).trans g0) ((hS.below.frozen (p := ⟨bs, k, none⟩) hb).trans z0) rfl (by exact rfl) (by exact rfl) (by exact i64Info) rfl ?_
      refine hK _ _ (.inl (by kernel_rfl)) ?_
      clear hK K
      refine wpAnyG_done (by kernel_rfl) ?_ _
      have HS := Lib.hid hS
      clear hS hcl
      have HX := Lib.hid (((HD.out.below HS.out.below).puts (k := k) (v := v + 1) (M := N + 1) (by omega) (by omega) (e := .returned (.int .i64 0)) rfl).pre HS.out.below)
      go_wp2
      go_ret
      exact HX.out
    · have e1 : stepE s k a = 111 := by rw [stepE, hh]; simpa using ho
      have e2 : stepS s k a = s := by rw [stepS, e1]; rfl
      rw [e1, e2]
      clear e1 e2 hh h h1 hv
      generalize val s.s k = v at *
      generalize s.s.length = n at *
      have tq : (v.tmod 2 != a) = true := by rw [Int.tmod_eq_emod_of_nonneg hm.1]; simpa using ho
      go_enter Try.func47, Try.ntmps47
      go_wp2
      go_ret
      exact (HD.out.mono (Nat.le_succ N)).same rfl HB.out
theorem begin_r (W : World) (own : Nat → Prop) (p : Nat) (s : CC) (N : Nat) (i : Int) (h : DocAt W own p s N) : Calls Try.prog 50 #[.pointer (some ⟨p, 0, none⟩), .int .i64 i] W (DidF DocAt W own p s N (.tuple #[.int .i64 (beginV s i), .int .i64 (beginE s i)])) := by
  obtain ⟨bc, bl, bs, h⟩ := h
  have c0 : W.cell? ⟨p, 2, none⟩ = some (.slice (some ⟨bs, 0, none⟩) s.s.length s.s.length) := h.box.cell 2
  have HB := Lib.hid (Below.refl W.heap.size W)
  have HD := Lib.hid h
  cases hh : has s.s i with
  | false =>
    have e1 := (fun (e : has s.s i = false) => (⟨by rw [beginV, e]; rfl, by rw [beginE, e]; rfl⟩ : beginV s i = 0 ∧ beginE s i = 2)) hh
    rw [e1.1, e1.2]
    by_cases h0 : i < 0
    · clear e1 hh h
      go_enter Try.func50, Try.ntmps50
      go_wp2
      refine bodyPost_ret (results_two rfl _ _ _) rfl ?_
      exact HD.out.same rfl HB.out
    · have t1 := has_no hh h0
      clear e1 hh h
      generalize s.s.length = n at *
      go_enter Try.func50, Try.ntmps50
      go_wp2
      refine bodyPost_ret (results_two rfl _ _ _) rfl ?_
      exact HD.out.same rfl HB.out
  | true =>
    obtain ⟨k, rfl, hk, hv⟩ := has_at hh
    obtain ⟨t1, h1⟩ := h.hs
    have g0 := Held.num h1 hv
    have z0 : W.frozen? ⟨bs, k, none⟩ = false := h1.frozen k
    have t0 : ¬ ((k : Int) < 0) := by omega
    have t2 : ¬ s.s.length ≤ k := by omega
    have hm := h.fits.fs _ (val_mem hh)
    by_cases ho : val s.s k % 2 = 0
    · have e1 : beginE s k = 0 := by rw [beginE, hh]; simpa using ho
      have e2 : beginV s k = val s.s k := by rw [beginV, hh]; simp [ho]
      rw [e1, e2]
      clear e1 e2 hh h h1 hv
      generalize val s.s k = v at *
      generalize s.s.length = n at *
      have tq : (v.tmod 2 == 1) = false := by rw [Int.tmod_eq_emod_of_nonneg hm.1]; simp; omega
      go_enter Try.func50, Try.ntmps50
      go_wp2
      refine bodyPost_ret (results_two rfl _ _ _) rfl ?_
      exact HD.out.same rfl HB.out
    · have e1 : beginE s k = 111 := by rw [beginE, hh]; simpa using ho
      have e2 : beginV s k = 0 := by rw [beginV, hh]; simp [ho]
      rw [e1, e2]
      clear e1 e2 hh h h1 hv
      generalize val s.s k = v at *
      generalize s.s.length = n at *
      have tq : (v.tmod 2 == 1) = true := by rw [Int.tmod_eq_emod_of_nonneg hm.1]; simp; omega
      go_enter Try.func50, Try.ntmps50
      go_wp2
      refine bodyPost_ret (results_two rfl _ _ _) rfl ?_
      exact HD.out.same rfl HB.out
theorem lock_r (W : World) (own : Nat → Prop) (p : Nat) (s : CC) (N : Nat) (i : Int) (a : Int) (h : DocAt W own p s N) : Calls Try.prog 30 #[.pointer (some ⟨p, 0, none⟩), .int .i64 i, .int .i64 a] W (DidF DocAt W own p (lockS s i a) N (.int .i64 (lockE s i a))) := by
  obtain ⟨bc, bl, bs, h⟩ := h
  have c0 : W.cell? ⟨p, 1, none⟩ = some (.slice (some ⟨bl, 0, none⟩) s.l.length s.l.length) := h.box.cell 1
  have HB := Lib.hid (Below.refl W.heap.size W)
  have HD := Lib.hid h
  cases hh : has s.l i with
  | false =>
    have e1 := (fun (e : has s.l i = false) => (⟨by rw [lockS, lockE, e]; rfl, by rw [lockE, e]; rfl⟩ : lockS s i a = s ∧ lockE s i a = 2)) hh
    rw [e1.1, e1.2]
    by_cases h0 : i < 0
    · clear e1 hh h
      go_enter Try.func30, Try.ntmps30
      go_wp2
      go_ret
      exact HD.out.same rfl HB.out
    · have t1 := has_no hh h0
      clear e1 hh h
      generalize s.l.length = n at *
      go_enter Try.func30, Try.ntmps30
      go_wp2
      go_ret
      exact HD.out.same rfl HB.out
  | true =>
    obtain ⟨k, rfl, hk, hv⟩ := has_at hh
    obtain ⟨t1, h1⟩ := h.hl
    have g0 := Held.num h1 hv
    have z0 : W.frozen? ⟨bl, k, none⟩ = false := h1.frozen k
    have t0 : ¬ ((k : Int) < 0) := by omega
    have t2 : ¬ s.l.length ≤ k := by omega
    have hm := h.fits.fl _ (val_mem hh)
    by_cases a0 : a < 0
    · have ea : actor a = false := by simp [actor]; omega
      have e1 : lockE s k a = 2 := by rw [lockE, ea]; simp
      have e2 : lockS s k a = s := by rw [lockS, e1]; rfl
      rw [e1, e2]
      clear e1 e2 ea hh h h1 hv
      generalize val s.l k = v at *
      generalize s.l.length = n at *
      go_enter Try.func30, Try.ntmps30
      go_wp2
      go_ret
      exact HD.out.same rfl HB.out
    by_cases a1 : 64 ≤ a
    · have ea : actor a = false := by simp [actor]; omega
      have e1 : lockE s k a = 2 := by rw [lockE, ea]; simp
      have e2 : lockS s k a = s := by rw [lockS, e1]; rfl
      rw [e1, e2]
      clear e1 e2 ea hh h h1 hv
      generalize val s.l k = v at *
      generalize s.l.length = n at *
      go_enter Try.func30, Try.ntmps30
      go_wp2
      go_ret
      exact HD.out.same rfl HB.out
    have ea : actor a = true := by simp [actor]; omega
    by_cases ho : val s.l k = 0
    · have e1 : lockE s k a = 0 := by rw [lockE, ea, hh]; simpa using ho
      have e2 : lockS s k a = { s with l := put s.l k (a + 1) } := by rw [lockS, if_pos e1]
      rw [e1, e2]
      clear e1 e2 ea hh h h1 hv
      generalize val s.l k = v at *
      generalize s.l.length = n at *
      have tw := wrap_id (x := a + 1) (by omega) (by omega)
      have tq : (v != 0) = false := by simpa using ho
      go_enter Try.func30, Try.ntmps30
      go_wp2
      go_ret
      exact HD.out.putl (by omega) rfl
    · have e1 : lockE s k a = 110 := by rw [lockE, ea, hh]; simpa using ho
      have e2 : lockS s k a = s := by rw [lockS, e1]; rfl
      rw [e1, e2]
      clear e1 e2 ea hh h h1 hv
      generalize val s.l k = v at *
      generalize s.l.length = n at *
      have tw := wrap_id (x := a + 1) (by omega) (by omega)
      have tq : (v != 0) = true := by simpa using ho
      go_enter Try.func30, Try.ntmps30
      go_wp2
      go_ret
      exact HD.out.same rfl HB.out
theorem unlock_r (W : World) (own : Nat → Prop) (p : Nat) (s : CC) (N : Nat) (i : Int) (a : Int) (h : DocAt W own p s N) : Calls Try.prog 31 #[.pointer (some ⟨p, 0, none⟩), .int .i64 i, .int .i64 a] W (DidF DocAt W own p (unlockS s i a) N (.int .i64 (unlockE s i a))) := by
  obtain ⟨bc, bl, bs, h⟩ := h
  have c0 : W.cell? ⟨p, 1, none⟩ = some (.slice (some ⟨bl, 0, none⟩) s.l.length s.l.length) := h.box.cell 1
  have HB := Lib.hid (Below.refl W.heap.size W)
  have HD := Lib.hid h
  cases hh : has s.l i with
  | false =>
    have e1 := (fun (e : has s.l i = false) => (⟨by rw [unlockS, unlockE, e]; rfl, by rw [unlockE, e]; rfl⟩ : unlockS s i a = s ∧ unlockE s i a = 2)) hh
    rw [e1.1, e1.2]
    by_cases h0 : i < 0
    · clear e1 hh h
      go_enter Try.func31, Try.ntmps31
      go_wp2
      go_ret
      exact HD.out.same rfl HB.out
    · have t1 := has_no hh h0
      clear e1 hh h
      generalize s.l.length = n at *
      go_enter Try.func31, Try.ntmps31
      go_wp2
      go_ret
      exact HD.out.same rfl HB.out
  | true =>
    obtain ⟨k, rfl, hk, hv⟩ := has_at hh
    obtain ⟨t1, h1⟩ := h.hl
    have g0 := Held.num h1 hv
    have z0 : W.frozen? ⟨bl, k, none⟩ = false := h1.frozen k
    have t0 : ¬ ((k : Int) < 0) := by omega
    have t2 : ¬ s.l.length ≤ k := by omega
    have hm := h.fits.fl _ (val_mem hh)
    by_cases a0 : a < 0
    · have ea : actor a = false := by simp [actor]; omega
      have e1 : unlockE s k a = 2 := by rw [unlockE, ea]; simp
      have e2 : unlockS s k a = s := by rw [unlockS, e1]; rfl
      rw [e1, e2]
      clear e1 e2 ea hh h h1 hv
      generalize val s.l k = v at *
      generalize s.l.length = n at *
      go_enter Try.func31, Try.ntmps31
      go_wp2
      go_ret
      exact HD.out.same rfl HB.out
    by_cases a1 : 64 ≤ a
    · have ea : actor a = false := by simp [actor]; omega
      have e1 : unlockE s k a = 2 := by rw [unlockE, ea]; simp
      have e2 : unlockS s k a = s := by rw [unlockS, e1]; rfl
      rw [e1, e2]
      clear e1 e2 ea hh h h1 hv
      generalize val s.l k = v at *
      generalize s.l.length = n at *
      go_enter Try.func31, Try.ntmps31
      go_wp2
      go_ret
      exact HD.out.same rfl HB.out
    have ea : actor a = true := by simp [actor]; omega
    by_cases ho : val s.l k = a + 1
    · have e1 : unlockE s k a = 0 := by rw [unlockE, ea, hh]; simpa using ho
      have e2 : unlockS s k a = { s with l := put s.l k (0) } := by rw [unlockS, if_pos e1]
      rw [e1, e2]
      clear e1 e2 ea hh h h1 hv
      generalize val s.l k = v at *
      generalize s.l.length = n at *
      have tw := wrap_id (x := a + 1) (by omega) (by omega)
      have tq : (v != a + 1) = false := by simpa using ho
      go_enter Try.func31, Try.ntmps31
      go_wp2
      go_ret
      exact HD.out.putl (by omega) rfl
    · have e1 : unlockE s k a = 110 := by rw [unlockE, ea, hh]; simpa using ho
      have e2 : unlockS s k a = s := by rw [unlockS, e1]; rfl
      rw [e1, e2]
      clear e1 e2 ea hh h h1 hv
      generalize val s.l k = v at *
      generalize s.l.length = n at *
      have tw := wrap_id (x := a + 1) (by omega) (by omega)
      have tq : (v != a + 1) = true := by simpa using ho
      go_enter Try.func31, Try.ntmps31
      go_wp2
      go_ret
      exact HD.out.same rfl HB.out
theorem change_r (W : World) (own : Nat → Prop) (p : Nat) (s : CC) (N : Nat) (i : Int) (hN : N ≤ 1000000) (h : DocAt W own p s N) : Calls Try.prog 32 #[.pointer (some ⟨p, 0, none⟩), .int .i64 i] W (DidF DocAt W own p (stepS s i 0) (N + 1) (.int .i64 (stepE s i 0))) := by
  have k1 := step_r W own p s N i 0 hN h
  clear h
  go_enter Try.func32, Try.ntmps32
  go_wp2_with (first
    | go_skip
    | (go_at_call 47; refine k1.mono ?_; rintro e w2 ⟨rfl, hd⟩))
  go_ret
  exact ⟨rfl, hd⟩
theorem settle_r (W : World) (own : Nat → Prop) (p : Nat) (s : CC) (N : Nat) (i : Int) (hN : N ≤ 1000000) (h : DocAt W own p s N) : Calls Try.prog 33 #[.pointer (some ⟨p, 0, none⟩), .int .i64 i] W (DidF DocAt W own p (stepS s i 1) (N + 1) (.int .i64 (stepE s i 1))) := by
  have k1 := step_r W own p s N i 1 hN h
  clear h
  go_enter Try.func33, Try.ntmps33
  go_wp2_with (first
    | go_skip
    | (go_at_call 47; refine k1.mono ?_; rintro e w2 ⟨rfl, hd⟩))
  go_ret
  exact ⟨rfl, hd⟩
end Go.Proofs.Ytoajgaljccaccaa.Ce
end
