/-
  The counters of all queues as one row of signed numbers (what cells hold), six to a queue. Conditions: that the counters fit. A tally's state as a state of cells: what the cells tell, as the tally has it. Conditions: that the counters fit. Noting counts, step by step: what lies in the cells between them. Conditions: that the counters fit. Where the program's tallies lie; what calls of their cells make of them. Conditions: those that each theorem names. The program's between, missing, lacks, cellOf, New. Conditions: the tally lies where its pointer says. The program's lacks, of a queue that there is. Conditions: the tally lies where its pointer says.
-/
import Derived.Test.YtdhjdkhhhdcjdaaMGb
import Derived.Test.YtdhjdkhhhdcjdaaMGo
import Derived.Test.YtdhjdkhhhdcjdaaMGr
/- The counters of all queues as one row of signed numbers (what cells hold), six to a queue. Conditions: that the counters fit. -/
section
namespace Go.Proofs.Ytdhjdkhhhdcjdaa.Ta
set_option linter.unusedSimpArgs false
set_option linter.unusedVariables false
set_option maxRecDepth 100000

/-- 64 bits, read with a sign -/
abbrev s64 (x : Int) : Int := IntKind.i64.wrap x
theorem s64_eq (x : Int) : s64 x = (x + 9223372036854775808) % 18446744073709551616 - 9223372036854775808 := by
  simp [s64, IntKind.wrap, IntKind.bits, IntKind.signed]
  split <;> omega
theorem w64_eq (x : Int) : w64 x = x % 18446744073709551616 := by rw [w64, IntKind.wrap_u64]
theorem s64_i64 (x : Int) : I64 (s64 x) := by rw [s64_eq]; exact ⟨by omega, by omega⟩
theorem u_of_s {x : Int} (h : U64 x) : w64 (s64 x) = x := by rw [w64_eq, s64_eq]; have := h.1; have := h.2; omega
theorem s_of_u (x : Int) : s64 (w64 x) = s64 x := by rw [s64_eq, s64_eq, w64_eq]; omega
/-- what is added to the cell is added to the counter -/
theorem s64_add (x v : Int) : IntKind.i64.wrap (s64 x + s64 v) = s64 (w64 (x + v)) := by
  rw [s_of_u, show IntKind.i64.wrap (s64 x + s64 v) = s64 (s64 x + s64 v) from rfl, s64_eq, s64_eq, s64_eq, s64_eq]
  omega
def six (c : C6) : List Int := [s64 c.c0, s64 c.c1, s64 c.c2, s64 c.c3, s64 c.c4, s64 c.c5]
theorem six_len (c : C6) : (six c).length = 6 := rfl
theorem six_get (c : C6) {f : Nat} (h : f < 6) : (six c)[f]? = some (s64 (c.get f)) := by
  match f, h with
  | 0, _ => rfl
  | 1, _ => rfl
  | 2, _ => rfl
  | 3, _ => rfl
  | 4, _ => rfl
  | 5, _ => rfl
theorem six_set (c : C6) {f : Nat} (h : f < 6) (v : Int) : (six c).set f (s64 v) = six (c.put f v) := by
  match f, h with
  | 0, _ => rfl
  | 1, _ => rfl
  | 2, _ => rfl
  | 3, _ => rfl
  | 4, _ => rfl
  | 5, _ => rfl
/-- the rows, one behind the other -/
def flat6 : List C6 → List Int
  | [] => []
  | c :: l => six c ++ flat6 l
theorem flat6_len (l : List C6) : (flat6 l).length = 6 * l.length := by
  induction l with
  | nil => rfl
  | cons c l ih => rw [flat6, List.length_append, ih, six_len, List.length_cons]; omega
theorem flat6_zero (n : Nat) : flat6 (List.replicate n zero6) = List.replicate (6 * n) 0 := by
  induction n with
  | zero => rfl
  | succ n ih =>
    rw [List.replicate_succ, flat6, ih, show six zero6 = List.replicate 6 0 by decide, List.replicate_append_replicate]
    congr 1
    omega
theorem flat6_get (l : List C6) {q f : Nat} (hf : f < 6) (c : C6) (hc : l[q]? = some c) : (flat6 l)[6 * q + f]? = some (s64 (c.get f)) := by
  induction l generalizing q with
  | nil => cases hc
  | cons d l ih =>
    cases q with
    | zero =>
      obtain rfl : d = c := by simpa using hc
      rw [flat6, List.getElem?_append_left (by rw [six_len]; omega), Nat.mul_zero, Nat.zero_add, six_get _ hf]
    | succ q =>
      have h2 : l[q]? = some c := by simpa using hc
      rw [flat6, List.getElem?_append_right (by rw [six_len]; omega), six_len, show 6 * (q + 1) + f - 6 = 6 * q + f by omega]
      exact ih h2
theorem flat6_set (l : List C6) {q f : Nat} (hf : f < 6) (c : C6) (hc : l[q]? = some c) (v : Int) : (flat6 l).set (6 * q + f) (s64 v) = flat6 (l.set q (c.put f v)) := by
  induction l generalizing q with
  | nil => cases hc
  | cons d l ih =>
    cases q with
    | zero =>
      obtain rfl : d = c := by simpa using hc
      rw [flat6, List.set_append_left _ _ (by rw [six_len]; omega), Nat.mul_zero, Nat.zero_add, six_set _ hf]
      rfl
    | succ q =>
      have h2 : l[q]? = some c := by simpa using hc
      rw [flat6, List.set_append_right _ _ (by rw [six_len]; omega), six_len, show 6 * (q + 1) + f - 6 = 6 * q + f by omega, ih h2]
      rfl
end Go.Proofs.Ytdhjdkhhhdcjdaa.Ta
end
/- A tally's state as a state of cells: what the cells tell, as the tally has it. Conditions: that the counters fit. -/
section
namespace Go.Proofs.Ytdhjdkhhhdcjdaa.Ta
set_option linter.unusedSimpArgs false
set_option linter.unusedVariables false
set_option maxRecDepth 100000

/-- the cells of a tally: six to a queue, a count to a queue -/
def cc (X : TS) (l : List Int) : Ce.CC := ⟨flat6 X.k, l, X.s⟩
theorem cc_rat (X : TS) (l : List Int) (o : Option RD) : cc { X with rd := o } l = cc X l := rfl
theorem cc_fits {X : TS} {N : Nat} {l : List Int} (h : FitsT X N) (hl : ∀ v, v ∈ l → 0 ≤ v ∧ v ≤ 64) (hn : l.length ≤ 1000) : (∀ v, v ∈ (cc X l).c → I64 v) ∧ (∀ v, v ∈ (cc X l).s → 0 ≤ v ∧ v ≤ N) ∧ (cc X l).c.length ≤ 1000 ∧ (cc X l).s.length ≤ 1000 := by
  refine ⟨fun v hv => ?_, h.fs, ?_, ?_⟩
  · obtain ⟨j, hj, rfl⟩ := List.getElem_of_mem hv
    have hj2 : j < 6 * X.k.length := by rw [← flat6_len]; exact hj
    have hc := List.getElem?_eq_getElem (show j / 6 < X.k.length by omega)
    have hg := flat6_get X.k (q := j / 6) (f := j % 6) (by omega) _ hc
    rw [show 6 * (j / 6) + j % 6 = j by omega] at hg
    have e : (cc X l).c[j]? = some (cc X l).c[j] := List.getElem?_eq_getElem hj
    rw [show (cc X l).c[j]? = _ from hg] at e
    rw [← Option.some.inj e]
    exact s64_i64 _
  · show (flat6 X.k).length ≤ 1000
    rw [flat6_len, h.len]
    have := h.n64
    omega
  · have := h.n64
    show X.s.length ≤ 1000
    omega
section
variable {X : TS} {N : Nat} {l : List Int}
theorem cc_has (hf : FitsT X N) {q f : Nat} (hq : q < X.s.length) (h6 : f < 6) : Ce.has (cc X l).c ((6 * q + f : Nat) : Int) = true := by
  simp only [Ce.has, Bool.and_eq_true, decide_eq_true_eq]
  have : (cc X l).c.length = 6 * X.s.length := by rw [← hf.len]; exact flat6_len X.k
  omega
theorem cc_val (hf : FitsT X N) {q f : Nat} (hq : q < X.s.length) (h6 : f < 6) : Ce.val (cc X l).c ((6 * q + f : Nat) : Int) = s64 ((kq X (q : Int)).get f) := by
  rw [Ce.val, Int.toNat_natCast, List.getD_eq_getElem?_getD, show (cc X l).c[6 * q + f]? = _ from flat6_get X.k h6 _ (kq_at hf hq)]
  rfl
theorem cc_load (hf : FitsT X N) {q f : Nat} (hq : q < X.s.length) (h6 : f < 6) : Ce.loadV (cc X l) ((6 * q + f : Nat) : Int) = s64 ((kq X (q : Int)).get f) := by
  rw [Ce.loadV, if_pos (cc_has hf hq h6), cc_val hf hq h6]
theorem cc_add (hf : FitsT X N) {q f : Nat} (hq : q < X.s.length) (h6 : f < 6) (v : Int) : Ce.addS (cc X l) ((6 * q + f : Nat) : Int) (s64 v) = cc (X.putk (q : Int) ((kq X (q : Int)).put f (w64 ((kq X (q : Int)).get f + v)))) l := by
  rw [Ce.addS, if_pos (cc_has hf hq h6), cc_val hf hq h6, s64_add]
  have h := flat6_set X.k h6 _ (kq_at hf hq) (w64 ((kq X (q : Int)).get f + v))
  simp only [cc, TS.putk, Ce.put, Int.toNat_natCast, h]
theorem cc_has_s (q : Int) : Ce.has (cc X l).s q = hasQ X q := rfl
theorem cc_sq (q : Int) : Ce.val (cc X l).s q = sq X q := rfl
theorem mod2 (x : Int) : x % 2 = 0 ∨ x % 2 = 1 := by omega
theorem cc_open (q : Int) : Ce.stepE (cc X l) q 0 = openE X q := by
  rw [Ce.stepE, openE, cc_has_s, cc_sq]
  split
  · rfl
  · rcases mod2 (sq X q) with h | h <;> rw [h] <;> rfl
theorem cc_openS (q : Int) : Ce.stepS (cc X l) q 0 = cc (openS X q) l := by
  rw [Ce.stepS, openS, cc_open]
  split <;> rfl
/-- what the cells say of a change that is not open is another error -/
theorem cc_shut (q : Int) : Ce.stepE (cc X l) q 1 = if hasQ X q = false then 2 else if sq X q % 2 = 0 then 111 else 0 := by
  rw [Ce.stepE, cc_has_s, cc_sq]
  split
  · rfl
  · rcases mod2 (sq X q) with h | h <;> rw [h] <;> rfl
theorem cc_shutS (q : Int) : Ce.stepS (cc X l) q 1 = cc (shutS X q) l := by
  rw [Ce.stepS, shutS, cc_shut, shutE]
  cases hasQ X q with
  | false => rfl
  | true => rcases mod2 (sq X q) with h | h <;> rw [h] <;> rfl
theorem cc_begin (q : Int) : Ce.beginE (cc X l) q = openE X q := by
  rw [Ce.beginE, openE, cc_has_s, cc_sq]
  split
  · rfl
  · rcases mod2 (sq X q) with h | h <;> rw [h] <;> rfl
theorem cc_beginV {q : Int} (hq : hasQ X q = true) (h0 : sq X q % 2 = 0) : Ce.beginV (cc X l) q = sq X q := by
  rw [Ce.beginV, cc_has_s, cc_sq, hq, decide_eq_true h0]
  rfl
theorem cc_end {q : Int} (hq : hasQ X q = true) (a : Int) : Ce.endV (cc X l) q a = decide (sq X q = a) := by
  rw [Ce.endV, cc_has_s, cc_sq, hq, Bool.true_and]
end
end Go.Proofs.Ytdhjdkhhhdcjdaa.Ta
end
/- Noting counts, step by step: what lies in the cells between them. Conditions: that the counters fit. -/
section
namespace Go.Proofs.Ytdhjdkhhhdcjdaa.Ta
set_option linter.unusedSimpArgs false
set_option linter.unusedVariables false
set_option maxRecDepth 100000

/-- a change is open, the first j counters are added -/
def noteY (X : TS) (q : Nat) (c : C6) (j : Nat) : TS := (X.puts (q : Int) (sq X (q : Int) + 1)).putk (q : Int) ((kq X (q : Int)).upto c j)
section
variable {X : TS} {N : Nat} {q : Nat} {c : C6} {l : List Int}
theorem noteY_fits (hf : FitsT X N) (hq : q < X.s.length) (j : Nat) : FitsT (noteY X q c j) (N + 1) := by
  have hs := hf.sq hq
  exact (hf.puts (M := N + 1) (by omega) (q : Int) ⟨by omega, by omega⟩).putk _ (upto_fits (hf.kq hq) c j)
theorem noteY_len (j : Nat) : (noteY X q c j).s.length = X.s.length := by simp [noteY, TS.puts, TS.putk]
theorem noteY_sq (hq : q < X.s.length) (j : Nat) : sq (noteY X q c j) (q : Int) = sq X (q : Int) + 1 := by
  simp [noteY, TS.puts, TS.putk, sq, List.getD_eq_getElem?_getD, hq]
theorem noteY_kq (hf : FitsT X N) (hq : q < X.s.length) (j : Nat) : kq (noteY X q c j) (q : Int) = (kq X (q : Int)).upto c j := by
  have hl : q < X.k.length := by rw [hf.len]; exact hq
  simp [noteY, TS.puts, TS.putk, kq, List.getD_eq_getElem?_getD, hl]
theorem noteY_zero (hf : FitsT X N) (hq : q < X.s.length) (h0 : openE X (q : Int) = 0) : openS X (q : Int) = noteY X q c 0 := by
  rw [openS, if_pos h0, noteY, upto_zero]
  have h := kq_at hf hq
  simp only [TS.puts, TS.putk, Int.toNat_natCast]
  congr 1
  refine (List.ext_getElem? fun i => ?_).symm
  rw [List.getElem?_set]
  split
  · rename_i e
    subst e
    split
    · exact h.symm
    · rename_i hlt
      exact (List.getElem?_eq_none (by omega)).symm
  · rfl
theorem noteY_next (hf : FitsT X N) (hq : q < X.s.length) {j : Nat} (hj : j < 6) : Ce.addS (cc (noteY X q c j) l) ((6 * q + j : Nat) : Int) (s64 (c.get j)) = cc (noteY X q c (j + 1)) l := by
  rw [cc_add (noteY_fits hf hq j) (by rw [noteY_len]; exact hq) hj, noteY_kq hf hq]
  have e : ((kq X (q : Int)).upto c j).put j (w64 (((kq X (q : Int)).upto c j).get j + c.get j)) = (kq X (q : Int)).upto c (j + 1) := by
    rw [get_upto _ _ _ hj, if_neg (by omega), upto_next]
  rw [e]
  simp only [noteY, TS.puts, TS.putk, List.set_set]
theorem noteY_done (hf : FitsT X N) (hq : q < X.s.length) (h0 : openE X (q : Int) = 0) : Ce.stepE (cc (noteY X q c 6) l) (q : Int) 1 = 0 ∧ Ce.stepS (cc (noteY X q c 6) l) (q : Int) 1 = cc (noteS X (q : Int) c) l := by
  have hev : sq X (q : Int) % 2 = 0 := by
    rw [openE] at h0
    split at h0
    · omega
    · split at h0 <;> omega
  have hh : hasQ (noteY X q c 6) (q : Int) = true := has_of (by rw [noteY_len]; exact hq)
  have e1 : Ce.stepE (cc (noteY X q c 6) l) (q : Int) 1 = 0 := by
    rw [cc_shut, hh, noteY_sq hq, if_neg (by simp), if_neg (by omega)]
  refine ⟨e1, ?_⟩
  have e2 : shutE (noteY X q c 6) (q : Int) = 0 := by rw [shutE, hh, if_neg (by simp), noteY_sq hq, if_neg (by omega)]
  rw [cc_shutS, shutS, if_pos e2, noteY_sq hq, noteS, if_pos h0, ← upto_six]
  simp only [noteY, TS.puts, TS.putk, List.set_set, Int.add_assoc]
  rfl
end
end Go.Proofs.Ytdhjdkhhhdcjdaa.Ta
end
/- Where the program's tallies lie; what calls of their cells make of them. Conditions: those that each theorem names. -/
section
namespace Go.Proofs.Ytdhjdkhhhdcjdaa.Ta
set_option linter.unusedSimpArgs false
set_option linter.unusedVariables false
set_option maxRecDepth 100000
open Go.ChangeShapes Go.WideShapes Go.ChangeAt Go.RowKit

/-- the cells of a reader -/
abbrev rcells (p : Nat) (R : RD) (c : C6) : Array Value := #[.pointer (some ⟨p, 0, none⟩), .int .i64 (R.q : Int), .int .i64 (R.at' : Int), .int .i64 R.s0, .int .u64 c.c0, .int .u64 c.c1, .int .u64 c.c2, .int .u64 c.c3, .int .u64 c.c4, .int .u64 c.c5]
structure RPt (W : World) (p : Nat) (R : RD) (c : C6) : Prop where
  box : Held W R.r 76 (rcells p R c)
  fits : c.Fits
  got : ∀ (i : Nat) (v : Int), R.l[i]? = some v → c.get i = v
structure TAt (W : World) (own oc : Nat → Prop) (p b : Nat) (X : TS) (N : Nat) : Prop where
  box : Held W p 67 #[.int .i64 (X.s.length : Int), .pointer (some ⟨b, 0, none⟩)]
  cells : Ce.PAt11 W oc b (cc X []) N
  fits : FitsT X N
  po : ¬ oc p
  rd : ∀ R, X.rd = some R → (∃ c, RPt W p R c) ∧ R.r ≠ p ∧ ¬ oc R.r
  own : ∀ i, own i ↔ i = p ∨ oc i ∨ ∃ R, X.rd = some R ∧ i = R.r
def PAt12 : PT := fun W own p X N => ∃ oc b, TAt W own oc p b X N
section
variable {W W' w' : World} {own oc : Nat → Prop} {p b N N' : Nat} {X X' : TS}
theorem TAt.on (h : TAt W own oc p b X N) (hs : ∀ i, own i → W'.heap[i]? = W.heap[i]?) (hz : W.heap.size ≤ W'.heap.size) : TAt W' own oc p b X N :=
  { h with
    box := (hs p ((h.own p).2 (.inl rfl))).trans h.box
    cells := Ce.PAt11.pt.on h.cells (fun i hi => hs i ((h.own i).2 (.inr (.inl hi)))) hz
    rd := fun R hR => by
      obtain ⟨⟨c, hc⟩, h1, h2⟩ := h.rd R hR
      exact ⟨⟨c, { hc with box := (hs R.r ((h.own _).2 (.inr (.inr ⟨R, hR, rfl⟩)))).trans hc.box }⟩, h1, h2⟩ }
theorem TAt.lt (h : TAt W own oc p b X N) (i : Nat) (hi : own i) : i < W.heap.size := by
  rcases (h.own i).1 hi with rfl | hi | ⟨R, hR, rfl⟩
  · exact h.box.lt
  · exact Ce.PAt11.pt.lt h.cells i hi
  · obtain ⟨⟨c, hc⟩, h1, h2⟩ := h.rd R hR
    exact hc.box.lt
theorem PAt12.pt : PtOk PAt12 := ⟨fun ⟨oc, b, h⟩ h1 h2 => ⟨oc, b, h.on h1 h2⟩, fun ⟨_, _, h⟩ i hi => h.lt i hi⟩
theorem TAt.below (h : TAt W own oc p b X N) (hb : Below W.heap.size W W') : TAt W' own oc p b X N := h.on (fun i hi => hb.block i (h.lt i hi)) hb.size
theorem TAt.same (h : TAt W own oc p b X N) {v : Value} {e : Ending} (he : e = .returned v) (hb : Below W.heap.size W w') : DidF PAt12 W own p X N v e w' :=
  ⟨he, ⟨own, ⟨oc, b, h.below hb⟩, fun i hi => .inl hi⟩, Foot.of_below hb⟩
/-- a call of the cells -/
theorem TAt.did2 (h : TAt W own oc p b X N) {s' : Ce.CC} {v : Value} {e : Ending} (hd : Ce.DidF Ce.PAt11 W oc b s' N' v e w') (hs : s' = cc X' []) (hl : X'.s.length = X.s.length) (hr : X'.rd = X.rd) (hf : FitsT X' N') :
    e = .returned v ∧ ∃ own' oc', TAt w' own' oc' p b X' N' ∧ (∀ i, own' i → own i ∨ W.heap.size ≤ i) ∧ Foot oc W w' := by
  obtain ⟨rfl, ⟨oc', a, ho⟩, hF⟩ := hd
  subst hs
  have lp := h.box.lt
  refine ⟨rfl, fun i => i = p ∨ oc' i ∨ ∃ R, X'.rd = some R ∧ i = R.r, oc', ⟨?_, a, hf, ?_, ?_, fun i => Iff.rfl⟩, ?_, hF⟩
  · rw [hl]
    exact h.box.foot hF h.po
  · intro e
    rcases ho p e with e | e
    · exact h.po e
    · omega
  · intro R hR
    rw [hr] at hR
    obtain ⟨⟨c, hc⟩, h1, h2⟩ := h.rd R hR
    refine ⟨⟨c, { hc with box := hc.box.foot hF h2 }⟩, h1, fun e => ?_⟩
    rcases ho _ e with e | e
    · exact h2 e
    · have := hc.box.lt
      omega
  · intro i hi
    rcases hi with rfl | hi | ⟨R, hR, rfl⟩
    · exact .inl ((h.own _).2 (.inl rfl))
    · rcases ho i hi with e | e
      · exact .inl ((h.own i).2 (.inr (.inl e)))
      · exact .inr e
    · rw [hr] at hR
      exact .inl ((h.own _).2 (.inr (.inr ⟨R, hR, rfl⟩)))
theorem TAt.foot (h : TAt W own oc p b X N) (hF : Foot oc W w') : Foot own W w' := hF.mono fun i _ hi => (h.own i).2 (.inr (.inl hi))
theorem TAt.did (h : TAt W own oc p b X N) {s' : Ce.CC} {v : Value} {e : Ending} (hd : Ce.DidF Ce.PAt11 W oc b s' N' v e w') (hs : s' = cc X' []) (hl : X'.s.length = X.s.length) (hr : X'.rd = X.rd) (hf : FitsT X' N') : DidF PAt12 W own p X' N' v e w' := by
  obtain ⟨he, own', oc', h1, h2, h3⟩ := h.did2 hd hs hl hr hf
  exact ⟨he, ⟨own', ⟨oc', b, h1⟩, h2⟩, h.foot h3⟩
/-- the same with another answer -/
theorem DidF.ans {P : PT} {v v' : Value} {e e' : Ending} (h : DidF P W own p X N v e w') (he : e' = .returned v') : DidF P W own p X N v' e' w' := ⟨he, h.2⟩
theorem DidF.from {P : PT} {W0 : World} {v : Value} {e : Ending} (hb : Below W0.heap.size W0 W) (h : DidF P W own p X N v e w') : DidF P W0 own p X N v e w' := by
  obtain ⟨he, ⟨own', h1, h2⟩, hf⟩ := h
  have hz := hb.size
  exact ⟨he, ⟨own', h1, fun i hi => (h2 i hi).imp id fun h => by omega⟩, (Foot.of_below hb).trans' hf⟩
theorem DidF.then_below {P : PT} (hP : PtOk P) {v v' : Value} {e e' : Ending} {w'' : World} (h : DidF P W own p X N v e w') (hb : Below w'.heap.size w' w'') (he : e' = .returned v') : DidF P W own p X N v' e' w'' := by
  obtain ⟨_, ⟨own', h1, h2⟩, hf⟩ := h
  exact ⟨he, ⟨own', hP.on h1 (fun i hi => hb.block i (hP.lt h1 i hi)) hb.size, h2⟩, hf.then_below hb⟩
theorem cc_up {s : Ce.CC} (h : Ce.PAt11 W oc b s N) {M : Nat} (hM : N ≤ M) : Ce.PAt11 W oc b s M := by
  obtain ⟨_, _, _, _, _, _, h1⟩ := h
  exact ⟨_, _, _, _, _, _, { h1 with fits := h1.fits.mono hM }⟩
theorem DidF.up {v : Value} {e : Ending} {M : Nat} (hM : N ≤ M) (h : DidF PAt12 W own p X N v e w') : DidF PAt12 W own p X M v e w' := by
  obtain ⟨he, ⟨own', ⟨oc, b, h1⟩, h2⟩, hf⟩ := h
  exact ⟨he, ⟨own', ⟨oc, b, { h1 with cells := cc_up h1.cells hM, fits := h1.fits.mono hM }⟩, h2⟩, hf⟩
/-- the reader is changed -/
theorem TAt.rput (h : TAt W own oc p b X N) {R R' : RD} {c' : C6} (hR : X.rd = some R) (hr : R'.r = R.r) (hF : Foot (· = R.r) W w') (hb : Held w' R.r 76 (rcells p R' c')) (hc : c'.Fits)
    (hg : ∀ (i : Nat) (v : Int), R'.l[i]? = some v → c'.get i = v) (hf : FitsR X.s.length N R') : TAt w' own oc p b { X with rd := some R' } N := by
  obtain ⟨_, h1, h2⟩ := h.rd R hR
  refine ⟨h.box.foot hF (fun e => h1 (by have : p = R.r := e; omega)), Ce.PAt11.pt.on h.cells (fun i hi => hF.block i (Ce.PAt11.pt.lt h.cells i hi) (fun e => h2 (by rw [← show i = R.r from e]; exact hi))) hF.size, h.fits.read hf, h.po, fun R2 e => ?_, fun i => ?_⟩
  · obtain rfl : R' = R2 := by simpa using e
    rw [hr]
    exact ⟨⟨c', by rw [hr]; exact hb, hc, hg⟩, h1, h2⟩
  · rw [h.own i]
    constructor
    · rintro (e | e | ⟨R2, e, e2⟩)
      · exact .inl e
      · exact .inr (.inl e)
      · rw [hR] at e
        obtain rfl : R = R2 := by simpa using e
        exact .inr (.inr ⟨R', rfl, by rw [hr]; exact e2⟩)
    · rintro (e | e | ⟨R2, e, e2⟩)
      · exact .inl e
      · exact .inr (.inl e)
      · obtain rfl : R' = R2 := by simpa using e
        exact .inr (.inr ⟨R, hR, by rw [← hr]; exact e2⟩)
theorem TAt.rd' (h : TAt W own oc p b X N) {R : RD} (hR : X.rd = some R) : own R.r := (h.own _).2 (.inr (.inr ⟨R, hR, rfl⟩))
/-- a call of the cells, and what the reader is made of then -/
theorem TAt.rdid (h : TAt W own oc p b X N) {R R' : RD} {c' : C6} {own' oc' : Nat → Prop} {w2 : World} (h2 : TAt w2 own' oc' p b X N) (ho : ∀ i, own' i → own i ∨ W.heap.size ≤ i) (hF2 : Foot oc W w2)
    (hR : X.rd = some R) (hr : R'.r = R.r) (hF : Foot (· = R.r) w2 w') (hb : Held w' R.r 76 (rcells p R' c')) (hc : c'.Fits)
    (hg : ∀ (i : Nat) (v : Int), R'.l[i]? = some v → c'.get i = v) (hf : FitsR X.s.length N R') {v : Value} {e : Ending} (he : e = .returned v) : DidF PAt12 W own p { X with rd := some R' } N v e w' :=
  ⟨he, ⟨own', ⟨oc', b, h2.rput hR hr hF hb hc hg hf⟩, ho⟩, (h.foot hF2).trans hF fun i _ e => by
    have e : i = R.r := e
    rw [e]
    exact h.rd' hR⟩
theorem has_sq_len (X : TS) (q v : Int) : (X.puts q v).s.length = X.s.length := by simp [TS.puts]
theorem openS_fits (h : FitsT X N) (q : Int) : FitsT (openS X q) (N + 1) := by
  unfold openS
  split
  · rename_i h0
    have hh : hasQ X q = true := by
      unfold openE at h0
      split at h0
      · omega
      · rename_i h1
        simpa using h1
    obtain ⟨k, rfl, hk⟩ := has_at hh
    have := h.sq hk
    exact h.puts (Nat.le_succ _) _ ⟨by omega, by omega⟩
  · exact h.mono (Nat.le_succ _)
theorem shutS_fits (h : FitsT X N) (q : Int) : FitsT (shutS X q) (N + 1) := by
  unfold shutS
  split
  · rename_i h0
    have hh : hasQ X q = true := by
      unfold shutE at h0
      split at h0
      · omega
      · rename_i h1
        simpa using h1
    obtain ⟨k, rfl, hk⟩ := has_at hh
    have := h.sq hk
    exact h.puts (Nat.le_succ _) _ ⟨by omega, by omega⟩
  · exact h.mono (Nat.le_succ _)
theorem openS_len (q : Int) : (openS X q).s.length = X.s.length := by unfold openS; split <;> simp [TS.puts]
theorem shutS_len (q : Int) : (shutS X q).s.length = X.s.length := by unfold shutS; split <;> simp [TS.puts]
theorem openS_rd (q : Int) : (openS X q).rd = X.rd := by unfold openS; split <;> rfl
theorem shutS_rd (q : Int) : (shutS X q).rd = X.rd := by unfold shutS; split <;> rfl
end
/-- a new tally -/
theorem TAt.new {W W1 : World} {b n : Nat} {oc : Nat → Prop} (ho : okQ (n : Int) = true) (hb : Below W.heap.size W W1) (hc : Ce.PAt11 W1 oc b (Ce.zeroC ((n : Int) * 6) 0 (n : Int)) 0) (hn : ∀ i, oc i → W.heap.size ≤ i) {e : Ending} (he : e = .returned (.tuple #[.pointer (some ⟨W1.heap.size, 0, none⟩), .int .i64 0])) :
    NewF PAt12 W (zeroT (n : Int)) e (W1.alloc (.cells #[.int .i64 (n : Int), .pointer (some ⟨b, 0, none⟩)] 67)) := by
  have hz : Ce.zeroC ((n : Int) * 6) 0 (n : Int) = cc (zeroT (n : Int)) [] := by
    simp only [Ce.zeroC, cc, zeroT, Int.toNat_natCast]
    rw [flat6_zero, show ((n : Int) * 6).toNat = 6 * n by omega]
    rfl
  rw [hz] at hc
  have hlt := Ce.PAt11.pt.lt hc
  refine ⟨W1.heap.size, fun i => i = W1.heap.size ∨ oc i, he, ⟨oc, b, ?_, ?_, FitsT.zero _ ho, fun e => by have := hlt _ e; omega, (fun R hR => by cases hR), fun i => ?_⟩, hb.alloc hb.size _, fun i hi => ?_⟩
  · have : (zeroT (n : Int)).s.length = n := by simp [zeroT]
    rw [this]
    exact Held.new W1 _ _
  · exact Ce.PAt11.pt.on hc (fun i hi => Below.heap_alloc _ _ _ (hlt i hi)) (by simp)
  · constructor
    · rintro (e | e)
      · exact .inl e
      · exact .inr (.inl e)
    · rintro (e | e | ⟨R, e, _⟩)
      · exact .inl e
      · exact .inr e
      · cases e
  · rcases hi with rfl | hi
    · exact hb.size
    · exact hn i hi
end Go.Proofs.Ytdhjdkhhhdcjdaa.Ta
end
/- The program's between, missing, lacks, cellOf, New. Conditions: the tally lies where its pointer says. -/
section
namespace Go.Proofs.Ytdhjdkhhhdcjdaa.Ta
set_option linter.unusedSimpArgs false
set_option linter.unusedVariables false
set_option maxRecDepth 100000
open Go.ChangeShapes Go.WideShapes Go.ChangeAt Go.RowKit

theorem between_p (b : Nat) (t : TypeId) (l : List Int) (lo hi : Int) (hn : l.length ≤ 1000) (W : World) (h : Held W b t (ints l)) : Calls Try.prog 24 #[.int .i64 lo, .int .i64 hi, .slice (some ⟨b, 0, none⟩) l.length l.length] W fun e w' => e = .returned (.bool (l.all fun x => decide (lo ≤ x) && decide (x ≤ hi))) ∧ w' = W := by
  have HH := Lib.hid h
  obtain ⟨n, hn0⟩ : ∃ n, l.length = n := ⟨_, rfl⟩
  rw [hn0] at hn ⊢
  have HN := Lib.hid hn0
  clear h hn0
  go_enter Try.func24, Try.ntmps24
  go_wp2
  go_loopw [11] (fun i wr => ∃ k : Nat, k ≤ n ∧ i = .int .i64 k ∧ wr = W ∧ Hid ((l.take k).all (fun x => decide (lo ≤ x) && decide (x ≤ hi)) = true)) (fun i _ => n - (intOf i).toNat)
  case atStart => exact ⟨0, Nat.zero_le _, rfl, rfl, Lib.hid (by simp)⟩
  case round =>
    obtain ⟨k, hk, rfl, rfl, HA⟩ := hrel
    by_cases hlt : (k : Int) < (n : Int)
    · obtain ⟨y, hy⟩ : ∃ y, l[k]? = some y := ⟨l[k]'(by have := HN.out; omega), List.getElem?_eq_getElem _⟩
      have g0 := Held.num HH.out hy
      have HY := Lib.hid hy
      have hlt2 : k < n := by omega
      clear hy
      by_cases h1 : y < lo
      · go_wp2
        go_ret
        refine ⟨?_, rfl⟩
        have : l.all (fun x => decide (lo ≤ x) && decide (x ≤ hi)) = false := List.all_eq_false.2 ⟨y, List.mem_of_getElem? HY.out, by simp; omega⟩
        rw [this]
        rfl
      · by_cases h2 : y > hi
        · go_wp2
          go_ret
          refine ⟨?_, rfl⟩
          have : l.all (fun x => decide (lo ≤ x) && decide (x ≤ hi)) = false := List.all_eq_false.2 ⟨y, List.mem_of_getElem? HY.out, by simp; omega⟩
          rw [this]
          rfl
        · go_wp2
          go_roundw
          case rel => exact ⟨k + 1, by omega, by go_num, by simp, Lib.hid (by rw [List.take_add_one, HY.out, List.all_append, HA.out]; simp; exact ⟨by omega, by omega⟩)⟩
          case measure => simp [intOf]; omega
    · obtain rfl : k = n := by omega
      have HA2 : l.all (fun x => decide (lo ≤ x) && decide (x ≤ hi)) = true := by have := HA.out; rwa [List.take_of_length_le (by have := HN.out; omega)] at this
      have HA3 := Lib.hid HA2
      clear HA2
      go_wp2
      go_ret
      exact ⟨by rw [HA3.out]; rfl, rfl⟩
theorem between_nil (lo hi : Int) (W : World) : Calls Try.prog 24 #[.int .i64 lo, .int .i64 hi, .slice none 0 0] W fun e w' => e = .returned (.bool true) ∧ w' = W := by
  go_enter Try.func24, Try.ntmps24
  go_wp2
  go_loopw [11] (fun i wr => i = .int .i64 0 ∧ wr = W) (fun i _ => 0)
  case atStart => exact ⟨rfl, rfl⟩
  case round =>
    obtain ⟨rfl, rfl⟩ := hrel
    go_wp2
    go_ret
    exact ⟨rfl, rfl⟩
/-- what between is asked, and answers -/
def BArg (W : World) (lo hi : Int) (v : Value) (r : Bool) : Prop := (v = .slice none 0 0 ∧ r = true) ∨ ∃ (b : Nat) (t : TypeId) (l : List Int), v = .slice (some ⟨b, 0, none⟩) l.length l.length ∧ Held W b t (ints l) ∧ l.length ≤ 1000 ∧ (l.all fun x => decide (lo ≤ x) && decide (x ≤ hi)) = r
theorem between_any (lo hi : Int) (v : Value) (r : Bool) (W : World) (h : BArg W lo hi v r) : Calls Try.prog 24 #[.int .i64 lo, .int .i64 hi, v] W fun e w' => e = .returned (.bool r) ∧ w' = W := by
  rcases h with ⟨rfl, rfl⟩ | ⟨b, t, l, rfl, h1, h2, rfl⟩
  · exact between_nil lo hi W
  · exact between_p b t l lo hi h2 W h1
theorem between_go {lo hi : Int} {v : Value} {r : Bool} {W : World} {Q : Ending → World → Prop} (h : BArg W lo hi v r) (hQ : ∀ e w', e = .returned (.bool r) ∧ w' = W → Q e w') : Calls Try.prog 24 #[.int .i64 lo, .int .i64 hi, v] W Q := (between_any lo hi v r W h).mono hQ
theorem missing_nil (W : World) : Calls Try.prog 39 #[.pointer none] W fun e w' => e = .returned (.bool true) ∧ w' = W := by
  go_enter Try.func39, Try.ntmps39
  go_wp2
  go_ret
  exact ⟨rfl, rfl⟩
theorem missing_no (p q : Nat) (W : World) (hc : W.cell? ⟨p, 1, none⟩ = some (.pointer (some ⟨q, 0, none⟩))) : Calls Try.prog 39 #[.pointer (some ⟨p, 0, none⟩)] W fun e w' => e = .returned (.bool false) ∧ w' = W := by
  go_enter Try.func39, Try.ntmps39
  go_wp2
  go_ret
  exact ⟨rfl, rfl⟩
theorem lacks_nil (W : World) (q : Int) (v : Value) : Calls Try.prog 26 #[.pointer none, .int .i64 q, v] W fun e w' => e = .returned (.int .i64 1) ∧ w' = W := by
  go_enter Try.func26, Try.ntmps26
  go_wp2_with (first
    | go_skip
    | (go_at_call 39; refine (missing_nil _).mono ?_; rintro e w2 ⟨rfl, hw⟩; rw [hw]; clear hw w2))
  go_ret
  exact ⟨rfl, rfl⟩
theorem has_all (X : TS) (q : Int) : ([q] : List Int).all (fun x => decide (0 ≤ x) && decide (x ≤ (X.s.length : Int) - 1)) = hasQ X q := by
  have e : decide (q ≤ (X.s.length : Int) - 1) = decide (q < X.s.length) := by simp; omega
  simp [hasQ, e]
theorem hasF_all (f : Int) : ([f] : List Int).all (fun x => decide (0 ≤ x) && decide (x ≤ 5)) = hasF f := by
  have e : decide (f ≤ 5) = decide (f < 6) := by simp; omega
  simp [hasF, e]
theorem okQ_all (n : Int) : ([n] : List Int).all (fun x => decide (1 ≤ x) && decide (x ≤ 64)) = okQ n := by simp [okQ]
theorem lacks_none (W : World) (own oc : Nat → Prop) (p b : Nat) (X : TS) (N : Nat) (q : Int) (h : TAt W own oc p b X N) (v : Value) (hq : hasQ X q = false) : Calls Try.prog 26 #[.pointer (some ⟨p, 0, none⟩), .int .i64 q, v] W fun e w' => e = .returned (.int .i64 2) ∧ Below W.heap.size W w' := by
  have c0 : W.cell? ⟨p, 0, none⟩ = some (.int .i64 (X.s.length : Int)) := h.box.cell 0
  have c1 : W.cell? ⟨p, 1, none⟩ = some (.pointer (some ⟨b, 0, none⟩)) := h.box.cell 1
  have k1 := missing_no p b W c1
  have n64 := h.fits.n64
  have w0 : IntKind.i64.wrap ((X.s.length : Int) - 1) = (X.s.length : Int) - 1 := wrap_id (by omega) (by omega)
  have k2 : ([q] : List Int).all (fun x => decide (0 ≤ x) && decide (x ≤ (X.s.length : Int) - 1)) = _ := (has_all X q).trans hq
  obtain ⟨m, hm⟩ : ∃ m, (X.s.length : Int) - 1 = m := ⟨_, rfl⟩
  have w1 : IntKind.i64.wrap ((X.s.length : Int) - 1) = m := w0.trans hm
  rw [hm] at k2
  clear hm n64 w0
  have H := Mem.start W
  have hnot : ∀ (x : Bool) (w : World), (Op.unary .not (.bool x)).run Try.prog w = .ok (.bool (!x)) w := fun _ _ => rfl
  clear h hq
  go_enter Try.func26, Try.ntmps26
  go_wp2_with (first
    | go_skip
    | (go_at_call 39; refine (k1).mono ?_; rintro e w2 ⟨rfl, hw⟩; rw [hw]; clear hw w2)
    | (go_at_call 24; (first | refine between_go (r := false) (.inr ⟨_, _, [q], rfl, Held.new _ _ _, by simp, k2⟩) ?_); rintro e w2 ⟨rfl, rfl⟩))
  go_ret
  exact ⟨rfl, H.below.alloc (Nat.le_refl _) _⟩
theorem cellOf_p (q f : Nat) (hq : q ≤ 64) (hf : f < 6) (W : World) : Calls Try.prog 51 #[.int .i64 (q : Int), .int .i64 (f : Int)] W fun e w' => e = .returned (.int .i64 ((6 * q + f : Nat) : Int)) ∧ w' = W := by
  have w1 : IntKind.i64.wrap ((q : Int) * 6) = (q : Int) * 6 := wrap_id (by omega) (by omega)
  have w2 : IntKind.i64.wrap ((q : Int) * 6 + (f : Int)) = ((6 * q + f : Nat) : Int) := by rw [wrap_id (by omega) (by omega)]; omega
  go_enter Try.func51, Try.ntmps51
  go_wp2
  go_ret
  exact ⟨rfl, rfl⟩
theorem new_no (n : Int) (hi : I64 n) (ho : okQ n = false) (W : World) : Calls Try.prog 11 #[.int .i64 n] W fun e w' => e = .returned (.tuple #[.pointer none, .int .i64 2]) ∧ Below W.heap.size W w' := by
  have H := Mem.start W
  have k2 := (okQ_all n).trans ho
  have hnot : ∀ (x : Bool) (w : World), (Op.unary .not (.bool x)).run Try.prog w = .ok (.bool (!x)) w := fun _ _ => rfl
  clear ho
  go_enter Try.func11, Try.ntmps11
  go_wp2_with (first
    | go_skip
    | (go_at_call 24; (first | refine between_go (r := false) (.inr ⟨_, _, [n], rfl, Held.new _ _ _, by simp, k2⟩) ?_); rintro e w2 ⟨rfl, rfl⟩))
  refine bodyPost_ret (results_two rfl _ _ _) rfl ?_
  exact ⟨rfl, H.below.alloc (Nat.le_refl _) _⟩
theorem okNew_of {n : Nat} (h : okQ (n : Int) = true) : Ce.okNew ((n : Int) * 6) 0 (n : Int) = true := by
  simp only [okQ, Bool.and_eq_true, decide_eq_true_eq] at h
  simp only [Ce.okNew, Ce.okNum, Bool.and_eq_true, decide_eq_true_eq]
  omega
theorem new_yes (n : Int) (ho : okQ n = true) (W : World) : Calls Try.prog 11 #[.int .i64 n] W (NewF PAt12 W (zeroT n)) := by
  have HO := Lib.hid ho
  have k2 := (okQ_all n).trans ho
  have hnot : ∀ (x : Bool) (w : World), (Op.unary .not (.bool x)).run Try.prog w = .ok (.bool (!x)) w := fun _ _ => rfl
  have hr := ho
  simp only [okQ, Bool.and_eq_true, decide_eq_true_eq] at hr
  obtain ⟨n, rfl⟩ := Int.eq_ofNat_of_zero_le (show 0 ≤ n by omega)
  have w1 : IntKind.i64.wrap ((n : Int) * 6) = (n : Int) * 6 := wrap_id (by omega) (by omega)
  have k3 := fun W => Ce.newP_yes ((n : Int) * 6) 0 (n : Int) (okNew_of ho) W
  clear ho hr
  have H := Mem.start W
  go_enter Try.func11, Try.ntmps11
  go_upto_region 3 with (first
    | (go_at_call 24; (first | refine between_go (r := true) (.inr ⟨_, _, [(n : Int)], rfl, Held.new _ _ _, by simp, k2⟩) ?_); rintro e w2 ⟨rfl, rfl⟩))
  have H0 := H.skip (.cells #[.int .i64 (n : Int)] 3)
  clear H k2
  have H := H0
  clear H0
  generalize W.alloc (.cells #[.int .i64 (n : Int)] 3) = W1 at H ⊢
  go_wp2_with (first
    | go_skip
    | (go_at_call 25; refine (k3 _).mono ?_; rintro e w2 ⟨b, oc, rfl, hC, hb, hn⟩; have H2 := H.below.trans (hb.mono H.below.size); clear hb))
  refine bodyPost_ret (results_two rfl _ _ _) rfl ?_
  have hz := H.below.size
  exact TAt.new HO.out H2 hC (fun i hi => by have := hn i hi; omega) rfl
end Go.Proofs.Ytdhjdkhhhdcjdaa.Ta
end
/- The program's lacks, of a queue that there is. Conditions: the tally lies where its pointer says. -/
section
namespace Go.Proofs.Ytdhjdkhhhdcjdaa.Ta
set_option linter.unusedSimpArgs false
set_option linter.unusedVariables false
set_option maxRecDepth 100000
open Go.ChangeShapes Go.WideShapes Go.ChangeAt Go.RowKit

theorem lacks_one (W : World) (own oc : Nat → Prop) (p b : Nat) (X : TS) (N : Nat) (q : Int) (h : TAt W own oc p b X N) (hq : hasQ X q = true) : Calls Try.prog 26 #[.pointer (some ⟨p, 0, none⟩), .int .i64 q, .slice none 0 0] W fun e w' => e = .returned (.int .i64 0) ∧ Below W.heap.size W w' := by
  have c0 : W.cell? ⟨p, 0, none⟩ = some (.int .i64 (X.s.length : Int)) := h.box.cell 0
  have c1 : W.cell? ⟨p, 1, none⟩ = some (.pointer (some ⟨b, 0, none⟩)) := h.box.cell 1
  have k1 := missing_no p b W c1
  have n64 := h.fits.n64
  have w0 : IntKind.i64.wrap ((X.s.length : Int) - 1) = (X.s.length : Int) - 1 := wrap_id (by omega) (by omega)
  have k2 : ([q] : List Int).all (fun x => decide (0 ≤ x) && decide (x ≤ (X.s.length : Int) - 1)) = _ := (has_all X q).trans hq
  obtain ⟨m, hm⟩ : ∃ m, (X.s.length : Int) - 1 = m := ⟨_, rfl⟩
  have w1 : IntKind.i64.wrap ((X.s.length : Int) - 1) = m := w0.trans hm
  rw [hm] at k2
  clear hm n64 w0
  have H := Mem.start W
  have hnot : ∀ (x : Bool) (w : World), (Op.unary .not (.bool x)).run Try.prog w = .ok (.bool (!x)) w := fun _ _ => rfl
  clear h hq
  go_enter Try.func26, Try.ntmps26
  go_wp2_with (first
    | go_skip
    | (go_at_call 39; refine (k1).mono ?_; rintro e w2 ⟨rfl, hw⟩; rw [hw]; clear hw w2)
    | (go_at_call 24; (first | refine between_go (r := true) (.inr ⟨_, _, [q], rfl, Held.new _ _ _, by simp, k2⟩) ?_ | refine between_go (r := true) (.inl ⟨rfl, rfl⟩) ?_); rintro e w2 ⟨rfl, rfl⟩))
  go_ret
  exact ⟨rfl, H.below.alloc (Nat.le_refl _) _⟩
theorem lacks_ft (W : World) (own oc : Nat → Prop) (p b : Nat) (X : TS) (N : Nat) (q : Int) (h : TAt W own oc p b X N) (f : Int) (ba : Nat) (t : TypeId) (hF : Held W ba t (ints [f])) (hq : hasQ X q = true) (hf : hasF f = true) : Calls Try.prog 26 #[.pointer (some ⟨p, 0, none⟩), .int .i64 q, .slice (some ⟨ba, 0, none⟩) 1 1] W fun e w' => e = .returned (.int .i64 0) ∧ Below W.heap.size W w' := by
  have c0 : W.cell? ⟨p, 0, none⟩ = some (.int .i64 (X.s.length : Int)) := h.box.cell 0
  have c1 : W.cell? ⟨p, 1, none⟩ = some (.pointer (some ⟨b, 0, none⟩)) := h.box.cell 1
  have k1 := missing_no p b W c1
  have n64 := h.fits.n64
  have w0 : IntKind.i64.wrap ((X.s.length : Int) - 1) = (X.s.length : Int) - 1 := wrap_id (by omega) (by omega)
  have k2 : ([q] : List Int).all (fun x => decide (0 ≤ x) && decide (x ≤ (X.s.length : Int) - 1)) = _ := (has_all X q).trans hq
  obtain ⟨m, hm⟩ : ∃ m, (X.s.length : Int) - 1 = m := ⟨_, rfl⟩
  have w1 : IntKind.i64.wrap ((X.s.length : Int) - 1) = m := w0.trans hm
  rw [hm] at k2
  clear hm n64 w0
  have H := Mem.start W
  have hnot : ∀ (x : Bool) (w : World), (Op.unary .not (.bool x)).run Try.prog w = .ok (.bool (!x)) w := fun _ _ => rfl
  have k3 := (hasF_all f).trans hf
  clear h hq
  go_enter Try.func26, Try.ntmps26
  go_wp2_with (first
    | go_skip
    | (go_at_call 39; refine (k1).mono ?_; rintro e w2 ⟨rfl, hw⟩; rw [hw]; clear hw w2)
    | (go_at_call 24; (first | refine between_go (r := true) (.inr ⟨_, _, [q], rfl, Held.new _ _ _, by simp, k2⟩) ?_ | refine between_go (r := true) (.inr ⟨_, _, [f], rfl, hF.alloc _, by simp, k3⟩) ?_); rintro e w2 ⟨rfl, rfl⟩))
  go_ret
  exact ⟨rfl, H.below.alloc (Nat.le_refl _) _⟩
theorem lacks_ff (W : World) (own oc : Nat → Prop) (p b : Nat) (X : TS) (N : Nat) (q : Int) (h : TAt W own oc p b X N) (f : Int) (ba : Nat) (t : TypeId) (hF : Held W ba t (ints [f])) (hq : hasQ X q = true) (hf : hasF f = false) : Calls Try.prog 26 #[.pointer (some ⟨p, 0, none⟩), .int .i64 q, .slice (some ⟨ba, 0, none⟩) 1 1] W fun e w' => e = .returned (.int .i64 2) ∧ Below W.heap.size W w' := by
  have c0 : W.cell? ⟨p, 0, none⟩ = some (.int .i64 (X.s.length : Int)) := h.box.cell 0
  have c1 : W.cell? ⟨p, 1, none⟩ = some (.pointer (some ⟨b, 0, none⟩)) := h.box.cell 1
  have k1 := missing_no p b W c1
  have n64 := h.fits.n64
  have w0 : IntKind.i64.wrap ((X.s.length : Int) - 1) = (X.s.length : Int) - 1 := wrap_id (by omega) (by omega)
  have k2 : ([q] : List Int).all (fun x => decide (0 ≤ x) && decide (x ≤ (X.s.length : Int) - 1)) = _ := (has_all X q).trans hq
  obtain ⟨m, hm⟩ : ∃ m, (X.s.length : Int) - 1 = m := ⟨_, rfl⟩
  have w1 : IntKind.i64.wrap ((X.s.length : Int) - 1) = m := w0.trans hm
  rw [hm] at k2
  clear hm n64 w0
  have H := Mem.start W
  have hnot : ∀ (x : Bool) (w : World), (Op.unary .not (.bool x)).run Try.prog w = .ok (.bool (!x)) w := fun _ _ => rfl
  have k3 := (hasF_all f).trans hf
  clear h hq
  go_enter Try.func26, Try.ntmps26
  go_wp2_with (first
    | go_skip
    | (go_at_call 39; refine (k1).mono ?_; rintro e w2 ⟨rfl, hw⟩; rw [hw]; clear hw w2)
    | (go_at_call 24; (first | refine between_go (r := true) (.inr ⟨_, _, [q], rfl, Held.new _ _ _, by simp, k2⟩) ?_ | refine between_go (r := false) (.inr ⟨_, _, [f], rfl, hF.alloc _, by simp, k3⟩) ?_); rintro e w2 ⟨rfl, rfl⟩))
  go_ret
  exact ⟨rfl, H.below.alloc (Nat.le_refl _) _⟩
end Go.Proofs.Ytdhjdkhhhdcjdaa.Ta
end
