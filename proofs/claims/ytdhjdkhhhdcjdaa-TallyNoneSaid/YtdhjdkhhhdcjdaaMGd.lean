/-
  Where the document's tally and its reader lie. Conditions: they lie where their pointers say. The document's is, Open, Add, Shut. Conditions: the tally lies where its pointer says. The document's numbers, Counts, Read, Note. Conditions: the tally lies where its pointer says.
-/
import Derived.Test.YtdhjdkhhhdcjdaaMGb
import Derived.Maps.AppendAt
/- Where the document's tally and its reader lie. Conditions: they lie where their pointers say. -/
section
namespace Go.Proofs.Ytdhjdkhhhdcjdaa.Ta
set_option linter.unusedSimpArgs false
set_option linter.unusedVariables false
set_option maxRecDepth 100000
open Go.ChangeShapes Go.WideShapes Go.ChangeAt Go.RowKit

abbrev rowV (b : Nat) : Value := .slice (some ⟨b, 0, none⟩) 6 6
structure DAt (W : World) (own : Nat → Prop) (p bc bs cap : Nat) (rb : Nat → Nat) (X : TS) (N : Nat) : Prop where
  box : Held W p 71 #[.slice (some ⟨bc, 0, none⟩) X.s.length cap, sl bs X.s]
  hs : ∃ t, Held W bs t (ints X.s)
  hc : ∃ t cs, Held W bc t cs ∧ ∀ k, k < X.s.length → cs[k]? = some (rowV (rb k))
  hr : ∀ k, k < X.s.length → ∃ t, Held W (rb k) t (row6 (kq X (k : Int)))
  inj : ∀ j k, j < X.s.length → k < X.s.length → rb j = rb k → j = k
  ne : p ≠ bc ∧ p ≠ bs ∧ bc ≠ bs
  nr : ∀ k, k < X.s.length → rb k ≠ p ∧ rb k ≠ bc ∧ rb k ≠ bs
  own : ∀ i, own i ↔ i = p ∨ i = bc ∨ i = bs ∨ ∃ k, k < X.s.length ∧ i = rb k
  fits : FitsT X N
/-- where a reader lies -/
def RAt (W : World) (own : Nat → Prop) (p : Nat) (R : RD) : Prop :=
  (R.at' = 0 ∧ (∃ x3 x4, Held W R.r 37 #[.pointer (some ⟨p, 0, none⟩), .int .i64 (R.q : Int), .int .i64 0, x3, x4]) ∧ ∀ i, own i ↔ i = R.r)
  ∨ (R.at' ≠ 0 ∧ ∃ Lv, Held W R.r 37 #[.pointer (some ⟨p, 0, none⟩), .int .i64 (R.q : Int), .int .i64 (R.at' : Int), .int .i64 R.s0, Lv] ∧ W.ownsRow 0 40 1 Lv R.l.length (R.l.map (Value.int .u64)) ∧ Lv.ownBlock ≠ some R.r ∧ ∀ i, own i ↔ i = R.r ∨ Lv.ownBlock = some i)
def ROpt (W : World) (own : Nat → Prop) (p : Nat) : Option RD → Prop
  | none => ∀ i, ¬ own i
  | some R => RAt W own p R
structure DocS (W : World) (own o1 o2 : Nat → Prop) (p bc bs cap : Nat) (rb : Nat → Nat) (X : TS) (N : Nat) : Prop where
  d : DAt W o1 p bc bs cap rb X N
  r : ROpt W o2 p X.rd
  sep : ∀ i, o1 i → ¬ o2 i
  own : ∀ i, own i ↔ o1 i ∨ o2 i
def DocAt : PT := fun W own p X N => ∃ o1 o2 bc bs cap rb, DocS W own o1 o2 p bc bs cap rb X N
theorem ownsRow_on {W W' : World} {base : Nat} {t : TypeId} {sz n : Nat} {v : Value} {xs : List Value} (h : W.ownsRow base t sz v n xs) (hs : ∀ i, v.ownBlock = some i → W'.heap[i]? = W.heap[i]?) : W'.ownsRow base t sz v n xs := by
  refine ⟨h.1, h.2.imp id ?_⟩
  rintro ⟨g, cap, cur, rfl, h1, h2, h3⟩
  exact ⟨g, cap, cur, rfl, h1, (hs g rfl).trans h2, h3⟩
theorem ownsRow_lt {W : World} {base : Nat} {t : TypeId} {sz n : Nat} {v : Value} {xs : List Value} (h : W.ownsRow base t sz v n xs) : ∀ i, v.ownBlock = some i → i < W.heap.size := fun i hi => by
  rcases h.2 with ⟨h1, -⟩ | ⟨g, cap, cur, rfl, h1, h2, h3⟩
  · subst h1
    cases hi
  · cases hi
    exact (Array.getElem?_eq_some_iff.1 h2).1
section
variable {W W' : World} {own o1 o2 : Nat → Prop} {p bc bs cap N : Nat} {rb : Nat → Nat} {X : TS}
theorem DAt.on (h : DAt W own p bc bs cap rb X N) (hs : ∀ i, own i → W'.heap[i]? = W.heap[i]?) : DAt W' own p bc bs cap rb X N := by
  obtain ⟨t1, h1⟩ := h.hs
  obtain ⟨t2, cs, h2, h3⟩ := h.hc
  exact { h with
    box := (hs p ((h.own p).2 (.inl rfl))).trans h.box
    hs := ⟨t1, (hs bs ((h.own bs).2 (.inr (.inr (.inl rfl))))).trans h1⟩
    hc := ⟨t2, cs, (hs bc ((h.own bc).2 (.inr (.inl rfl)))).trans h2, h3⟩
    hr := fun k hk => by
      obtain ⟨t, ht⟩ := h.hr k hk
      exact ⟨t, (hs (rb k) ((h.own _).2 (.inr (.inr (.inr ⟨k, hk, rfl⟩))))).trans ht⟩ }
theorem DAt.lt (h : DAt W own p bc bs cap rb X N) (i : Nat) (hi : own i) : i < W.heap.size := by
  obtain ⟨t1, h1⟩ := h.hs
  obtain ⟨t2, cs, h2, h3⟩ := h.hc
  rcases (h.own i).1 hi with rfl | rfl | rfl | ⟨k, hk, rfl⟩
  · exact h.box.lt
  · exact h2.lt
  · exact h1.lt
  · obtain ⟨t, ht⟩ := h.hr k hk
    exact ht.lt
theorem ROpt.on {o : Option RD} (h : ROpt W own p o) (hs : ∀ i, own i → W'.heap[i]? = W.heap[i]?) : ROpt W' own p o := by
  cases o with
  | none => exact h
  | some R =>
    rcases h with ⟨h1, ⟨x3, x4, h2⟩, h3⟩ | ⟨h1, Lv, h2, h3, h4, h5⟩
    · exact .inl ⟨h1, ⟨x3, x4, (hs _ ((h3 _).2 rfl)).trans h2⟩, h3⟩
    · exact .inr ⟨h1, Lv, (hs _ ((h5 _).2 (.inl rfl))).trans h2, ownsRow_on h3 (fun i hi => hs i ((h5 i).2 (.inr hi))), h4, h5⟩
theorem ROpt.lt {o : Option RD} (h : ROpt W own p o) (i : Nat) (hi : own i) : i < W.heap.size := by
  cases o with
  | none => exact absurd hi (h i)
  | some R =>
    rcases h with ⟨h1, ⟨x3, x4, h2⟩, h3⟩ | ⟨h1, Lv, h2, h3, h4, h5⟩
    · rw [(h3 i).1 hi]
      exact h2.lt
    · rcases (h5 i).1 hi with rfl | hi
      · exact h2.lt
      · exact ownsRow_lt h3 i hi
theorem DocS.on (h : DocS W own o1 o2 p bc bs cap rb X N) (hs : ∀ i, own i → W'.heap[i]? = W.heap[i]?) : DocS W' own o1 o2 p bc bs cap rb X N :=
  ⟨h.d.on fun i hi => hs i ((h.own i).2 (.inl hi)), h.r.on fun i hi => hs i ((h.own i).2 (.inr hi)), h.sep, h.own⟩
theorem DocS.lt (h : DocS W own o1 o2 p bc bs cap rb X N) (i : Nat) (hi : own i) : i < W.heap.size := ((h.own i).1 hi).elim (h.d.lt i) (h.r.lt i)
theorem DocAt.pt : PtOk DocAt := ⟨fun ⟨o1, o2, bc, bs, cap, rb, h⟩ h1 _ => ⟨o1, o2, bc, bs, cap, rb, h.on h1⟩, fun ⟨_, _, _, _, _, _, h⟩ i hi => h.lt i hi⟩
/-- nothing is changed -/
theorem DocS.same (h : DocS W own o1 o2 p bc bs cap rb X N) {M : Nat} (hM : N ≤ M) {v : Value} {e : Ending} {w' : World} (he : e = .returned v) (hb : Below W.heap.size W w') : DidF DocAt W own p X M v e w' := by
  have h2 := h.on (W' := w') fun i hi => hb.block i (h.lt i hi)
  exact ⟨he, ⟨own, ⟨o1, o2, bc, bs, cap, rb, { h2 with d := { h2.d with fits := h2.d.fits.mono hM } }⟩, fun i hi => .inl hi⟩, Foot.of_below hb⟩
/-- a count is set -/
theorem DAt.puts (h : DAt W own p bc bs cap rb X N) {k : Nat} (hk : k < X.s.length) {v : Int} {M : Nat} (hM : N ≤ M) (hv : 0 ≤ v ∧ v ≤ M) : DAt (W.setCell ⟨bs, k, none⟩ (.int .i64 v)) own p bc bs cap rb (X.puts k v) M := by
  obtain ⟨t1, h1⟩ := h.hs
  obtain ⟨t2, cs, h2, h3⟩ := h.hc
  obtain ⟨n1, n2, n3⟩ := h.ne
  have el : (X.puts k v).s.length = X.s.length := by simp [TS.puts]
  refine ⟨?_, ⟨t1, ?_⟩, ⟨t2, cs, h2.other n3 _ _, by rw [el]; exact h3⟩, ?_, ?_, h.ne, ?_, ?_, h.fits.puts hM _ hv⟩
  · have := h.box.other n2 k (.int .i64 v)
    simp only [sl, el] at this ⊢
    exact this
  · have := h1.set k (.int .i64 v)
    rw [ints_set] at this
    exact this
  · rw [el]
    intro j hj
    obtain ⟨t, ht⟩ := h.hr j hj
    exact ⟨t, ht.other (h.nr j hj).2.2 _ _⟩
  · rw [el]; exact h.inj
  · rw [el]; exact h.nr
  · rw [el]; exact h.own
/-- a counter is set -/
theorem DAt.putk (h : DAt W own p bc bs cap rb X N) {k i : Nat} (hk : k < X.s.length) (hi : i < 6) {v : Int} (hv : U64 v) : DAt (W.setCell ⟨rb k, i, none⟩ (.int .u64 v)) own p bc bs cap rb (X.putk k ((kq X (k : Int)).put i v)) N := by
  obtain ⟨t1, h1⟩ := h.hs
  obtain ⟨t2, cs, h2, h3⟩ := h.hc
  obtain ⟨m1, m2, m3⟩ := h.nr k hk
  refine ⟨?_, ⟨t1, h1.other (Ne.symm m3) _ _⟩, ⟨t2, cs, h2.other (Ne.symm m2) _ _, h3⟩, ?_, h.inj, h.ne, h.nr, h.own, h.fits.putk _ ((h.fits.kq hk).put i hv)⟩
  · exact h.box.other (Ne.symm m1) i (.int .u64 v)
  · intro j hj
    obtain ⟨t, ht⟩ := h.hr j hj
    have hkl : k < X.k.length := by rw [h.fits.len]; exact hk
    have e : kq (X.putk k ((kq X (k : Int)).put i v)) (j : Int) = if j = k then (kq X (k : Int)).put i v else kq X (j : Int) := by
      simp only [kq, TS.putk, Int.toNat_natCast, List.getD_eq_getElem?_getD, List.getElem?_set]
      by_cases hjk : k = j
      · subst hjk
        simp [hkl]
      · rw [if_neg hjk, if_neg (Ne.symm hjk)]
    rw [e]
    by_cases hjk : j = k
    · subst hjk
      rw [if_pos rfl]
      have := ht.set i (.int .u64 v)
      rw [row6_set _ hi] at this
      exact ⟨t, this⟩
    · rw [if_neg hjk]
      exact ⟨t, ht.other (fun e => hjk (h.inj j k hj hk e)) _ _⟩
/-- the tally is changed in its own cells -/
theorem DocS.dput (h : DocS W own o1 o2 p bc bs cap rb X N) {X' : TS} {M : Nat} {w' : World} (hd : DAt w' o1 p bc bs cap rb X' M) (hf : Foot o1 W w') (hr : X'.rd = X.rd) {v : Value} {e : Ending} (he : e = .returned v) : DidF DocAt W own p X' M v e w' := by
  refine ⟨he, ⟨own, ⟨o1, o2, bc, bs, cap, rb, hd, ?_, h.sep, h.own⟩, fun i hi => .inl hi⟩, hf.mono fun i _ hi => (h.own i).2 (.inl hi)⟩
  rw [hr]
  exact h.r.on fun i hi => hf.block i (h.r.lt i hi) fun h1 => h.sep i h1 hi
end
end Go.Proofs.Ytdhjdkhhhdcjdaa.Ta
end
/- The document's is, Open, Add, Shut. Conditions: the tally lies where its pointer says. -/
section
namespace Go.Proofs.Ytdhjdkhhhdcjdaa.Ta
set_option linter.unusedSimpArgs false
set_option linter.unusedVariables false
set_option maxRecDepth 100000
open Go.Joins Go.Deep Go.ChangeShapes Go.WideShapes Go.ChangeAt Go.RowKit

theorem is_r (W : World) (own : Nat → Prop) (p bc bs cap : Nat) (rb : Nat → Nat) (X : TS) (N : Nat) (q : Int) (h : DAt W own p bc bs cap rb X N) : Calls Try.prog 53 #[.pointer (some ⟨p, 0, none⟩), .int .i64 q] W fun e w' => e = .returned (.bool (hasQ X q)) ∧ w' = W := by
  have c1 : W.cell? ⟨p, 1, none⟩ = some (sl bs X.s) := h.box.cell 1
  unfold hasQ
  obtain ⟨n, hn⟩ : ∃ n, X.s.length = n := ⟨_, rfl⟩
  rw [sl, hn] at c1
  rw [hn]
  clear hn h
  by_cases h0 : 0 ≤ q
  · by_cases h1 : q < n
    · have t1 : decide (q ≥ 0) = true := decide_eq_true h0
      have t2 : decide (q < (n : Int)) = true := decide_eq_true h1
      go_enter Try.func53, Try.ntmps53
      go_wp2
      go_ret
      exact ⟨by simp [h0, h1], rfl⟩
    · have t1 : decide (q ≥ 0) = true := decide_eq_true h0
      have t2 : decide (q < (n : Int)) = false := decide_eq_false h1
      go_enter Try.func53, Try.ntmps53
      go_wp2
      go_ret
      exact ⟨by simp [h0, h1], rfl⟩
  · have t1 : decide (q ≥ 0) = false := decide_eq_false h0
    go_enter Try.func53, Try.ntmps53
    go_wp2
    go_ret
    exact ⟨by simp [h0], rfl⟩
theorem DAt.row (W : World) (own : Nat → Prop) (p bc bs cap : Nat) (rb : Nat → Nat) (X : TS) (N : Nat) (h : DAt W own p bc bs cap rb X N) {k : Nat} (hk : k < X.s.length) : W.cell? ⟨bc, k, none⟩ = some (rowV (rb k)) := by
  obtain ⟨t, cs, h1, h2⟩ := h.hc
  exact (h1.cell k).trans (h2 k hk)
theorem open_r (W : World) (own : Nat → Prop) (p : Nat) (X : TS) (N : Nat) (q : Int) (hN : N ≤ 1000000) (h : DocAt W own p X N) : Calls Try.prog 33 #[.pointer (some ⟨p, 0, none⟩), .int .i64 q] W (DidF DocAt W own p (openS X q) (N + 2) (.int .i64 (openE X q))) := by
  obtain ⟨o1, o2, bc, bs, cap, rb, h⟩ := h
  have HB := Lib.hid (Below.refl W.heap.size W)
  have HD := Lib.hid h
  have hnot : ∀ (x : Bool) (w : World), (Op.unary .not (.bool x)).run Try.prog w = .ok (.bool (!x)) w := fun _ _ => rfl
  have k1 := is_r W o1 p bc bs cap rb X N q h.d
  cases hq : hasQ X q with
  | false =>
    rw [hq] at k1
    have e1 : openE X q = 2 := by rw [openE, if_pos hq]
    have e2 : openS X q = X := by rw [openS, e1]; rfl
    rw [e1, e2]
    clear e1 e2 h hq
    go_enter Try.func33, Try.ntmps33
    go_wp2_with (first
    | go_skip
    | (go_at_call 53; refine k1.mono ?_; rintro e w2 ⟨rfl, hw⟩; rw [hw]; clear hw w2))
    go_ret
    exact HD.out.same (by omega) rfl HB.out
  | true =>
    rw [hq] at k1
    obtain ⟨k, rfl, hk⟩ := has_at hq
    have hne : ¬ hasQ X (k : Int) = false := by rw [hq]; decide
    have hb1 : W.cell? ⟨p, 1, none⟩ = some (sl bs X.s) := h.d.box.cell 1
    obtain ⟨ts, hts⟩ := h.d.hs
    have g0 := Held.num hts (sq_at hk)
    have z0 : W.frozen? ⟨bs, k, none⟩ = false := hts.frozen k
    have lp := h.d.box.lt
    have lb := hts.lt
    have t0 : ¬ ((k : Int) < 0) := by omega
    have t2 : ¬ X.s.length ≤ k := by omega
    have hs := h.d.fits.sq hk
    have n64 := h.d.fits.n64
    by_cases ho : sq X (k : Int) % 2 = 1
    · have e1 : openE X (k : Int) = 111 := by rw [openE, if_neg hne, if_pos ho]
      have e2 : openS X (k : Int) = X := by rw [openS, e1]; rfl
      rw [e1, e2]
      have tq : ((sq X (k : Int)).tmod 2 == 1) = true := by rw [Int.tmod_eq_emod_of_nonneg hs.1]; simpa using ho
      have tq2 : (sq X (k : Int) % 2 == 1) = true := by simpa using ho
      clear e1 e2 h hq hne hts
      rw [sl] at hb1
      generalize X.s.length = n at *
      generalize sq X (k : Int) = v at *
      go_enter Try.func33, Try.ntmps33
      go_wp2_with (first
    | go_skip
    | (go_at_call 53; refine k1.mono ?_; rintro e w2 ⟨rfl, hw⟩; rw [hw]; clear hw w2))
      go_ret
      exact HD.out.same (by omega) rfl HB.out
    · have e1 : openE X (k : Int) = 0 := by rw [openE, if_neg hne, if_neg ho]
      have e2 : openS X (k : Int) = X.puts k (sq X (k : Int) + 1) := by rw [openS, if_pos e1]
      rw [e1, e2]
      have tq : ((sq X (k : Int)).tmod 2 == 1) = false := by rw [Int.tmod_eq_emod_of_nonneg hs.1]; simpa using ho
      have tq2 : (sq X (k : Int) % 2 == 1) = false := by simpa using ho
      clear e1 e2 h hq hne hts
      rw [sl] at hb1
      have HK := Lib.hid hk
      have hr := HD.out.d.puts (v := sq X (k : Int) + 1) hk (M := N + 2) (by omega) ⟨by omega, by omega⟩
      have HR := Lib.hid hr
      clear hr hk
      generalize hn : X.s.length = n at *
      generalize hv : sq X (k : Int) = v at *
      have w1 : IntKind.i64.wrap (v + 1) = v + 1 := wrap_id (by omega) (by omega)
      clear hn hv ho
      go_enter Try.func33, Try.ntmps33
      go_wp2_with (first
    | go_skip
    | (go_at_call 53; refine k1.mono ?_; rintro e w2 ⟨rfl, hw⟩; rw [hw]; clear hw w2))
      go_region
      go_wp2
      go_ret
      refine HD.out.dput (HR.out.on (W' := World.drew _) fun _ _ => rfl) ?_ rfl rfl
      exact ((Foot.refl o1 W).setCell (fun _ => (HD.out.d.own bs).2 (.inr (.inr (.inl rfl)))) _).drew
theorem shut_r (W : World) (own : Nat → Prop) (p : Nat) (X : TS) (N : Nat) (q : Int) (hN : N ≤ 1000000) (h : DocAt W own p X N) : Calls Try.prog 35 #[.pointer (some ⟨p, 0, none⟩), .int .i64 q] W (DidF DocAt W own p (shutS X q) (N + 2) (.int .i64 (shutE X q))) := by
  obtain ⟨o1, o2, bc, bs, cap, rb, h⟩ := h
  have HB := Lib.hid (Below.refl W.heap.size W)
  have HD := Lib.hid h
  have hnot : ∀ (x : Bool) (w : World), (Op.unary .not (.bool x)).run Try.prog w = .ok (.bool (!x)) w := fun _ _ => rfl
  have k1 := is_r W o1 p bc bs cap rb X N q h.d
  cases hq : hasQ X q with
  | false =>
    rw [hq] at k1
    have e1 : shutE X q = 2 := by rw [shutE, if_pos hq]
    have e2 : shutS X q = X := by rw [shutS, e1]; rfl
    rw [e1, e2]
    clear e1 e2 h hq
    go_enter Try.func35, Try.ntmps35
    go_wp2_with (first
    | go_skip
    | (go_at_call 53; refine k1.mono ?_; rintro e w2 ⟨rfl, hw⟩; rw [hw]; clear hw w2))
    go_ret
    exact HD.out.same (by omega) rfl HB.out
  | true =>
    rw [hq] at k1
    obtain ⟨k, rfl, hk⟩ := has_at hq
    have hne : ¬ hasQ X (k : Int) = false := by rw [hq]; decide
    have hb1 : W.cell? ⟨p, 1, none⟩ = some (sl bs X.s) := h.d.box.cell 1
    obtain ⟨ts, hts⟩ := h.d.hs
    have g0 := Held.num hts (sq_at hk)
    have z0 : W.frozen? ⟨bs, k, none⟩ = false := hts.frozen k
    have lp := h.d.box.lt
    have lb := hts.lt
    have t0 : ¬ ((k : Int) < 0) := by omega
    have t2 : ¬ X.s.length ≤ k := by omega
    have hs := h.d.fits.sq hk
    have n64 := h.d.fits.n64
    by_cases ho : sq X (k : Int) % 2 = 0
    · have e1 : shutE X (k : Int) = 120 := by rw [shutE, if_neg hne, if_pos ho]
      have e2 : shutS X (k : Int) = X := by rw [shutS, e1]; rfl
      rw [e1, e2]
      have tq : ((sq X (k : Int)).tmod 2 == 0) = true := by rw [Int.tmod_eq_emod_of_nonneg hs.1]; simpa using ho
      have tq2 : (sq X (k : Int) % 2 == 0) = true := by simpa using ho
      clear e1 e2 h hq hne hts
      rw [sl] at hb1
      generalize X.s.length = n at *
      generalize sq X (k : Int) = v at *
      go_enter Try.func35, Try.ntmps35
      go_wp2_with (first
    | go_skip
    | (go_at_call 53; refine k1.mono ?_; rintro e w2 ⟨rfl, hw⟩; rw [hw]; clear hw w2))
      go_ret
      exact HD.out.same (by omega) rfl HB.out
    · have e1 : shutE X (k : Int) = 0 := by rw [shutE, if_neg hne, if_neg ho]
      have e2 : shutS X (k : Int) = X.puts k (sq X (k : Int) + 1) := by rw [shutS, if_pos e1]
      rw [e1, e2]
      have tq : ((sq X (k : Int)).tmod 2 == 0) = false := by rw [Int.tmod_eq_emod_of_nonneg hs.1]; simpa using ho
      have tq2 : (sq X (k : Int) % 2 == 0) = false := by simpa using ho
      clear e1 e2 h hq hne hts
      rw [sl] at hb1
      have HK := Lib.hid hk
      have hr := HD.out.d.puts (v := sq X (k : Int) + 1) hk (M := N + 2) (by omega) ⟨by omega, by omega⟩
      have HR := Lib.hid hr
      clear hr hk
      generalize hn : X.s.length = n at *
      generalize hv : sq X (k : Int) = v at *
      have w1 : IntKind.i64.wrap (v + 1) = v + 1 := wrap_id (by omega) (by omega)
      clear hn hv ho
      go_enter Try.func35, Try.ntmps35
      go_wp2_with (first
    | go_skip
    | (go_at_call 53; refine k1.mono ?_; rintro e w2 ⟨rfl, hw⟩; rw [hw]; clear hw w2))
      go_region
      go_wp2
      go_ret
      refine HD.out.dput (HR.out.on (W' := World.drew _) fun _ _ => rfl) ?_ rfl rfl
      exact ((Foot.refl o1 W).setCell (fun _ => (HD.out.d.own bs).2 (.inr (.inr (.inl rfl)))) _).drew
theorem add_r (W : World) (own : Nat → Prop) (p : Nat) (X : TS) (N : Nat) (q f v : Int) (hv : 0 ≤ v ∧ v ≤ 4294967295) (hN : N ≤ 1000000) (h : DocAt W own p X N) : Calls Try.prog 34 #[.pointer (some ⟨p, 0, none⟩), .int .i64 q, .int .i64 f, .int .u32 v] W (DidF DocAt W own p (addS X q f v) N (.int .i64 (addE X q f))) := by
  obtain ⟨o1, o2, bc, bs, cap, rb, h⟩ := h
  have HB := Lib.hid (Below.refl W.heap.size W)
  have HD := Lib.hid h
  have hnot : ∀ (x : Bool) (w : World), (Op.unary .not (.bool x)).run Try.prog w = .ok (.bool (!x)) w := fun _ _ => rfl
  have k1 := is_r W o1 p bc bs cap rb X N q h.d
  cases hq : hasQ X q with
  | false =>
    rw [hq] at k1
    have e1 : addE X q f = 2 := by rw [addE, hq]; rfl
    have e2 : addS X q f v = X := by rw [addS, e1]; rfl
    rw [e1, e2]
    clear hq
    clear e1 e2 h
    go_enter Try.func34, Try.ntmps34
    go_wp2_with (first
    | go_skip
    | (go_at_call 53; refine k1.mono ?_; rintro e w2 ⟨rfl, hw⟩; rw [hw]; clear hw w2))
    go_ret
    exact HD.out.same (Nat.le_refl _) rfl HB.out
  | true =>
    rw [hq] at k1
    by_cases f0 : f < 0
    · have hF : hasF f = false := by simp [hasF]; omega
      have y0 : decide (f < 0) = true := decide_eq_true f0
      have e1 : addE X q f = 2 := by rw [addE, hq, hF]; rfl
      have e2 : addS X q f v = X := by rw [addS, e1]; rfl
      rw [e1, e2]
      clear hq hF
      clear e1 e2 h
      go_enter Try.func34, Try.ntmps34
      go_wp2_with (first
    | go_skip
    | (go_at_call 53; refine k1.mono ?_; rintro e w2 ⟨rfl, hw⟩; rw [hw]; clear hw w2))
      go_ret
      exact HD.out.same (Nat.le_refl _) rfl HB.out
    by_cases f6 : 6 ≤ f
    · have hF : hasF f = false := by simp [hasF]; omega
      have y0 : decide (f < 0) = false := decide_eq_false f0
      have y1 : decide (f ≥ 6) = true := decide_eq_true f6
      have e1 : addE X q f = 2 := by rw [addE, hq, hF]; rfl
      have e2 : addS X q f v = X := by rw [addS, e1]; rfl
      rw [e1, e2]
      clear hq hF
      clear e1 e2 h
      go_enter Try.func34, Try.ntmps34
      go_wp2_with (first
    | go_skip
    | (go_at_call 53; refine k1.mono ?_; rintro e w2 ⟨rfl, hw⟩; rw [hw]; clear hw w2))
      go_ret
      exact HD.out.same (Nat.le_refl _) rfl HB.out
    have hF : hasF f = true := by simp [hasF]; omega
    have y0 : decide (f < 0) = false := decide_eq_false f0
    have y1 : decide (f ≥ 6) = false := decide_eq_false f6
    obtain ⟨j, rfl⟩ := Int.eq_ofNat_of_zero_le (show 0 ≤ f by omega)
    have hj : j < 6 := by omega
    have fn : ¬ ((j : Int) < 0) := f0
    have f7 : ¬ (6 : Nat) ≤ j := by omega
    obtain ⟨k, rfl, hk⟩ := has_at hq
    have hne : ¬ (hasQ X (k : Int) && hasF (j : Int)) = false := by rw [hq, hF]; decide
    have hb1 : W.cell? ⟨p, 1, none⟩ = some (sl bs X.s) := h.d.box.cell 1
    obtain ⟨ts, hts⟩ := h.d.hs
    have g0 := Held.num hts (sq_at hk)
    have z0 : W.frozen? ⟨bs, k, none⟩ = false := hts.frozen k
    have lp := h.d.box.lt
    have lb := hts.lt
    have t0 : ¬ ((k : Int) < 0) := by omega
    have t2 : ¬ X.s.length ≤ k := by omega
    have hs := h.d.fits.sq hk
    have n64 := h.d.fits.n64
    have c0 : W.cell? ⟨p, 0, none⟩ = some (.slice (some ⟨bc, 0, none⟩) X.s.length cap) := h.d.box.cell 0
    have cr := DAt.row W o1 p bc bs cap rb X N h.d hk
    obtain ⟨tr, htr⟩ := h.d.hr k hk
    have cg := Held.six htr hj
    have zg : W.frozen? ⟨rb k, j, none⟩ = false := htr.frozen j
    have lr := htr.lt
    obtain ⟨tc, ccs, htc, -⟩ := h.d.hc
    have lc := htc.lt
    by_cases ho : sq X (k : Int) % 2 = 0
    · have e1 : addE X (k : Int) (j : Int) = 120 := by rw [addE, if_neg hne, if_pos ho]
      have e2 : addS X (k : Int) (j : Int) v = X := by rw [addS, e1]; rfl
      rw [e1, e2]
      have tq : ((sq X (k : Int)).tmod 2 == 0) = true := by rw [Int.tmod_eq_emod_of_nonneg hs.1]; simpa using ho
      have tq2 : (sq X (k : Int) % 2 == 0) = true := by simpa using ho
      clear e1 e2 h hq hne hts htr htc hF f0 f6
      rw [sl] at hb1
      generalize X.s.length = n at *
      generalize sq X (k : Int) = s at *
      go_enter Try.func34, Try.ntmps34
      go_wp2_with (first
    | go_skip
    | (go_at_call 53; refine k1.mono ?_; rintro e w2 ⟨rfl, hw⟩; rw [hw]; clear hw w2))
      go_ret
      exact HD.out.same (Nat.le_refl _) rfl HB.out
    · have e1 : addE X (k : Int) (j : Int) = 0 := by rw [addE, if_neg hne, if_neg ho]
      have e2 : addS X (k : Int) (j : Int) v = X.putk k ((kq X (k : Int)).put j (w64 ((kq X (k : Int)).get j + v))) := by rw [addS, if_pos e1, Int.toNat_natCast]
      rw [e1, e2]
      have tq : ((sq X (k : Int)).tmod 2 == 0) = false := by rw [Int.tmod_eq_emod_of_nonneg hs.1]; simpa using ho
      have tq2 : (sq X (k : Int) % 2 == 0) = false := by simpa using ho
      have wv : IntKind.u64.wrap v = v := w64_id ⟨hv.1, by omega⟩
      have HR := Lib.hid (HD.out.d.putk hk hj (w64_in ((kq X (k : Int)).get j + v)))
      have HO := Lib.hid ((HD.out.d.own (rb k)).2 (.inr (.inr (.inr ⟨k, hk, rfl⟩))))
      clear e1 e2 h hq hne hts htr htc hF f0 f6 hk
      rw [sl] at hb1
      generalize X.s.length = n at *
      generalize sq X (k : Int) = s at *
      generalize hrb : rb k = r at *
      generalize hge : (kq X (k : Int)).get j = g at *
      obtain ⟨z, hz⟩ : ∃ z, IntKind.u64.wrap (g + v) = z := ⟨_, rfl⟩
      have hz2 : w64 (g + v) = z := hz
      rw [hz2] at HR ⊢
      clear ho hrb hge hz2
      go_enter Try.func34, Try.ntmps34
      go_wp2_with (first
    | go_skip
    | (go_at_call 53; refine k1.mono ?_; rintro e w2 ⟨rfl, hw⟩; rw [hw]; clear hw w2))
      go_region
      go_wp2
      go_ret
      refine HD.out.dput (HR.out.on (W' := World.drew _) fun _ _ => rfl) ?_ rfl rfl
      exact ((Foot.refl o1 W).setCell (fun _ => HO.out) _).drew
end Go.Proofs.Ytdhjdkhhhdcjdaa.Ta
end
/- The document's numbers, Counts, Read, Note. Conditions: the tally lies where its pointer says. -/
section
namespace Go.Proofs.Ytdhjdkhhhdcjdaa.Ta
set_option linter.unusedSimpArgs false
set_option linter.unusedVariables false
set_option maxRecDepth 100000
open Go.Joins Go.Deep Go.ChangeShapes Go.WideShapes Go.ChangeAt Go.RowKit

theorem numbers_r (c : C6) (W : World) : Calls Try.prog 54 #[cv c] W fun e w' => ∃ b t, e = .returned (rowV b) ∧ Held w' b t (row6 c) ∧ W.heap.size ≤ b ∧ Below W.heap.size W w' := by
  have H := Mem.start W
  go_enter Try.func54, Try.ntmps54
  go_upto_region 1 with (first
    | ((with_reducible show wpList _ _ _ _ _ (World.alloc _ (.cells _ _))); refine mem_newb (l := []) H ?_; intro bc w3 hbk H2; try rw [← hbk]; clear hbk H; have H := H2; clear H2; simp only [List.cons_append, List.nil_append, List.set_cons_zero, List.set_cons_succ, List.setIfInBounds_toArray] at H))
  go_wp2_with (first
    | go_skip
    | ((with_reducible show wpList _ _ _ (⟨_, .load _ _, _, _, _, _⟩ :: _) _ _); refine mem_loadf (i := 0) H (by first | exact wanted_none rfl | exact wanted_some rfl rfl rfl rfl) (by exact rfl) (by exact rfl) (by exact rfl) (by first | exact Try.underlying3 | exact Try.underlying39 | exact Try.underlying40) rfl (by exact rfl) ?_))
  go_ret
  exact ⟨_, _, rfl, Held.new _ _ _, H.below.size, H.below.alloc H.below.size _⟩
theorem counts_r (b cap : Nat) (c : C6) (W : World) (hb : b < W.heap.size) (h : ∀ j, j < 6 → W.cell? ⟨b, j, none⟩ = some (.int .u64 (c.get j))) : Calls Try.prog 32 #[.slice (some ⟨b, 0, none⟩) 6 cap] W fun e w' => e = .returned (cv c) ∧ Below W.heap.size W w' := by
  have H := Mem.start W
  have c0 : W.cell? ⟨b, 0, none⟩ = some (.int .u64 c.c0) := h 0 (by omega)
  have c1 : W.cell? ⟨b, 1, none⟩ = some (.int .u64 c.c1) := h 1 (by omega)
  have c2 : W.cell? ⟨b, 2, none⟩ = some (.int .u64 c.c2) := h 2 (by omega)
  have c3 : W.cell? ⟨b, 3, none⟩ = some (.int .u64 c.c3) := h 3 (by omega)
  have c4 : W.cell? ⟨b, 4, none⟩ = some (.int .u64 c.c4) := h 4 (by omega)
  have c5 : W.cell? ⟨b, 5, none⟩ = some (.int .u64 c.c5) := h 5 (by omega)
  clear h
  go_enter Try.func32, Try.ntmps32
  go_upto_region 1 with (first
    | ((with_reducible show wpList _ _ _ _ _ (World.alloc _ (.cells _ _))); refine mem_newb (l := []) H ?_; intro br w3 hbk H2; try rw [← hbk]; clear hbk H; have H := H2; clear H2; simp only [List.cons_append, List.nil_append, List.set_cons_zero, List.set_cons_succ, List.setIfInBounds_toArray] at H))
  refine region_memk H 19 20 rfl (by kernel_rfl) (fun wr0 hcl hS => ?_)
  clear H
  refine wpAnyG_pure (i := 0) (v := .slice (some ⟨b, 0, none⟩) 6 cap) rfl rfl (by kernel_rfl) (by kernel_rfl) (by kernel_rfl) (fun _ _ _ h => h) (by decide) ⟨by rfl, fun w _ => (by go_simp; try (first | (simp only [IntKind.wrap_u32]; done) | rfl)), fun _ => rfl⟩ (.inr hS) ?_
  have hc1 := hcl.step (i := 0) (by kernel_rfl)
  clear hcl; have hcl := hc1; clear hc1; simp only [List.getElem_toArray, List.getElem_cons_zero, List.getElem_cons_succ, Act.put, List.setIfInBounds_toArray, List.set_cons_zero, List.set_cons_succ]
  refine wpAnyG_pure (i := 1) (v := .pointer (some ⟨b, 0, none⟩)) rfl rfl (by kernel_rfl) (by kernel_rfl) (by kernel_rfl) (fun _ _ _ h => h) (by decide) ⟨by rfl, fun w _ => (by go_simp; try (first | (simp only [IntKind.wrap_u32]; done) | rfl)), fun _ => rfl⟩ (.inr hS) ?_
  have hc1 := hcl.step (i := 1) (by kernel_rfl)
  clear hcl; have hcl := hc1; clear hc1; simp only [List.getElem_toArray, List.getElem_cons_zero, List.getElem_cons_succ, Act.put, List.setIfInBounds_toArray, List.set_cons_zero, List.set_cons_succ]
  refine wpAnyG_take (i := 2) 1 (v := .int .u64 c.c0) rfl rfl (by kernel_rfl) (by kernel_rfl) (by kernel_rfl) (fun _ _ _ h => h) (by kernel_rfl) (by decide) hcl (yields_old c0 hb (by exact rfl) (by exact rfl) (by exact rfl) Try.underlying40 rfl) hS (fun hc1 => ?_)
  clear hcl; have hcl := hc1; clear hc1; simp only [List.getElem_toArray, List.getElem_cons_zero, List.getElem_cons_succ, Act.put, List.setIfInBounds_toArray, List.set_cons_zero, List.set_cons_succ]
  refine wpAnyG_pure (i := 3) (v := .slice (some ⟨b, 0, none⟩) 6 cap) rfl rfl (by kernel_rfl) (by kernel_rfl) (by kernel_rfl) (fun _ _ _ h => h) (by decide) ⟨by rfl, fun w _ => (by go_simp; try (first | (simp only [IntKind.wrap_u32]; done) | rfl)), fun _ => rfl⟩ (.inr hS) ?_
  have hc1 := hcl.step (i := 3) (by kernel_rfl)
  clear hcl; have hcl := hc1; clear hc1; simp only [List.getElem_toArray, List.getElem_cons_zero, List.getElem_cons_succ, Act.put, List.setIfInBounds_toArray, List.set_cons_zero, List.set_cons_succ]
  refine wpAnyG_pure (i := 4) (v := .pointer (some ⟨b, 1, none⟩)) rfl rfl (by kernel_rfl) (by kernel_rfl) (by kernel_rfl) (fun _ _ _ h => h) (by decide) ⟨by rfl, fun w _ => (by go_simp; try (first | (simp only [IntKind.wrap_u32]; done) | rfl)), fun _ => rfl⟩ (.inr hS) ?_
  have hc1 := hcl.step (i := 4) (by kernel_rfl)
  clear hcl; have hcl := hc1; clear hc1; simp only [List.getElem_toArray, List.getElem_cons_zero, List.getElem_cons_succ, Act.put, List.setIfInBounds_toArray, List.set_cons_zero, List.set_cons_succ]
  refine wpAnyG_take (i := 5) 1 (v := .int .u64 c.c1) rfl rfl (by kernel_rfl) (by kernel_rfl) (by kernel_rfl) (fun _ _ _ h => h) (by kernel_rfl) (by decide) hcl (yields_old c1 hb (by exact rfl) (by exact rfl) (by exact rfl) Try.underlying40 rfl) hS (fun hc1 => ?_)
  clear hcl; have hcl := hc1; clear hc1; simp only [List.getElem_toArray, List.getElem_cons_zero, List.getElem_cons_succ, Act.put, List.setIfInBounds_toArray, List.set_cons_zero, List.set_cons_succ]
  refine wpAnyG_pure (i := 6) (v := .slice (some ⟨b, 0, none⟩) 6 cap) rfl rfl (by kernel_rfl) (by kernel_rfl) (by kernel_rfl) (fun _ _ _ h => h) (by decide) ⟨by rfl, fun w _ => (by go_simp; try (first | (simp only [IntKind.wrap_u32]; done) | rfl)), fun _ => rfl⟩ (.inr hS) ?_
  have hc1 := hcl.step (i := 6) (by kernel_rfl)
  clear hcl; have hcl := hc1; clear hc1; simp only [List.getElem_toArray, List.getElem_cons_zero, List.getElem_cons_succ, Act.put, List.setIfInBounds_toArray, List.set_cons_zero, List.set_cons_succ]
  refine wpAnyG_pure (i := 7) (v := .pointer (some ⟨b, 2, none⟩)) rfl rfl (by kernel_rfl) (by kernel_rfl) (by kernel_rfl) (fun _ _ _ h => h) (by decide) ⟨by rfl, fun w _ => (by go_simp; try (first | (simp only [IntKind.wrap_u32]; done) | rfl)), fun _ => rfl⟩ (.inr hS) ?_
  have hc1 := hcl.step (i := 7) (by kernel_rfl)
  clear hcl; have hcl := hc1; clear hc1; simp only [List.getElem_toArray, List.getElem_cons_zero, List.getElem_cons_succ, Act.put, List.setIfInBounds_toArray, List.set_cons_zero, List.set_cons_succ]
  refine wpAnyG_take (i := 8) 1 (v := .int .u64 c.c2) rfl rfl (by kernel_rfl) (by kernel_rfl) (by kernel_rfl) (fun _ _ _ h => h) (by kernel_rfl) (by decide) hcl (yields_old c2 hb (by exact rfl) (by exact rfl) (by exact rfl) Try.underlying40 rfl) hS (fun hc1 => ?_)
  clear hcl; have hcl := hc1; clear hc1; simp only [List.getElem_toArray, List.getElem_cons_zero, List.getElem_cons_succ, Act.put, List.setIfInBounds_toArray, List.set_cons_zero, List.set_cons_succ]
  refine wpAnyG_pure (i := 9) (v := .slice (some ⟨b, 0, none⟩) 6 cap) rfl rfl (by kernel_rfl) (by kernel_rfl) (by kernel_rfl) (fun _ _ _ h => h) (by decide) ⟨by rfl, fun w _ => (by go_simp; try (first | (simp only [IntKind.wrap_u32]; done) | rfl)), fun _ => rfl⟩ (.inr hS) ?_
  have hc1 := hcl.step (i := 9) (by kernel_rfl)
  clear hcl; have hcl := hc1; clear hc1; simp only [List.getElem_toArray, List.getElem_cons_zero, List.getElem_cons_succ, Act.put, List.setIfInBounds_toArray, List.set_cons_zero, List.set_cons_succ]
  refine wpAnyG_pure (i := 10) (v := .pointer (some ⟨b, 3, none⟩)) rfl rfl (by kernel_rfl) (by kernel_rfl) (by kernel_rfl) (fun _ _ _ h => h) (by decide) ⟨by rfl, fun w _ => (by go_simp; try (first | (simp only [IntKind.wrap_u32]; done) | rfl)), fun _ => rfl⟩ (.inr hS) ?_
  have hc1 := hcl.step (i := 10) (by kernel_rfl)
  clear hcl; have hcl := hc1; clear hc1; simp only [List.getElem_toArray, List.getElem_cons_zero, List.getElem_cons_succ, Act.put, List.setIfInBounds_toArray, List.set_cons_zero, List.set_cons_succ]
  refine wpAnyG_take (i := 11) 1 (v := .int .u64 c.c3) rfl rfl (by kernel_rfl) (by kernel_rfl) (by kernel_rfl) (fun _ _ _ h => h) (by kernel_rfl) (by decide) hcl (yields_old c3 hb (by exact rfl) (by exact rfl) (by exact rfl) Try.underlying40 rfl) hS (fun hc1 => ?_)
  clear hcl; have hcl := hc1; clear hc1; simp only [List.getElem_toArray, List.getElem_cons_zero, List.getElem_cons_succ, Act.put, List.setIfInBounds_toArray, List.set_cons_zero, List.set_cons_succ]
  refine wpAnyG_pure (i := 12) (v := .slice (some ⟨b, 0, none⟩) 6 cap) rfl rfl (by kernel_rfl) (by kernel_rfl) (by kernel_rfl) (fun _ _ _ h => h) (by decide) ⟨by rfl, fun w _ => (by go_simp; try (first | (simp only [IntKind.wrap_u32]; done) | rfl)), fun _ => rfl⟩ (.inr hS) ?_
  have hc1 := hcl.step (i := 12) (by kernel_rfl)
  clear hcl; have hcl := hc1; clear hc1; simp only [List.getElem_toArray, List.getElem_cons_zero, List.getElem_cons_succ, Act.put, List.setIfInBounds_toArray, List.set_cons_zero, List.set_cons_succ]
  refine wpAnyG_pure (i := 13) (v := .pointer (some ⟨b, 4, none⟩)) rfl rfl (by kernel_rfl) (by kernel_rfl) (by kernel_rfl) (fun _ _ _ h => h) (by decide) ⟨by rfl, fun w _ => (by go_simp; try (first | (simp only [IntKind.wrap_u32]; done) | rfl)), fun _ => rfl⟩ (.inr hS) ?_
  have hc1 := hcl.step (i := 13) (by kernel_rfl)
  clear hcl; have hcl := hc1; clear hc1; simp only [List.getElem_toArray, List.getElem_cons_zero, List.getElem_cons_succ, Act.put, List.setIfInBounds_toArray, List.set_cons_zero, List.set_cons_succ]
  refine wpAnyG_take (i := 14) 1 (v := .int .u64 c.c4) rfl rfl (by kernel_rfl) (by kernel_rfl) (by kernel_rfl) (fun _ _ _ h => h) (by kernel_rfl) (by decide) hcl (yields_old c4 hb (by exact rfl) (by exact rfl) (by exact rfl) Try.underlying40 rfl) hS (fun hc1 => ?_)
  clear hcl; have hcl := hc1; clear hc1; simp only [List.getElem_toArray, List.getElem_cons_zero, List.getElem_cons_succ, Act.put, List.setIfInBounds_toArray, List.set_cons_zero, List.set_cons_succ]
  refine wpAnyG_pure (i := 15) (v := .slice (some ⟨b, 0, none⟩) 6 cap) rfl rfl (by kernel_rfl) (by kernel_rfl) (by kernel_rfl) (fun _ _ _ h => h) (by decide) ⟨by rfl, fun w _ => (by go_simp; try (first | (simp only [IntKind.wrap_u32]; done) | rfl)), fun _ => rfl⟩ (.inr hS) ?_
  have hc1 := hcl.step (i := 15) (by kernel_rfl)
  clear hcl; have hcl := hc1; clear hc1; simp only [List.getElem_toArray, List.getElem_cons_zero, List.getElem_cons_succ, Act.put, List.setIfInBounds_toArray, List.set_cons_zero, List.set_cons_succ]
  refine wpAnyG_pure (i := 16) (v := .pointer (some ⟨b, 5, none⟩)) rfl rfl (by kernel_rfl) (by kernel_rfl) (by kernel_rfl) (fun _ _ _ h => h) (by decide) ⟨by rfl, fun w _ => (by go_simp; try (first | (simp only [IntKind.wrap_u32]; done) | rfl)), fun _ => rfl⟩ (.inr hS) ?_
  have hc1 := hcl.step (i := 16) (by kernel_rfl)
  clear hcl; have hcl := hc1; clear hc1; simp only [List.getElem_toArray, List.getElem_cons_zero, List.getElem_cons_succ, Act.put, List.setIfInBounds_toArray, List.set_cons_zero, List.set_cons_succ]
  refine wpAnyG_take (i := 17) 1 (v := .int .u64 c.c5) rfl rfl (by kernel_rfl) (by kernel_rfl) (by kernel_rfl) (fun _ _ _ h => h) (by kernel_rfl) (by decide) hcl (yields_old c5 hb (by exact rfl) (by exact rfl) (by exact rfl) Try.underlying40 rfl) hS (fun hc1 => ?_)
  clear hcl; have hcl := hc1; clear hc1; simp only [List.getElem_toArray, List.getElem_cons_zero, List.getElem_cons_succ, Act.put, List.setIfInBounds_toArray, List.set_cons_zero, List.set_cons_succ]
  refine wpAnyG_pure (i := 18) (v := cv c) rfl rfl (by kernel_rfl) (by kernel_rfl) (by kernel_rfl) (fun _ _ _ h => h) (by decide) ⟨by rfl, fun w _ => (by go_simp; try (first | (simp only [IntKind.wrap_u32]; done) | rfl)), fun _ => rfl⟩ (.inr hS) ?_
  have hc1 := hcl.step (i := 18) (by kernel_rfl)
  clear hcl; have hcl := hc1; clear hc1; simp only [List.getElem_toArray, List.getElem_cons_zero, List.getElem_cons_succ, Act.put, List.setIfInBounds_toArray, List.set_cons_zero, List.set_cons_succ]
  refine wpAnyG_one (i := 19) (by kernel_rfl) rfl (fun K hK => ?_)
  rw [if_pos (by exact rfl)]
  refine wpIn_store_mem (i := 0) hS (by exact rfl) (by exact rfl) (by exact rfl) (by exact rfl) (by exact cInfo) (by exact rfl) (by exact rfl) ?_
  intro w7 H
  simp only [List.cons_append, List.nil_append, List.set_cons_zero, List.set_cons_succ, List.setIfInBounds_toArray] at H
  refine hK _ _ (.inl (by kernel_rfl)) ?_
  clear hK K hS hcl
  simp only [List.getElem_toArray, List.getElem_cons_zero, List.getElem_cons_succ, Act.put, List.setIfInBounds_toArray, List.set_cons_zero, List.set_cons_succ]
  refine wpAnyG_done (by kernel_rfl) ?_ _
  go_wp2
  exact ret_held (H.at 0 rfl) rfl rfl Try.underlying42 rfl cInfo ⟨rfl, H.below⟩
end Go.Proofs.Ytdhjdkhhhdcjdaa.Ta
end
