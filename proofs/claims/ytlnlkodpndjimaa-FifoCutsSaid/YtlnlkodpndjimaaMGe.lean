/-
  What the program's fifos do, as an interface; the document's; a law's state: two fifos that lie apart. Conditions: as the interface says. What taking and other limits do to the document's fifo, all ways; calls that tell packets, as steps of a law's state. Conditions: five thousand packets at most. What the program's fifos do, as an interface. Conditions: as the interface says. The document's calls, as steps of a law's state. Conditions: two thousand packets at most. What came in, opened: packets, acts of layer 10. Conditions: the types' shapes.
-/
import Derived.Test.YtlnlkodpndjimaaMGd
import Derived.Test.YtlnlkodpndjimaaMGc
import Derived.Test.YtlnlkodpndjimaaMGb
/- What the program's fifos do, as an interface; the document's; a law's state: two fifos that lie apart. Conditions: as the interface says. -/
section
namespace Go.Proofs.Ytlnlkodpndjimaa.Fi
set_option linter.unusedSimpArgs false
set_option linter.unusedVariables false
set_option maxRecDepth 100000
open Go.ChangeShapes Go.WideShapes Go.ChangeAt Go.RowKit

/-- what lies somewhere stays, if what it owns stays -/
structure PtOk (P : PT) : Prop where
  on : ∀ {W W' : World} {own : Nat → Prop} {p : Nat} {s : FF} {N : Nat}, P W own p s N → (∀ i, own i → W'.heap[i]? = W.heap[i]?) → W.heap.size ≤ W'.heap.size → P W' own p s N
  lt : ∀ {W : World} {own : Nat → Prop} {p : Nat} {s : FF} {N : Nat}, P W own p s N → ∀ i, own i → i < W.heap.size
theorem DocAt.pt : PtOk DocAt := ⟨fun ⟨v, h⟩ h1 h2 => ⟨v, h.on h1 h2⟩, fun ⟨v, h⟩ i hi => h.lt i hi⟩
/-- no fifo -/
def NoT : PT := fun _ own _ _ _ => ∀ i, ¬ own i
theorem NoT.pt : PtOk NoT := ⟨fun h _ _ => h, fun h i hi => absurd hi (h i)⟩
/-- packets that are told, of new blocks -/
def GivesQ (W : World) (l : List PV) (e : Ending) (w' : World) : Prop :=
  ∃ v, e = .returned v ∧ Que w' v l ∧ (∀ i, qb v i → W.heap.size ≤ i) ∧ Below W.heap.size W w'
/-- a law's state: two fifos that lie apart, what the law holds in the blocks T -/
def Kept (T : Nat → Prop) (K : World → Prop) : Prop := ∀ X Y : World, K X → X.heap.size ≤ Y.heap.size → (∀ i, T i → Y.heap[i]? = X.heap[i]?) → K Y
structure St0 (P1 P2 : PT) (W0 W : World) (T : Nat → Prop) (K : World → Prop) (p1 : Nat) (s1 : FF) (N1 : Nat) (p2 : Nat) (s2 : FF) (N2 : Nat) (own own2 : Nat → Prop) : Prop where
  a1 : P1 W own p1 s1 N1
  a2 : P2 W own2 p2 s2 N2
  sep : ∀ i, own i → ¬ own2 i
  b1 : ∀ i, own i → W0.heap.size ≤ i
  b2 : ∀ i, own2 i → W0.heap.size ≤ i
  below : Below W0.heap.size W0 W
  free : ∀ i, T i → i < W.heap.size ∧ ¬ own i ∧ ¬ own2 i
  keep : K W
def St (P1 P2 : PT) (W0 W : World) (T : Nat → Prop) (K : World → Prop) (p1 : Nat) (s1 : FF) (N1 : Nat) (p2 : Nat) (s2 : FF) (N2 : Nat) : Prop := ∃ own own2, St0 P1 P2 W0 W T K p1 s1 N1 p2 s2 N2 own own2
section
variable {P1 P2 : PT} {W0 W W' : World} {T T' : Nat → Prop} {K K' : World → Prop} {p1 N1 p2 N2 : Nat} {s1 s2 : FF}
theorem St.symm (h : St P1 P2 W0 W T K p1 s1 N1 p2 s2 N2) : St P2 P1 W0 W T K p2 s2 N2 p1 s1 N1 := by
  obtain ⟨own, own2, h⟩ := h
  exact ⟨own2, own, h.a2, h.a1, fun i h2 h1 => h.sep i h1 h2, h.b2, h.b1, h.below, fun i hi => ⟨(h.free i hi).1, (h.free i hi).2.2, (h.free i hi).2.1⟩, h.keep⟩
theorem St.bel (h : St P1 P2 W0 W T K p1 s1 N1 p2 s2 N2) : Below W0.heap.size W0 W := by
  obtain ⟨own, own2, h⟩ := h
  exact h.below
theorem St.kp (h : St P1 P2 W0 W T K p1 s1 N1 p2 s2 N2) : K W := by
  obtain ⟨own, own2, h⟩ := h
  exact h.keep
/-- what is new is the law's own -/
theorem St.grow (o1 : PtOk P1) (o2 : PtOk P2) (h : St P1 P2 W0 W T K p1 s1 N1 p2 s2 N2) (hb : Below W.heap.size W W') (hT : ∀ i, T' i → T i ∨ (W.heap.size ≤ i ∧ i < W'.heap.size)) (hK : K' W') : St P1 P2 W0 W' T' K' p1 s1 N1 p2 s2 N2 := by
  obtain ⟨own, own2, h⟩ := h
  refine ⟨own, own2, o1.on h.a1 (fun i hi => hb.block i (o1.lt h.a1 i hi)) hb.size, o2.on h.a2 (fun i hi => hb.block i (o2.lt h.a2 i hi)) hb.size, h.sep, h.b1, h.b2, h.below.trans (hb.mono h.below.size), fun i hi => ?_, hK⟩
  rcases hT i hi with h1 | h1
  · exact ⟨Nat.lt_of_lt_of_le (h.free i h1).1 hb.size, (h.free i h1).2⟩
  · refine ⟨h1.2, fun h2 => ?_, fun h2 => ?_⟩
    · have := o1.lt h.a1 i h2
      omega
    · have := o2.lt h.a2 i h2
      omega
theorem St.on (o1 : PtOk P1) (o2 : PtOk P2) (hk : Kept T K) (h : St P1 P2 W0 W T K p1 s1 N1 p2 s2 N2) (hb : Below W.heap.size W W') : St P1 P2 W0 W' T K p1 s1 N1 p2 s2 N2 := by
  refine h.grow o1 o2 hb (fun i hi => .inl hi) ?_
  obtain ⟨own, own2, h⟩ := h
  exact hk W W' h.keep hb.size fun i hi => hb.block i (h.free i hi).1
theorem Kept.no (T : Nat → Prop) : Kept T (fun _ => True) := fun _ _ _ _ _ => trivial
theorem Kept.que {T : Nat → Prop} {K : World → Prop} (hk : Kept T K) (v : Value) (l : List PV) : Kept (fun i => T i ∨ qb v i) (fun X => K X ∧ Que X v l) := fun X Y h hs hb =>
  ⟨hk X Y h.1 hs fun i hi => hb i (.inl hi), h.2.on fun i hi => hb i (.inr hi)⟩
/-- a call that changes the first of them -/
theorem St.step (o1 : PtOk P1) (o2 : PtOk P2) (hk : Kept T K) (h : St P1 P2 W0 W T K p1 s1 N1 p2 s2 N2) {f : Nat} {args : Array Value} {s' : FF} {N' : Nat} {v : Value}
    (hc : ∀ own, P1 W own p1 s1 N1 → Calls Try.prog f args W (DidF P1 W own p1 s' N' v)) : Calls Try.prog f args W fun e w' => e = .returned v ∧ St P1 P2 W0 w' T K p1 s' N' p2 s2 N2 := by
  obtain ⟨own, own2, h⟩ := h
  refine (hc own h.a1).mono ?_
  rintro e w' ⟨rfl, ⟨own', a, ho⟩, hF⟩
  have h2 : ∀ i, own2 i → w'.heap[i]? = W.heap[i]? := fun i hi => hF.block i (o2.lt h.a2 i hi) fun e => h.sep i e hi
  have hT : ∀ i, T i → w'.heap[i]? = W.heap[i]? := fun i hi => hF.block i (h.free i hi).1 (h.free i hi).2.1
  have hws := h.below.size
  refine ⟨rfl, own', own2, a, o2.on h.a2 h2 hF.size, fun i hi h3 => ?_, fun i hi => ?_, h.b2, ⟨hF.os.trans h.below.os, hF.tape.trans h.below.tape, hF.output.trans h.below.output, Nat.le_trans h.below.size hF.size, fun i hi => (hF.block i (Nat.lt_of_lt_of_le hi h.below.size) (fun e => by have := h.b1 i e; omega)).trans (h.below.block i hi)⟩, fun i hi => ?_, hk W w' h.keep hF.size hT⟩
  · rcases ho i hi with e | e
    · exact h.sep i e h3
    · have := o2.lt h.a2 i h3
      omega
  · rcases ho i hi with e | e
    · exact h.b1 i e
    · omega
  · have hf := h.free i hi
    refine ⟨Nat.lt_of_lt_of_le hf.1 hF.size, fun e => ?_, hf.2.2⟩
    rcases ho i e with e | e
    · exact hf.2.1 e
    · omega
end
end Go.Proofs.Ytlnlkodpndjimaa.Fi
end
/- What taking and other limits do to the document's fifo, all ways; calls that tell packets, as steps of a law's state. Conditions: five thousand packets at most. -/
section
namespace Go.Proofs.Ytlnlkodpndjimaa.Fi
set_option linter.unusedSimpArgs false
set_option linter.unusedVariables false
set_option maxRecDepth 100000
open Go.ChangeShapes Go.WideShapes Go.ChangeAt Go.RowKit

theorem take_d (W : World) (own : Nat → Prop) (p : Nat) (s : FF) (N : Nat) (v : Value) (h : DAt W own p s N v) (hN : N ≤ 5000) : Calls Try.prog 30 #[.pointer (some ⟨p, 0, none⟩)] W (DidF DocAt W own p (takeS s) N (.tuple #[pv (firstV s), .int .i64 (firstE s)])) := by
  obtain ⟨l, sn, sb⟩ := s
  cases l with
  | nil =>
    refine (take_none W own p _ N v h hN rfl).mono ?_
    rintro e w' ⟨rfl, hb⟩
    exact ⟨by simp [firstV, firstE], ⟨own, ⟨v, h.below hb⟩, fun i hi => .inl hi⟩, Foot.of_below hb⟩
  | cons q l =>
    have e1 : firstV ⟨q :: l, sn, sb⟩ = q := rfl
    have e2 : firstE ⟨q :: l, sn, sb⟩ = 0 := by simp [firstE]
    rw [e1, e2]
    have hr := h.row
    rcases hr with ⟨_, e⟩ | ⟨g, off, cap, cs, rfl, h1, h2, h3, h4, h5⟩
    · cases e
    · rw [List.length_cons] at h2
      by_cases hc : cap = 1
      · exact take_one W own p q l sn sb N _ h hN g off (l.length + 1) cap rfl rfl h2 hc h3
      · exact take_more W own p q l sn sb N _ h hN g off (l.length + 1) cap rfl rfl h2 (by omega) h3
theorem lim_d (W : World) (own : Nat → Prop) (p : Nat) (s : FF) (N : Nat) (v : Value) (h : DAt W own p s N v) (hN : N ≤ 5000) (n b : Int) : Calls Try.prog 31 #[.pointer (some ⟨p, 0, none⟩), .int .i64 n, .int .i64 b] W (TellsF DocAt W own p (limS s n b) N (limV s n b) (fun x => .tuple #[x, .int .i64 (limE n b)])) := by
  unfold limS limV limE
  cases hok : okN n b with
  | true =>
    rw [if_pos rfl, if_pos rfl, if_pos rfl]
    exact lim_yes W own p s N v h hN n b hok
  | false =>
    rw [if_neg (by decide), if_neg (by decide), if_neg (by decide)]
    refine (lim_no W p n b hok).mono ?_
    rintro e w' ⟨rfl, hb⟩
    refine ⟨.slice none 0 0, rfl, Que.nil _, ⟨own, ⟨v, h.below hb⟩, fun i hi => .inl hi, fun i hi => ?_⟩, Foot.of_below hb⟩
    obtain ⟨_, _, _, _, e⟩ := hi
    cases e
section
variable {P1 P2 : PT} {W0 W W' : World} {T : Nat → Prop} {K : World → Prop} {p1 N1 p2 N2 : Nat} {s1 s2 : FF}
/-- a call that changes none -/
theorem St.ask (o1 : PtOk P1) (o2 : PtOk P2) (hk : Kept T K) (h : St P1 P2 W0 W T K p1 s1 N1 p2 s2 N2) {f : Nat} {args : Array Value} {v : Value}
    (hc : ∀ own, P1 W own p1 s1 N1 → Calls Try.prog f args W fun e w' => e = .returned v ∧ Below W.heap.size W w') : Calls Try.prog f args W fun e w' => e = .returned v ∧ St P1 P2 W0 w' T K p1 s1 N1 p2 s2 N2 := by
  have hh := h
  obtain ⟨own, own2, h⟩ := h
  refine (hc own h.a1).mono ?_
  rintro e w' ⟨rfl, hb⟩
  exact ⟨rfl, hh.on o1 o2 hk hb⟩
/-- packets that were told, kept from now on -/
def ToldP (P1 P2 : PT) (W0 : World) (T : Nat → Prop) (K : World → Prop) (p1 : Nat) (s1 : FF) (N1 : Nat) (p2 : Nat) (s2 : FF) (N2 : Nat) (l : List PV) (wrap : Value → Value) (e : Ending) (w' : World) : Prop :=
  ∃ v, e = .returned (wrap v) ∧ St P1 P2 W0 w' (fun i => T i ∨ qb v i) (fun X => K X ∧ Que X v l) p1 s1 N1 p2 s2 N2
/-- a call that changes the first of them and tells packets -/
theorem St.tells (o1 : PtOk P1) (o2 : PtOk P2) (hk : Kept T K) (h : St P1 P2 W0 W T K p1 s1 N1 p2 s2 N2) {f : Nat} {args : Array Value} {s' : FF} {N' : Nat} {l : List PV} {wrap : Value → Value}
    (hc : ∀ own, P1 W own p1 s1 N1 → Calls Try.prog f args W (TellsF P1 W own p1 s' N' l wrap)) : Calls Try.prog f args W (ToldP P1 P2 W0 T K p1 s' N' p2 s2 N2 l wrap) := by
  obtain ⟨own, own2, h⟩ := h
  refine (hc own h.a1).mono ?_
  rintro e w' ⟨v, rfl, hq, ⟨own', a, ho, hv⟩, hF⟩
  have h2 : ∀ i, own2 i → w'.heap[i]? = W.heap[i]? := fun i hi => hF.block i (o2.lt h.a2 i hi) fun e => h.sep i e hi
  have hT : ∀ i, T i → w'.heap[i]? = W.heap[i]? := fun i hi => hF.block i (h.free i hi).1 (h.free i hi).2.1
  have hws := h.below.size
  refine ⟨v, rfl, own', own2, a, o2.on h.a2 h2 hF.size, fun i hi h3 => ?_, fun i hi => ?_, h.b2, ⟨hF.os.trans h.below.os, hF.tape.trans h.below.tape, hF.output.trans h.below.output, Nat.le_trans h.below.size hF.size, fun i hi => (hF.block i (Nat.lt_of_lt_of_le hi h.below.size) (fun e => by have := h.b1 i e; omega)).trans (h.below.block i hi)⟩, fun i hi => ?_, hk W w' h.keep hF.size hT, hq⟩
  · rcases ho i hi with e | e
    · exact h.sep i e h3
    · have := o2.lt h.a2 i h3
      omega
  · rcases ho i hi with e | e
    · exact h.b1 i e
    · omega
  · rcases hi with hi | hi
    · have hf := h.free i hi
      refine ⟨Nat.lt_of_lt_of_le hf.1 hF.size, fun e => ?_, hf.2.2⟩
      rcases ho i e with e | e
      · exact hf.2.1 e
      · omega
    · refine ⟨hq.lt hi, (hv i hi).1, fun e => ?_⟩
      rcases (hv i hi).2 with e2 | e2
      · exact h.sep i e2 e
      · have := o2.lt h.a2 i e
        omega
end
end Go.Proofs.Ytlnlkodpndjimaa.Fi
end
/- What the program's fifos do, as an interface. Conditions: as the interface says. -/
section
namespace Go.Proofs.Ytlnlkodpndjimaa.Fi
set_option linter.unusedSimpArgs false
set_option linter.unusedVariables false
set_option maxRecDepth 100000
open Go.ChangeShapes Go.WideShapes Go.ChangeAt Go.RowKit

/-- what the program's fifos do; P says that one lies at a block -/
structure PFifo (P : PT) : Prop where
  pt : PtOk P
  ok : ∀ {W : World} {own : Nat → Prop} {p : Nat} {s : FF} {N : Nat}, P W own p s N → s.l.length ≤ N ∧ okN s.n s.b = true ∧ (∀ q, q ∈ s.l → q.Fits) ∧ Sz s.l
  new_no : ∀ (n b : Int) (W : World), okN n b = false → Calls Try.prog 11 #[.int .i64 n, .int .i64 b] W fun e w' => e = .returned (.tuple #[.pointer none, .int .i64 2]) ∧ Below W.heap.size W w'
  new_yes : ∀ (n b : Int) (W : World), okN n b = true → Calls Try.prog 11 #[.int .i64 n, .int .i64 b] W (NewF P W ⟨[], n, b⟩)
  put : ∀ (W : World) (own : Nat → Prop) (p : Nat) (s : FF) (N : Nat), P W own p s N → N ≤ 2000 → ∀ q : PV, q.Fits → Calls Try.prog 21 #[.pointer (some ⟨p, 0, none⟩), pv q] W (DidF P W own p (putS s q) (N + 1) (.int .i64 (putE s q)))
  back : ∀ (W : World) (own : Nat → Prop) (p : Nat) (s : FF) (N : Nat), P W own p s N → N ≤ 2000 → ∀ q : PV, q.Fits → Calls Try.prog 22 #[.pointer (some ⟨p, 0, none⟩), pv q] W (DidF P W own p (backS s q) (N + 1) (.int .i64 (backE q)))
  first : ∀ (W : World) (own : Nat → Prop) (p : Nat) (s : FF) (N : Nat), P W own p s N → N ≤ 2000 → Calls Try.prog 18 #[.pointer (some ⟨p, 0, none⟩)] W fun e w' => e = .returned (.tuple #[pv (firstV s), .int .i64 (firstE s)]) ∧ Below W.heap.size W w'
  take : ∀ (W : World) (own : Nat → Prop) (p : Nat) (s : FF) (N : Nat), P W own p s N → N ≤ 2000 → Calls Try.prog 19 #[.pointer (some ⟨p, 0, none⟩)] W (DidF P W own p (takeS s) N (.tuple #[pv (firstV s), .int .i64 (firstE s)]))
  limits : ∀ (W : World) (own : Nat → Prop) (p : Nat) (s : FF) (N : Nat), P W own p s N → N ≤ 2000 → ∀ n b : Int, Calls Try.prog 20 #[.pointer (some ⟨p, 0, none⟩), .int .i64 n, .int .i64 b] W (TellsF P W own p (limS s n b) N (limV s n b) (fun x => .tuple #[x, .int .i64 (limE n b)]))
  drain : ∀ (W : World) (own : Nat → Prop) (p : Nat) (s : FF) (N : Nat), P W own p s N → N ≤ 2000 → Calls Try.prog 23 #[.pointer (some ⟨p, 0, none⟩)] W (TellsF P W own p (drainS s) N s.l (fun x => x))
  all : ∀ (W : World) (own : Nat → Prop) (p : Nat) (s : FF) (N : Nat), P W own p s N → N ≤ 2000 → Calls Try.prog 15 #[.pointer (some ⟨p, 0, none⟩)] W (TellsF P W own p s N s.l (fun x => x))
  bytes : ∀ (W : World) (own : Nat → Prop) (p : Nat) (s : FF) (N : Nat), P W own p s N → N ≤ 2000 → Calls Try.prog 16 #[.pointer (some ⟨p, 0, none⟩)] W fun e w' => e = .returned (.int .i64 (Fi.bytes s.l)) ∧ Below W.heap.size W w'
  nil_put : ∀ (q : PV) (W : World), q.Fits → Calls Try.prog 21 #[.pointer none, pv q] W fun e w' => e = .returned (.int .i64 1) ∧ Below W.heap.size W w'
  nil_back : ∀ (q : PV) (W : World), q.Fits → Calls Try.prog 22 #[.pointer none, pv q] W fun e w' => e = .returned (.int .i64 1) ∧ Below W.heap.size W w'
  nil_first : ∀ W : World, Calls Try.prog 18 #[.pointer none] W fun e w' => (∃ v, e = .returned (.tuple #[v, .int .i64 1])) ∧ Below W.heap.size W w'
  nil_take : ∀ W : World, Calls Try.prog 19 #[.pointer none] W fun e w' => (∃ v, e = .returned (.tuple #[v, .int .i64 1])) ∧ Below W.heap.size W w'
  nil_limits : ∀ (n b : Int) (W : World), Calls Try.prog 20 #[.pointer none, .int .i64 n, .int .i64 b] W fun e w' => (∃ v, e = .returned (.tuple #[v, .int .i64 1])) ∧ Below W.heap.size W w'
  nil_drain : ∀ W : World, Calls Try.prog 23 #[.pointer none] W fun e w' => (∃ A c, e = .returned (.slice A 0 c)) ∧ Below W.heap.size W w'
  nil_all : ∀ W : World, Calls Try.prog 15 #[.pointer none] W fun e w' => (∃ A c, e = .returned (.slice A 0 c)) ∧ Below W.heap.size W w'
  nil_bytes : ∀ W : World, Calls Try.prog 16 #[.pointer none] W fun e w' => e = .returned (.int .i64 0) ∧ Below W.heap.size W w'
section
variable {P : PT} (hP : PFifo P) {P2 : PT} (o2 : PtOk P2) {W0 W : World} {T : Nat → Prop} {K : World → Prop} (hk : Kept T K) {p1 N1 p2 N2 : Nat} {s1 s2 : FF}
include hP o2 hk
/-- the calls, as steps of a law's state -/
theorem putP (h : St P P2 W0 W T K p1 s1 N1 p2 s2 N2) (hN : N1 ≤ 2000) (q : PV) (hq : q.Fits) : Calls Try.prog 21 #[.pointer (some ⟨p1, 0, none⟩), pv q] W fun e w' => e = .returned (.int .i64 (putE s1 q)) ∧ St P P2 W0 w' T K p1 (putS s1 q) (N1 + 1) p2 s2 N2 :=
  h.step hP.pt o2 hk fun own a => hP.put W own p1 s1 N1 a hN q hq
theorem backP (h : St P P2 W0 W T K p1 s1 N1 p2 s2 N2) (hN : N1 ≤ 2000) (q : PV) (hq : q.Fits) : Calls Try.prog 22 #[.pointer (some ⟨p1, 0, none⟩), pv q] W fun e w' => e = .returned (.int .i64 (backE q)) ∧ St P P2 W0 w' T K p1 (backS s1 q) (N1 + 1) p2 s2 N2 :=
  h.step hP.pt o2 hk fun own a => hP.back W own p1 s1 N1 a hN q hq
theorem firstP (h : St P P2 W0 W T K p1 s1 N1 p2 s2 N2) (hN : N1 ≤ 2000) : Calls Try.prog 18 #[.pointer (some ⟨p1, 0, none⟩)] W fun e w' => e = .returned (.tuple #[pv (firstV s1), .int .i64 (firstE s1)]) ∧ St P P2 W0 w' T K p1 s1 N1 p2 s2 N2 :=
  h.ask hP.pt o2 hk fun own a => hP.first W own p1 s1 N1 a hN
theorem takeP (h : St P P2 W0 W T K p1 s1 N1 p2 s2 N2) (hN : N1 ≤ 2000) : Calls Try.prog 19 #[.pointer (some ⟨p1, 0, none⟩)] W fun e w' => e = .returned (.tuple #[pv (firstV s1), .int .i64 (firstE s1)]) ∧ St P P2 W0 w' T K p1 (takeS s1) N1 p2 s2 N2 :=
  h.step hP.pt o2 hk fun own a => hP.take W own p1 s1 N1 a hN
theorem bytesP (h : St P P2 W0 W T K p1 s1 N1 p2 s2 N2) (hN : N1 ≤ 2000) : Calls Try.prog 16 #[.pointer (some ⟨p1, 0, none⟩)] W fun e w' => e = .returned (.int .i64 (Fi.bytes s1.l)) ∧ St P P2 W0 w' T K p1 s1 N1 p2 s2 N2 :=
  h.ask hP.pt o2 hk fun own a => hP.bytes W own p1 s1 N1 a hN
theorem limitsP (h : St P P2 W0 W T K p1 s1 N1 p2 s2 N2) (hN : N1 ≤ 2000) (n b : Int) : Calls Try.prog 20 #[.pointer (some ⟨p1, 0, none⟩), .int .i64 n, .int .i64 b] W (ToldP P P2 W0 T K p1 (limS s1 n b) N1 p2 s2 N2 (limV s1 n b) (fun x => .tuple #[x, .int .i64 (limE n b)])) :=
  h.tells hP.pt o2 hk fun own a => hP.limits W own p1 s1 N1 a hN n b
theorem drainP (h : St P P2 W0 W T K p1 s1 N1 p2 s2 N2) (hN : N1 ≤ 2000) : Calls Try.prog 23 #[.pointer (some ⟨p1, 0, none⟩)] W (ToldP P P2 W0 T K p1 (drainS s1) N1 p2 s2 N2 s1.l (fun x => x)) :=
  h.tells hP.pt o2 hk fun own a => hP.drain W own p1 s1 N1 a hN
theorem allP (h : St P P2 W0 W T K p1 s1 N1 p2 s2 N2) (hN : N1 ≤ 2000) : Calls Try.prog 15 #[.pointer (some ⟨p1, 0, none⟩)] W (ToldP P P2 W0 T K p1 s1 N1 p2 s2 N2 s1.l (fun x => x)) :=
  h.tells hP.pt o2 hk fun own a => hP.all W own p1 s1 N1 a hN
end
end Go.Proofs.Ytlnlkodpndjimaa.Fi
end
/- The document's calls, as steps of a law's state. Conditions: two thousand packets at most. -/
section
namespace Go.Proofs.Ytlnlkodpndjimaa.Fi
set_option linter.unusedSimpArgs false
set_option linter.unusedVariables false
set_option maxRecDepth 100000
open Go.ChangeShapes Go.WideShapes Go.ChangeAt Go.RowKit

section
variable {P1 : PT} (o1 : PtOk P1) {W0 W : World} {T : Nat → Prop} {K : World → Prop} (hk : Kept T K) {p1 N1 p2 N2 : Nat} {s1 s2 : FF}
include o1 hk
theorem putR (h : St P1 DocAt W0 W T K p1 s1 N1 p2 s2 N2) (hN : N2 ≤ 2000) (q : PV) (hq : q.Fits) : Calls Try.prog 27 #[.pointer (some ⟨p2, 0, none⟩), pv q] W fun e w' => e = .returned (.int .i64 (putE s2 q)) ∧ St P1 DocAt W0 w' T K p1 s1 N1 p2 (putS s2 q) (N2 + 1) :=
  (h.symm.step DocAt.pt o1 hk fun own ⟨v, a⟩ => put_d W own p2 s2 N2 v a hN q hq).mono fun e w' hh => ⟨hh.1, hh.2.symm⟩
theorem backR (h : St P1 DocAt W0 W T K p1 s1 N1 p2 s2 N2) (hN : N2 ≤ 2000) (q : PV) (hq : q.Fits) : Calls Try.prog 28 #[.pointer (some ⟨p2, 0, none⟩), pv q] W fun e w' => e = .returned (.int .i64 (backE q)) ∧ St P1 DocAt W0 w' T K p1 s1 N1 p2 (backS s2 q) (N2 + 1) :=
  (h.symm.step DocAt.pt o1 hk fun own ⟨v, a⟩ => back_d W own p2 s2 N2 v a hN q hq).mono fun e w' hh => ⟨hh.1, hh.2.symm⟩
theorem firstR (h : St P1 DocAt W0 W T K p1 s1 N1 p2 s2 N2) (hN : N2 ≤ 2000) : Calls Try.prog 29 #[.pointer (some ⟨p2, 0, none⟩)] W fun e w' => e = .returned (.tuple #[pv (firstV s2), .int .i64 (firstE s2)]) ∧ St P1 DocAt W0 w' T K p1 s1 N1 p2 s2 N2 :=
  (h.symm.ask DocAt.pt o1 hk fun own ⟨v, a⟩ => first_d W own p2 s2 N2 v a (by omega)).mono fun e w' hh => ⟨hh.1, hh.2.symm⟩
theorem takeR (h : St P1 DocAt W0 W T K p1 s1 N1 p2 s2 N2) (hN : N2 ≤ 2000) : Calls Try.prog 30 #[.pointer (some ⟨p2, 0, none⟩)] W fun e w' => e = .returned (.tuple #[pv (firstV s2), .int .i64 (firstE s2)]) ∧ St P1 DocAt W0 w' T K p1 s1 N1 p2 (takeS s2) N2 :=
  (h.symm.step DocAt.pt o1 hk fun own ⟨v, a⟩ => take_d W own p2 s2 N2 v a (by omega)).mono fun e w' hh => ⟨hh.1, hh.2.symm⟩
theorem limitsR (h : St P1 DocAt W0 W T K p1 s1 N1 p2 s2 N2) (hN : N2 ≤ 2000) (n b : Int) : Calls Try.prog 31 #[.pointer (some ⟨p2, 0, none⟩), .int .i64 n, .int .i64 b] W fun e w' => ∃ v, e = .returned (.tuple #[v, .int .i64 (limE n b)]) ∧ St P1 DocAt W0 w' (fun i => T i ∨ qb v i) (fun X => K X ∧ Que X v (limV s2 n b)) p1 s1 N1 p2 (limS s2 n b) N2 :=
  (h.symm.tells DocAt.pt o1 hk fun own ⟨v, a⟩ => lim_d W own p2 s2 N2 v a (by omega) n b).mono fun e w' ⟨v, hh⟩ => ⟨v, hh.1, hh.2.symm⟩
theorem drainR (h : St P1 DocAt W0 W T K p1 s1 N1 p2 s2 N2) (hN : N2 ≤ 2000) : Calls Try.prog 32 #[.pointer (some ⟨p2, 0, none⟩)] W fun e w' => ∃ v, e = .returned (v) ∧ St P1 DocAt W0 w' (fun i => T i ∨ qb v i) (fun X => K X ∧ Que X v (s2.l)) p1 s1 N1 p2 (drainS s2) N2 :=
  (h.symm.tells DocAt.pt o1 hk fun own ⟨v, a⟩ => drain_d W own p2 s2 N2 v a).mono fun e w' ⟨v, hh⟩ => ⟨v, hh.1, hh.2.symm⟩
end
end Go.Proofs.Ytlnlkodpndjimaa.Fi
end
/- What came in, opened: packets, acts of layer 10. Conditions: the types' shapes. -/
section
namespace Go.Proofs.Ytlnlkodpndjimaa.Fi
set_option linter.unusedSimpArgs false
set_option linter.unusedVariables false
set_option maxRecDepth 100000
open Go.Joins Go.Deep Go.ChangeShapes Go.WideShapes Go.ChangeAt Go.RowKit

theorem bd_u16 {n : Int} (h : (Lit.int .u16 n).wf = true) : 0 ≤ n ∧ n ≤ 65535 := by
  simpa [Lit.wf, IntKind.min, IntKind.max, IntKind.signed, IntKind.bits] using h
section
variable {H : Type} {enc : TypeId × Value → H} {P : Program} {w : World} {base : Nat} {spare : Nat → Bool} {held : Bool}
theorem el_flow (fuel : Nat) (cs : List Value) (x : DataW H × List MemPlace) (h : DataW.trod enc Try.prog w base spare held fuel 35 cs = some x) : ∃ a b sp dp q : Int, cs = [.int .u32 a, .int .u32 b, .int .u16 sp, .int .u16 dp, .int .u8 q] ∧ (0 ≤ a ∧ a ≤ 4294967295) ∧ (0 ≤ b ∧ b ≤ 4294967295) ∧ (0 ≤ sp ∧ sp ≤ 65535) ∧ (0 ≤ dp ∧ dp ≤ 65535) ∧ (0 ≤ q ∧ q ≤ 255) := by
  obtain ⟨xs, m, _, _, hlen, hxl, hg⟩ := DataW.trod_struct Try.underlying35 h
  rw [show Try.prog.cellsOf 35 = 5 by kernel_rfl] at hlen
  match cs, hlen with
  | [c0, c1, c2, c3, c4], _ =>
    match xs, hxl with
    | [y0, y1, y2, y3, y4], _ =>
      obtain ⟨n0, e0, _, w0⟩ := DataW.trod_int Try.underlying32 (show DataW.trod enc Try.prog w base spare held m 32 [c0] = some y0 from hg 0 _ rfl)
      obtain ⟨n1, e1, _, w1⟩ := DataW.trod_int Try.underlying32 (show DataW.trod enc Try.prog w base spare held m 32 [c1] = some y1 from hg 1 _ rfl)
      obtain ⟨n2, e2, _, w2⟩ := DataW.trod_int Try.underlying33 (show DataW.trod enc Try.prog w base spare held m 33 [c2] = some y2 from hg 2 _ rfl)
      obtain ⟨n3, e3, _, w3⟩ := DataW.trod_int Try.underlying33 (show DataW.trod enc Try.prog w base spare held m 33 [c3] = some y3 from hg 3 _ rfl)
      obtain ⟨n4, e4, _, w4⟩ := DataW.trod_int Try.underlying5 (show DataW.trod enc Try.prog w base spare held m 5 [c4] = some y4 from hg 4 _ rfl)
      simp at e0 e1 e2 e3 e4
      subst e0 e1 e2 e3 e4
      exact ⟨n0, n1, n2, n3, n4, rfl, bd_u32 w0, bd_u32 w1, bd_u16 w2, bd_u16 w3, bd_u8 w4⟩
theorem el_packet (fuel : Nat) (cs : List Value) (x : DataW H × List MemPlace) (h : DataW.trod enc Try.prog w base spare held fuel 37 cs = some x) : ∃ q : PV, cs = pvCs q ∧ q.Fits := by
  obtain ⟨xs, m, _, _, hlen, hxl, hg⟩ := DataW.trod_struct Try.underlying37 h
  rw [show Try.prog.cellsOf 37 = 9 by kernel_rfl] at hlen
  match cs, hlen with
  | [c0, c1, c2, c3, c4, c5, c6, c7, c8], _ =>
    match xs, hxl with
    | [y0, y1, y2, y3, y4], _ =>
      obtain ⟨n0, e0, _, w0⟩ := DataW.trod_int Try.underlying32 (show DataW.trod enc Try.prog w base spare held m 32 [c0] = some y0 from hg 0 _ rfl)
      obtain ⟨n1, e1, _, w1⟩ := DataW.trod_int Try.underlying32 (show DataW.trod enc Try.prog w base spare held m 32 [c1] = some y1 from hg 1 _ rfl)
      obtain ⟨n2, e2, _, w2⟩ := DataW.trod_int Try.underlying3 (show DataW.trod enc Try.prog w base spare held m 3 [c2] = some y2 from hg 2 _ rfl)
      obtain ⟨n3, e3, _, w3⟩ := DataW.trod_int Try.underlying3 (show DataW.trod enc Try.prog w base spare held m 3 [c3] = some y3 from hg 3 _ rfl)
      obtain ⟨a, b, sp, dp, qq, e4, g1, g2, g3, g4, g5⟩ := el_flow m [c4, c5, c6, c7, c8] y4 (hg 4 _ rfl)
      simp at e0 e1 e2 e3
      subst e0 e1 e2 e3
      injection e4 with f0 e4
      injection e4 with f1 e4
      injection e4 with f2 e4
      injection e4 with f3 e4
      injection e4 with f4 e4
      subst f0 f1 f2 f3 f4
      exact ⟨⟨n0, n1, n2, n3, a, b, sp, dp, qq⟩, rfl, ⟨bd_u32 w0, bd_u32 w1, bd_i64 w2, bd_i64 w3, g1, g2, g3, g4, g5⟩⟩
theorem open_packet {r : Reach} {b0 : Nat} {v : Value} {x : DataW H} {p : List MemPlace} (hv : Value.okWide Try.prog w r b0 37 v) (h : DataW.Trod enc Try.prog w base spare held 37 v x p) : ∃ q : PV, v = pv q ∧ q.Fits := by
  obtain ⟨cs, rfl, hsz⟩ := okWide_struct Try.underlying37 hv
  obtain ⟨l⟩ := cs
  obtain ⟨fuel, hf⟩ := h
  obtain ⟨q, e, hq⟩ := el_packet fuel l _ (by simpa [Value.cells] using hf)
  exact ⟨q, by rw [e], hq⟩
/-- an act -/
structure AX where
  d : Int
  q : PV
  n : Int
  m : Int
def axC (x : AX) : List Value := .int .i64 x.d :: (pvCs x.q ++ [.int .i64 x.n, .int .i64 x.m])
abbrev I64 (x : Int) : Prop := -9223372036854775808 ≤ x ∧ x ≤ 9223372036854775807
structure AX.Fits (x : AX) : Prop where
  d : I64 x.d
  q : x.q.Fits
  n : I64 x.n
  m : I64 x.m
instance : Inhabited AX := ⟨⟨0, default, 0, 0⟩⟩
theorem axC_len (x : AX) : (axC x).length = 12 := rfl
theorem el_act (fuel : Nat) (cs : List Value) (x : DataW H × List MemPlace) (h : DataW.trod enc Try.prog w base spare held fuel 39 cs = some x) : ∃ y : AX, cs = axC y ∧ y.Fits := by
  obtain ⟨xs, m, _, _, hlen, hxl, hg⟩ := DataW.trod_struct Try.underlying39 h
  rw [show Try.prog.cellsOf 39 = 12 by kernel_rfl] at hlen
  match cs, hlen with
  | [c0, c1, c2, c3, c4, c5, c6, c7, c8, c9, c10, c11], _ =>
    match xs, hxl with
    | [y0, y1, y2, y3], _ =>
      obtain ⟨n0, e0, _, w0⟩ := DataW.trod_int Try.underlying3 (show DataW.trod enc Try.prog w base spare held m 3 [c0] = some y0 from hg 0 _ rfl)
      obtain ⟨q, e1, hq⟩ := el_packet m [c1, c2, c3, c4, c5, c6, c7, c8, c9] y1 (hg 1 _ rfl)
      obtain ⟨n2, e2, _, w2⟩ := DataW.trod_int Try.underlying3 (show DataW.trod enc Try.prog w base spare held m 3 [c10] = some y2 from hg 2 _ rfl)
      obtain ⟨n3, e3, _, w3⟩ := DataW.trod_int Try.underlying3 (show DataW.trod enc Try.prog w base spare held m 3 [c11] = some y3 from hg 3 _ rfl)
      simp at e0 e2 e3
      subst e0 e2 e3
      refine ⟨⟨n0, q, n2, n3⟩, ?_, ⟨bd_i64 w0, hq, bd_i64 w2, bd_i64 w3⟩⟩
      show _ :: ([c1, c2, c3, c4, c5, c6, c7, c8, c9] ++ _) = _
      rw [e1]
      rfl
/-- the acts of a slice -/
def ActsX (w : World) (A : Option Addr) (n : Nat) (xs : Nat → AX) : Prop := SliceAt w A n 12 axC AX.Fits xs
theorem open_acts10 {r : Reach} {b0 : Nat} {v : Value} {x : DataW H} {p : List MemPlace} (hv : Value.okWide Try.prog w r b0 22 v) (h : DataW.Trod enc Try.prog w base spare held 22 v x p) : ∃ A len cap xs, v = .slice A len cap ∧ len ≤ cap ∧ cap ≤ maxLen ∧ ActsX w A len xs :=
  open_sliceOf (m := 12) axC AX.Fits Try.underlying22 (by kernel_rfl) axC_len (by decide) el_act hv h
end
end Go.Proofs.Ytlnlkodpndjimaa.Fi
end
