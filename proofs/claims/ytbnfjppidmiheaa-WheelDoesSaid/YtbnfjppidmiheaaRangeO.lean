/-
  A range over a method's value whose iterator keeps a block of its own, laid by itself, which it writes between two rounds: the rounds keep that block, and what they speak of lies elsewhere. Conditions: those that each theorem names.
-/
import Derived.Test.YtbnfjppidmiheaaRange
namespace Go.Proofs.Ytbnfjppidmiheaa
open Go.RowKit Go.Shelf

/-- how a round's body ends: it goes on, or it leaves -/
def ownPostN (D g : Nat) (I : Nat → Nat → World → Prop) (Ix : Code → Nat → World → Prop) (k : Nat) (W : World) : Exit → Act → World → Prop
  | .normal, _, W' => KeepsFrom D W W' ∧ W'.heap[g]? = W.heap[g]? ∧ I g (k + 1) W'
  | .ret, _, W' => KeepsFrom D W W' ∧ Ix .ret k W'
  | .exit id, _, W' => KeepsFrom D W W' ∧ Ix (.exit id) k W'
  | .goto t, _, W' => KeepsFrom D W W' ∧ Ix (.goto t) k W'
  | .panic _, _, _ => False
  | .outgrown, _, _ => False

/-- what an iterator does that asks for N rounds, and keeps a block of its own -/
def SeqOwn (F : Fence) (n : Nat) (P : Program) (gf : Nat) (ra : Array Value) (encs : Nat → Array Value) (N : Nat) (w : World) : Prop :=
  ∀ (l : Nat) (J : Nat → Nat → World → Prop) (Jx : Nat → World → Prop) (W : World), Below w.heap.size w W → (∀ g k X Y, J g k X → Foot (· = g) X Y → J g k Y) → (∀ k X Y, Jx k X → Below X.heap.size X Y → Jx k Y) →
    (∀ g k V, k < N → J g k V → YieldAt F (n - 1) P l (encs k) V fun e V' => (e = .returned (.bool true) ∧ J g (k + 1) V' ∧ V'.heap[g]? = V.heap[g]?) ∨ (e = .returned (.bool false) ∧ Jx k V')) →
    (∀ g X, W.heap.size ≤ g → g < X.heap.size → Below W.heap.size W X → J g 0 X) →
    CallsIn F n P gf (ra ++ #[.func (.yield l) #[] #[]]) W fun e W' => (∃ v, e = .returned v) ∧ ((N = 0 ∧ Below W.heap.size W W') ∨ (∃ g, J g N W') ∨ ∃ k, k < N ∧ Jx k W')

section
variable {F : Fence} {n : Nat} {P : Program}

theorem LoopAt.foot {D b : Nat} {r : Loop} {X Y : World} (h : LoopAt D r X) (hb : Foot (· = b) X Y) (hB : D + 2 ≤ b) : LoopAt D r Y := by
  have hl := h.lt
  exact ⟨(hb.block (D + 1) hl (by omega)).trans h.row, (hb.block D (by omega) (by omega)).trans h.calls⟩
theorem foot_put (X : World) (l : Nat) (o : Obj) : Foot (· = l) X (X.putObj l o) := ⟨rfl, rfl, rfl, by simp, fun _ _ hk => World.putObj_heap_other (by omega)⟩

theorem round_own {D g k : Nat} {I : Nat → Nat → World → Prop} {Ix : Code → Nat → World → Prop} (r : Loop) (hps : r.pending = none) (hst : r.state = .ready) (hg : D + 2 ≤ g)
    (hI : ∀ g k X Y, I g k X → Foot (· = D + 1) X Y → I g k Y) (hIx : ∀ c k X Y, Ix c k X → Foot (· = D + 1) X Y → Ix c k Y) (W W3 : World) (hl : LoopAt D r W) (e : Exit) (a3 : Act)
    (h : ownPostN D g I Ix k (W.putObj (D + 1) (.loop { r with state := .busy })) e a3 W3) :
    roundPost P (D + 1) (fun e' V' => (e' = .returned (.bool true) ∧ (I g (k + 1) V' ∧ LoopAt D r V' ∧ D + 2 ≤ g) ∧ V'.heap[g]? = W.heap[g]?) ∨ (e' = .returned (.bool false) ∧ ∃ c, Ix c k V' ∧ LoopAt D { r with state := .done, pending := some c } V')) e a3 W3 := by
  have go : ∀ jump, LoopAt D { r with state := .busy } W3 → (Instr.endRound (D + 1) jump).run P W3 = .ok (.bool jump.isNone) (W3.putObj (D + 1) (.loop { r with state := if jump.isNone then .ready else .done, pending := jump })) := fun jump h3 => run_endRound (r := { r with state := .busy }) jump h3.row
  have l2 := hl.put { r with state := .busy }
  have leave : ∀ c, KeepsFrom D (W.putObj (D + 1) (.loop { r with state := .busy })) W3 → Ix c k W3 → ∃ v w4, (Instr.endRound (D + 1) (some c)).run P W3 = .ok v w4 ∧
      ((Ending.returned v = .returned (.bool true) ∧ (I g (k + 1) w4 ∧ LoopAt D r w4 ∧ D + 2 ≤ g) ∧ w4.heap[g]? = W.heap[g]?) ∨ (Ending.returned v = .returned (.bool false) ∧ ∃ c, Ix c k w4 ∧ LoopAt D { r with state := .done, pending := some c } w4)) := fun c hk hx =>
    ⟨_, _, go (some c) (l2.kept hk), .inr ⟨rfl, c, hIx c _ _ _ hx (foot_put _ _ _), (l2.kept hk).put _⟩⟩
  cases e with
  | normal =>
    obtain ⟨hk, hs, hi⟩ := h
    refine ⟨_, _, go none (l2.kept hk), .inl ⟨rfl, ⟨hI _ _ _ _ hi (foot_put _ _ _), ?_, hg⟩, ?_⟩⟩
    · have h4 := (l2.kept hk).put { r with state := .ready, pending := none }
      have hr : { r with state := LoopState.ready, pending := none } = r := by
        cases r
        simp_all
      rw [hr] at h4
      exact (by simpa [hr] using h4)
    · exact ((World.putObj_heap_other (by omega)).trans hs).trans (World.putObj_heap_other (by omega))
  | ret => exact leave _ h.1 h.2
  | exit id => exact leave _ h.1 h.2
  | goto t => exact leave _ h.1 h.2
  | panic ch => exact h.elim
  | outgrown => exact h.elim

/-- the statement 'for .. := range x.f', over an iterator that keeps a block of its own -/
theorem wpIn_rangeOwn {g : Operand} {ps : Array Tmp} {assign body : Code} {Q : Exit → Act → World → Prop} {a : Act} {w : World} (hro : F.round = none) (h1 : 1 ≤ n) {gf : Nat} {ra : Array Value}
    (hg : a.eval g = .func (.func gf) ra #[]) (hFg : F.fn gf) (eg : ∀ args w, (callFunc gf args).run P w = .ok (.enter gf args) w) {encs : Nat → Array Value} {N : Nat}
    (hseq : SeqOwn F (n - 1) P gf ra encs N w) (hps : ∀ x, (encs x).size = ps.size)
    (I : Nat → Nat → World → Prop) (Ix : Code → Nat → World → Prop) (hI : ∀ g b k X Y, I g k X → (b = g ∨ b = w.heap.size + 1) → Foot (· = b) X Y → I g k Y) (hIx : ∀ c k X Y, Ix c k X → (Foot (· = w.heap.size + 1) X Y ∨ Below X.heap.size X Y) → Ix c k Y)
    (hIg : ∀ g k X, I g k X → g < X.heap.size)
    (h0 : ∀ g X, w.heap.size + 2 ≤ g → g < X.heap.size → Below w.heap.size w X → I g 0 X) (a₁ : Nat → Nat → Act)
    (Bx : Nat → Nat → World → Prop) (hBx : ∀ k y X Y, Bx k y X → Foot (· = w.heap.size + 1) X Y → Bx k y Y)
    (hassign : ∀ (l : Nat) (x : Nat) (W : World) (K : Act → World → Prop), x < N → w.heap.size + 2 ≤ W.heap.size → (∀ y W', Bx x y W' → Below W.heap.size W W' → K (a₁ x y) W') →
      assign.wpIn (F.inRound l) (n - 1 - 1) P (Exit.then K (fun _ _ _ => False)) { tmps := (ps.zip (encs x)).foldl (fun t (p, v) => t.setIfInBounds p v) a.tmps, defers := [] } W)
    (hbody : ∀ (l g k y : Nat) (W : World), k < N → w.heap.size + 2 ≤ g → Bx k y W → I g k W → body.wpIn (F.inRound l) (n - 1 - 1) P (ownPostN w.heap.size g I Ix k W) (a₁ k y) W)
    (hdone : ∀ (D : Nat) (W : World), w.heap.size ≤ D → (N = 0 ∧ Below w.heap.size w W ∨ ∃ g, I g N W) → W.heap[D]? = some (.deferred (some [])) → Q .normal { a with defers := { target := .collected D, args := #[] } :: a.defers } W)
    (hstop : ∀ (D : Nat) (c : Code) (k : Nat) (W : World), w.heap.size ≤ D → k < N → Ix c k W → W.heap[D]? = some (.deferred (some [])) → c.wpIn F n P Q { a with defers := { target := .collected D, args := #[] } :: a.defers } W) :
    (Code.rangeFunc g ps assign body).wpIn F n P Q a w := by
  refine wpIn_rangeFunc fun fn hfn => ?_
  rw [hro]
  obtain ⟨V, hV⟩ : ∃ V, (w.alloc (.deferred (some []))).alloc (.loop (recOf fn a.tmps ps assign body w.heap.size)) = V := ⟨_, rfl⟩
  have hsz : V.heap.size = w.heap.size + 2 := by rw [← hV]; simp
  have hbV : Below w.heap.size w V := by rw [← hV]; exact ((Below.refl _ _).alloc (Nat.le_refl _) _).alloc (by simp) _
  have hLV : LoopAt w.heap.size (recOf fn a.tmps ps assign body w.heap.size) V := by
    rw [← hV]
    have e := World.alloc_heap_new (w.alloc (.deferred (some []))) (.loop (recOf fn a.tmps ps assign body w.heap.size))
    rw [World.size_alloc] at e
    exact ⟨e, (Below.heap_alloc _ _ _ (by simp)).trans (World.alloc_heap_new w _)⟩
  refine ⟨w.heap.size + 1, [{ target := .collected w.heap.size, args := #[] }], V, { target := .fn (.func gf) #[], args := ra ++ #[.func (.yield (w.heap.size + 1)) #[] #[]] }, V, gf, ra ++ #[.func (.yield (w.heap.size + 1)) #[] #[]], V, ?_, ?_, ?_, ?_, fun _ => h1, ?_⟩
  · rw [← hV]
    exact run_enterLoop_outer _ _ _ _ _
  · simp only [resolve, hg]
    simp [go_sem]
  · intro f' hf'
    simp [Target.leads] at hf'
    subst hf'
    exact hFg
  · simp only [invoke, go_sem, eg]
    simp
  refine (hseq (w.heap.size + 1) (fun g k W => I g k W ∧ LoopAt w.heap.size (recOf fn a.tmps ps assign body w.heap.size) W ∧ w.heap.size + 2 ≤ g) (fun k W => ∃ c, Ix c k W ∧ LoopAt w.heap.size { recOf fn a.tmps ps assign body w.heap.size with state := .done, pending := some c } W) V hbV ?_ ?_ ?_ ?_).mono ?_
  · rintro g k X Y ⟨hi, hl, hg⟩ hb
    exact ⟨hI _ _ _ _ _ hi (.inl rfl) hb, hl.foot hb hg, hg⟩
  · rintro k X Y ⟨c, hi, hl⟩ hb
    exact ⟨c, hIx c _ _ _ hi (.inr hb), hl.below hb (by have := hl.lt; omega)⟩
  · rintro g k W hk ⟨hi, hl, hg⟩
    have hy := run_yield (P := P) (args := encs k) hl.row (hps k)
    refine ⟨fn, _, assign, body, hy, roundIn_of_wpIn hfn ?_⟩
    refine hassign _ k W _ hk hl.lt (fun y W1 hy1 hB1 => ?_)
    have hi1 := hI _ _ _ _ _ hi (.inl rfl) (Foot.of_below hB1)
    have hl1 := hl.below hB1 hl.lt
    refine ⟨_, run_beginRound hl1.row rfl, ?_⟩
    refine wpIn_mono (hbody _ g k y _ hk hg (hBx _ _ _ _ hy1 (foot_put _ _ _)) (hI _ _ _ _ _ hi1 (.inr rfl) (foot_put _ _ _))) fun e a3 W3 h3 => ?_
    have h4 := round_own (P := P) (recOf fn a.tmps ps assign body w.heap.size) rfl rfl hg (fun g k X Y h hf => hI g _ k X Y h (.inr rfl) hf) (fun c k X Y h hf => hIx c k X Y h (.inl hf)) W1 W3 hl1 e a3 h3
    rw [hB1.block g (hIg _ _ _ hi)] at h4
    exact h4
  · intro g X h1 h2 h3
    rw [hsz] at h1 h3
    refine ⟨h0 g X h1 h2 (hbV.trans (h3.mono (by omega))), ?_, h1⟩
    exact ⟨(h3.block _ (by omega)).trans hLV.row, (h3.block _ (by omega)).trans hLV.calls⟩
  · rintro e W2 ⟨⟨v, rfl⟩, ⟨hN, hb⟩ | ⟨g, hi, hl, hg⟩ | ⟨k, hk, c, hi, hl⟩⟩
    · rw [hsz] at hb
      have hl : LoopAt w.heap.size (recOf fn a.tmps ps assign body w.heap.size) W2 := ⟨(hb.block _ (by omega)).trans hLV.row, (hb.block _ (by omega)).trans hLV.calls⟩
      refine ⟨none, _, run_endLoop hl.row (by simp), ?_⟩
      exact hdone _ _ (Nat.le_refl _) (.inl ⟨hN, (hbV.trans (hb.mono (by omega))).trans (below_put (by omega) _ _)⟩) ((World.putObj_heap_other (by omega)).trans hl.calls)
    · refine ⟨none, _, run_endLoop hl.row (by simp), ?_⟩
      exact hdone _ _ (Nat.le_refl _) (.inr ⟨g, hI _ _ _ _ _ hi (.inr rfl) (foot_put _ _ _)⟩) ((World.putObj_heap_other (by omega)).trans hl.calls)
    · refine ⟨some c, _, run_endLoop hl.row (by simp), ?_⟩
      exact hstop _ c k _ (Nat.le_refl _) hk (hIx c _ _ _ hi (.inl (foot_put _ _ _))) ((World.putObj_heap_other (by omega)).trans hl.calls)
end
end Go.Proofs.Ytbnfjppidmiheaa
