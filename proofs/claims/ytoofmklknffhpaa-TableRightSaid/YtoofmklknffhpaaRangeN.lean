/-
  A range over a closure that asks for rounds 0, 1, .. N - 1, in order, and may lay blocks of its own: the loop's variable may be a box, the rounds may write what was laid before the loop. Conditions: those that each theorem names.
-/
import Derived.Test.YtoofmklknffhpaaRange
namespace Go.Proofs.Ytoofmklknffhpaa
open Go.RowKit Go.Shelf

/-- how a round's body ends: it goes on, or it leaves -/
def ownPostK (D : Nat) (Kp : World → World → Prop) (I : Nat → World → Prop) (Ix : Code → Nat → World → Prop) (k : Nat) (W : World) : Exit → Act → World → Prop
  | .normal, _, W' => KeepsFrom D W W' ∧ Kp W W' ∧ I (k + 1) W'
  | .ret, _, W' => KeepsFrom D W W' ∧ Ix .ret k W'
  | .exit id, _, W' => KeepsFrom D W W' ∧ Ix (.exit id) k W'
  | .goto t, _, W' => KeepsFrom D W W' ∧ Ix (.goto t) k W'
  | .panic _, _, _ => False
  | .outgrown, _, _ => False

/-- what an iterator does that asks for N rounds, by their numbers -/
def SeqNum (F : Fence) (n : Nat) (P : Program) (gf : Nat) (lb : Array Value) (encs : Nat → Array Value) (Kp : World → World → Prop) (N : Nat) (w : World) : Prop :=
  ∀ (l : Nat) (J Jx : Nat → World → Prop) (W : World), Below w.heap.size w W → FarFrom W.heap.size J → FarFrom W.heap.size Jx →
    (∀ k V, k < N → J k V → W.heap.size ≤ V.heap.size → YieldAt F (n - 1) P l (encs k) V fun e V' => (e = .returned (.bool true) ∧ J (k + 1) V' ∧ Kp V V' ∧ W.heap.size ≤ V'.heap.size) ∨ (e = .returned (.bool false) ∧ Jx k V')) →
    J 0 W → CallsIn F n P gf (#[.func (.yield l) #[] #[]] ++ lb) W fun e W' => (∃ v, e = .returned v) ∧ (J N W' ∨ ∃ k, k < N ∧ Jx k W')

section
variable {F : Fence} {n : Nat} {P : Program}

theorem roundPost_more {l : Nat} {R R' : Ending → World → Prop} (hR : ∀ e w, R e w → R' e w) {e : Exit} {a : Act} {w : World} (h : roundPost P l R e a w) : roundPost P l R' e a w := by
  cases e with
  | normal => obtain ⟨v, w', h1, h2⟩ := h; exact ⟨v, w', h1, hR _ _ h2⟩
  | ret => obtain ⟨v, w', h1, h2⟩ := h; exact ⟨v, w', h1, hR _ _ h2⟩
  | exit id => obtain ⟨v, w', h1, h2⟩ := h; exact ⟨v, w', h1, hR _ _ h2⟩
  | goto t => obtain ⟨v, w', h1, h2⟩ := h; exact ⟨v, w', h1, hR _ _ h2⟩
  | panic ch => exact h.elim
  | outgrown => exact h.elim

theorem round_num {D k : Nat} {Kp : World → World → Prop} {I : Nat → World → Prop} {Ix : Code → Nat → World → Prop} (r : Loop) (hps : r.pending = none) (hst : r.state = .ready)
    (hI : FarFrom D I) (hIx : ∀ c, FarFrom D (Ix c)) (hKt : ∀ {A B C : World}, Kp A B → Kp B C → Kp A C) (hKb : ∀ X Y : World, D ≤ X.heap.size → Below D X Y → Kp X Y) (W W3 : World) (hl : LoopAt D r W) (e : Exit) (a3 : Act)
    (h : ownPostK D Kp I Ix k (W.putObj (D + 1) (.loop { r with state := .busy })) e a3 W3) :
    roundPost P (D + 1) (fun e' V' => (e' = .returned (.bool true) ∧ (I (k + 1) V' ∧ LoopAt D r V') ∧ Kp W V') ∨ (e' = .returned (.bool false) ∧ ∃ c, Ix c k V' ∧ LoopAt D { r with state := .done, pending := some c } V')) e a3 W3 := by
  have go : ∀ jump, LoopAt D { r with state := .busy } W3 → (Instr.endRound (D + 1) jump).run P W3 = .ok (.bool jump.isNone) (W3.putObj (D + 1) (.loop { r with state := if jump.isNone then .ready else .done, pending := jump })) := fun jump h3 => run_endRound (r := { r with state := .busy }) jump h3.row
  have l2 := hl.put { r with state := .busy }
  have leave : ∀ c, KeepsFrom D (W.putObj (D + 1) (.loop { r with state := .busy })) W3 → Ix c k W3 → ∃ v w4, (Instr.endRound (D + 1) (some c)).run P W3 = .ok v w4 ∧
      ((Ending.returned v = .returned (.bool true) ∧ (I (k + 1) w4 ∧ LoopAt D r w4) ∧ Kp W w4) ∨ (Ending.returned v = .returned (.bool false) ∧ ∃ c, Ix c k w4 ∧ LoopAt D { r with state := .done, pending := some c } w4)) := fun c hk hx =>
    ⟨_, _, go (some c) (l2.kept hk), .inr ⟨rfl, c, (hIx c).put (by omega) hx _, (l2.kept hk).put _⟩⟩
  cases e with
  | normal =>
    obtain ⟨hk, hs, hi⟩ := h
    have hlt := hl.lt
    have hlt3 := (l2.kept hk).lt
    refine ⟨_, _, go none (l2.kept hk), .inl ⟨rfl, ⟨hI.put (by omega) hi _, ?_⟩, ?_⟩⟩
    · have h4 := (l2.kept hk).put { r with state := .ready, pending := none }
      have hr : { r with state := LoopState.ready, pending := none } = r := by
        cases r
        simp_all
      rw [hr] at h4
      exact (by simpa [hr] using h4)
    · exact hKt (hKt (hKb _ _ (by omega) (below_put (by omega) _ _)) hs) (hKb _ _ (by omega) (below_put (by omega) _ _))
  | ret => exact leave _ h.1 h.2
  | exit id => exact leave _ h.1 h.2
  | goto t => exact leave _ h.1 h.2
  | panic ch => exact h.elim
  | outgrown => exact h.elim

/-- the statement 'for .. := range g' -/
theorem wpIn_rangeNum {g : Operand} {ps : Array Tmp} {assign body : Code} {Q : Exit → Act → World → Prop} {a : Act} {w : World} (hro : F.round = none) (h1 : 1 ≤ n) {gf : Nat} {lb : Array Value}
    (hg : a.eval g = .func (.func gf) #[] lb) (hFg : F.fn gf) (eg : ∀ args w, (callFunc gf args).run P w = .ok (.enter gf args) w) {encs : Nat → Array Value} {Kp : World → World → Prop} {N : Nat}
    (hseq : SeqNum F (n - 1) P gf lb encs Kp N w) (hps : ∀ x, (encs x).size = ps.size) (hKt : ∀ {A B C : World}, Kp A B → Kp B C → Kp A C) (hKb : ∀ X Y : World, w.heap.size ≤ X.heap.size → Below w.heap.size X Y → Kp X Y)
    (I : Nat → World → Prop) (Ix : Code → Nat → World → Prop) (hI : FarFrom w.heap.size I) (hIx : ∀ c, FarFrom w.heap.size (Ix c)) (h0 : I 0 w) (a₁ : Nat → Nat → Act)
    (Bx : Nat → Nat → World → Prop) (hBx : ∀ k y X Y, Bx k y X → Foot (· = w.heap.size + 1) X Y → Bx k y Y)
    (hassign : ∀ (l : Nat) (x : Nat) (W : World) (K : Act → World → Prop), x < N → w.heap.size + 2 ≤ W.heap.size → (∀ y W', Bx x y W' → Below W.heap.size W W' → K (a₁ x y) W') →
      assign.wpIn (F.inRound l) (n - 1 - 1) P (Exit.then K (fun _ _ _ => False)) { tmps := (ps.zip (encs x)).foldl (fun t (p, v) => t.setIfInBounds p v) a.tmps, defers := [] } W)
    (hbody : ∀ (l k y : Nat) (W : World), k < N → w.heap.size + 2 ≤ W.heap.size → Bx k y W → I k W → body.wpIn (F.inRound l) (n - 1 - 1) P (ownPostK w.heap.size Kp I Ix k W) (a₁ k y) W)
    (hdone : ∀ (D : Nat) (W : World), w.heap.size ≤ D → I N W → W.heap[D]? = some (.deferred (some [])) → Q .normal { a with defers := { target := .collected D, args := #[] } :: a.defers } W)
    (hstop : ∀ (D : Nat) (c : Code) (k : Nat) (W : World), w.heap.size ≤ D → k < N → Ix c k W → W.heap[D]? = some (.deferred (some [])) → c.wpIn F n P Q { a with defers := { target := .collected D, args := #[] } :: a.defers } W) :
    (Code.rangeFunc g ps assign body).wpIn F n P Q a w := by
  refine wpIn_rangeFunc fun fn hfn => ?_
  rw [hro]
  obtain ⟨V, hV⟩ : ∃ V, (w.alloc (.deferred (some []))).alloc (.loop (recOf fn a.tmps ps assign body w.heap.size)) = V := ⟨_, rfl⟩
  have hsz : V.heap.size = w.heap.size + 2 := by rw [← hV]; simp
  have hbV : Below w.heap.size w V := by rw [← hV]; exact ((Below.refl _ _).alloc (Nat.le_refl _) _).alloc (by simp) _
  have hLV : LoopAt w.heap.size (recOf fn a.tmps ps assign body w.heap.size) V := by
    rw [← hV]
    have e := World.alloc_heap_new (w.alloc (.deferred (some []))) (.loop (recOf fn a.tmps ps assign body w.heap.size))
    rw [World.size_alloc] at e
    exact ⟨e, (Below.heap_alloc _ _ _ (by simp)).trans (World.alloc_heap_new w _)⟩
  refine ⟨w.heap.size + 1, [{ target := .collected w.heap.size, args := #[] }], V, { target := .fn (.func gf) lb, args := #[.func (.yield (w.heap.size + 1)) #[] #[]] }, V, gf, #[.func (.yield (w.heap.size + 1)) #[] #[]] ++ lb, V, ?_, ?_, ?_, ?_, fun _ => h1, ?_⟩
  · rw [← hV]
    exact run_enterLoop_outer _ _ _ _ _
  · simp only [resolve, hg]
    simp [go_sem]
  · intro f' hf'
    simp [Target.leads] at hf'
    subst hf'
    exact hFg
  · simp only [invoke, go_sem, eg]
  refine (hseq (w.heap.size + 1) (fun k W => I k W ∧ LoopAt w.heap.size (recOf fn a.tmps ps assign body w.heap.size) W) (fun k W => ∃ c, Ix c k W ∧ LoopAt w.heap.size { recOf fn a.tmps ps assign body w.heap.size with state := .done, pending := some c } W) V hbV ?_ ?_ ?_ ⟨hI _ _ _ h0 hbV, hLV⟩).mono ?_
  · rintro s X Y ⟨hi, hl⟩ hb
    exact ⟨hI _ _ _ hi (hb.mono (by omega)), hl.below hb (by omega)⟩
  · rintro s X Y ⟨c, hi, hl⟩ hb
    exact ⟨c, hIx c _ _ _ hi (hb.mono (by omega)), hl.below hb (by omega)⟩
  · rintro k W hk ⟨hi, hl⟩ hWs
    have hy := run_yield (P := P) (args := encs k) hl.row (hps k)
    refine ⟨fn, _, assign, body, hy, roundIn_of_wpIn hfn ?_⟩
    refine hassign _ k W _ hk hl.lt (fun y W1 hy1 hB1 => ?_)
    have hlt := hl.lt
    have hB0 : Below w.heap.size W W1 := hB1.mono (by omega)
    have hi1 := hI _ _ _ hi hB0
    have hl1 := hl.below hB1 hl.lt
    have hlt1 := hl1.lt
    refine ⟨_, run_beginRound hl1.row rfl, ?_⟩
    refine wpIn_mono (hbody _ k y _ hk (by simp; omega) (hBx _ _ _ _ hy1 ⟨rfl, rfl, rfl, by simp, fun _ _ hk => World.putObj_heap_other (by omega)⟩) (hI.put (by omega) hi1 _)) fun e a3 W3 h3 => ?_
    have h4 := round_num (P := P) (Kp := Kp) (recOf fn a.tmps ps assign body w.heap.size) rfl rfl hI hIx (fun h k => hKt h k) hKb W1 W3 hl1 e a3 h3
    have hmono : ∀ (e' : Ending) (V' : World), ((e' = .returned (.bool true) ∧ (I (k + 1) V' ∧ LoopAt w.heap.size (recOf fn a.tmps ps assign body w.heap.size) V') ∧ Kp W1 V') ∨ (e' = .returned (.bool false) ∧ ∃ c, Ix c k V' ∧ LoopAt w.heap.size { recOf fn a.tmps ps assign body w.heap.size with state := .done, pending := some c } V')) →
        ((e' = .returned (.bool true) ∧ (I (k + 1) V' ∧ LoopAt w.heap.size (recOf fn a.tmps ps assign body w.heap.size) V') ∧ Kp W V' ∧ V.heap.size ≤ V'.heap.size) ∨ (e' = .returned (.bool false) ∧ ∃ c, Ix c k V' ∧ LoopAt w.heap.size { recOf fn a.tmps ps assign body w.heap.size with state := .done, pending := some c } V')) := by
      rintro e' V' (⟨h1, h2, h3⟩ | h)
      · exact .inl ⟨h1, h2, hKt (hKb _ _ (by omega) hB0) h3, by have := h2.2.lt; omega⟩
      · exact .inr h
    exact roundPost_more hmono h4
  · rintro e W2 ⟨⟨v, rfl⟩, ⟨hi, hl⟩ | ⟨k, hk, c, hi, hl⟩⟩
    · refine ⟨none, _, run_endLoop hl.row (by simp), ?_⟩
      exact hdone _ _ (Nat.le_refl _) (hI.put (by omega) hi _) ((World.putObj_heap_other (by omega)).trans hl.calls)
    · refine ⟨some c, _, run_endLoop hl.row (by simp), ?_⟩
      exact hstop _ c k _ (Nat.le_refl _) hk ((hIx c).put (by omega) hi _) ((World.putObj_heap_other (by omega)).trans hl.calls)
end
end Go.Proofs.Ytoofmklknffhpaa
