/-
  A range over a method's value whose rounds go down: the iterator reads what the rounds write, and ends when a round says so. Conditions: those that each theorem names.
-/
import Derived.Test.YtmincladghbklaaRange
namespace Go.Proofs.Ytmincladghbklaa
open Go.RowKit Go.Shelf

/-- how a round's body ends: it goes on with something less, or it leaves -/
def downPost {β : Type} (D : Nat) (I : β → World → Prop) (m : β → Nat) (Ix : Code → World → Prop) (x : β) (W : World) : Exit → Act → World → Prop
  | .normal, _, W' => KeepsFrom D W W' ∧ ∃ y, m y < m x ∧ I y W'
  | .ret, _, W' => KeepsFrom D W W' ∧ Ix .ret W'
  | .exit id, _, W' => KeepsFrom D W W' ∧ Ix (.exit id) W'
  | .goto t, _, W' => KeepsFrom D W W' ∧ Ix (.goto t) W'
  | .panic _, _, _ => False
  | .outgrown, _, _ => False

/-- what an iterator does that asks for a round over and over -/
def SeqDown {β : Type} (F : Fence) (n : Nat) (P : Program) (g : Nat) (ra : Array Value) (encs : β → Array Value) (I : β → World → Prop) (m : β → Nat) (w : World) : Prop :=
  ∀ (l : Nat) (J : β → World → Prop) (Jx : World → Prop) (W : World), Below w.heap.size w W → (∀ x X Y, J x X → Below W.heap.size X Y → J x Y) → (∀ x V, J x V → I x V) →
    (∀ x V, J x V → YieldAt F (n - 1) P l (encs x) V fun e V' => (e = .returned (.bool true) ∧ ∃ y, m y < m x ∧ J y V') ∨ (e = .returned (.bool false) ∧ Jx V')) →
    ∀ x, J x W → CallsIn F n P g (ra ++ #[.func (.yield l) #[] #[]]) W fun e W' => (∃ v, e = .returned v) ∧ Jx W'

section
variable {F : Fence} {n : Nat} {P : Program} {β : Type}

theorem round_down {D : Nat} {I : β → World → Prop} {m : β → Nat} {Ix : Code → World → Prop} (r : Loop) (hps : r.pending = none) (hst : r.state = .ready)
    (hI : ∀ x X Y, I x X → Below D X Y → I x Y) (hIx : ∀ c X Y, Ix c X → Below D X Y → Ix c Y) (x : β) (W W3 : World) (hl : LoopAt D r W) (e : Exit) (a3 : Act)
    (h : downPost D I m Ix x (W.putObj (D + 1) (.loop { r with state := .busy })) e a3 W3) :
    roundPost P (D + 1) (fun e' V' => (e' = .returned (.bool true) ∧ ∃ y, m y < m x ∧ (I y V' ∧ LoopAt D r V')) ∨ (e' = .returned (.bool false) ∧ ∃ c, Ix c V' ∧ LoopAt D { r with state := .done, pending := some c } V')) e a3 W3 := by
  have go : ∀ jump, LoopAt D { r with state := .busy } W3 → (Instr.endRound (D + 1) jump).run P W3 = .ok (.bool jump.isNone) (W3.putObj (D + 1) (.loop { r with state := if jump.isNone then .ready else .done, pending := jump })) := fun jump h3 => run_endRound (r := { r with state := .busy }) jump h3.row
  have l2 := hl.put { r with state := .busy }
  have leave : ∀ c, KeepsFrom D (W.putObj (D + 1) (.loop { r with state := .busy })) W3 → Ix c W3 → ∃ v w4, (Instr.endRound (D + 1) (some c)).run P W3 = .ok v w4 ∧
      ((Ending.returned v = .returned (.bool true) ∧ ∃ y, m y < m x ∧ (I y w4 ∧ LoopAt D r w4)) ∨ (Ending.returned v = .returned (.bool false) ∧ ∃ c, Ix c w4 ∧ LoopAt D { r with state := .done, pending := some c } w4)) := fun c hk hx =>
    ⟨_, _, go (some c) (l2.kept hk), .inr ⟨rfl, c, hIx c _ _ hx (below_put (by omega) _ _), (l2.kept hk).put _⟩⟩
  cases e with
  | normal =>
    obtain ⟨hk, y, hy, hi⟩ := h
    refine ⟨_, _, go none (l2.kept hk), .inl ⟨rfl, y, hy, hI y _ _ hi (below_put (by omega) _ _), ?_⟩⟩
    have h4 := (l2.kept hk).put { r with state := .ready, pending := none }
    have hr : { r with state := LoopState.ready, pending := none } = r := by
      cases r
      simp_all
    rw [hr] at h4
    exact (by simpa [hr] using h4)
  | ret => exact leave _ h.1 h.2
  | exit id => exact leave _ h.1 h.2
  | goto t => exact leave _ h.1 h.2
  | panic ch => exact h.elim
  | outgrown => exact h.elim

/-- the statement 'for .. := range x.f', over an iterator that asks for a round over and over -/
theorem wpIn_rangeDown {g : Operand} {ps : Array Tmp} {assign body : Code} {Q : Exit → Act → World → Prop} {a : Act} {w : World} (hro : F.round = none) (h1 : 1 ≤ n) {gf : Nat} {ra : Array Value}
    (hg : a.eval g = .func (.func gf) ra #[]) (hFg : F.fn gf) (eg : ∀ args w, (callFunc gf args).run P w = .ok (.enter gf args) w) {encs : β → Array Value} {I : β → World → Prop} {m : β → Nat}
    (hseq : SeqDown F (n - 1) P gf ra encs I m w) (hps : ∀ x, (encs x).size = ps.size)
    (Ix : Code → World → Prop) (hI : ∀ x X Y, I x X → Below w.heap.size X Y → I x Y) (hIx : ∀ c X Y, Ix c X → Below w.heap.size X Y → Ix c Y) (x0 : β) (h0 : I x0 w) (a₁ : β → Act)
    (hassign : ∀ (l : Nat) (x : β) (W : World) (K : Act → World → Prop), K (a₁ x) W →
      assign.wpIn (F.inRound l) (n - 1 - 1) P (Exit.then K (fun _ _ _ => False)) { tmps := (ps.zip (encs x)).foldl (fun t (p, v) => t.setIfInBounds p v) a.tmps, defers := [] } W)
    (hbody : ∀ (l : Nat) (x : β) (W : World), I x W → body.wpIn (F.inRound l) (n - 1 - 1) P (downPost w.heap.size I m Ix x W) (a₁ x) W)
    (hstop : ∀ (D : Nat) (c : Code) (W : World), w.heap.size ≤ D → Ix c W → W.heap[D]? = some (.deferred (some [])) → c.wpIn F n P Q { a with defers := { target := .collected D, args := #[] } :: a.defers } W) :
    (Code.rangeFunc g ps assign body).wpIn F n P Q a w := by
  refine wpIn_rangeFunc fun fn hfn => ?_
  rw [hro]
  obtain ⟨V, hV⟩ : ∃ V, (w.alloc (.deferred (some []))).alloc (.loop (recOf fn a.tmps ps assign body w.heap.size)) = V := ⟨_, rfl⟩
  have hsz : V.heap.size = w.heap.size + 2 := by rw [← hV]; simp
  have hbV : Below w.heap.size w V := by rw [← hV]; exact ((Below.refl _ _).alloc (Nat.le_refl _) _).alloc (by simp) _
  have hLV : LoopAt w.heap.size (recOf fn a.tmps ps assign body w.heap.size) V := by
    rw [← hV]
    have e := World.alloc_heap_new (w.alloc (.deferred (some []))) (.loop (recOf fn a.tmps ps assign body w.heap.size))
    rw [World.size_alloc] at e
    exact ⟨e, (Below.heap_alloc _ _ _ (by simp)).trans (World.alloc_heap_new w _)⟩
  refine ⟨w.heap.size + 1, [{ target := .collected w.heap.size, args := #[] }], V, { target := .fn (.func gf) #[], args := ra ++ #[.func (.yield (w.heap.size + 1)) #[] #[]] }, V, gf, ra ++ #[.func (.yield (w.heap.size + 1)) #[] #[]], V, ?_, ?_, ?_, ?_, fun _ => h1, ?_⟩
  · rw [← hV]
    exact run_enterLoop_outer _ _ _ _ _
  · simp only [resolve, hg]
    simp [go_sem]
  · intro f' hf'
    simp [Target.leads] at hf'
    subst hf'
    exact hFg
  · simp only [invoke, go_sem, eg]
    simp
  refine (hseq (w.heap.size + 1) (fun x W => I x W ∧ LoopAt w.heap.size (recOf fn a.tmps ps assign body w.heap.size) W) (fun W => ∃ c, Ix c W ∧ LoopAt w.heap.size { recOf fn a.tmps ps assign body w.heap.size with state := .done, pending := some c } W) V hbV ?_ (fun _ _ h => h.1) ?_ x0 ⟨hI _ _ _ h0 hbV, hLV⟩).mono ?_
  · rintro s X Y ⟨hi, hl⟩ hb
    exact ⟨hI _ _ _ hi (hb.mono (by omega)), hl.below hb (by omega)⟩
  · rintro x W ⟨hi, hl⟩
    have hy := run_yield (P := P) (args := encs x) hl.row (hps x)
    refine ⟨fn, _, assign, body, hy, roundIn_of_wpIn hfn ?_⟩
    refine hassign _ x W _ ⟨_, run_beginRound hl.row rfl, ?_⟩
    refine wpIn_mono (hbody _ x _ (hI _ _ _ hi (below_put (by omega) _ _))) fun e a3 W3 h3 => ?_
    exact round_down (recOf fn a.tmps ps assign body w.heap.size) rfl rfl hI hIx x W W3 hl e a3 h3
  · rintro e W2 ⟨⟨v, rfl⟩, c, hi, hl⟩
    refine ⟨some c, _, run_endLoop hl.row (by simp), ?_⟩
    exact hstop _ c _ (Nat.le_refl _) (hIx c _ _ hi (below_put (by omega) _ _)) ((World.putObj_heap_other (by omega)).trans hl.calls)
end
end Go.Proofs.Ytmincladghbklaa
