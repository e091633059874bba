/-
  A range over a function whose iterator writes variables of its own between two rounds: the caller's invariant speaks only of what lay there when the loop began. Conditions: those that each theorem names.
-/
import Derived.Test.YtoofmklknffhpaaIter
import Derived.Test.YtoofmklknffhpaaOwn
namespace Go.Proofs.Ytoofmklknffhpaa
open Go.RowKit Go.Shelf

/-- an invariant that speaks of what lies below B -/
def FarFrom {β : Type} (B : Nat) (J : β → World → Prop) : Prop := ∀ s X Y, J s X → Below B X Y → J s Y
theorem FarFrom.mono {β : Type} {B B' : Nat} {J : β → World → Prop} (h : FarFrom B J) (hB : B ≤ B') : FarFrom B' J := fun s X Y hJ hb => h s X Y hJ (hb.mono hB)
theorem below_put {B l : Nat} (hl : B ≤ l) (X : World) (o : Obj) : Below B X (X.putObj l o) := ⟨rfl, rfl, rfl, by simp, fun _ hk => World.putObj_heap_other (by omega)⟩
theorem FarFrom.put {β : Type} {B l : Nat} {J : β → World → Prop} (h : FarFrom B J) (hl : B ≤ l) {s : β} {X : World} (hs : J s X) (o : Obj) : J s (X.putObj l o) := h s X _ hs (below_put hl X o)

/-- what an iterator gives that may write what it has laid itself -/
def SeqFar {α : Type} (F : Fence) (n : Nat) (P : Program) (g : Nat) (lb : Array Value) (encs : α → Array Value) (Kp : World → World → Prop) (S Sp : List α → Prop) (N : Nat) (w : World) : Prop :=
  ∀ (l : Nat) (J Jx : List α → World → Prop) (W : World), Below w.heap.size w W → FarFrom W.heap.size J → FarFrom W.heap.size Jx →
    (∀ pre x V, J pre V → pre.length < N → YieldAt F (n - 1) P l (encs x) V fun e V' => (e = .returned (.bool true) ∧ J (pre ++ [x]) V' ∧ Kp V V') ∨ (e = .returned (.bool false) ∧ Jx (pre ++ [x]) V')) →
    J [] W → CallsIn F n P g (#[.func (.yield l) #[] #[]] ++ lb) W fun e W' => (∃ v, e = .returned v) ∧ ((∃ xs, S xs ∧ J xs W') ∨ (∃ pre, Sp pre ∧ Jx pre W'))

/-- the loop's record and the block of its deferred calls -/
structure LoopAt (D : Nat) (r : Loop) (W : World) : Prop where
  row : W.heap[D + 1]? = some (.loop r)
  calls : W.heap[D]? = some (.deferred (some []))
theorem LoopAt.lt {D : Nat} {r : Loop} {W : World} (h : LoopAt D r W) : D + 1 < W.heap.size := (Array.getElem?_eq_some_iff.1 h.row).1
theorem LoopAt.below {D B : Nat} {r : Loop} {X Y : World} (h : LoopAt D r X) (hb : Below B X Y) (hB : D + 2 ≤ B) : LoopAt D r Y := ⟨(hb.block _ (by omega)).trans h.row, (hb.block _ (by omega)).trans h.calls⟩
theorem LoopAt.put {D : Nat} {r : Loop} {X : World} (h : LoopAt D r X) (r' : Loop) : LoopAt D r' (X.putObj (D + 1) (.loop r')) := ⟨World.putObj_heap_same h.lt, (World.putObj_heap_other (by omega)).trans h.calls⟩
theorem LoopAt.kept {D : Nat} {r : Loop} {X Y : World} (h : LoopAt D r X) (hk : KeepsFrom D X Y) : LoopAt D r Y := ⟨hk.same _ _ (by omega) h.row rfl, hk.same _ _ (Nat.le_refl _) h.calls rfl⟩

section
variable {F : Fence} {n : Nat} {P : Program} {α : Type}

/-- how a round ends, its body walked -/
theorem round_far {D : Nat} {Kp : World → World → Prop} {I : List α → World → Prop} {Ix : Code → List α → World → Prop} (r : Loop) (hps : r.pending = none) (hst : r.state = .ready)
    (hKt : ∀ {A B C : World}, Kp A B → Kp B C → Kp A C) (hKb : ∀ (W : World) (o o' : Obj), W.heap[D + 1]? = some o → o.isCells = false → o.isWalk = false → Kp W (W.putObj (D + 1) o'))
    (hI : FarFrom D I) (hIx : ∀ c, FarFrom D (Ix c)) (xs : List α) (W W3 : World) (hl : LoopAt D r W) (e : Exit) (a3 : Act)
    (h : ownPostG D Kp I Ix xs (W.putObj (D + 1) (.loop { r with state := .busy })) e a3 W3) :
    roundPost P (D + 1) (fun e' V' => (e' = .returned (.bool true) ∧ (I xs V' ∧ LoopAt D r V') ∧ Kp W V') ∨ (e' = .returned (.bool false) ∧ ∃ c, Ix c xs V' ∧ LoopAt D { r with state := .done, pending := some c } V')) e a3 W3 := by
  have go : ∀ jump, LoopAt D { r with state := .busy } W3 → (Instr.endRound (D + 1) jump).run P W3 = .ok (.bool jump.isNone) (W3.putObj (D + 1) (.loop { r with state := if jump.isNone then .ready else .done, pending := jump })) := fun jump h3 => run_endRound (r := { r with state := .busy }) jump h3.row
  have l2 := hl.put { r with state := .busy }
  have leave : ∀ c, KeepsFrom D (W.putObj (D + 1) (.loop { r with state := .busy })) W3 → Ix c xs W3 → ∃ v w4, (Instr.endRound (D + 1) (some c)).run P W3 = .ok v w4 ∧
      ((Ending.returned v = .returned (.bool true) ∧ (I xs w4 ∧ LoopAt D r w4) ∧ Kp W w4) ∨ (Ending.returned v = .returned (.bool false) ∧ ∃ c, Ix c xs w4 ∧ LoopAt D { r with state := .done, pending := some c } w4)) := fun c hk hx =>
    ⟨_, _, go (some c) (l2.kept hk), .inr ⟨rfl, c, (hIx c).put (by omega) hx _, (l2.kept hk).put _⟩⟩
  cases e with
  | normal =>
    obtain ⟨hk, hkp, hi⟩ := h
    refine ⟨_, _, go none (l2.kept hk), .inl ⟨rfl, ⟨hI.put (by omega) hi _, ?_⟩, hKt (hKt (hKb _ _ _ hl.row rfl rfl) hkp) (hKb _ _ _ (l2.kept hk).row rfl rfl)⟩⟩
    have h4 := (l2.kept hk).put { r with state := .ready, pending := none }
    have hr : { r with state := LoopState.ready, pending := none } = r := by
      cases r
      simp_all
    rw [hr] at h4
    exact (by simpa [hr] using h4)
  | ret => exact leave _ h.1 h.2
  | exit id => exact leave _ h.1 h.2
  | goto t => exact leave _ h.1 h.2
  | panic ch => exact h.elim
  | outgrown => exact h.elim

/-- a loop's record at its beginning -/
abbrev recOf (fn : FuncId) (tmps : Array Value) (ps : Array Tmp) (assign body : Code) (D : Nat) : Loop := { state := .ready, pending := none, fn := fn, tmps := tmps, params := ps, assign := assign, body := body, defers := D }

/-- the statement 'for .. := range g', over an iterator that may write what it has laid -/
theorem wpIn_rangeFar {g : Operand} {ps : Array Tmp} {assign body : Code} {Q : Exit → Act → World → Prop} {a : Act} {w : World} (hro : F.round = none) (h1 : 1 ≤ n) {gf : Nat} {lb : Array Value}
    (hg : a.eval g = .func (.func gf) #[] lb) (hFg : F.fn gf) (eg : ∀ args w, (callFunc gf args).run P w = .ok (.enter gf args) w) {encs : α → Array Value} {Kp : World → World → Prop} {S Sp : List α → Prop} {N : Nat}
    (hseq : SeqFar F (n - 1) P gf lb encs Kp S Sp N w) (hKt : ∀ {A B C : World}, Kp A B → Kp B C → Kp A C)
    (hKb : ∀ (W : World) (l : Nat) (o o' : Obj), w.heap.size ≤ l → W.heap[l]? = some o → o.isCells = false → o.isWalk = false → Kp W (W.putObj l o')) (hps : ∀ x, (encs x).size = ps.size)
    (I : List α → World → Prop) (Ix : Code → List α → World → Prop) (hI : FarFrom w.heap.size I) (hIx : ∀ c, FarFrom w.heap.size (Ix c)) (h0 : I [] w) (a₁ : α → Act)
    (hassign : ∀ (l : Nat) (x : α) (W : World) (K : Act → World → Prop), K (a₁ x) W →
      assign.wpIn (F.inRound l) (n - 1 - 1) P (Exit.then K (fun _ _ _ => False)) { tmps := (ps.zip (encs x)).foldl (fun t (p, v) => t.setIfInBounds p v) a.tmps, defers := [] } W)
    (hbody : ∀ (l : Nat) (pre : List α) (x : α) (W : World), I pre W → pre.length < N → body.wpIn (F.inRound l) (n - 1 - 1) P (ownPostG w.heap.size Kp I Ix (pre ++ [x]) W) (a₁ x) W)
    (hdone : ∀ (D : Nat) (xs : List α) (W : World), w.heap.size ≤ D → S xs → I xs W → W.heap[D]? = some (.deferred (some [])) → Q .normal { a with defers := { target := .collected D, args := #[] } :: a.defers } W)
    (hstop : ∀ (D : Nat) (c : Code) (pre : List α) (W : World), w.heap.size ≤ D → Sp pre → Ix c pre W → W.heap[D]? = some (.deferred (some [])) → c.wpIn F n P Q { a with defers := { target := .collected D, args := #[] } :: a.defers } W) :
    (Code.rangeFunc g ps assign body).wpIn F n P Q a w := by
  refine wpIn_rangeFunc fun fn hfn => ?_
  rw [hro]
  obtain ⟨V, hV⟩ : ∃ V, (w.alloc (.deferred (some []))).alloc (.loop (recOf fn a.tmps ps assign body w.heap.size)) = V := ⟨_, rfl⟩
  have hsz : V.heap.size = w.heap.size + 2 := by rw [← hV]; simp
  have hbV : Below w.heap.size w V := by rw [← hV]; exact ((Below.refl _ _).alloc (Nat.le_refl _) _).alloc (by simp) _
  have hLV : LoopAt w.heap.size (recOf fn a.tmps ps assign body w.heap.size) V := by
    rw [← hV]
    have e := World.alloc_heap_new (w.alloc (.deferred (some []))) (.loop (recOf fn a.tmps ps assign body w.heap.size))
    rw [World.size_alloc] at e
    exact ⟨e, (Below.heap_alloc _ _ _ (by simp)).trans (World.alloc_heap_new w _)⟩
  refine ⟨w.heap.size + 1, [{ target := .collected w.heap.size, args := #[] }], V, { target := .fn (.func gf) lb, args := #[.func (.yield (w.heap.size + 1)) #[] #[]] }, V, gf, #[.func (.yield (w.heap.size + 1)) #[] #[]] ++ lb, V, ?_, ?_, ?_, ?_, fun _ => h1, ?_⟩
  · rw [← hV]
    exact run_enterLoop_outer _ _ _ _ _
  · simp only [resolve, hg]
    simp [go_sem]
  · intro f' hf'
    simp [Target.leads] at hf'
    subst hf'
    exact hFg
  · simp only [invoke, go_sem, eg]
  refine (hseq (w.heap.size + 1) (fun pre W => I pre W ∧ LoopAt w.heap.size (recOf fn a.tmps ps assign body w.heap.size) W) (fun pre W => ∃ c, Ix c pre W ∧ LoopAt w.heap.size { recOf fn a.tmps ps assign body w.heap.size with state := .done, pending := some c } W) V hbV ?_ ?_ ?_ ⟨hI _ _ _ h0 hbV, hLV⟩).mono ?_
  · rintro s X Y ⟨hi, hl⟩ hb
    exact ⟨hI _ _ _ hi (hb.mono (by omega)), hl.below hb (by omega)⟩
  · rintro s X Y ⟨c, hi, hl⟩ hb
    exact ⟨c, hIx c _ _ _ hi (hb.mono (by omega)), hl.below hb (by omega)⟩
  · rintro pre x W ⟨hi, hl⟩ hlen
    have hy := run_yield (P := P) (args := encs x) hl.row (hps x)
    refine ⟨fn, _, assign, body, hy, roundIn_of_wpIn hfn ?_⟩
    refine hassign _ x W _ ⟨_, run_beginRound hl.row rfl, ?_⟩
    refine wpIn_mono (hbody _ pre x _ (hI.put (by omega) hi _) hlen) fun e a3 W3 h3 => ?_
    exact round_far (Kp := Kp) (recOf fn a.tmps ps assign body w.heap.size) rfl rfl (fun h k => hKt h k) (fun W o o' => hKb W (w.heap.size + 1) o o' (by omega)) hI hIx (pre ++ [x]) W W3 hl e a3 h3
  · rintro e W2 ⟨⟨v, rfl⟩, ⟨xs, hS, hi, hl⟩ | ⟨pre, hSp, c, hi, hl⟩⟩
    · refine ⟨none, _, run_endLoop hl.row (by simp), ?_⟩
      exact hdone _ xs _ (Nat.le_refl _) hS (hI.put (by omega) hi _) ((World.putObj_heap_other (by omega)).trans hl.calls)
    · refine ⟨some c, _, run_endLoop hl.row (by simp), ?_⟩
      exact hstop _ c pre _ (Nat.le_refl _) hSp ((hIx c).put (by omega) hi _) ((World.putObj_heap_other (by omega)).trans hl.calls)
end
end Go.Proofs.Ytoofmklknffhpaa
