/-
  The steps of dql's completing, visited: each, adjusted. Conditions: the numbers fit their kinds.
-/
import Derived.Test.YtfgaeaebchgcdaaDqlE
import Derived.Test.YtfgaeaebchgcdaaHeldI
import Derived.Test.YtfgaeaebchgcdaaRange
namespace Go.Proofs.Ytfgaeaebchgcdaa
set_option linter.unusedSimpArgs false
set_option linter.unusedVariables false
open Go.ChangeShapes Go.WideShapes Go.ChangeAt Go.RowKit Go.Shelf
attribute [local go_sem] Oper.semAt_some

theorem raising_p (n t : Int) (w : World) : Calls Try.prog 36 #[.int .u32 n, .int .u64 t] w fun e w' =>
    e = .returned (.func (.func 40) #[] #[.pointer (some ⟨w.heap.size, 0, none⟩), .pointer (some ⟨w.heap.size + 1, 0, none⟩)]) ∧ (w.alloc (.cells #[.int .u32 n] 22)).alloc (.cells #[.int .u64 t] 23) = w' := by
  go_enter Try.func36, Try.ntmps36
  go_wp2
  go_ret
  exact ⟨by simp, rfl⟩
theorem lowering_p (n t : Int) (w : World) : Calls Try.prog 37 #[.int .u32 n, .int .u64 t] w fun e w' =>
    e = .returned (.func (.func 44) #[] #[.pointer (some ⟨w.heap.size, 0, none⟩), .pointer (some ⟨w.heap.size + 1, 0, none⟩)]) ∧ (w.alloc (.cells #[.int .u32 n] 22)).alloc (.cells #[.int .u64 t] 23) = w' := by
  go_enter Try.func37, Try.ntmps37
  go_wp2
  go_ret
  exact ⟨by simp, rfl⟩
theorem each_p (bs m c : Nat) (w : World) : Calls Try.prog 35 #[.slice (some ⟨bs, 0, none⟩) m c] w fun e w' =>
    e = .returned (.func (.func 39) #[] #[.pointer (some ⟨w.heap.size, 0, none⟩)]) ∧ w.alloc (.cells #[.slice (some ⟨bs, 0, none⟩) m c] 58) = w' := by
  go_enter Try.func35, Try.ntmps35
  go_wp2
  go_ret
  exact ⟨rfl, rfl⟩
/-- the k-th step, its boxes from b on -/
def stepV (b k : Nat) : Value := if k = 0 then (.func (.func 40) #[] #[.pointer (some ⟨b, 0, none⟩), .pointer (some ⟨b + 1, 0, none⟩)]) else (.func (.func 44) #[] #[.pointer (some ⟨(b + 2), 0, none⟩), .pointer (some ⟨(b + 2) + 1, 0, none⟩)])
abbrev encS4 (b : Nat) (k : Nat) : Array Value := #[stepV b k]
/-- what a round leaves, by its answer -/
def AnsweredD (n₁ : Nat) (J Jx : List Nat → World → Prop) (pre : List Nat) (W : World) (y : Bool) (W' : World) : Prop := (y = true → J pre W' ∧ KeepsBut n₁ n₁ W W') ∧ (y = false → Jx pre W')
theorem answeredD (n₁ : Nat) (J Jx : List Nat → World → Prop) (pre : List Nat) (W : World) : ∀ (e : Ending) (W' : World), ((e = .returned (.bool true) ∧ J pre W' ∧ KeepsBut n₁ n₁ W W') ∨ (e = .returned (.bool false) ∧ Jx pre W')) → ∃ y, e = .returned (.bool y) ∧ AnsweredD n₁ J Jx pre W y W' := by
  rintro e W' (⟨rfl, h1, h2⟩ | ⟨rfl, h1⟩)
  · exact ⟨true, rfl, fun _ => ⟨h1, h2⟩, (fun h => by cases h)⟩
  · exact ⟨false, rfl, (fun h => by cases h), fun _ => h1⟩
set_option maxRecDepth 100000 in
set_option maxHeartbeats 2000000 in
theorem each1_in (n : Nat) (hn : 2 ≤ n) (l bx bs b n₁ : Nat) (J Jx : List Nat → World → Prop) (hx : bx < n₁) (hs : bs < n₁)
    (hY : ∀ pre x V, J pre V → pre.length < 2 → YieldAt Fence.wide (n - 1) Try.prog l (encS4 b x) V fun e V' =>
      (e = .returned (.bool true) ∧ J (pre ++ [x]) V' ∧ KeepsBut n₁ n₁ V V') ∨ (e = .returned (.bool false) ∧ Jx (pre ++ [x]) V'))
    (W : World) (gx : Held W bx 58 #[.slice (some ⟨bs, 0, none⟩) 2 2]) (gs : Held W bs 55 #[stepV b 0, stepV b 1]) (h0 : J [] W) :
    CallsIn Fence.wide n Try.prog 39 #[.func (.yield l) #[] #[], .pointer (some ⟨bx, 0, none⟩)] W fun e W' => (∃ v, e = .returned v) ∧
      ((∃ ys, ys = List.range 2 ∧ J ys W') ∨ (∃ pre, (∃ k, k < 2 ∧ pre = List.range (k + 1)) ∧ Jx pre W')) := by
  refine callsIn_of_wp Try.func39 rfl trivial ?_ rfl
  simp only [Try.ntmps39, List.size_toArray, List.length_cons, List.length_nil, Nat.reduceAdd, Nat.reduceSub, Array.replicate_succ, Array.replicate_zero, List.push_toArray, List.append_toArray, List.nil_append, List.cons_append]
  have cx : W.cell? ⟨bx, 0, none⟩ = some (.slice (some ⟨bs, 0, none⟩) 2 2) := gx.cell 0
  gi_wp2
  gi_loopw [7] (fun i wr => ∃ k : Nat, k ≤ 2 ∧ i = .int .i64 k ∧ Held wr bs 55 #[stepV b 0, stepV b 1] ∧ J (List.range k) wr)
    (fun i _ => 2 - (intOf i).toNat)
  case atStart => exact ⟨0, Nat.zero_le _, rfl, gs, h0⟩
  case round =>
    obtain ⟨k, hk, rfl, g', hJ⟩ := hrel
    clear cx gx gs
    by_cases hlt : k < 2
    · have ck : wr.cell? ⟨bs, k, none⟩ = some (stepV b k) := by
        refine (g'.cell k).trans ?_
        rcases Nat.lt_succ_iff_lt_or_eq.1 hlt with h | rfl
        · obtain rfl : k = 0 := by omega
          rfl
        · rfl
      obtain ⟨fn, tmps, assign, body, hy0, hR0⟩ := hY (List.range k) k wr hJ (by simpa using hlt)
      have hy : (Instr.yield l #[stepV b k]).run Try.prog wr = _ := hy0
      have hR := hR0.mono (answeredD n₁ J Jx (List.range k ++ [k]) wr)
      clear hy0 hR0
      generalize stepV b k = u at ck hy
      gi_wp2
      refine ⟨fun _ => by omega, hR.mono ?_⟩
      rintro e W3 ⟨y, rfl, hA⟩
      cases y
      · have hJx3 := hA.2 rfl
        gi_wp2
        refine bodyPost_ret (results_none rfl _ _ _) rfl ?_
        exact ⟨⟨_, rfl⟩, .inr ⟨_, ⟨k, hlt, by rw [List.range_succ]⟩, hJx3⟩⟩
      · obtain ⟨hJ3, hk3⟩ := hA.1 rfl
        have g3 : Held W3 bs 55 #[stepV b 0, stepV b 1] := (hk3 bs hs (by omega)).trans g'
        gi_wp2
        go_roundw
        case rel => exact ⟨k + 1, by omega, by go_num, g3, by rw [List.range_succ]; exact hJ3⟩
        case measure => simp [intOf]; omega
    · gi_wp2
      go_end0
      exact ⟨⟨_, rfl⟩, .inl ⟨_, by rw [show k = 2 by omega], hJ⟩⟩
theorem each1_far (n : Nat) (hn : 2 ≤ n) (bx bs b : Nat) (w : World) (gx : Held w bx 58 #[.slice (some ⟨bs, 0, none⟩) 2 2]) (gs : Held w bs 55 #[stepV b 0, stepV b 1]) :
    SeqFar Fence.wide n Try.prog 39 #[.pointer (some ⟨bx, 0, none⟩)] (encS4 b) (KeepsBut w.heap.size w.heap.size) (fun ys => ys = List.range 2) (fun pre => ∃ k, k < 2 ∧ pre = List.range (k + 1)) 2 w := by
  intro l J Jx W hW _ _ hY h0
  exact each1_in n hn l bx bs b w.heap.size J Jx gx.lt gs.lt hY W (gx.below hW gx.lt) (gs.below hW gs.lt) h0
end Go.Proofs.Ytfgaeaebchgcdaa
