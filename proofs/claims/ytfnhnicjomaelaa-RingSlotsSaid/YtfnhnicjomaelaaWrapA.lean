/-
  Contracts of wrap.Far, wrap.Ahead, wrap.Over, wrap.IsSize, wrap.Slot, wrap.Room and of the document's own Far, Ahead, Over, IsSize, Slot, Room: each returns the plain number or bool that is defined here, whatever its arguments, and leaves all that was there as it was. Conditions: each argument fits its kind.
-/
import Derived.Test.YtfnhnicjomaelaaRows
import Derived.Test.YtfnhnicjomaelaaBase
import Derived.WalkKit
import Derived.ProofKit
import Derived.OpenShut
import Derived.Handy
namespace Go.Proofs.Ytfnhnicjomaelaa
open Go.ChangeShapes Go.WideShapes Go.ChangeAt Go.RowKit

/-- the distance from a to b -/
def far (a b : Int) : Int := IntKind.u32.wrap (b - a)
/-- is b ahead of a? -/
def aheadB (a b : Int) : Bool := decide (1 ≤ far a b) && decide (far a b ≤ 2147483647)
/-- how far a is ahead of b, or 0 -/
def over (a b : Int) : Int := bif aheadB b a then far b a else 0

theorem far_p (a b : Int) (w : World) : Calls Try.prog 57 #[.int .u32 a, .int .u32 b] w fun e w' => e = .returned (.int .u32 (far a b)) ∧ w = w' := by
  go_enter Try.func57, Try.ntmps57
  go_wp2
  go_ret
  exact ⟨rfl, rfl⟩
/-- the exponent of a size, or -1 -/
def expo (n : Int) : Int :=
  if n = 1 then 0 else if n = 2 then 1 else if n = 4 then 2 else if n = 8 then 3 else if n = 16 then 4 else if n = 32 then 5 else if n = 64 then 6 else if n = 128 then 7 else
  if n = 256 then 8 else if n = 512 then 9 else if n = 1024 then 10 else if n = 2048 then 11 else if n = 4096 then 12 else -1
def isSizeB (n : Int) : Bool := decide (0 ≤ expo n)

theorem expo_p (n : Int) (w : World) : Calls Try.prog 58 #[.int .i64 n] w fun e w' => e = .returned (.int .i64 (expo n)) ∧ w = w' := by
  go_enter Try.func58, Try.ntmps58
  go_wp2
  go_rounds 14
  all_goals (go_ret; exact ⟨by simp_all [expo], rfl⟩)

theorem size_r (n : Int) (w : World) : Calls Try.prog 28 #[.int .i64 n] w fun e w' => e = .returned (.bool (isSizeB n)) ∧ w = w' := by
  go_enter Try.func28, Try.ntmps28
  go_wp2
  go_rounds 14
  all_goals (go_ret; exact ⟨by simp_all [isSizeB, expo], rfl⟩)

theorem isSize_bd {n : Int} (h : isSizeB n = true) : 1 ≤ n ∧ n ≤ 4096 := by
  have h' := of_decide_eq_true h
  unfold expo at h'
  repeat' (split at h')
  all_goals omega

theorem sizes_p (n : Int) (b : Nat) (w : World) (hc : w.cell? ⟨b, 0, none⟩ = some (.int .i64 n)) :
    Calls Try.prog 48 #[.slice (some ⟨b, 0, none⟩) 1 1] w fun e w' => e = .returned (.bool (isSizeB n)) ∧ w = w' := by
  rcases hb : isSizeB n
  all_goals
    unfold isSizeB at hb
    simp at hb
    go_enter Try.func48, Try.ntmps48
    go_wp2
    refine wp_loop_rounds 2 ?_
    repeat any_goals (rw [rounds_succ]; go_wp2_with (go_at_call 58; refine (expo_p _ _).mono ?_; rintro e w' ⟨rfl, rfl⟩))
    go_ret
    exact ⟨rfl, rfl⟩
theorem size_p (n : Int) (w : World) : Calls Try.prog 27 #[.int .i64 n] w fun e w' => e = .returned (.bool (isSizeB n)) ∧ Below w.heap.size w w' := by
  go_enter Try.func27, Try.ntmps27
  go_wp2_with (go_at_call 48; refine (sizes_p n _ _ (by simp [go_sem])).mono ?_; rintro e w' ⟨rfl, rfl⟩)
  go_ret
  exact ⟨rfl, by go_grown⟩

/-- the slot of i, and the code -/
def slotN (i s : Int) : Int := bif isSizeB s then i % s else 0
def sizeE (s : Int) : Int := bif isSizeB s then 0 else 2
theorem mod_in (i s : Int) (hs : 1 ≤ s) (hs' : s ≤ 4096) : wrap64 (i % s) = i % s := by
  have h1 := Int.emod_nonneg i (b := s) (by omega)
  have h2 := Int.emod_lt_of_pos i (b := s) (by omega)
  exact IntWalk.wrap64_in _ (by omega)
theorem place_p (i s : Int) (w : World) (h0 : 0 ≤ i) (h1 : i ≤ 4294967295) (hs : 1 ≤ s) (hs' : s ≤ 4096) : Calls Try.prog 68 #[.int .u32 i, .int .i64 s] w fun e w' => e = .returned (.int .i64 (i % s)) ∧ w = w' := by
  go_enter Try.func68, Try.ntmps68
  go_wp2
  go_ret
  exact ⟨by simp [mod_in i s hs hs'], rfl⟩
theorem slot_p (i s : Int) (w : World) (h0 : 0 ≤ i) (h1 : i ≤ 4294967295) : Calls Try.prog 61 #[.int .u32 i, .int .i64 s] w fun e w' => e = .returned (.tuple #[.int .i64 (slotN i s), .int .i64 (sizeE s)]) ∧ Below w.heap.size w w' := by
  rcases hb : isSizeB s
  · go_enter Try.func61, Try.ntmps61
    go_wp2_with (go_at_call 48; refine (sizes_p s _ _ (by simp [go_sem])).mono ?_; rintro e w' ⟨rfl, rfl⟩)
    go_ret2
    exact ⟨by simp [slotN, sizeE, hb], by go_grown⟩
  · have hd := isSize_bd hb
    obtain ⟨hd1, hd2⟩ := hd
    go_enter Try.func61, Try.ntmps61
    go_wp2_with (first | (go_at_call 48; refine (sizes_p s _ _ (by simp [go_sem])).mono ?_; rintro e w' ⟨rfl, rfl⟩) | (go_at_call 68; refine (place_p _ _ _ h0 h1 hd1 hd2).mono ?_; rintro e w' ⟨rfl, rfl⟩))
    go_ret2
    exact ⟨by simp [slotN, sizeE, hb], by go_grown⟩
theorem slot_r (i s : Int) (w : World) (h0 : 0 ≤ i) (h1 : i ≤ 4294967295) : Calls Try.prog 60 #[.int .u32 i, .int .i64 s] w fun e w' => e = .returned (.tuple #[.int .i64 (slotN i s), .int .i64 (sizeE s)]) ∧ w = w' := by
  rcases hb : isSizeB s
  · go_enter Try.func60, Try.ntmps60
    go_wp2_with (go_at_call 28; refine (size_r s _).mono ?_; rintro e w' ⟨rfl, rfl⟩)
    go_ret2
    exact ⟨by simp [slotN, sizeE, hb], rfl⟩
  · have hd := isSize_bd hb
    obtain ⟨hd1, hd2⟩ := hd
    go_enter Try.func60, Try.ntmps60
    go_wp2_with (go_at_call 28; refine (size_r s _).mono ?_; rintro e w' ⟨rfl, rfl⟩)
    go_ret2
    exact ⟨by simp [slotN, sizeE, hb, mod_in i s hd1 hd2], rfl⟩

/-- the room that is left, and the code -/
def roomN (p c s : Int) : Int := bif isSizeB s then bif decide (far c p ≤ s) then s - far c p else 0 else 0
def roomE (p c s : Int) : Int := bif isSizeB s then bif decide (far c p ≤ s) then 0 else 10 else 2
theorem far_bd (a b : Int) : 0 ≤ far a b ∧ far a b ≤ 4294967295 := by
  unfold far; rw [IntKind.wrap_u32]; omega
end Go.Proofs.Ytfnhnicjomaelaa
