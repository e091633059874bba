/-
  Contracts of wrap.Far, wrap.Ahead, wrap.Over, wrap.IsSize, wrap.Slot, wrap.Room and of the document's own Far, Ahead, Over, IsSize, Slot, Room: each returns the plain number or bool that is defined here, whatever its arguments, and leaves all that was there as it was. Conditions: each argument fits its kind.
-/
import Derived.Test.YtfgaeaebchgcdaaRows
import Derived.Test.YtfgaeaebchgcdaaBase
import Derived.WalkKit
import Derived.ProofKit
import Derived.OpenShut
import Derived.Handy
namespace Go.Proofs.Ytfgaeaebchgcdaa
open Go.ChangeShapes Go.WideShapes Go.ChangeAt Go.RowKit

/-- the distance from a to b -/
def far (a b : Int) : Int := IntKind.u32.wrap (b - a)
/-- is b ahead of a? -/
def aheadB (a b : Int) : Bool := decide (1 ≤ far a b) && decide (far a b ≤ 2147483647)
/-- how far a is ahead of b, or 0 -/
def over (a b : Int) : Int := bif aheadB b a then far b a else 0

theorem far_p (a b : Int) (w : World) : Calls Try.prog 28 #[.int .u32 a, .int .u32 b] w fun e w' => e = .returned (.int .u32 (far a b)) ∧ w = w' := by
  go_enter Try.func28, Try.ntmps28
  go_wp2
  go_ret
  exact ⟨rfl, rfl⟩
theorem far_r (a b : Int) (w : World) : Calls Try.prog 29 #[.int .u32 a, .int .u32 b] w fun e w' => e = .returned (.int .u32 (far a b)) ∧ w = w' := by
  go_enter Try.func29, Try.ntmps29
  go_wp2
  go_ret
  exact ⟨rfl, rfl⟩
theorem ahead_p (a b : Int) (w : World) : Calls Try.prog 46 #[.int .u32 a, .int .u32 b] w fun e w' => e = .returned (.bool (aheadB a b)) ∧ w = w' := by
  go_enter Try.func46, Try.ntmps46
  go_wp2_with (go_at_call 28; refine (far_p _ _ _).mono ?_; rintro e w' ⟨rfl, rfl⟩)
  · go_ret
    exact ⟨by simp [aheadB, *], rfl⟩
  · go_ret
    refine ⟨?_, rfl⟩
    have h : ¬ 1 ≤ far a b := by omega
    simp [aheadB, h]
theorem ahead_r (a b : Int) (w : World) : Calls Try.prog 34 #[.int .u32 a, .int .u32 b] w fun e w' => e = .returned (.bool (aheadB a b)) ∧ w = w' := by
  go_enter Try.func34, Try.ntmps34
  go_wp2_with (go_at_call 29; refine (far_r _ _ _).mono ?_; rintro e w' ⟨rfl, rfl⟩)
  · go_ret
    exact ⟨by simp [aheadB, *], rfl⟩
  · go_ret
    refine ⟨?_, rfl⟩
    have h : ¬ 1 ≤ far a b := by omega
    simp [aheadB, h]
theorem over_p (a b : Int) (w : World) : Calls Try.prog 38 #[.int .u32 a, .int .u32 b] w fun e w' => e = .returned (.int .u32 (over a b)) ∧ w = w' := by
  rcases hb : aheadB b a
  all_goals
    go_enter Try.func38, Try.ntmps38
    go_wp2_with (first | (go_at_call 46; refine (ahead_p _ _ _).mono ?_; rintro e w' ⟨rfl, rfl⟩) | (go_at_call 28; refine (far_p _ _ _).mono ?_; rintro e w' ⟨rfl, rfl⟩))
    go_ret
    exact ⟨by simp [over, hb], rfl⟩
theorem over_r (a b : Int) (w : World) : Calls Try.prog 33 #[.int .u32 a, .int .u32 b] w fun e w' => e = .returned (.int .u32 (over a b)) ∧ w = w' := by
  rcases hb : aheadB b a
  all_goals
    go_enter Try.func33, Try.ntmps33
    go_wp2_with (first | (go_at_call 34; refine (ahead_r _ _ _).mono ?_; rintro e w' ⟨rfl, rfl⟩) | (go_at_call 29; refine (far_r _ _ _).mono ?_; rintro e w' ⟨rfl, rfl⟩))
    go_ret
    exact ⟨by simp [over, hb], rfl⟩

/-- the exponent of a size, or -1 -/
def expo (n : Int) : Int :=
  if n = 1 then 0 else if n = 2 then 1 else if n = 4 then 2 else if n = 8 then 3 else if n = 16 then 4 else if n = 32 then 5 else if n = 64 then 6 else if n = 128 then 7 else
  if n = 256 then 8 else if n = 512 then 9 else if n = 1024 then 10 else if n = 2048 then 11 else if n = 4096 then 12 else -1
def isSizeB (n : Int) : Bool := decide (0 ≤ expo n)

theorem isSize_bd {n : Int} (h : isSizeB n = true) : 1 ≤ n ∧ n ≤ 4096 := by
  have h' := of_decide_eq_true h
  unfold expo at h'
  repeat' (split at h')
  all_goals omega

/-- the slot of i, and the code -/
def slotN (i s : Int) : Int := bif isSizeB s then i % s else 0
def sizeE (s : Int) : Int := bif isSizeB s then 0 else 2
theorem mod_in (i s : Int) (hs : 1 ≤ s) (hs' : s ≤ 4096) : wrap64 (i % s) = i % s := by
  have h1 := Int.emod_nonneg i (b := s) (by omega)
  have h2 := Int.emod_lt_of_pos i (b := s) (by omega)
  exact IntWalk.wrap64_in _ (by omega)
/-- the room that is left, and the code -/
def roomN (p c s : Int) : Int := bif isSizeB s then bif decide (far c p ≤ s) then s - far c p else 0 else 0
def roomE (p c s : Int) : Int := bif isSizeB s then bif decide (far c p ≤ s) then 0 else 10 else 2
theorem far_bd (a b : Int) : 0 ≤ far a b ∧ far a b ≤ 4294967295 := by
  unfold far; rw [IntKind.wrap_u32]; omega
end Go.Proofs.Ytfgaeaebchgcdaa
