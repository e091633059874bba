/-
  Contracts of the document's own Range and Same, and the law WrapRanges, walked: it returns true and leaves all that was there as it was. Conditions: each argument fits its kind.
-/
import Derived.Test.YtihplelglpgdnaaWrapC
import Derived.Test.YtihplelglpgdnaaWrapB
import Derived.Deep.QuietTactic
import Derived.BigQuiet
import Derived.Lib.Hide
namespace Go.Proofs.Ytihplelglpgdnaa
open Go.ChangeShapes Go.WideShapes Go.ChangeAt Go.RowKit Go.Shelf

theorem u32_eq {x y : Int} (h : x = y) : Value.int .u32 x = .int .u32 y := by rw [h]
theorem rangeR_no (a b s : Int) (h : isSizeB s = false ∨ s < far a b) (w : World) :
    Calls Try.prog 24 #[.int .u32 a, .int .u32 b, .int .i64 s] w fun e w' => e = .returned (.tuple #[.slice none 0 0, .int .i64 (roomE b a s)]) ∧ w = w' := by
  have hE : (roomE b a s != 0) = true := by
    rcases hs : isSizeB s
    · simp [roomE, hs]
    · have hf : s < far a b := by simpa [hs] using h
      simp [roomE, hs, show ¬ far a b ≤ s by omega]
  go_enter Try.func24, Try.ntmps24
  go_wp2_with (go_at_call 20; refine (room_r _ _ _ _).mono ?_; rintro e w' ⟨rfl, rfl⟩)
  go_ret2
  exact ⟨rfl, rfl⟩

set_option maxRecDepth 100000 in
set_option maxHeartbeats 2000000 in
theorem rangeR_ok (a b : Int) (s d : Nat) (hs : isSizeB s = true) (ha0 : 0 ≤ a) (ha1 : a ≤ 4294967295) (hd : Hid (far a b = d)) (hds : d ≤ s) (hb : Hid (b = (a + d) % 4294967296)) (w : World) :
    Calls Try.prog 24 #[.int .u32 a, .int .u32 b, .int .i64 s] w (RangeGives a s d w) := by
  obtain ⟨hs1, hs2⟩ := isSize_bd hs
  obtain ⟨i0, hi, hz0, hz1, hz2⟩ := info_parts infoInt
  have hE : roomE b a s = 0 := by simp [roomE, hs, hd.out, hds]
  have ha : a % 4294967296 = a := Int.emod_eq_of_lt ha0 (by omega)
  go_enter Try.func24, Try.ntmps24
  go_wp2_with (go_at_call 20; refine (room_r _ _ _ _).mono ?_; rintro e w' ⟨rfl, rfl⟩)
  clear hE
  have HA : Hid (a % 4294967296 = a) := ha
  clear ha
  go_loopw [10, 11] (fun v i wr => ∃ k : Nat, k ≤ d ∧ i = .int .u32 ((a + k) % 4294967296) ∧ wr.ownsRow w.heap.size 3 1 v k (slotsOf (elts a s k)) ∧ Below w.heap.size w wr)
    (fun _ i _ => d - ((intOf i - a) % 4294967296).toNat)
  case atStart => exact ⟨0, Nat.zero_le _, by rw [show ((a + (0 : Nat)) % 4294967296) = a by rw [← HA.out]; simp], World.ownsRow_nil _ _ _ _, Below.refl _ _⟩
  case round =>
    obtain ⟨k, hk, rfl, hrow, hB⟩ := hrel
    by_cases hlt : k < d
    · have hne : ((a + k) % 4294967296 != b) = true := by
        have := hb.out
        simp
        omega
      have hm := Int.emod_nonneg (a + k) (b := 4294967296) (by omega)
      have hm' := Int.emod_lt_of_pos (a + k) (b := 4294967296) (by omega)
      have hsl : slotN ((a + k) % 4294967296) s = (a + k) % 4294967296 % s := by simp [slotN, hs]
      have hsz := hB.size
      go_wp2_with (first
        | (go_at_call 18; refine (slot_r _ _ _ (by omega) (by omega)).mono ?_; rintro e w' ⟨rfl, rfl⟩)
        | (at_builtin; refine wpList_append_own _ rfl _ _ 32 rfl w.heap.size 3 i0 (.int .i64 0) 1 8 Try.underlying32 hi hz0 hz1 hz2 rfl (by decide) _ _ _ rfl (hrow.alloc _) ⟨wr.heap.size, 0, none⟩ 1 1 [.int .i64 ((a + k) % 4294967296 % s)] rfl rfl (cell_one_new _ _ _) (by simp [Value.oneCell']) (by simp [maxLen]; omega) (by omega) (by simp; omega) ?_; intro v' w1 hown' hgrow _))
      have hB' : Below w.heap.size w w1 := (hB.alloc hB.size _).grown hgrow (by simp; omega) (fun j ej => (hrow.lt j ej).1)
      go_roundw
      case rel =>
        refine ⟨k + 1, by omega, ?_, ?_, hB'⟩
        · exact u32_eq (by omega)
        · rw [elts_succ]; simpa [slotsOf, elt] using hown'
      case measure => simp only [intOf]; omega
    · obtain rfl : k = d := by omega
      have hne : ((a + k) % 4294967296 != b) = false := by
        have := hb.out
        simp [this]
      go_wp2
      go_ret2
      exact ⟨_, rfl, hrow, hB⟩

/-- a slice that reads as a list of cells, nil let in -/
def Lies (w : World) (A : Option Addr) (n : Nat) (xs : List Value) : Prop := xs.length = n ∧ (0 < n → ∃ g, A = some ⟨g, 0, none⟩ ∧ g < w.heap.size ∧ ∀ j, j < n → w.cell? ⟨g, j, none⟩ = xs[j]?)
theorem lies_of_own {w : World} {base : Nat} {e : TypeId} {v : Value} {n : Nat} {xs : List Value} (h : w.ownsRow base e 1 v n xs) : ∃ A c, v = .slice A n c ∧ Lies w A n xs := by
  have hl : xs.length = n := by simpa using h.1
  rcases h.2 with ⟨hv, h0⟩ | ⟨g, cap, cur, hv, hb, hh, hrest⟩
  · exact ⟨none, 0, by rw [hv, h0], hl, fun h => by omega⟩
  · refine ⟨some ⟨g, 0, none⟩, cap, hv, hl, fun _ => ⟨g, rfl, (Array.getElem?_eq_some_iff.1 hh).1, fun j hj => ?_⟩⟩
    subst hv
    exact World.ownsRow.cellAt h j (by omega)
theorem lies_below {w w' : World} {A : Option Addr} {n : Nat} {xs : List Value} (h : Lies w A n xs) (hb : Below w.heap.size w w') : Lies w' A n xs :=
  ⟨h.1, fun hn => let ⟨g, e, hg, hc⟩ := h.2 hn; ⟨g, e, Nat.lt_of_lt_of_le hg hb.size, fun j hj => (hb.cell (p := ⟨g, j, none⟩) hg).trans (hc j hj)⟩⟩

set_option maxRecDepth 100000 in
set_option maxHeartbeats 1000000 in
theorem same_p (A B : Option Addr) (n c c' : Nat) (xs : List Int) (w : World) (hn : n ≤ 4096) (hA : Lies w A n (xs.map (Value.int .i64))) (hB : Lies w B n (xs.map (Value.int .i64))) :
    Calls Try.prog 25 #[.slice A n c, .slice B n c'] w fun e w' => e = .returned (.bool true) ∧ ∃ m, w' = w.drewN m := by
  have HA : Hid (Lies w A n (xs.map (Value.int .i64))) := hA
  have HB : Hid (Lies w B n (xs.map (Value.int .i64))) := hB
  clear hA hB
  go_enter Try.func25, Try.ntmps25
  go_wp2
  go_loopw [5] (fun i wr => ∃ k : Nat, k ≤ n ∧ i = .int .i64 k ∧ ∃ m, wr = w.drewN m) (fun i _ => n - (intOf i).toNat)
  case atStart => exact ⟨0, Nat.zero_le _, rfl, 0, rfl⟩
  case round =>
    obtain ⟨k, hk, rfl, m, rfl⟩ := hrel
    by_cases hlt : k < n
    · obtain ⟨g, rfl, _, hg⟩ := HA.out.2 (by omega)
      obtain ⟨g', rfl, _, hg'⟩ := HB.out.2 (by omega)
      have hl : k < xs.length := by have := HA.out.1; simp at this; omega
      have h1 : w.cell? ⟨g, k, none⟩ = some (.int .i64 xs[k]) := by rw [hg k hlt]; simp [hl]
      have h2 : w.cell? ⟨g', k, none⟩ = some (.int .i64 xs[k]) := by rw [hg' k hlt]; simp [hl]
      clear hg hg'
      go_wp2
      go_quiet (fail)
      go_wp2
      go_roundw
      case rel => exact ⟨k + 1, by omega, by go_num, m + nq, by simp⟩
      case measure => simp [intOf]; omega
    · go_wp2
      go_ret
      exact ⟨rfl, m, rfl⟩

theorem below_drewN {B : Nat} {a w : World} (h : Below B a w) (n : Nat) : Below B a (w.drewN n) := ⟨h.os, h.tape, h.output, h.size, h.block⟩
theorem slotsOf_eq (l : List (Int × Int)) : slotsOf l = (l.map (·.2)).map (Value.int .i64) := by simp [slotsOf]

set_option maxRecDepth 100000 in
set_option maxHeartbeats 1000000 in
theorem ranges_w (a b s : Int) (ha : 0 ≤ a ∧ a ≤ 4294967295) (hb : 0 ≤ b ∧ b ≤ 4294967295) (w : World) :
    Calls Try.prog 5 #[.int .u32 a, .int .u32 b, .int .i64 s] w fun e w' => e = .returned (.bool true) ∧ Below w.heap.size w w' := by
  by_cases hno : isSizeB s = false ∨ s < far a b
  · go_enter Try.func5, Try.ntmps5
    have HN : Hid (isSizeB s = false ∨ s < far a b) := hno
    clear hno
    go_wp2_with (first
      | (go_at_call 10; refine (shown_p _).mono ?_; rintro e w1 ⟨rfl, hb1⟩)
      | (go_at_call 23; refine (range_no _ _ _ HN.out _).mono ?_; rintro e w2 ⟨rfl, hb2⟩)
      | (go_at_call 24; refine (rangeR_no _ _ _ HN.out _).mono ?_; rintro e w' ⟨rfl, rfl⟩)
      | (go_at_call 25; refine (same_p none none 0 0 0 [] _ (by omega) ⟨rfl, fun h => absurd h (by omega)⟩ ⟨rfl, fun h => absurd h (by omega)⟩).mono ?_; rintro e w' ⟨rfl, m, rfl⟩))
    go_ret
    exact ⟨rfl, below_drewN (hb1.trans (hb2.mono hb1.size)) _⟩
  · have hs : isSizeB s = true := by
      rcases h : isSizeB s
      · exact absurd (.inl h) hno
      · rfl
    have hle : far a b ≤ s := Int.not_lt.1 fun h => hno (.inr h)
    obtain ⟨hs1, hs2⟩ := isSize_bd hs
    obtain ⟨hf1, hf2⟩ := far_bd a b
    obtain ⟨n, rfl⟩ := Int.eq_ofNat_of_zero_le (show 0 ≤ s by omega)
    obtain ⟨d, hd⟩ := Int.eq_ofNat_of_zero_le hf1
    have HD : Hid (far a b = d) := hd
    have HE : Hid (b = (a + d) % 4294967296) := by
      show b = _
      rw [show far a b = (b - a) % 4294967296 by unfold far; rw [IntKind.wrap_u32]] at hd
      omega
    have hdn : d ≤ n := by omega
    clear hd hno hle hf1 hf2
    have HS : Hid (isSizeB (n : Int) = true) := hs
    clear hs
    go_enter Try.func5, Try.ntmps5
    go_wp2_with (first
      | (go_at_call 10; refine (shown_p _).mono ?_; rintro e w1 ⟨rfl, hb1⟩)
      | (go_at_call 23; refine (range_ok a b n d HS.out HD hdn HE _).mono ?_; rintro e w2 ⟨v, rfl, hr2, hb2⟩; obtain ⟨A, c, rfl, hl2⟩ := lies_of_own hr2; have hsz2 := hb2.size)
      | (go_at_call 24; refine (rangeR_ok a b n d HS.out ha.1 ha.2 HD hdn HE _).mono ?_; rintro e w3 ⟨v, rfl, hr3, hb3⟩; obtain ⟨A', c', rfl, hl3⟩ := lies_of_own hr3; have hl2' := lies_below hl2 hb3; rw [slotsOf_eq] at hl2' hl3; have HL2 := Lib.hid hl2'; have HL3 := Lib.hid hl3; clear hl2 hl2' hl3 hr2 hr3)
      | (go_at_call 25; refine (same_p _ _ _ _ _ _ _ (by omega) HL2.out HL3.out).mono ?_; rintro e w' ⟨rfl, m, rfl⟩))
    go_ret
    exact ⟨rfl, below_drewN (hb1.trans ((hb2.trans (hb3.mono hb2.size)).mono hb1.size)) _⟩
end Go.Proofs.Ytihplelglpgdnaa
