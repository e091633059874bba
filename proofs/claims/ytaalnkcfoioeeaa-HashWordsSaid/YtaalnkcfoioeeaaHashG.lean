/-
  HashTurns walked; the document's Words; HashWords walked. Conditions: the numbers fit their kinds.
-/
import Derived.Test.YtaalnkcfoioeeaaHashF
import Derived.Test.YtaalnkcfoioeeaaSlice
import Derived.Test.YtaalnkcfoioeeaaBase
namespace Go.Proofs.Ytaalnkcfoioeeaa
set_option linter.unusedSimpArgs false
set_option linter.unusedVariables false
open Go.ChangeShapes Go.WideShapes Go.ChangeAt Go.RowKit

theorem turns_no (c a b : Int) (h : a < -1000 ∨ 1000 < a ∨ b < -1000 ∨ 1000 < b) (w : World) : Calls Try.prog 9 #[.int .u32 c, .int .i64 a, .int .i64 b] w fun e w' => e = .returned (.bool true) ∧ Below w.heap.size w w' := by
  have H := Mem.start w
  by_cases h1 : a < -1000
  · have t1 : decide (a < -1000) = true := decide_eq_true h1
    go_enter Try.func9, Try.ntmps9
    go_wp2_with (first
    | go_skip
    | (go_at_call 11; with_reducible refine (shown_p _).mono ?_; rintro e w2 ⟨rfl, hb⟩; have H2 := H.call hb; clear H hb; have H := H2; clear H2))
    go_ret
    exact ⟨by simp, H.below⟩
  have t1 : decide (a < -1000) = false := decide_eq_false h1
  by_cases h2 : 1000 < a
  · have t2 : decide (1000 < a) = true := decide_eq_true h2
    go_enter Try.func9, Try.ntmps9
    go_wp2_with (first
    | go_skip
    | (go_at_call 11; with_reducible refine (shown_p _).mono ?_; rintro e w2 ⟨rfl, hb⟩; have H2 := H.call hb; clear H hb; have H := H2; clear H2))
    go_ret
    exact ⟨by simp, H.below⟩
  have t2 : decide (1000 < a) = false := decide_eq_false h2
  by_cases h3 : b < -1000
  · have t3 : decide (b < -1000) = true := decide_eq_true h3
    go_enter Try.func9, Try.ntmps9
    go_wp2_with (first
    | go_skip
    | (go_at_call 11; with_reducible refine (shown_p _).mono ?_; rintro e w2 ⟨rfl, hb⟩; have H2 := H.call hb; clear H hb; have H := H2; clear H2))
    go_ret
    exact ⟨by simp, H.below⟩
  have t3 : decide (b < -1000) = false := decide_eq_false h3
  have t4 : decide (1000 < b) = true := decide_eq_true (by omega)
  go_enter Try.func9, Try.ntmps9
  go_wp2_with (first
    | go_skip
    | (go_at_call 11; with_reducible refine (shown_p _).mono ?_; rintro e w2 ⟨rfl, hb⟩; have H2 := H.call hb; clear H hb; have H := H2; clear H2))
  go_ret
  exact ⟨by simp, H.below⟩
set_option maxRecDepth 100000 in
set_option maxHeartbeats 1000000 in
theorem turns_yes (x : BitVec 32) (a b : Int) (h : -1000 ≤ a ∧ a ≤ 1000 ∧ -1000 ≤ b ∧ b ≤ 1000) (w : World) : Calls Try.prog 9 #[.int .u32 (u x), .int .i64 a, .int .i64 b] w fun e w' => e = .returned (.bool true) ∧ Below w.heap.size w w' := by
  have H := Mem.start w
  have t1 : decide (a < -1000) = false := decide_eq_false (by omega)
  have t2 : decide (1000 < a) = false := decide_eq_false (by omega)
  have t3 : decide (b < -1000) = false := decide_eq_false (by omega)
  have t4 : decide (1000 < b) = false := decide_eq_false (by omega)
  have c1 := fun w => turn_p x a (by omega) w
  have c2 := fun w => turn_p (turnB x a) (-a) (by omega) w
  have c3 := fun w => turn_p (turnB x a) b (by omega) w
  have c4 := fun w => turn_p x (a + b) (by omega) w
  have c5 := fun w => turn_p x 32 (by omega) w
  rw [turnB_turnB, turnB_zero x (show (a + -a) % 32 = 0 by omega)] at c2
  rw [turnB_turnB] at c3
  rw [turnB_zero x (show (32 : Int) % 32 = 0 by omega)] at c5
  go_enter Try.func9, Try.ntmps9
  go_wp2_with (first
    | go_skip
    | (go_at_call 11; with_reducible refine (shown_p _).mono ?_; rintro e w2 ⟨rfl, hb⟩; have H2 := H.call hb; clear H hb; have H := H2; clear H2)
    | (go_at_call 16; with_reducible refine (c1 _).mono ?_; rintro e w2 ⟨rfl, hb⟩; have H2 := H.call hb; clear H hb; have H := H2; clear H2)
    | (go_at_call 16; with_reducible refine (c2 _).mono ?_; rintro e w2 ⟨rfl, hb⟩; have H2 := H.call hb; clear H hb; have H := H2; clear H2)
    | (go_at_call 16; with_reducible refine (c3 _).mono ?_; rintro e w2 ⟨rfl, hb⟩; have H2 := H.call hb; clear H hb; have H := H2; clear H2)
    | (go_at_call 16; with_reducible refine (c4 _).mono ?_; rintro e w2 ⟨rfl, hb⟩; have H2 := H.call hb; clear H hb; have H := H2; clear H2)
    | (go_at_call 16; with_reducible refine (c5 _).mono ?_; rintro e w2 ⟨rfl, hb⟩; have H2 := H.call hb; clear H hb; have H := H2; clear H2))
  go_ret
  exact ⟨by simp, H.below⟩
theorem turns_w (c a b : Int) (hc : 0 ≤ c ∧ c ≤ 4294967295) (w : World) : Calls Try.prog 9 #[.int .u32 c, .int .i64 a, .int .i64 b] w fun e w' => e = .returned (.bool true) ∧ Below w.heap.size w w' := by
  by_cases h : -1000 ≤ a ∧ a ≤ 1000 ∧ -1000 ≤ b ∧ b ≤ 1000
  · obtain ⟨x, rfl⟩ := u_of hc
    exact turns_yes x a b h w
  · exact turns_no c a b (by omega) w
set_option maxRecDepth 100000 in
set_option maxHeartbeats 1000000 in
theorem words_r (s : BitVec 32) (A : Option Addr) (len cap : Nat) (hl : len ≤ cap) (h100 : len ≤ 100) (f : Nat → BitVec 32) (w : World) (gw : WordsAt w.heap.size w A len f) :
    Calls Try.prog 19 #[.int .u32 (u s), .slice A len cap] w fun e w' => e = .returned (.int .u32 (u (wordsB s f len))) ∧ Below w.heap.size w w' := by
  have H := Mem.start w
  have G := Lib.hid gw
  clear gw
  have e4 : 4 * (len : Int) = u (BitVec.ofNat 32 (4 * len)) := by rw [u_lit (4 * len) (by omega)]; omega
  have E4 := Lib.hid e4
  clear e4
  go_enter Try.func19, Try.ntmps19
  go_wp2
  go_loopw [5, 6] (fun hh i wr => ∃ k : Nat, k ≤ len ∧ i = .int .i64 k ∧ hh = .int .u32 (u (mixAll s f k)) ∧ Mem w wr []) (fun _ i _ => len - (intOf i).toNat)
  case atStart => exact ⟨0, Nat.zero_le _, rfl, rfl, H⟩
  case round =>
    clear H
    obtain ⟨k, hk, rfl, rfl, H⟩ := hrel
    by_cases hlt : k < len
    · obtain ⟨b, o, rfl, hB, ck⟩ := G.out k hlt
      have ck' : wr.cell? ⟨b, o + k, none⟩ = some (.int .u32 (u (f k))) := (H.old hB).trans ck
      clear ck
      go_wp2_with (go_at_call 13; with_reducible refine (mix_r _ _ _).mono ?_; rintro e w2 ⟨rfl, hb⟩; have H2 := H.call hb; clear H hb; have H := H2; clear H2)
      go_roundw
      case rel => exact ⟨k + 1, by omega, by go_num, by rw [mixAll_succ], H⟩
      case measure => simp [intOf]; omega
    · obtain rfl : k = len := by omega
      have e4 := E4.out
      go_wp2_with (go_at_call 15; with_reducible refine (end_r _ _ _).mono ?_; rintro e w2 ⟨rfl, hb⟩; have H2 := H.call hb; clear H hb; have H := H2; clear H2)
      go_ret
      exact ⟨rfl, H.below⟩
/-- a word's cells, and that it fits -/
abbrev u32C (y : Int) : List Value := [Value.int .u32 y]
abbrev u32F (y : Int) : Prop := (Lit.int .u32 y).wf = true
/-- the words of a slice that came in -/
theorem u_back {a : Int} (h : 0 ≤ a ∧ a ≤ 4294967295) : u (BitVec.ofNat 32 a.toNat) = a := by
  have e := u_lit a.toNat (by omega)
  omega
theorem words_of {w : World} {A : Option Addr} {len : Nat} {xs : Nat → Int} (h : SliceAt w A len 1 u32C u32F xs) : ∃ f, WordsAt w.heap.size w A len f := by
  refine ⟨fun k => BitVec.ofNat 32 (xs k).toNat, fun k hk => ?_⟩
  obtain ⟨b, o, hA, hb, hc⟩ := h.plain (fun _ => rfl) (by omega) (Nat.lt_of_le_of_lt (Nat.zero_le _) hk)
  have hf := (hc k hk).1
  have hv := (hc k hk).2 0 (.int .u32 (xs k)) rfl
  rw [Nat.mul_one, Nat.add_zero] at hv
  have e := u_back (bd_u32 hf)
  refine ⟨b, o, hA, hb, ?_⟩
  show _ = some (Value.int .u32 (u (BitVec.ofNat 32 (xs k).toNat)))
  rw [e]
  exact hv
theorem WordsAt.less {B : Nat} {w : World} {A : Option Addr} {len m : Nat} {f : Nat → BitVec 32} (h : WordsAt B w A len f) (hm : m ≤ len) : WordsAt B w A m f := fun k hk => h k (by omega)
set_option maxRecDepth 100000 in
set_option maxHeartbeats 1000000 in
theorem words_lw (a : Int) (ha : 0 ≤ a ∧ a ≤ 4294967295) (A : Option Addr) (len cap : Nat) (hl : len ≤ cap) (hc : cap ≤ maxLen) (f : Nat → BitVec 32) (w : World) (gw : WordsAt w.heap.size w A len f) : Calls Try.prog 4 #[.int .u32 a, .slice A len cap] w fun e w' => e = .returned (.bool true) ∧ Below w.heap.size w w' := by
  obtain ⟨s, rfl⟩ := u_of ha
  have H := Mem.start w
  have hmx : maxLen ≤ 9223372036854775807 := by decide
  obtain ⟨m, hm⟩ : ∃ m, min len 100 = m := ⟨_, rfl⟩
  have hm1 : m ≤ len ∧ m ≤ 100 := by omega
  have hmi : (if (100 : Int) < (len : Int) then (100 : Int) else (len : Int)) = m := by split <;> omega
  have HM := Lib.hid hmi
  clear hmi
  have gm := gw.less hm1.1
  have G := Lib.hid gm
  clear gw gm hm
  go_enter Try.func4, Try.ntmps4
  go_upto_region 2 with (go_at_call 11; with_reducible refine (shown_p _).mono ?_; rintro e w2 ⟨rfl, hb⟩; have H2 := H.call hb; clear H hb; have H := H2; clear H2)
  go_upto_region 3 with fail
  have G2 := Lib.hid (G.out.below H.below)
  have hsz := H.below.size
  simp only [HM.out, Int.toNat_natCast]
  go_wp2_with (first
    | (go_at_call 18; with_reducible refine (words_p s A m cap (by omega) hm1.2 f _ ((G.out.below H.below).mono H.below.size)).mono ?_; rintro e w2 ⟨rfl, hb⟩; have H2 := H.call hb; clear H hb; have H := H2; clear H2)
    | (go_at_call 19; with_reducible refine (words_r s A m cap (by omega) hm1.2 f _ ((G.out.below H.below).mono H.below.size)).mono ?_; rintro e w2 ⟨rfl, hb⟩; have H2 := H.call hb; clear H hb; have H := H2; clear H2))
  go_ret
  exact ⟨by simp, H.below⟩

theorem words_l (a : Int) (ha : 0 ≤ a ∧ a ≤ 4294967295) (A : Option Addr) (len cap : Nat) (xs : Nat → Int) (hl : len ≤ cap) (hc : cap ≤ maxLen) (w : World) (h : SliceAt w A len 1 u32C u32F xs) : Calls Try.prog 4 #[.int .u32 a, .slice A len cap] w fun e w' => e = .returned (.bool true) ∧ Below w.heap.size w w' := by
  obtain ⟨f, hf⟩ := words_of h
  exact words_lw a ha A len cap hl hc f w hf
end Go.Proofs.Ytaalnkcfoioeeaa
