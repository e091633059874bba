/-
  WheelOnce, walked over the contracts of the program's functions. Conditions: the numbers fit their kinds.
-/
import Derived.Test.YtbnfjppidmiheaaWheelLD
namespace Go.Proofs.Ytbnfjppidmiheaa
set_option linter.unusedSimpArgs false
set_option linter.unusedVariables false
open Go.ChangeShapes Go.WideShapes Go.ChangeAt Go.RowKit Go.Maps

theorem below_quiet {n : Nat} {W w : World} (h : Below n W w) (k : Nat) : Below n W (w.drewN k) := ⟨h.os, h.tape, h.output, h.size, h.block⟩
set_option maxRecDepth 100000 in
set_option maxHeartbeats 4000000 in
theorem once_w (A : Option Addr) (len cap : Nat) (xs : Nat → Int × Int × Int) (hl : len ≤ cap) (hc : cap ≤ maxLen) (now : Int) (hn : 0 ≤ now ∧ now ≤ 18446744073709551615) (w : World) (hX : SliceAt w A len 3 actC actF xs) :
    Calls Try.prog 6 #[.slice A len cap, .int .u64 now] w fun e w' => e = .returned (.bool true) ∧ Below w.heap.size w w' := by
  obtain ⟨b, o, hA, hXs⟩ := acts_in hX
  have HA := Lib.hid (And.intro hA hXs)
  clear hA hXs hX
  have hck := sets_clk xs (min len 60)
  obtain ⟨s, hs⟩ : ∃ s, sets xs (min len 60) = s := ⟨_, rfl⟩
  rw [hs] at hck
  go_enter Try.func6, Try.ntmps6
  go_upto_region 2 with (go_at_call 10; refine (shown_p _).mono ?_; rintro e w1 ⟨rfl, hB1⟩)
  go_upto_region 3 with (go_at_call 22; refine (lset_p A b o len cap xs hl hc _ HA.out.1 (fun h => (HA.out.2 h).below hB1)).mono ?_; rintro e w2 ⟨p, m, rfl, hp, hm, hW, hok, hB2⟩)
  rw [hs] at hW hok
  have hlen := hok.len
  clear hs HA
  have hB02 : Below w.heap.size w w2 := hB1.trans (hB2.mono hB1.size)
  have hs1 := hB1.size
  have hs2 := hB2.size
  clear hB2
  go_upto_region 4 with (go_at_call 21; refine (all_p _ p m s hW hok).mono ?_; rintro e w3 ⟨v3, rfl, hR3, hB3⟩; obtain ⟨a3, c3, rfl⟩ := ownsRow_len hR3)
  have hW3 := hW.call hB3
  have hB03 : Below w.heap.size w w3 := hB02.trans (hB3.mono hB02.size)
  have hs3 := hB3.size
  have lp := hW3.lt
  have lm := hW3.ltm
  clear hW hR3 hB02 hB3
  have hok1 := WS.turn_ok hok hn.1
  go_upto_region 5 with (go_at_call 16; refine (turn_p _ p m s hW3 hok now hn.1).mono ?_; rintro e w4 ⟨v4, rfl, hR4, hW4, hF4⟩)
  have hB04 : Below w.heap.size w w4 := Foot.after hB03 hF4 (pm_old (by omega) (by omega))
  have hs4 := hF4.size
  clear hW3 hB03 hF4
  have hok2 := WS.turn_ok hok1 hn.1
  go_upto_region 6 with (go_at_call 16; refine (turn_p _ p m _ hW4 hok1 now hn.1).mono ?_; rintro e w5 ⟨v5, rfl, hR5, hW5, hF5⟩)
  have hB05 : Below w.heap.size w w5 := Foot.after hB04 hF5 (pm_old (by omega) (by omega))
  have hs5 := hF5.size
  have hR45 := row_foot hR4 hF5 (by omega) (by omega)
  clear hW4 hB04 hF5 hR4
  by_cases hmax : 9223372036854775807 < now
  · have q1 : s.turnE now = 50 := if_pos (.inr hmax)
    have t1 : s.turn now = s := if_neg (by rw [q1]; decide)
    rw [t1] at hR5 hW5 hok2 ⊢
    rw [t1] at hW5
    rw [q1]
    obtain ⟨a4, c4, rfl⟩ := ownsRow_len hR45
    obtain ⟨a5, c5, rfl⟩ := ownsRow_len hR5
    clear hR45 hR5 t1 q1 hok1 hok2
    go_wp2_with (go_at_call 21; refine (all_p _ p m s hW5 hok).mono ?_; rintro e w6 ⟨v6, rfl, hR6, hB6⟩; obtain ⟨a6, c6, rfl⟩ := ownsRow_len hR6)
    go_ret
    exact ⟨by simp, hB05.trans (hB6.mono hB05.size)⟩
  · have q1 : s.turnE now = 0 := if_neg (by rw [hck]; omega)
    have t1 : s.turn now = ⟨Tm.later s.l now, now⟩ := if_pos q1
    have t2 : s.turned now = Tm.due s.l now := if_pos q1
    have q2 : (s.turn now).turnE now = 0 := by rw [t1]; exact if_neg (by show ¬ (now < now ∨ _); omega)
    have hnone := Tm.due_none (l := Tm.later s.l now) (now := now) (fun t ht => (Tm.mem_later hok.srt t ht).2)
    have t3 : (s.turn now).turned now = [] := by
      have : (s.turn now).turned now = Tm.due (s.turn now).l now := if_pos q2
      rw [this, t1]
      exact hnone.1
    have t4 : (s.turn now).turn now = ⟨Tm.later s.l now, now⟩ := by
      have : (s.turn now).turn now = ⟨Tm.later (s.turn now).l now, now⟩ := if_pos q2
      rw [this, t1]
      show WS.mk (Tm.later (Tm.later s.l now) now) now = _
      rw [hnone.2]
    have hdl := Tm.due_length s.l now
    have hdue := fun t ht => Tm.mem_due (l := s.l) (now := now) (t := t) ht
    have hlat := fun t ht => Tm.mem_later (now := now) hok.srt t ht
    have hsrt := Tm.due_srt hok.srt now
    rw [t4] at hW5 hok2
    rw [t3] at hR5
    rw [t2] at hR45
    rw [q1, q2]
    obtain ⟨l1, hl1⟩ : ∃ x, Tm.due s.l now = x := ⟨_, rfl⟩
    obtain ⟨l2, hl2⟩ : ∃ x, Tm.later s.l now = x := ⟨_, rfl⟩
    rw [hl1] at hR45 hdl hdue hsrt
    rw [hl2] at hW5 hok2 hdl hlat
    have hSx := SlT.of_row (l := l1) hR45
    obtain ⟨a4, c4, rfl⟩ := ownsRow_len hR45
    obtain ⟨a5, c5, rfl⟩ := ownsRow_len hR5
    obtain ⟨k1, hk1⟩ : ∃ x, l1.length = x := ⟨_, rfl⟩
    obtain ⟨N, hN⟩ : ∃ x, s.l.length = x := ⟨_, rfl⟩
    rw [hN] at hdl hlen ⊢
    rw [hk1] at hSx hdl ⊢
    have HD := Lib.hid (And.intro hdue (And.intro hlat (And.intro hsrt (And.intro hk1 hdl))))
    have hk1N : k1 ≤ 1000 := by omega
    clear hR45 hR5 t1 t2 t3 t4 q1 q2 hnone hdue hlat hsrt hl1 hl2 hk1 hok hok1 hck hN hdl
    have hSx5 : SlT w5 w5.heap.size (Value.slice a4 k1 c4) l1 := hSx
    clear hSx
    go_upto_region 9 with (go_at_call 21; refine (all_p _ p m _ hW5 hok2).mono ?_; rintro e w6 ⟨v6, rfl, hR6, hB6⟩)
    have hS6 := SlT.of_row (l := l2) hR6
    have hSx6 := hSx5.below hB6 (Nat.le_refl _)
    have hB06 : Below w.heap.size w w6 := hB05.trans (hB6.mono hB05.size)
    have hs6 := hB6.size
    obtain ⟨a6, c6, rfl⟩ := ownsRow_len hR6
    obtain ⟨-, hcl, hcm, bb, oo, hAA, hT⟩ := hSx6.cell
    obtain ⟨-, hcl2, hcm2, bc, oc, hAC, hTC⟩ := hS6.cell
    obtain ⟨k2, hk2⟩ : ∃ x, l2.length = x := ⟨_, rfl⟩
    have hk2' : l2.length = k2 := hk2
    rw [hk2] at hcl2 ⊢
    have hk2N : k2 ≤ 1000 := by have := HD.out.2.2.2.2; omega
    have HT := Lib.hid (And.intro hT (And.intro hAA (And.intro hTC (And.intro hAC hk2))))
    unfold maxLen at hcm hcm2
    clear hT hAA hTC hAC hSx5 hSx6 hS6 hR6 hW5 hB05 hB6 hk2 hk2'
    go_wp2
    go_loopw [13] (fun iv wr => ∃ k : Nat, k ≤ k1 ∧ iv = .int .i64 k ∧ Below w6.heap.size w6 wr) (fun iv _ => k1 - (intOf iv).toNat)
    case atStart => exact ⟨0, Nat.zero_le _, rfl, Below.refl _ _⟩
    case round =>
      obtain ⟨k, hk, rfl, hBr⟩ := hrel
      by_cases hlt : k < k1
      · have e1 : decide ((k : Int) < k1) = true := decide_eq_true (by omega)
        obtain ⟨hT, hAA, -⟩ := HT.out
        obtain ⟨hdue, hlat, hsrt, hkl, hdl⟩ := HD.out
        obtain ⟨rfl, hbb⟩ := hAA (by omega)
        obtain ⟨t, htt⟩ : ∃ t, l1[k]? = some t := ⟨l1[k]'(by omega), List.getElem?_eq_getElem _⟩
        obtain ⟨x0, x1⟩ := (hT.below hBr (by omega)).cell k t htt
        have e2 : decide (now < t.1) = false := decide_eq_false (by have := (hdue t (List.mem_of_getElem? htt)).2; omega)
        by_cases hk0 : k = 0
        · subst hk0
          clear hdue hlat hsrt hkl hdl htt hT hAA
          simp only [Nat.zero_mul, Nat.add_zero] at x0 x1
          go_wp2
          go_quiet (fail)
          go_wp2
          go_roundw
          case rel => exact ⟨1, by omega, by go_num, below_quiet hBr _⟩
          case measure => simp [intOf]; omega
        · obtain ⟨j, hj⟩ : ∃ j : Nat, k = j + 1 := ⟨k - 1, by omega⟩
          obtain ⟨u, hu⟩ : ∃ t, l1[j]? = some t := ⟨l1[j]'(by omega), List.getElem?_eq_getElem _⟩
          obtain ⟨y0, y1⟩ := (hT.below hBr (by omega)).cell j u hu
          have hbef : Tm.bef u t = true := by
            have h9 := List.pairwise_iff_getElem.1 hsrt j k (by omega) (by omega) (by omega)
            obtain ⟨_, f1⟩ := List.getElem?_eq_some_iff.1 hu
            obtain ⟨_, f2⟩ := List.getElem?_eq_some_iff.1 htt
            rw [f1, f2] at h9
            exact h9
          rw [Tm.bef_iff] at hbef
          have hj1 : (k : Int) - 1 = j := by omega
          have hj2 : j < k1 := by omega
          have e3 : decide ((0 : Int) < k) = true := decide_eq_true (by omega)
          have e3b : decide (0 < k) = true := decide_eq_true (by omega)
          have e4 : decide (t.1 < u.1) = false := decide_eq_false (by omega)
          clear hdue hlat hsrt hkl hdl htt hT hAA hu hj
          by_cases hE : u.1 = t.1
          · have e5 : (u.1 == t.1) = true := by simpa using hE
            have e6 : decide (t.2 ≤ u.2) = false := decide_eq_false (by omega)
            clear hbef hE
            go_wp2
            go_quiet (fail)
            go_wp2
            go_roundw
            case rel => exact ⟨k + 1, by omega, by go_num, below_quiet hBr _⟩
            case measure => simp [intOf]; omega
          · have e5 : (u.1 == t.1) = false := by simpa using hE
            clear hbef hE
            go_wp2
            go_quiet (fail)
            go_wp2
            go_roundw
            case rel => exact ⟨k + 1, by omega, by go_num, below_quiet hBr _⟩
            case measure => simp [intOf]; omega
      · obtain rfl : k = k1 := by omega
        have e1 : decide ((k : Int) < k) = false := decide_eq_false (by omega)
        clear hlt
        have hB0 : Below w.heap.size w wr := hB06.trans (hBr.mono hB06.size)
        obtain ⟨w7, rfl⟩ : ∃ x, x = wr := ⟨_, rfl⟩
        go_wp2
        go_loopw [14] (fun iv wr => ∃ j : Nat, j ≤ k2 ∧ iv = .int .i64 j ∧ wr = w7) (fun iv _ => k2 - (intOf iv).toNat)
        case atStart => exact ⟨0, Nat.zero_le _, rfl, rfl⟩
        case round =>
          obtain ⟨j, hjk, rfl, rfl⟩ := hrel
          by_cases hlt : j < k2
          · have e2 : decide ((j : Int) < k2) = true := decide_eq_true (by omega)
            obtain ⟨-, -, hTC, hAC, hk2⟩ := HT.out
            obtain ⟨rfl, hbc⟩ := hAC (by omega)
            obtain ⟨t, htt⟩ : ∃ t, l2[j]? = some t := ⟨l2[j]'(by omega), List.getElem?_eq_getElem _⟩
            obtain ⟨x0, x1⟩ := (hTC.below hBr hbc).cell j t htt
            have e3 : decide (t.1 ≤ now) = false := decide_eq_false (by have := (HD.out.2.1 t (List.mem_of_getElem? htt)).2; omega)
            clear hTC hAC htt hk2
            go_wp2
            go_roundw
            case rel => exact ⟨j + 1, by omega, by go_num, by first | rfl | trivial⟩
            case measure => simp [intOf]; omega
          · obtain rfl : j = k2 := by omega
            have e2 : decide ((j : Int) < j) = false := decide_eq_false (by omega)
            clear hlt
            have hdl := HD.out.2.2.2.2
            have hk2 := HT.out.2.2.2.2
            have e9 : ((k : Int) + j == N) = true := by
              have : (k : Int) + j = N := by omega
              simpa using this
            clear hdl hk2
            go_wp2
            go_ret
            exact ⟨rfl, hB0⟩
end Go.Proofs.Ytbnfjppidmiheaa
