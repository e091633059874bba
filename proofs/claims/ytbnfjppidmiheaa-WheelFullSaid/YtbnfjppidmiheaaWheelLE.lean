/-
  WheelFull, WheelOrder, walked over the contracts of the program's functions. Conditions: the numbers fit their kinds.
-/
import Derived.Test.YtbnfjppidmiheaaWheelLD
namespace Go.Proofs.Ytbnfjppidmiheaa
set_option linter.unusedSimpArgs false
set_option linter.unusedVariables false
open Go.ChangeShapes Go.WideShapes Go.ChangeAt Go.RowKit Go.Maps

/-- so many timers of keys from 0 on -/
structure Full (s : WS) (k : Nat) : Prop where
  ok : s.Ok
  len : s.l.length = min k 1000
  keys : ∀ t, t ∈ s.l → 0 ≤ t.2 ∧ t.2 < k
  first : 0 < k → ∃ t, t ∈ s.l ∧ t.2 = 0
theorem full_0 : Full ⟨[], 0⟩ 0 := ⟨ok0, rfl, (fun _ h => by cases h), (fun h => by omega)⟩
theorem full_wo {s : WS} {k : Nat} (h : Full s k) : (Tm.wo s.l k).length = min k 1000 := by
  rw [wo_same ?_, h.len]
  rw [List.any_eq_false]
  intro t ht e
  have := h.keys t ht
  have e' : t.2 = (k : Int) := by simpa using e
  omega
theorem full_E {s : WS} {k : Nat} (h : Full s k) {at_ : Int} (ha : at_ ≤ 6) : s.setE at_ k = if 1000 ≤ k then 100 else 0 := by
  unfold WS.setE
  rw [if_neg (show ¬ 9223372036854775807 < at_ by omega), full_wo h]
  by_cases hk : 1000 ≤ k
  · rw [if_pos (by omega), if_pos hk]
  · rw [if_neg (by omega), if_neg hk]
theorem full_step {s : WS} {k : Nat} (h : Full s k) {at_ : Int} (ha : 0 ≤ at_ ∧ at_ ≤ 6) : Full (s.set at_ k) (k + 1) := by
  have hE := full_E h ha.2
  by_cases hk : 1000 ≤ k
  · rw [if_pos hk] at hE
    rw [WS.set_no (by rw [hE]; decide)]
    exact ⟨h.ok, by rw [h.len]; omega, fun t ht => by have := h.keys t ht; omega, fun _ => h.first (by omega)⟩
  · rw [if_neg hk] at hE
    have hS := WS.set_yes hE
    refine ⟨WS.set_ok h.ok ha.1, ?_, fun t ht => ?_, fun _ => ?_⟩
    · rw [hS]
      show (Tm.ins _ _).length = _
      rw [Tm.ins_length, full_wo h]
      omega
    · rw [hS] at ht
      rcases Tm.mem_ins.1 ht with rfl | ht
      · simp only
        omega
      · have := h.keys t (Tm.mem_wo.1 ht).1
        omega
    · by_cases h0 : k = 0
      · subst h0
        exact ⟨(at_, 0), by rw [hS]; exact Tm.mem_ins.2 (.inl rfl), rfl⟩
      · obtain ⟨t, ht, e⟩ := h.first (by omega)
        exact ⟨t, by rw [hS]; exact Tm.mem_ins.2 (.inr (Tm.mem_wo.2 ⟨ht, by rw [e]; omega⟩)), e⟩
/-- a key that has one may have another one -/
theorem full_again {s : WS} {k : Nat} (h : Full s k) (hk : 0 < k) : s.setE 3 0 = 0 ∧ (s.set 3 0).l.length = min k 1000 := by
  obtain ⟨t, ht, e⟩ := h.first hk
  have hw := WS.wo_length h.ok ht
  rw [e] at hw
  have hlen := h.len
  have hE : s.setE 3 0 = 0 := by
    unfold WS.setE
    rw [if_neg (show ¬ (9223372036854775807 : Int) < 3 by omega), if_neg (by omega)]
  refine ⟨hE, ?_⟩
  rw [WS.set_yes hE]
  show (Tm.ins _ _).length = _
  rw [Tm.ins_length]
  omega
set_option maxRecDepth 100000 in
set_option maxHeartbeats 4000000 in
theorem full_w (n : Int) (hn : -9223372036854775808 ≤ n ∧ n ≤ 9223372036854775807) (w : World) : Calls Try.prog 8 #[.int .i64 n] w fun e w' => e = .returned (.bool true) ∧ Below w.heap.size w w' := by
  by_cases h1 : n < 990
  · have e1 : decide (n < 990) = true := decide_eq_true h1
    go_enter Try.func8, Try.ntmps8
    go_wp2_with (go_at_call 10; refine (shown_p _).mono ?_; rintro e w1 ⟨rfl, hB1⟩)
    go_ret
    exact ⟨rfl, hB1⟩
  have e1 : decide (n < 990) = false := decide_eq_false h1
  by_cases h2 : 1010 < n
  · have e2 : decide (1010 < n) = true := decide_eq_true h2
    go_enter Try.func8, Try.ntmps8
    go_wp2_with (go_at_call 10; refine (shown_p _).mono ?_; rintro e w1 ⟨rfl, hB1⟩)
    go_ret
    exact ⟨rfl, hB1⟩
  have e2 : decide (1010 < n) = false := decide_eq_false h2
  obtain ⟨N, rfl⟩ : ∃ N : Nat, n = N := ⟨n.toNat, by omega⟩
  have hN1 : 990 ≤ N := by omega
  have hN2 : N ≤ 1010 := by omega
  clear hn h1 h2
  go_enter Try.func8, Try.ntmps8
  go_upto_region 2 with (go_at_call 10; refine (shown_p _).mono ?_; rintro e w1 ⟨rfl, hB1⟩)
  go_upto_region 5 with (go_at_call 11; refine (new_p 0 _).mono ?_; rintro e w2 ⟨p, m, rfl, hp, hm, hW, hB2⟩)
  have hB02 : Below w.heap.size w w2 := hB1.trans (hB2.mono hB1.size)
  have hs1 := hB1.size
  clear hB2
  go_wp2
  go_loopw [5, 6] (fun lv iv wr => ∃ (k : Nat) (s : WS), k ≤ N ∧ iv = .int .i64 k ∧ lv = .int .i64 (if 1000 < k then 100 else 0) ∧ Full s k ∧ WhP wr p m s ∧ Below w.heap.size w wr) (fun _ iv _ => N - (intOf iv).toNat)
  case atStart => exact ⟨0, ⟨[], 0⟩, Nat.zero_le _, rfl, rfl, full_0, hW, hB02⟩
  case round =>
    clear hW hB02
    obtain ⟨k, s, hk, rfl, rfl, hfull, hW, hB⟩ := hrel
    by_cases hlt : k < N
    · have e3 : decide ((k : Int) < N) = true := decide_eq_true (by omega)
      obtain ⟨a, ha⟩ : ∃ a : Int, (5 * (k : Int)).tmod 7 = a := ⟨_, rfl⟩
      have hab : 0 ≤ a ∧ a ≤ 6 := by
        rw [← ha, Int.tmod_eq_emod_of_nonneg (by omega)]
        omega
      have hset := set_p wr p m s hW hfull.ok a k (by omega) (wf_key (by omega))
      have hE := full_E hfull hab.2
      have hst := full_step hfull hab
      rw [hE] at hset
      have q1 : IntKind.u64.wrap a = a := by rw [IntKind.wrap_u64]; omega
      have HF := Lib.hid (And.intro hst hB)
      clear hst hfull hE hW
      go_wp2_with (go_at_call 12; refine hset.mono ?_; rintro e w5 ⟨rfl, hW5, hF5⟩)
      have hB5 : Below w.heap.size w w5 := Foot.after HF.out.2 hF5 (pm_old (by omega) (by omega))
      go_roundw
      case rel => exact ⟨k + 1, s.set a k, by omega, by go_num, by congr 1; by_cases h9 : 1000 ≤ k <;> simp [h9] <;> omega, HF.out.1, hW5, hB5⟩
      case measure => simp [intOf]; omega
    · obtain rfl : k = N := by omega
      have e3 : decide ((k : Int) < k) = false := decide_eq_false (by omega)
      clear hlt
      obtain ⟨g1, g2⟩ := full_again hfull (by omega)
      have hset := set_p wr p m s hW hfull.ok 3 0 (by omega) (wf_key (by omega))
      have hok2 := WS.set_ok hfull.ok (at_ := 3) (key := 0) (by omega)
      rw [g1] at hset
      obtain ⟨s2, hs2⟩ : ∃ x, s.set 3 0 = x := ⟨_, rfl⟩
      rw [hs2] at hset hok2 g2
      have HG := Lib.hid g2
      clear g1 g2 hs2 hfull hW
      go_wp2_with (first
        | (go_at_call 12; refine hset.mono ?_; rintro e w5 ⟨rfl, hW5, hF5⟩; clear hset)
        | (go_at_call 21; refine (all_p _ p m s2 hW5 hok2).mono ?_; rintro e w6 ⟨v6, rfl, hR6, hB6⟩; obtain ⟨a6, c6, rfl⟩ := ownsRow_len hR6))
      all_goals
        go_ret
        have hz := HG.out
        have hB5 : Below w.heap.size w w5 := Foot.after hB hF5 (pm_old (by omega) (by omega))
        refine ⟨?_, hB5.trans (hB6.mono hB5.size)⟩
        congr 2
        simp
        omega
/-- the same timers, in whatever order they were set -/
structure OrdA (s : WS) (n : Nat) (at_ : Nat → Int) (P : Nat → Prop) (k : Nat) : Prop where
  ok : s.Ok
  len : s.l.length ≤ k
  mem : ∀ t, t ∈ s.l ↔ ∃ i : Nat, i < n ∧ P i ∧ t = (at_ i, (i : Int)) ∧ at_ i ≤ 9223372036854775807
theorem ord_0 (n : Nat) (at_ : Nat → Int) (P : Nat → Prop) (hP : ∀ i, i < n → ¬ P i) : OrdA ⟨[], 0⟩ n at_ P 0 := ⟨ok0, Nat.le_refl _, fun t => ⟨(fun h => by cases h), (fun ⟨i, h1, h2, _⟩ => absurd h2 (hP i h1))⟩⟩
theorem ord_step {s : WS} {n : Nat} {at_ : Nat → Int} {P P' : Nat → Prop} {k j : Nat} (h : OrdA s n at_ P k) (hj : j < n) (hk : k < 1000) (h0 : 0 ≤ at_ j) (hP : ∀ i, i < n → (P' i ↔ P i ∨ i = j)) : OrdA (s.set (at_ j) j) n at_ P' (k + 1) := by
  have hlen := h.len
  have hE := setE_few (s := s) (by omega) (at_ j) j
  refine ⟨WS.set_ok h.ok h0, by have := set_len s (at_ j) j; omega, fun t => ?_⟩
  by_cases hm : 9223372036854775807 < at_ j
  · rw [if_pos hm] at hE
    rw [WS.set_no (by rw [hE]; decide), h.mem]
    constructor
    · rintro ⟨i, h1, h2, h3⟩
      exact ⟨i, h1, (hP i h1).2 (.inl h2), h3⟩
    · rintro ⟨i, h1, h2, h3, h4⟩
      rcases (hP i h1).1 h2 with h5 | rfl
      · exact ⟨i, h1, h5, h3, h4⟩
      · omega
  · rw [if_neg hm] at hE
    rw [WS.set_yes hE]
    show t ∈ Tm.ins _ _ ↔ _
    rw [Tm.mem_ins, Tm.mem_wo, h.mem]
    constructor
    · rintro (rfl | ⟨⟨i, h1, h2, h3⟩, _⟩)
      · exact ⟨j, hj, (hP j hj).2 (.inr rfl), rfl, by omega⟩
      · exact ⟨i, h1, (hP i h1).2 (.inl h2), h3⟩
    · rintro ⟨i, h1, h2, h3, h4⟩
      by_cases e : i = j
      · subst e
        exact .inl h3
      · rcases (hP i h1).1 h2 with h5 | h5
        · refine .inr ⟨⟨i, h1, h5, h3, h4⟩, ?_⟩
          rw [h3]
          show (i : Int) ≠ j
          omega
        · exact absurd h5 e
theorem ord_end {s s' : WS} {n k k' : Nat} {at_ : Nat → Int} {P P' : Nat → Prop} (h : OrdA s n at_ P k) (h' : OrdA s' n at_ P' k') (hP : ∀ i, i < n → (P i ↔ P' i)) : s.l = s'.l := by
  refine Tm.srt_ext h.ok.srt h'.ok.srt fun t => ?_
  rw [h.mem, h'.mem]
  constructor
  · rintro ⟨i, h1, h2, h3⟩
    exact ⟨i, h1, (hP i h1).1 h2, h3⟩
  · rintro ⟨i, h1, h2, h3⟩
    exact ⟨i, h1, (hP i h1).2 h2, h3⟩
set_option maxRecDepth 100000 in
set_option maxHeartbeats 4000000 in
theorem order_w (A : Option Addr) (len cap : Nat) (xs : Nat → Int × Int × Int) (hl : len ≤ cap) (hc : cap ≤ maxLen) (w : World) (hX : SliceAt w A len 3 actC actF xs) :
    Calls Try.prog 9 #[.slice A len cap] w fun e w' => e = .returned (.bool true) ∧ Below w.heap.size w w' := by
  obtain ⟨b, o, hA, hXs⟩ := acts_in hX
  have HA := Lib.hid (And.intro hA hXs)
  clear hA hXs hX
  unfold maxLen at hc
  go_enter Try.func9, Try.ntmps9
  go_upto_region 2 with (go_at_call 10; refine (shown_p _).mono ?_; rintro e w1 ⟨rfl, hB1⟩)
  go_upto_region 3 with (fail)
  obtain ⟨n, hn⟩ : ∃ n : Nat, (if (60 : Int) < len then 60 else (len : Int)) = n := ⟨min len 60, by split <;> omega⟩
  have hn60 : n ≤ 60 ∧ n ≤ len := by split at hn <;> omega
  rw [hn, Int.toNat_natCast]
  clear hn
  have hs1 := hB1.size
  go_upto_region 4 with (go_at_call 11; refine (new_p 0 _).mono ?_; rintro e w2 ⟨p, m, rfl, hp, hm, hW, hB2⟩)
  have hB02 : Below w.heap.size w w2 := hB1.trans (hB2.mono hB1.size)
  have hs2 := hB2.size
  have lp := hW.lt
  have lm := hW.ltm
  go_upto_region 5 with (go_at_call 11; refine (new_p 0 _).mono ?_; rintro e w3 ⟨q, r, rfl, hq, hr, hV, hB3⟩)
  have hB03 : Below w.heap.size w w3 := hB02.trans (hB3.mono hB02.size)
  have hW3 := hW.call hB3
  have hs3 := hB3.size
  clear hW hB02 hB2 hB3
  go_wp2
  go_loopw [6] (fun iv wr => ∃ (k : Nat) (sa sb : WS), k ≤ n ∧ iv = .int .i64 k ∧ OrdA sa n (fun i => (xs i).2.1) (fun i => i < k) k ∧ OrdA sb n (fun i => (xs i).2.1) (fun i => n - k ≤ i) k ∧ WhP wr p m sa ∧ WhP wr q r sb ∧ Below w.heap.size w wr) (fun iv _ => n - (intOf iv).toNat)
  case atStart => exact ⟨0, _, _, Nat.zero_le _, rfl, ord_0 n _ _ (fun i hi => by omega), ord_0 n _ _ (fun i hi => by omega), hW3, hV, hB03⟩
  case round =>
    clear hW3 hV hB03
    obtain ⟨k, sa, sb, hk, rfl, hoa, hob, hW, hV, hB⟩ := hrel
    by_cases hlt : k < n
    · have e3 : decide ((k : Int) < n) = true := decide_eq_true (by omega)
      obtain ⟨hA, hXs⟩ := HA.out
      obtain rfl := hA (by omega)
      have hlb0 := (hXs (by omega)).lt
      have hX1 := (hXs (by omega)).below hB
      obtain ⟨j, hj⟩ : ∃ j : Nat, n = j + 1 + k := ⟨n - 1 - k, by omega⟩
      have hjn : (n : Int) - 1 - k = j := by omega
      have hjn2 : j < n := by omega
      obtain ⟨-, x1, -⟩ := hX1.cell k (by omega)
      obtain ⟨-, y1, -⟩ := hX1.cell j (by omega)
      have hlb := hX1.lt
      have ha := bd_u64 (hX1.fits k (by omega)).2.1
      have hb' := bd_u64 (hX1.fits j (by omega)).2.1
      have hsa := set_p wr p m sa hW hoa.ok (xs k).2.1 k ha (wf_key (by omega))
      have oa := ord_step (P' := fun i => i < k + 1) hoa (j := k) hlt (by omega) ha.1 (fun i hi => by omega)
      have ob := ord_step (P' := fun i => n - (k + 1) ≤ i) hob (j := j) (by omega) (by omega) hb'.1 (fun i hi => by omega)
      have hszB := hB.size
      have HO := Lib.hid (And.intro oa (And.intro ob (And.intro hB (And.intro hV hob.ok))))
      clear hA hXs hX1 hoa hob oa ob hW hV hB
      have HJ := Lib.hid hj
      clear hj
      obtain ⟨at1, hat1⟩ : ∃ x, (xs k).2.1 = x := ⟨_, rfl⟩
      obtain ⟨at2, hat2⟩ : ∃ x, (xs j).2.1 = x := ⟨_, rfl⟩
      rw [hat1] at hsa x1
      rw [hat2] at y1 hb'
      go_upto_region 9 with (go_at_call 12; refine hsa.mono ?_; rintro e w5 ⟨rfl, hW5, hF5⟩)
      obtain ⟨oa, ob, hB, hV, hobk⟩ := HO.out
      have hV5 := hV.foot2 hF5 (by omega) (by omega) (by omega) (by omega)
      have hB5 : Below w.heap.size w w5 := Foot.after hB hF5 (pm_old (by omega) (by omega))
      have hsb := set_p w5 q r sb hV5 hobk at2 j hb' (wf_key (by omega))
      have y5 : w5.cell? ⟨b, o + j * 3 + 1, none⟩ = some (.int .u64 at2) := (World.cell?_of_block (hF5.block b hlb (fun e => by rcases e with e | e <;> omega))).trans y1
      clear oa ob hB hV hobk hV5 hsa y1 x1
      go_wp2_with (go_at_call 12; with_reducible refine hsb.mono ?_; rintro e w6 ⟨rfl, hV6, hF6⟩)
      have hW6 := hW5.foot2 hF6 (by omega) (by omega) (by omega) (by omega)
      have hB6 : Below w.heap.size w w6 := Foot.after hB5 hF6 (pm_old (by omega) (by omega))
      refine ⟨⟨k + 1, sa.set at1 k, sb.set at2 j, by omega, by go_num, ?_, ?_, hW6, hV6, hB6⟩, by simp [intOf]; omega⟩
      · have h9 := HO.out.1
        simp only [hat1] at h9
        exact h9
      · have h9 := HO.out.2.1
        simp only [hat2] at h9
        exact h9
    · obtain rfl : k = n := by omega
      have e3 : decide ((k : Int) < k) = false := decide_eq_false (by omega)
      clear hlt
      have hEq := ord_end hoa hob (fun i hi => by omega)
      have oka := hoa.ok
      have okb := hob.ok
      have HQ := Lib.hid (And.intro hEq hB)
      clear hEq hoa hob hB HA
      go_wp2_with (first
        | (go_at_call 21; refine (all_p _ p m sa hW oka).mono ?_; rintro e w11 ⟨v11, rfl, hR11, hB11⟩; have hV11 := hV.call hB11; have hs11 := hB11.size; obtain ⟨a11, c11, rfl⟩ := ownsRow_len hR11; clear hW)
        | (go_at_call 21; refine (all_p _ q r sb hV11 okb).mono ?_; rintro e w12 ⟨v12, rfl, hR12, hB12⟩; have hs12 := hB12.size; have hR11' := row_call hR11 hB12; obtain ⟨a12, c12, rfl⟩ := ownsRow_len hR12)
        | (go_at_call 18; refine (same_r _ w12.heap.size w12.heap.size _ _ sa.l sb.l (SlT.of_row hR11') (SlT.of_row hR12) (Nat.le_refl _) (Nat.le_refl _)).mono ?_; rintro e w13 ⟨rfl, hB13⟩; rw [decide_eq_true HQ.out.1]))
      go_ret
      have hB := HQ.out.2
      exact ⟨rfl, ((hB.trans (hB11.mono hB.size)).trans (hB12.mono (by have := hB.size; omega))).trans (hB13.mono (by have := hB.size; omega))⟩
end Go.Proofs.Ytbnfjppidmiheaa
