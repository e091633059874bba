/-
  WheelLast, walked over the contracts of the program's functions. Conditions: the numbers fit their kinds.
-/
import Derived.Test.YtbnfjppidmiheaaWheelLC
namespace Go.Proofs.Ytbnfjppidmiheaa
set_option linter.unusedSimpArgs false
set_option linter.unusedVariables false
open Go.ChangeShapes Go.WideShapes Go.ChangeAt Go.RowKit Go.Maps

/-- how many timers a key has, and the last one's time -/
def cntK (key : Int) (l : List Tm) : Nat := l.countP (fun t => t.2 == key)
def lastK (key : Int) (l : List Tm) : Int := l.foldl (fun a t => if t.2 == key then t.1 else a) 0
theorem cnt_snoc (key : Int) (l : List Tm) (t : Tm) : cntK key (l ++ [t]) = if t.2 == key then cntK key l + 1 else cntK key l := by
  unfold cntK
  rw [List.countP_append, List.countP_cons, List.countP_nil]
  split <;> simp_all
theorem last_snoc (key : Int) (l : List Tm) (t : Tm) : lastK key (l ++ [t]) = if t.2 == key then t.1 else lastK key l := by
  unfold lastK
  rw [List.foldl_append]
  rfl
theorem last_none {key : Int} : ∀ {l : List Tm} {a : Int}, (∀ t, t ∈ l → t.2 ≠ key) → l.foldl (fun a t => if t.2 == key then t.1 else a) a = a
  | [], _, _ => rfl
  | t :: l, a, h => by
    have h1 : (t.2 == key) = false := by simpa using h t (List.mem_cons_self ..)
    rw [List.foldl_cons, h1]
    exact last_none (fun x hx => h x (List.mem_cons_of_mem _ hx))
/-- of a key that has one -/
theorem one_ins {l : List Tm} {at_ key : Int} (h : ∀ t, t ∈ l → t.2 ≠ key) : cntK key (Tm.ins (at_, key) l) = 1 ∧ lastK key (Tm.ins (at_, key) l) = at_ := by
  have ht : ∀ t, t ∈ l.takeWhile (fun x => Tm.bef x (at_, key)) → t.2 ≠ key := fun t ht => h t ((List.takeWhile_sublist _).subset ht)
  have hd : ∀ t, t ∈ l.dropWhile (fun x => Tm.bef x (at_, key)) → t.2 ≠ key := fun t ht => h t ((List.dropWhile_sublist _).subset ht)
  constructor
  · unfold cntK Tm.ins
    rw [List.countP_append, List.countP_cons, List.countP_eq_zero.2 (fun t h1 => by simpa using ht t h1), List.countP_eq_zero.2 (fun t h1 => by simpa using hd t h1)]
    simp
  · unfold lastK Tm.ins
    rw [List.foldl_append, List.foldl_cons, last_none ht]
    simp only [BEq.rfl, if_true]
    exact last_none hd
theorem set_len (s : WS) (a k : Int) : (s.set a k).l.length ≤ s.l.length + 1 := by
  unfold WS.set
  split
  · show (Tm.ins _ _).length ≤ _
    rw [Tm.ins_length]
    have h1 := List.length_filter_le (fun t : Tm => decide (t.2 ≠ k)) s.l
    have h2 : (Tm.wo s.l k).length ≤ s.l.length := h1
    omega
  · omega
theorem sets_len (xs : Nat → Int × Int × Int) : ∀ k, (sets xs k).l.length ≤ k
  | 0 => by simp [sets]
  | k + 1 => by
    have h1 := set_len (sets xs k) (xs k).2.1 (xs k).2.2
    have h2 := sets_len xs k
    show ((sets xs k).set _ _).l.length ≤ _
    omega
theorem setE_few {s : WS} (h : s.l.length < 1000) (a k : Int) : s.setE a k = if 9223372036854775807 < a then 50 else 0 := by
  unfold WS.setE
  have h1 := List.length_filter_le (fun t : Tm => decide (t.2 ≠ k)) s.l
  have h2 : (Tm.wo s.l k).length ≤ s.l.length := h1
  rw [if_neg (show ¬ 1000 ≤ (Tm.wo s.l k).length by omega)]
theorem SlT.cell {W : World} {n : Nat} {A : Option Addr} {len cap : Nat} {l : List Tm} (h : SlT W n (.slice A len cap) l) : len = l.length ∧ len ≤ cap ∧ cap ≤ maxLen ∧ ∃ b o, (0 < len → A = some ⟨b, o, none⟩ ∧ b < n) ∧ Tms W b o l := by
  obtain ⟨A', b, o, cap', h1, h2, h3, h4, h5⟩ := h
  cases h1
  refine ⟨rfl, h2, h3, b, o, fun hp => ?_, h5⟩
  rcases h4 with ⟨_, h4⟩ | h4
  · omega
  · exact h4
set_option maxRecDepth 100000 in
set_option maxHeartbeats 4000000 in
theorem last_w (A : Option Addr) (len cap : Nat) (xs : Nat → Int × Int × Int) (hl : len ≤ cap) (hc : cap ≤ maxLen) (key a0 b0 : Int) (hkey : (Lit.int .i64 key).wf = true) (ha : 0 ≤ a0 ∧ a0 ≤ 18446744073709551615) (hb : 0 ≤ b0 ∧ b0 ≤ 18446744073709551615) (w : World) (hX : SliceAt w A len 3 actC actF xs) :
    Calls Try.prog 7 #[.slice A len cap, .int .i64 key, .int .u64 a0, .int .u64 b0] w fun e w' => e = .returned (.bool true) ∧ Below w.heap.size w w' := by
  obtain ⟨b, o, hA, hXs⟩ := acts_in hX
  have HA := Lib.hid (And.intro hA hXs)
  clear hA hXs hX
  have hfew := sets_len xs (min len 60)
  obtain ⟨s, hs⟩ : ∃ s, sets xs (min len 60) = s := ⟨_, rfl⟩
  rw [hs] at hfew
  have hf60 : s.l.length ≤ 60 := by omega
  clear hfew
  go_enter Try.func7, Try.ntmps7
  go_upto_region 2 with (go_at_call 10; refine (shown_p _).mono ?_; rintro e w1 ⟨rfl, hB1⟩)
  go_upto_region 3 with (go_at_call 22; refine (lset_p A b o len cap xs hl hc _ HA.out.1 (fun h => (HA.out.2 h).below hB1)).mono ?_; rintro e w2 ⟨p, m, rfl, hp, hm, hW, hok, hB2⟩)
  rw [hs] at hW hok
  clear hs HA
  have hB02 : Below w.heap.size w w2 := hB1.trans (hB2.mono hB1.size)
  have hs1 := hB1.size
  go_upto_region 4 with (go_at_call 12; refine (set_p _ p m s hW hok a0 key ha hkey).mono ?_; rintro e w3 ⟨rfl, hW3, hF3⟩)
  have hok1 := WS.set_ok hok (at_ := a0) (key := key) ha.1
  have hl1 := set_len s a0 key
  have hE1 := setE_few (s := s) (by omega) a0 key
  have hB03 : Below w.heap.size w w3 := Foot.after hB02 hF3 (pm_old (by omega) (by omega))
  obtain ⟨E1, hE1e⟩ : ∃ x, s.setE a0 key = x := ⟨_, rfl⟩
  rw [hE1e] at hE1 ⊢
  have HE1 := Lib.hid hE1
  obtain ⟨s1, hs1e⟩ : ∃ x, s.set a0 key = x := ⟨_, rfl⟩
  rw [hs1e] at hW3 hok1 hl1
  clear hW hok hE1 hE1e hB02 hF3
  go_upto_region 5 with (go_at_call 12; refine (set_p _ p m s1 hW3 hok1 b0 key hb hkey).mono ?_; rintro e w4 ⟨rfl, hW4, hF4⟩)
  have hok2 := WS.set_ok hok1 (at_ := b0) (key := key) hb.1
  have hl2 := set_len s1 b0 key
  have hE2 := setE_few (s := s1) (by omega) b0 key
  have hB04 : Below w.heap.size w w4 := Foot.after hB03 hF4 (pm_old (by omega) (by omega))
  have hS2 := fun h0 => WS.set_yes (s := s1) (at_ := b0) (key := key) h0
  obtain ⟨E2, hE2e⟩ : ∃ x, s1.setE b0 key = x := ⟨_, rfl⟩
  rw [hE2e] at hE2 hS2 ⊢
  have HE2 := Lib.hid hE2
  obtain ⟨s2, hs2e⟩ : ∃ x, s1.set b0 key = x := ⟨_, rfl⟩
  rw [hs2e] at hW4 hok2 hl2 hS2
  have HS2 := Lib.hid hS2
  clear hW3 hok1 hE2 hE2e hB03 hF4 hS2
  go_upto_region 8 with (go_at_call 21; refine (all_p _ p m s2 hW4 hok2).mono ?_; rintro e w5 ⟨v5, rfl, hR5, hB5⟩)
  have hW5 := hW4.call hB5
  have hB05 : Below w.heap.size w w5 := hB04.trans (hB5.mono hB04.size)
  have hs4 := hB04.size
  have hs5 := hB5.size
  have hSl := SlT.of_row (l := s2.l) hR5
  obtain ⟨a5, c5, rfl⟩ := ownsRow_len hR5
  obtain ⟨-, hcl, hcm, bb, oo, hAA, hT⟩ := hSl.cell
  obtain ⟨n, hn⟩ : ∃ n, s2.l.length = n := ⟨_, rfl⟩
  have HN := Lib.hid hn
  have HT := Lib.hid (And.intro hT hAA)
  rw [hn] at hcl ⊢
  have hn61 : n ≤ 62 := by omega
  unfold maxLen at hcm
  clear hn hT hSl hR5 hAA hW4 hl2 hl1
  go_wp2
  go_loopw [13, 14, 16] (fun nv av iv wr => ∃ k : Nat, k ≤ n ∧ iv = .int .i64 k ∧ nv = .int .i64 (cntK key (s2.l.take k)) ∧ av = .int .u64 (lastK key (s2.l.take k)) ∧ wr = w5) (fun _ _ iv _ => n - (intOf iv).toNat)
  case atStart => exact ⟨0, Nat.zero_le _, rfl, rfl, rfl, rfl⟩
  case round =>
    obtain ⟨k, hk, rfl, rfl, rfl, rfl⟩ := hrel
    by_cases hlt : k < n
    · obtain ⟨t, htt⟩ : ∃ t, s2.l[k]? = some t := ⟨s2.l[k]'(by rw [HN.out]; exact hlt), List.getElem?_eq_getElem _⟩
      obtain ⟨hT, hAA⟩ := HT.out
      obtain ⟨rfl, hbb⟩ := hAA (by rw [HN.out]; omega)
      obtain ⟨x0, x1⟩ := hT.cell k t htt
      have htk : s2.l.take (k + 1) = s2.l.take k ++ [t] := by rw [List.take_add_one, htt]; rfl
      have hc1 := cnt_snoc key (s2.l.take k) t
      have hc2 := last_snoc key (s2.l.take k) t
      rw [← htk] at hc1 hc2
      have hcb : cntK key (s2.l.take k) ≤ k := by
        have h1 := List.countP_le_length (p := fun t : Tm => t.2 == key) (l := s2.l.take k)
        have h2 := List.length_take_le k s2.l
        have h3 : cntK key (s2.l.take k) ≤ (s2.l.take k).length := h1
        omega
      have e1 : decide ((k : Int) < n) = true := decide_eq_true (by omega)
      by_cases hke : t.2 = key
      · have e2 : (t.2 == key) = true := by simpa using hke
        rw [e2] at hc1 hc2
        simp only [if_true] at hc1 hc2
        have HC := Lib.hid (And.intro hc1 hc2)
        clear hc1 hc2 htk htt hT hAA
        generalize cntK key (s2.l.take k) = cc at *
        go_wp2
        go_roundw
        case rel => exact ⟨k + 1, by omega, by go_num, by rw [HC.out.1]; go_num, by rw [HC.out.2], by first | rfl | trivial⟩
        case measure => simp [intOf]; omega
      · have e2 : (t.2 == key) = false := by simpa using hke
        rw [e2] at hc1 hc2
        simp only [Bool.false_eq_true, if_false] at hc1 hc2
        have HC := Lib.hid (And.intro hc1 hc2)
        clear hc1 hc2 htk htt hT hAA
        generalize cntK key (s2.l.take k) = cc at *
        go_wp2
        go_roundw
        case rel => exact ⟨k + 1, by omega, by go_num, by rw [HC.out.1], by rw [HC.out.2], by first | rfl | trivial⟩
        case measure => simp [intOf]; omega
    · obtain rfl : k = n := by omega
      have htl : s2.l.take k = s2.l := List.take_of_length_le (by rw [HN.out]; omega)
      rw [htl]
      have e1 : decide ((k : Int) < k) = false := decide_eq_false (by omega)
      clear hlt
      by_cases ha9 : 9223372036854775807 < a0
      · have e2 : decide (9223372036854775807 < a0) = true := decide_eq_true ha9
        obtain rfl : E1 = 50 := by rw [HE1.out, if_pos ha9]
        go_wp2
        go_ret
        exact ⟨rfl, hB05⟩
      have e2 : decide (9223372036854775807 < a0) = false := decide_eq_false ha9
      obtain rfl : E1 = 0 := by rw [HE1.out, if_neg ha9]
      by_cases hb9 : 9223372036854775807 < b0
      · have e3 : decide (9223372036854775807 < b0) = true := decide_eq_true hb9
        obtain rfl : E2 = 50 := by rw [HE2.out, if_pos hb9]
        go_wp2
        go_ret
        exact ⟨rfl, hB05⟩
      have e3 : decide (9223372036854775807 < b0) = false := decide_eq_false hb9
      obtain rfl : E2 = 0 := by rw [HE2.out, if_neg hb9]
      have hS2 := HS2.out rfl
      have hl2 : s2.l = Tm.ins (b0, key) (Tm.wo s1.l key) := by rw [hS2]
      obtain ⟨o1, o2⟩ := one_ins (l := Tm.wo s1.l key) (at_ := b0) (key := key) (fun t ht => (Tm.mem_wo.1 ht).2)
      rw [← hl2] at o1 o2
      rw [o1, o2]
      have hmem : (b0, key) ∈ s2.l := by rw [hl2]; exact Tm.mem_ins.2 (.inl rfl)
      have hw1 := WS.wo_length hok2 hmem
      simp only at hw1
      have q1 : s2.cancelB key = true := decide_eq_true (by omega)
      have hok3 := WS.cancel_ok hok2 key
      have q3 : (s2.cancel key).l = Tm.wo s2.l key := rfl
      have q4 : Tm.wo (Tm.wo s2.l key) key = Tm.wo s2.l key := wo_same (by rw [any_wo]; simp)
      have q2 : (s2.cancel key).cancelB key = false := decide_eq_false (by rw [q3, q4]; omega)
      have hok4 := WS.cancel_ok hok3 key
      have q5 : ((s2.cancel key).cancel key).l.length + 1 = k := by
        show (Tm.wo (Tm.wo s2.l key) key).length + 1 = k
        rw [q4, hw1, HN.out]
      have hk1 : 1 ≤ k := by omega
      obtain ⟨s3, hs3⟩ : ∃ x, s2.cancel key = x := ⟨_, rfl⟩
      have hcan1 := cancel_p _ p m s2 hW5 hok2 key hkey
      rw [q1, hs3] at hcan1
      rw [hs3] at hok3 q2 hok4 q5
      obtain ⟨s4, hs4⟩ : ∃ x, s3.cancel key = x := ⟨_, rfl⟩
      rw [hs4] at hok4 q5
      have HQ := Lib.hid (And.intro q2 (And.intro hs4 q5))
      clear hl2 o1 o2 hmem hw1 q1 q2 q3 q4 q5 hs3 hs4 HS2 hS2
      go_wp2_with (first
        | (go_at_call 14; refine hcan1.mono ?_; rintro e w6 ⟨rfl, hW6, hF6⟩; have hcan2 := cancel_p _ p m s3 hW6 hok3 key hkey; rw [HQ.out.1, HQ.out.2.1] at hcan2; clear hcan1)
        | (go_at_call 14; refine hcan2.mono ?_; rintro e w7 ⟨rfl, hW7, hF7⟩; clear hcan2)
        | (go_at_call 21; refine (all_p _ p m s4 hW7 hok4).mono ?_; rintro e w8 ⟨v8, rfl, hR8, hB8⟩; obtain ⟨a8, c8, rfl⟩ := ownsRow_len hR8))
      go_ret
      have hz := HQ.out.2.2
      refine ⟨?_, ?_⟩
      · congr 2
        simp
        omega
      · have hB06 : Below w.heap.size w w6 := Foot.after hB05 hF6 (pm_old (by omega) (by omega))
        have hB07 : Below w.heap.size w w7 := Foot.after hB06 hF7 (pm_old (by omega) (by omega))
        exact hB07.trans (hB8.mono hB07.size)
end Go.Proofs.Ytbnfjppidmiheaa
