/-
  WheelParts, walked over the contracts of the program's functions. Conditions: the numbers fit their kinds.
-/
import Derived.Test.YtbnfjppidmiheaaWheelLB
namespace Go.Proofs.Ytbnfjppidmiheaa
set_option linter.unusedSimpArgs false
set_option linter.unusedVariables false
open Go.ChangeShapes Go.WideShapes Go.ChangeAt Go.RowKit Go.Maps

theorem set_clk (s : WS) (a k : Int) : (s.set a k).clk = s.clk := by
  unfold WS.set
  split <;> rfl
theorem sets_clk (xs : Nat → Int × Int × Int) : ∀ k, (sets xs k).clk = 0
  | 0 => rfl
  | k + 1 => (set_clk _ _ _).trans (sets_clk xs k)
/-- a slice of timers is appended to another one, a nil one too -/
theorem wpList_append_row {w : World} {ops : Array Oper} {rest : List Oper} {o : Oper} {a : Act} {Q : Exit → Act → World → Prop} (hgd : o.guard = none) (s x : Operand) (ho : o.op = .call { callee := .builtin .append, args := #[s, x], argTypes := #[28, 28] })
    (base base2 : Nat) (v v2 : Value) (n m : Nat) (xs : List Value) (l : List Tm) (hs : a.eval s = v) (hown : w.ownsRow base 41 2 v n xs) (hx : a.eval x = v2) (hl : l.length = m) (hrow : w.ownsRow base2 41 2 v2 m (tmCs l)) (hb : n + m ≤ 4000) (hbase : base ≤ w.heap.size)
    (hK : ∀ v' w', w'.ownsRow base 41 2 v' (n + m) (xs ++ tmCs l) → w.grownBy w' v.ownBlock → wpList Try.prog ops Q rest (a.put o.dst v') w') : wpList Try.prog ops Q (o :: rest) a w := by
  obtain ⟨i0, hi, hz0, hz1, hz2⟩ := infoTm_parts
  rcases hrow.2 with ⟨rfl, rfl⟩ | ⟨g, cap, cur, rfl, h1, h2, h3, h4, h5, h6⟩
  · obtain rfl := List.eq_nil_of_length_eq_zero hl
    refine wpList_append_own_none hgd s x 28 ho base 41 i0 2 Try.underlying28 hi v n xs hs hown hx ?_
    exact hK v w (by rw [show tmCs [] = [] from rfl, List.append_nil]; exact hown) ⟨rfl, rfl, rfl, Nat.le_refl _, fun _ _ _ => rfl⟩
  · refine wpList_append_own w hgd s x 28 ho base 41 i0 _ 2 16 Try.underlying28 hi hz0 hz1 hz2 rfl (by decide) v n xs hs hown ⟨g, 0, none⟩ m cap (tmCs l) hx (by rw [tmCs_length, hl]) (fun j u hu => ?_) (tmCs_one l) (by simp [maxLen]; omega) (by omega) hbase fun v' w' q1 q2 _ => hK v' w' q1 q2
    exact hrow.cells (g := g) rfl j u hu
theorem row_keep {w w' : World} {base b2 : Nat} {v : Value} {n : Nat} {xs : List Value} (h : w.ownsRow base 41 2 v n xs) (hb : Below b2 w w') (hlt : ∀ r, v.ownBlock = some r → r < b2) (hsz : w.heap.size ≤ w'.heap.size) : w'.ownsRow base 41 2 v n xs := by
  refine ⟨h.1, ?_⟩
  rcases h.2 with h1 | ⟨g, cap, cur, rfl, h1, h2, h3⟩
  · exact .inl h1
  · exact .inr ⟨g, cap, cur, rfl, h1, (hb.block g (hlt g rfl)).trans h2, h3⟩
theorem row_call {w w' : World} {base : Nat} {v : Value} {n : Nat} {xs : List Value} (h : w.ownsRow base 41 2 v n xs) (hb : Below w.heap.size w w') : w'.ownsRow base 41 2 v n xs := by
  refine row_keep h hb (fun r hr => ?_) hb.size
  rcases h.2 with ⟨rfl, _⟩ | ⟨g, cap, cur, rfl, _, h2, _⟩
  · cases hr
  · cases hr
    exact (Array.getElem?_eq_some_iff.1 h2).1
/-- under a wheel's changes, which lies below the row -/
theorem row_foot {w w' : World} {base p m : Nat} {v : Value} {n : Nat} {xs : List Value} (h : w.ownsRow base 41 2 v n xs) (hf : Foot (PM p m) w w') (hp : p < base) (hm : m < base) : w'.ownsRow base 41 2 v n xs := by
  refine ⟨h.1, ?_⟩
  rcases h.2 with h1 | ⟨g, cap, cur, rfl, h1, h2, h3⟩
  · exact .inl h1
  · exact .inr ⟨g, cap, cur, rfl, h1, (hf.block g (Array.getElem?_eq_some_iff.1 h2).1 (fun e => by rcases e with e | e <;> omega)).trans h2, h3⟩
theorem row_other {w w8 : World} {base B : Nat} {v v2 : Value} {n : Nat} {xs : List Value} (h : w.ownsRow base 41 2 v2 n xs) (hg : w.grownBy w8 v.ownBlock) (hlt : ∀ r, v2.ownBlock = some r → r < B) (hge : ∀ r, v.ownBlock = some r → B ≤ r) : w8.ownsRow base 41 2 v2 n xs := by
  refine h.kept hg ?_
  rcases hv : v2.ownBlock with _ | r
  · exact .inl rfl
  · refine .inr fun e => ?_
    have h1 := hlt r hv
    have h2 := hge r e.symm
    omega
set_option maxRecDepth 100000 in
set_option maxHeartbeats 4000000 in
theorem parts_w (A : Option Addr) (len cap : Nat) (xs : Nat → Int × Int × Int) (hl : len ≤ cap) (hc : cap ≤ maxLen) (now then_ : Int) (hn : 0 ≤ now ∧ now ≤ 18446744073709551615) (ht : 0 ≤ then_ ∧ then_ ≤ 18446744073709551615) (w : World) (hX : SliceAt w A len 3 actC actF xs) :
    Calls Try.prog 5 #[.slice A len cap, .int .u64 now, .int .u64 then_] w fun e w' => e = .returned (.bool true) ∧ Below w.heap.size w w' := by
  obtain ⟨b, o, hA, hXs⟩ := acts_in hX
  have HA := Lib.hid (And.intro hA hXs)
  clear hA hXs hX
  by_cases hlt : then_ < now
  · have e1 : decide (then_ < now) = true := decide_eq_true hlt
    go_enter Try.func5, Try.ntmps5
    go_wp2_with (go_at_call 10; refine (shown_p _).mono ?_; rintro e w1 ⟨rfl, hB1⟩)
    go_ret
    exact ⟨rfl, hB1⟩
  have e1 : decide (then_ < now) = false := decide_eq_false hlt
  have hck := sets_clk xs (min len 60)
  obtain ⟨s, hs⟩ : ∃ s, sets xs (min len 60) = s := ⟨_, rfl⟩
  rw [hs] at hck
  go_enter Try.func5, Try.ntmps5
  go_upto_region 2 with (go_at_call 10; refine (shown_p _).mono ?_; rintro e w1 ⟨rfl, hB1⟩)
  go_upto_region 5 with (go_at_call 22; refine (lset_p A b o len cap xs hl hc _ HA.out.1 (fun h => (HA.out.2 h).below hB1)).mono ?_; rintro e w2 ⟨p, m, rfl, hp, hm, hW, hok, hB2⟩)
  go_upto_region 6 with (go_at_call 22; refine (lset_p A b o len cap xs hl hc _ HA.out.1 (fun h => (HA.out.2 h).below (hB1.trans (hB2.mono hB1.size)))).mono ?_; rintro e w3 ⟨q, r, rfl, hq, hr, hV, _, hB3⟩)
  rw [hs] at hW hV hok
  have s1 := hB1.size
  have s2 := hB2.size
  have s3 := hB3.size
  have lp := hW.lt
  have lm := hW.ltm
  have lq := hV.lt
  have lr := hV.ltm
  have hW3 : WhP w3 p m s := hW.call hB3
  have hB03 : Below w.heap.size w w3 := (hB1.trans (hB2.mono hB1.size)).trans (hB3.mono (by omega))
  have hok1 := WS.turn_ok hok hn.1
  clear hs hW HA
  go_upto_region 7 with (go_at_call 16; refine (turn_p _ p m s hW3 hok now hn.1).mono ?_; rintro e w4 ⟨v1, rfl, hR1, hW4, hF4⟩)
  have hV4 : WhP w4 q r s := hV.foot2 hF4 (by omega) (by omega) (by omega) (by omega)
  have hB04 : Below w.heap.size w w4 := Foot.after hB03 hF4 (pm_old (by omega) (by omega))
  have s4 := hF4.size
  clear hW3 hV hF4
  go_upto_region 8 with (go_at_call 16; refine (turn_p _ p m _ hW4 hok1 then_ ht.1).mono ?_; rintro e w5 ⟨v2, rfl, hR2, hW5, hF5⟩)
  have hV5 : WhP w5 q r s := hV4.foot2 hF5 (by omega) (by omega) (by omega) (by omega)
  have hB05 : Below w.heap.size w w5 := Foot.after hB04 hF5 (pm_old (by omega) (by omega))
  have s5 := hF5.size
  have hR15 := row_foot hR1 hF5 (by omega) (by omega)
  clear hW4 hV4 hF5 hR1
  go_upto_region 9 with (go_at_call 16; refine (turn_p _ q r s hV5 hok then_ ht.1).mono ?_; rintro e w6 ⟨v3, rfl, hR3, hV6, hF6⟩)
  have hW6 : WhP w6 p m ((s.turn now).turn then_) := hW5.foot2 hF6 (by omega) (by omega) (by omega) (by omega)
  have hB06 : Below w.heap.size w w6 := Foot.after hB05 hF6 (pm_old (by omega) (by omega))
  have s6 := hF6.size
  have hR1 := row_foot hR15 hF6 (by omega) (by omega)
  have hR26 := row_foot hR2 hF6 (by omega) (by omega)
  clear hW5 hV5 hF6 hR15 hR2
  obtain ⟨a1, c1, rfl⟩ := ownsRow_len hR1
  obtain ⟨a2, c2, rfl⟩ := ownsRow_len hR26
  obtain ⟨a3, c3, rfl⟩ := ownsRow_len hR3
  by_cases hmax : 9223372036854775807 < then_
  · have q1 : s.turnE then_ = 50 := if_pos (.inr hmax)
    have q2 : (s.turn now).turnE then_ = 50 := if_pos (.inr hmax)
    rw [q1, q2]
    clear hR1 hR26 hR3 q1 q2
    go_wp2
    go_ret
    exact ⟨rfl, hB06⟩
  · have q1 : s.turnE then_ = 0 := if_neg (by rw [hck]; omega)
    have q2 : s.turnE now = 0 := if_neg (by rw [hck]; omega)
    have t1 : s.turn now = ⟨Tm.later s.l now, now⟩ := if_pos q2
    have t2 : s.turned now = Tm.due s.l now := if_pos q2
    have q3 : (s.turn now).turnE then_ = 0 := by rw [t1]; exact if_neg (by show ¬ (then_ < now ∨ _); omega)
    have t3 : (s.turn now).turned then_ = Tm.due (Tm.later s.l now) then_ := by
      have : (s.turn now).turned then_ = Tm.due (s.turn now).l then_ := if_pos q3
      rw [this, t1]
    have t4 : s.turned then_ = Tm.due s.l then_ := if_pos q1
    have t5 : (s.turn now).turn then_ = ⟨Tm.later (Tm.later s.l now) then_, then_⟩ := by
      have : (s.turn now).turn then_ = ⟨Tm.later (s.turn now).l then_, then_⟩ := if_pos q3
      rw [this, t1]
    have t6 : s.turn then_ = ⟨Tm.later s.l then_, then_⟩ := if_pos q1
    obtain ⟨d1, d2⟩ := Tm.due_parts (now := now) (then_ := then_) (by omega) s.l
    have hok2 : (s.turn then_).Ok := WS.turn_ok hok ht.1
    have hlen := hok.len
    have n1 := Tm.due_length s.l now
    have n2 := Tm.due_length (Tm.later s.l now) then_
    rw [t5, d2] at hW6
    rw [t6] at hV6 hok2
    rw [t2] at hR1
    rw [t3] at hR26
    rw [t4] at hR3
    rw [q1, q2, q3, t2, t3, t4]
    clear q1 q2 q3 t1 t2 t3 t4 t5 t6 d2 hok1
    obtain ⟨l1, hl1⟩ : ∃ x, Tm.due s.l now = x := ⟨_, rfl⟩
    obtain ⟨l2, hl2⟩ : ∃ x, Tm.due (Tm.later s.l now) then_ = x := ⟨_, rfl⟩
    obtain ⟨l3, hl3⟩ : ∃ x, Tm.due s.l then_ = x := ⟨_, rfl⟩
    obtain ⟨l4, hl4⟩ : ∃ x, Tm.later s.l then_ = x := ⟨_, rfl⟩
    rw [hl1] at hR1 d1 n1 ⊢
    rw [hl2] at hR26 d1 n2 ⊢
    rw [hl3] at hR3 d1 ⊢
    rw [hl4] at hW6 hV6 hok2
    obtain ⟨k1, hk1⟩ : ∃ x, l1.length = x := ⟨_, rfl⟩
    obtain ⟨k2, hk2⟩ : ∃ x, l2.length = x := ⟨_, rfl⟩
    obtain ⟨k3, hk3⟩ : ∃ x, l3.length = x := ⟨_, rfl⟩
    rw [hk1] at hR1 n1 ⊢
    rw [hk2] at hR26 n2 ⊢
    rw [hk3] at hR3 ⊢
    have HD := Lib.hid d1
    obtain ⟨i0, hi, hz0, hz1, hz2⟩ := infoTm_parts
    have b12 : k1 + k2 ≤ 1000 := by omega
    have hb2 : ∀ r, (Value.slice a2 k2 c2).ownBlock = some r → r < w6.heap.size := fun r hr => (hR26.lt r hr).2
    have hS3 := SlT.of_row (l := l3) (by rw [hk3]; exact hR3)
    clear hl1 hl2 hl3 hl4 n1 n2 d1 hck hok
    go_upto_region 12 with (first
      | (at_make; refine wpList_make_own _ rfl _ _ 28 rfl w6.heap.size 41 i0 _ 2 Try.underlying28 hi hz0 hz1 .i64 .i64 _ (k1 + k2) rfl rfl (by omega) (by rw [hz2]; omega) (by simp [maxLen]; omega) (Nat.le_refl _) ?_; intro w7 hM hg7; have hR17 := hR1.kept hg7 (by cases (Value.slice a1 k1 c1).ownBlock <;> simp); have hR27 := hR26.kept hg7 (by cases (Value.slice a2 k2 c2).ownBlock <;> simp); have s7 := hg7.size)
      | (at_builtin; refine wpList_append_row rfl _ _ rfl w6.heap.size _ _ _ 0 k1 [] l1 rfl hM rfl hk1 hR17 (by omega) s7 ?_; intro v8 w8 hM8 hg8)
      | (at_builtin; refine wpList_append_row rfl _ _ rfl w6.heap.size _ _ _ (0 + k1) k2 ([] ++ tmCs l1) l2 rfl hM8 rfl hk2 (row_other hR27 hg8 hb2 (fun r hr => (hM.lt r hr).1)) (by omega) (by have := hg8.size; omega) ?_; intro v9 w9 hM9 hg9))
    have hB69 : Below w6.heap.size w6 w9 := (((Below.refl _ _).grown hg7 (Nat.le_refl _) (fun j ej => by cases ej)).grown hg8 s7 (fun j ej => (hM.lt j ej).1)).grown hg9 (by have := hg8.size; omega) (fun j ej => (hM8.lt j ej).1)
    have e12 : [] ++ tmCs l1 ++ tmCs l2 = tmCs l3 := by
      rw [← HD.out]
      simp [tmCs]
    have e13 : 0 + k1 + k2 = l3.length := by
      rw [← HD.out, List.length_append, hk1, hk2]
      omega
    rw [e12, e13] at hM9
    have hS9 := SlT.of_row (l := l3) hM9
    obtain ⟨a9, c9, rfl⟩ := ownsRow_len hM9
    have hB09 : Below w.heap.size w w9 := hB06.trans (hB69.mono hB06.size)
    have hW9 := hW6.call hB69
    have hV9 := hV6.call hB69
    have hS39 := hS3.below hB69 (Nat.le_refl _)
    have hs9 := hB69.size
    rw [hk3] at hS9 ⊢
    clear hM hM8 hM9 hR17 hR27 hR1 hR26 hR3 hg7 hg8 hg9 hW6 hV6 hS3
    go_wp2_with (first
      | (go_at_call 18; refine (same_r _ w9.heap.size w6.heap.size _ _ l3 l3 hS9 hS39 (Nat.le_refl _) hs9).mono ?_; rintro e w10 ⟨rfl, hB10⟩; have hW10 := hW9.call hB10; have hV10 := hV9.call hB10; have hs10 := hB10.size; rw [decide_eq_true rfl]; clear hS9 hS39)
      | (go_at_call 21; refine (all_p _ p m _ hW10 hok2).mono ?_; rintro e w11 ⟨v11, rfl, hR11, hB11⟩; have hV11 := hV10.call hB11; have hs11 := hB11.size; obtain ⟨a11, c11, rfl⟩ := ownsRow_len hR11; clear hW10)
      | (go_at_call 21; refine (all_p _ q r _ hV11 hok2).mono ?_; rintro e w12 ⟨v12, rfl, hR12, hB12⟩; have hs12 := hB12.size; have hR11' := row_call hR11 hB12; obtain ⟨a12, c12, rfl⟩ := ownsRow_len hR12)
      | (go_at_call 18; refine (same_r _ w12.heap.size w12.heap.size _ _ l4 l4 (SlT.of_row hR11') (SlT.of_row hR12) (Nat.le_refl _) (Nat.le_refl _)).mono ?_; rintro e w13 ⟨rfl, hB13⟩; rw [decide_eq_true rfl]))
    go_ret
    exact ⟨rfl, (((hB09.trans (hB10.mono hB09.size)).trans (hB11.mono (by have := hB09.size; omega))).trans (hB12.mono (by have := hB09.size; omega))).trans (hB13.mono (by have := hB09.size; omega))⟩
end Go.Proofs.Ytbnfjppidmiheaa
