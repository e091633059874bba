/-
  The contracts of wheel's New, Set, Cancel and Now. Conditions: those that each theorem names.
-/
import Derived.Test.YtbnfjppidmiheaaWheelP
namespace Go.Proofs.Ytbnfjppidmiheaa
set_option linter.unusedSimpArgs false
set_option linter.unusedVariables false
open Go.ChangeShapes Go.WideShapes Go.ChangeAt Go.RowKit Go.Maps

theorem zeroU (w : World) : (zeroValue 22).run Try.prog w = .ok (.int .u64 0) w := by kernel_rfl
theorem foot_turned {W W' : World} {b : Nat} {B : Nat → Prop} (h : W.mapTurned W' b) (hb : B b) : Foot B W W' :=
  ⟨h.grown.os, h.grown.tape, h.grown.output, h.grown.size, fun k hk hB => h.grown.block k hk (fun e => hB (by cases e; exact hb))⟩
theorem foot_grown {W W' : World} {b : Nat} {B : Nat → Prop} (h : W.grownBy W' (some b)) (hb : B b) : Foot B W W' :=
  ⟨h.os, h.tape, h.output, h.size, fun k hk hB => h.block k hk (fun e => hB (by cases e; exact hb))⟩
/-- the two blocks of a wheel -/
abbrev PM (p m : Nat) : Nat → Prop := fun b => b = p ∨ b = m
set_option maxHeartbeats 1000000 in
theorem new_p (now : Int) (w : World) : Calls Try.prog 11 #[.int .u64 now] w fun e w' => ∃ p m, e = .returned (.pointer (some ⟨p, 0, none⟩)) ∧ w.heap.size ≤ p ∧ w.heap.size ≤ m ∧ WhP w' p m ⟨[], now⟩ ∧ Below w.heap.size w w' := by
  have hmm := @run_makeMap Try.prog
  go_enter Try.func11, Try.ntmps11
  go_wp2
  go_ret
  have hM := ((World.ownsMap_made w Try.prog 3 (plainElem (H := Unit) Try.prog 22)).mono (Nat.zero_le 1000)).alloc (.cells #[.int .u64 now, .map (some w.heap.size)] 57)
  refine ⟨w.heap.size + 1, w.heap.size, rfl, by omega, Nat.le_refl _, ⟨?_, ⟨_, hM, MapIs.empty⟩, (fun _ h => by cases h)⟩, ?_⟩
  · have := Held.new (w.alloc (.map #[] 0)) 57 #[.int .u64 now, .map (some w.heap.size)]
    rwa [World.size_alloc] at this
  · exact ((Below.refl _ _).alloc (Nat.le_refl _) _).alloc (by simp) _
section
variable (W : World) (p m : Nat) (s : WS) (h : WhP W p m s)
include h
set_option maxHeartbeats 1000000 in
theorem now_p : Calls Try.prog 20 #[.pointer (some ⟨p, 0, none⟩)] W fun e w' => e = .returned (.int .u64 s.clk) ∧ w' = W := by
  have c0 : W.cell? ⟨p, 0, none⟩ = some (.int .u64 s.clk) := h.box.cell 0
  have hmi := missing_no W p m s h
  clear h
  go_enter Try.func20, Try.ntmps20
  go_wp2_with (go_at_call 23; refine hmi.mono ?_; rintro e w2 ⟨rfl, rfl⟩)
  go_ret
  exact ⟨rfl, rfl⟩
set_option maxHeartbeats 1000000 in
theorem cancel_p (hok : s.Ok) (key : Int) (hkey : (kl key).wf = true) : Calls Try.prog 14 #[.pointer (some ⟨p, 0, none⟩), .int .i64 key] W fun e w' =>
    e = .returned (.bool (s.cancelB key)) ∧ WhP w' p m (s.cancel key) ∧ Foot (PM p m) W w' := by
  have c1 : W.cell? ⟨p, 1, none⟩ = some (.map (some m)) := h.box.cell 1
  have hmi := missing_no W p m s h
  obtain ⟨D, hown, hD⟩ := h.map
  have hk := keyOf_int_mk Try.underlying3 hkey
  have hb : s.cancelB key = Maps.has D (kl key) := by
    unfold WS.cancelB
    rw [wo_count hok, hD.has]
    cases ha : s.l.any (fun t => t.2 == key)
    · simp
    · obtain ⟨t, ht, _⟩ := any_key.1 ha
      have := List.length_pos_of_mem ht
      simp only [if_true]
      exact decide_eq_true (by omega)
  rw [hb]
  clear hb
  have hne := h.ne
  go_enter Try.func14, Try.ntmps14
  go_wp2_with (first
    | (go_at_call 23; refine hmi.mono ?_; rintro e w2 ⟨rfl, rfl⟩)
    | (at_lookup; refine wpList_lookup_own_ok_int _ rfl _ _ 55 rfl 3 22 .u64 law Try.underlying55 Try.underlying22 (zeroU _) m 1000 D rfl hown _ _ rfl hk ?_; intro c hat hwc)
    | (at_delete; refine wpList_delete_own _ rfl _ _ 55 3 rfl 22 law Try.underlying55 _ m 1000 D rfl hown _ _ rfl hk ?_; intro w1 hown1 hturn1))
  go_ret
  refine ⟨rfl, ⟨(hturn1.grown.block p h.lt (fun e => hne (by cases e; rfl))).trans h.box, ⟨_, hown1, hD.del hok (hown.tidy law) key⟩, fun t ht => h.rng t (Tm.mem_wo.1 ht).1⟩, foot_turned hturn1 (.inr rfl)⟩
set_option maxHeartbeats 1000000 in
theorem set_p (hok : s.Ok) (at_ key : Int) (ha : 0 ≤ at_ ∧ at_ ≤ 18446744073709551615) (hkey : (kl key).wf = true) : Calls Try.prog 12 #[.pointer (some ⟨p, 0, none⟩), .int .u64 at_, .int .i64 key] W fun e w' =>
    e = .returned (.int .i64 (s.setE at_ key)) ∧ WhP w' p m (s.set at_ key) ∧ Foot (PM p m) W w' := by
  have c1 : W.cell? ⟨p, 1, none⟩ = some (.map (some m)) := h.box.cell 1
  have hmi := missing_no W p m s h
  by_cases h50 : 9223372036854775807 < at_
  · have e50 : s.setE at_ key = 50 := if_pos h50
    rw [WS.set_no (by rw [e50]; decide), e50]
    have e1 : decide (9223372036854775807 < at_) = true := decide_eq_true h50
    clear e50
    have HH := Lib.hid h
    clear h
    go_enter Try.func12, Try.ntmps12
    go_wp2_with (go_at_call 23; refine hmi.mono ?_; rintro e w2 ⟨rfl, rfl⟩)
    go_ret
    exact ⟨rfl, HH.out, Foot.refl _ _⟩
  have e1 : decide (9223372036854775807 < at_) = false := decide_eq_false h50
  have hE : s.setE at_ key = if 1000 ≤ (Tm.wo s.l key).length then 100 else 0 := if_neg h50
  obtain ⟨D, hown, hD⟩ := h.map
  have hk := keyOf_int_mk Try.underlying3 hkey
  have hv : (Lit.int .u64 at_).wf = true := WalkArith.wf_u64 ha
  have hlen := fun ty => hown.len Try.underlying55 ty
  have hcnt := wo_count hok key
  have hl := hok.len
  rw [hD.size] at hlen
  obtain ⟨bv, hbv⟩ : ∃ v, Maps.has D (kl key) = v := ⟨_, rfl⟩
  have hany := (hD.has key).symm.trans hbv
  rw [hany] at hcnt
  have hne := h.ne
  have HH := Lib.hid h
  have HD := Lib.hid hD
  have HA := Lib.hid hany
  clear h hD hany
  obtain ⟨n, hn⟩ : ∃ n, s.l.length = n := ⟨_, rfl⟩
  rw [hn] at hlen hcnt hl
  cases bv
  · by_cases h100 : 1000 ≤ n
    · have e100 : s.setE at_ key = 100 := by rw [hE, if_pos (by rw [hcnt]; simpa using h100)]
      rw [WS.set_no (by rw [e100]; decide), e100]
      have e2 : decide ((1000 : Int) ≤ n) = true := decide_eq_true (by omega)
      clear e100 hE hcnt hn HD HA
      go_enter Try.func12, Try.ntmps12
      go_wp2_with (first
        | (go_at_call 23; refine hmi.mono ?_; rintro e w2 ⟨rfl, rfl⟩)
        | (at_lookup; refine wpList_lookup_own_ok_int _ rfl _ _ 55 rfl 3 22 .u64 law Try.underlying55 Try.underlying22 (zeroU _) m 1000 D rfl hown _ _ rfl hk ?_; intro c hat hwc; rw [hbv]))
      go_ret
      exact ⟨rfl, HH.out, Foot.refl _ _⟩
    · have e0 : s.setE at_ key = 0 := by rw [hE, if_neg (by rw [hcnt]; simpa using h100)]
      rw [WS.set_yes e0, e0]
      have e2 : decide ((1000 : Int) ≤ n) = false := decide_eq_false (by omega)
      clear e0 hE hcnt HA
      have HN := Lib.hid hn
      clear hn
      go_enter Try.func12, Try.ntmps12
      go_wp2_with (first
        | (go_at_call 23; refine hmi.mono ?_; rintro e w2 ⟨rfl, rfl⟩)
        | (at_lookup; refine wpList_lookup_own_ok_int _ rfl _ _ 55 rfl 3 22 .u64 law Try.underlying55 Try.underlying22 (zeroU _) m 1000 D rfl hown _ _ rfl hk ?_; intro c hat hwc; rw [hbv])
        | (at_mapUpdate; refine wpList_mapUpdate_in _ rfl _ _ _ 55 rfl 3 22 law Try.underlying55 _ m 1000 D rfl hown (by simp [maxLen]) _ _ _ rfl rfl hk _ [] (plainElem_int Try.underlying22 hv) ?_; intro w1 hown1 hturn1))
      go_ret
      have hp := HD.out.put (s := s) hok (hown.tidy law) at_ key
      have hsz : (Tm.ins (at_, key) (Tm.wo s.l key)).length ≤ 1000 := by
        have h1 := List.length_filter_le (fun t : Tm => decide (t.2 ≠ key)) s.l
        have h2 : (Tm.wo s.l key).length ≤ s.l.length := h1
        have h3 := HN.out
        rw [Tm.ins_length]
        omega
      refine ⟨rfl, ⟨(hturn1.grown.block p HH.out.lt (fun e => hne (by cases e; rfl))).trans HH.out.box, ⟨_, own_tight hown1 (by rw [hp.size]; exact hsz), hp⟩, fun t ht => ?_⟩, foot_turned hturn1 (.inr rfl)⟩
      rcases Tm.mem_ins.1 ht with rfl | ht
      · exact hkey
      · exact HH.out.rng t (Tm.mem_wo.1 ht).1
  · have hpos : 1 ≤ n := by
      obtain ⟨t, ht, _⟩ := any_key.1 HA.out
      have := List.length_pos_of_mem ht
      omega
    have e0 : s.setE at_ key = 0 := by rw [hE, if_neg (by rw [hcnt]; simp only [if_true]; omega)]
    rw [WS.set_yes e0, e0]
    simp only [if_true] at hcnt
    clear e0 hE
    have HN := Lib.hid (And.intro hn hcnt)
    clear hn hcnt HA
    go_enter Try.func12, Try.ntmps12
    go_wp2_with (first
      | (go_at_call 23; refine hmi.mono ?_; rintro e w2 ⟨rfl, rfl⟩)
      | (at_lookup; refine wpList_lookup_own_ok_int _ rfl _ _ 55 rfl 3 22 .u64 law Try.underlying55 Try.underlying22 (zeroU _) m 1000 D rfl hown _ _ rfl hk ?_; intro c hat hwc; rw [hbv])
      | (at_mapUpdate; refine wpList_mapUpdate_in _ rfl _ _ _ 55 rfl 3 22 law Try.underlying55 _ m 1000 D rfl hown (by simp [maxLen]) _ _ _ rfl rfl hk _ [] (plainElem_int Try.underlying22 hv) ?_; intro w1 hown1 hturn1))
    go_ret
    have hp := HD.out.put (s := s) hok (hown.tidy law) at_ key
    have hsz : (Tm.ins (at_, key) (Tm.wo s.l key)).length ≤ 1000 := by
      obtain ⟨h3, h4⟩ := HN.out
      rw [Tm.ins_length]
      omega
    refine ⟨rfl, ⟨(hturn1.grown.block p HH.out.lt (fun e => hne (by cases e; rfl))).trans HH.out.box, ⟨_, own_tight hown1 (by rw [hp.size]; exact hsz), hp⟩, fun t ht => ?_⟩, foot_turned hturn1 (.inr rfl)⟩
    rcases Tm.mem_ins.1 ht with rfl | ht
    · exact hkey
    · exact HH.out.rng t (Tm.mem_wo.1 ht).1
end
set_option maxHeartbeats 1000000 in
theorem now_nil (W : World) : Calls Try.prog 20 #[.pointer none] W fun e w' => e = .returned (.int .u64 0) ∧ w' = W := by
  have hmi := missing_yes W
  go_enter Try.func20, Try.ntmps20
  go_wp2_with (go_at_call 23; refine hmi.mono ?_; rintro e w2 ⟨rfl, rfl⟩)
  go_ret
  exact ⟨rfl, rfl⟩
set_option maxHeartbeats 1000000 in
theorem set_nil (W : World) (at_ key : Int) : Calls Try.prog 12 #[.pointer none, .int .u64 at_, .int .i64 key] W fun e w' => e = .returned (.int .i64 1) ∧ w' = W := by
  have hmi := missing_yes W
  go_enter Try.func12, Try.ntmps12
  go_wp2_with (go_at_call 23; refine hmi.mono ?_; rintro e w2 ⟨rfl, rfl⟩)
  go_ret
  exact ⟨rfl, rfl⟩
set_option maxHeartbeats 1000000 in
theorem cancel_nil (W : World) (key : Int) : Calls Try.prog 14 #[.pointer none, .int .i64 key] W fun e w' => e = .returned (.bool false) ∧ w' = W := by
  have hmi := missing_yes W
  go_enter Try.func14, Try.ntmps14
  go_wp2_with (go_at_call 23; refine hmi.mono ?_; rintro e w2 ⟨rfl, rfl⟩)
  go_ret
  exact ⟨rfl, rfl⟩
end Go.Proofs.Ytbnfjppidmiheaa
