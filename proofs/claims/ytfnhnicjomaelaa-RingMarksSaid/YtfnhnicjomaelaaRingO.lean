/-
  The walks of RingMarks and RingSlots. Conditions: the acts' numbers fit their kinds.
-/
import Derived.Test.YtfnhnicjomaelaaRingN
namespace Go.Proofs.Ytfnhnicjomaelaa
set_option linter.unusedSimpArgs false
set_option linter.unusedVariables false
open Go.ChangeShapes Go.WideShapes Go.ChangeAt Go.RowKit

theorem ActsAt.open {W : World} {A : Option Addr} {len : Nat} {acts : Nat → ActV} (hA : ActsAt W A len acts) : ∃ b o, Hid (0 < len → A = some ⟨b, o, none⟩) ∧ (0 < len → ActsIn W b o len acts) := by
  by_cases h0 : 0 < len
  · obtain ⟨b, o, h1, h2, h3⟩ := hA.plain h0
    exact ⟨b, o, fun _ => h1, fun _ => ⟨h2, fun k hk => (h3 k hk).1, fun k hk => (h3 k hk).2⟩⟩
  · exact ⟨0, 0, fun h => absurd h h0, fun h => absurd h h0⟩
theorem RS.step_n (r : RS) (k i l f : Int) (d : Bool) : (r.step k i l f d).n = r.n := by
  unfold RS.step
  split
  · unfold RS.postR
    rcases (!rightB l || d) with _ | _
    · simp only [cond_false]
      split <;> rfl
    · rfl
  split
  · rfl
  split
  · unfold RS.fetchR
    cases r.hasFetch <;> rfl
  split
  · unfold RS.finishR
    cases r.hasFinish <;> rfl
  · unfold RS.cleanR
    cases r.hasClean <;> rfl
theorem szN_bd (n : Int) : 1 ≤ szN n ∧ szN n ≤ 16 := by
  unfold szN
  rcases opK_cases n with h | h | h | h | h <;> simp [h]
/-- an index is at most a size behind the next one -/
theorem markF_far {r : RS} (h : r.Ok) (j : Nat) (h1 : 1 ≤ j) (h4 : j ≤ 4) : (markF r j - markF r (j - 1)) % 4294967296 ≤ r.n := by
  have := h.ci; have := h.it; have := h.tb; have := h.bp; have := h.room; have := h.pos
  rcases (show j = 1 ∨ j = 2 ∨ j = 3 ∨ j = 4 by omega) with rfl | rfl | rfl | rfl
  · show (r.mark r.i - r.mark r.c) % 4294967296 ≤ r.n
    rw [r.far_mark (by omega) (by omega)]; omega
  · show (r.mark r.t - r.mark r.i) % 4294967296 ≤ r.n
    rw [r.far_mark (by omega) (by omega)]; omega
  · show (r.mark r.b - r.mark r.t) % 4294967296 ≤ r.n
    rw [r.far_mark (by omega) (by omega)]; omega
  · show (r.mark r.ds.length - r.mark r.b) % 4294967296 ≤ r.n
    rw [r.far_mark (by omega) (by omega)]; omega
theorem markF_all {r : RS} (h : r.Ok) : (markF r 4 - markF r 0) % 4294967296 ≤ r.n := by
  have := h.ci; have := h.it; have := h.tb; have := h.bp; have := h.room; have := h.pos
  show (r.mark r.ds.length - r.mark r.c) % 4294967296 ≤ r.n
  rw [r.far_mark (by omega) (by omega)]; omega
/-- Marks's answer in memory -/
abbrev MarksAt (w : World) (mb : Nat) (r : RS) : Prop := Held w mb 22 #[.int .u32 (r.mark r.c), .int .u32 (r.mark r.i), .int .u32 (r.mark r.t), .int .u32 (r.mark r.b), .int .u32 (r.mark r.ds.length)]

set_option maxRecDepth 100000 in
set_option maxHeartbeats 1000000 in
theorem marks_w (n f : Int) (hf0 : 0 ≤ f) (hf1 : f ≤ 4294967295) (A : Option Addr) (len cap : Nat) (acts : Nat → ActV) (hl : len ≤ cap) (hc : cap ≤ maxLen) (W : World) (hA : ActsAt W A len acts) :
    Calls Try.prog 6 #[.int .i64 n, .int .u32 f, .slice A len cap] W fun e w' => e = .returned (.bool true) ∧ Below W.heap.size W w' := by
  unfold maxLen at hc
  obtain ⟨b, o, HAb, hin⟩ := ActsAt.open hA
  clear hA
  have hsz := szN_size n
  go_enter Try.func6, Try.ntmps6
  go_wp2_with fail
  refine (shown3_p _).mono ?_
  rintro e w1 ⟨rfl, hb1⟩
  go_wp2_with fail
  refine (lsize_p n _).mono ?_
  rintro e w2 ⟨rfl, hb2⟩
  have hB2 := hb1.trans (hb2.mono hb1.size)
  clear hb1 hb2
  go_wp2_with fail
  refine (new_p (szN n) f hsz hf0 hf1 _).mono ?_
  rintro e w3 ⟨p, q, rfl, h3, hp3, hq3, hb3⟩
  have hB3 := hB2.trans (hb3.mono hB2.size)
  have hz2 := hB2.size
  clear hb3 hB2
  go_wp2_with fail
  refine (lsize_p n _).mono ?_
  rintro e w4 ⟨rfl, hb4⟩
  have h4 := h3.below hb4
  have hB4 := hB3.trans (hb4.mono hB3.size)
  clear hb4 hB3 h3
  go_wp2_with fail
  refine (new_r (szN n) f hsz hf0 hf1 _).mono ?_
  rintro e w5 ⟨p', q', rfl, h5, hp5, hq5, hb5⟩
  have hP : Pair W w5 p q p' q' (RS.new (szN n) f) := ⟨⟨h4.below hb5, h5, by have := h4.ring.lt; omega, by have := h4.ring.lt; omega, by have := h4.slots.lt; omega, by have := h4.slots.lt; omega⟩, hB4.trans (hb5.mono hB4.size), by omega, by omega, by have := hB4.size; omega, by have := hB4.size; omega⟩
  clear hb5 hB4 h4 h5 hp3 hq3 hp5 hq5 hz2
  have hn1 := szN_bd n
  obtain ⟨hn1, hn2⟩ := hn1
  go_wp2
  go_loopw [12] (fun i wr => ∃ k : Nat, k ≤ len ∧ i = .int .i64 k ∧ ∃ r, r.n = szN n ∧ Pair W wr p q p' q' r) (fun i _ => len - (intOf i).toNat)
  case atStart => exact ⟨0, Nat.zero_le _, rfl, _, rfl, hP⟩
  case round =>
    obtain ⟨k, hk, rfl, r, hrn, hr⟩ := hrel
    clear hP
    by_cases hlt : k < len ∧ k < 80
    · obtain ⟨hlt, h80⟩ := hlt
      obtain rfl := HAb.out (by omega)
      have hrange := (hin (by omega)).range hr.below hlt
      obtain ⟨⟨a0, a1⟩, ⟨a2, a3⟩, a4, a5⟩ := Fits.bd ((hin (by omega)).fits k hlt)
      have HN := Lib.hid hrn
      clear hrn
      go_wp2_with (refine wpList_load_mid rfl 37 (.tmp 52) rfl b (o + k * 5) rfl _ _ hrange Try.underlying37 rfl act_info ?_; rw [cells_av])
      refine (did_p wr p q p' q' r hr.both _ _ _ _ _ a0 a1 a2 a3 a4 a5).mono ?_
      rintro e w6 ⟨rfl, hB6, hF6⟩
      have h6 := hr.step hB6 hF6
      have hn6 := r.step_n (opK (acts k).o) (acts k).i (acts k).l (acts k).f (acts k).d
      rw [HN.out] at hn6
      generalize r.step (opK (acts k).o) (acts k).i (acts k).l (acts k).f (acts k).d = r6 at h6 hn6
      clear hB6 hF6 hrange hr
      have ok6 := h6.both.prog.ok
      have f1 := markF_far ok6
      have f4 := markF_all ok6
      rw [hn6] at f1 f4
      have HF := Lib.hid f1
      have HN6 := Lib.hid hn6
      clear f1 hn6
      go_wp2_with fail
      refine (marks_p w6 p q r6 h6.both.prog).mono ?_
      rintro e w7 ⟨mb, rfl, hm7, _, hb7⟩
      have h7 := h6.on hb7
      clear h6 hb7
      go_wp2
      go_loopw [14] (fun i wq => ∃ j : Nat, 1 ≤ j ∧ j ≤ 5 ∧ i = .int .i64 j ∧ Pair W wq p q p' q' r6 ∧ MarksAt wq mb r6) (fun i _ => 5 - (intOf i).toNat)
      case atStart => exact ⟨1, by omega, by omega, rfl, h7, hm7⟩
      case round =>
        obtain ⟨j, hj1, hj5, rfl, h8, hm8⟩ := hrel
        clear h7 hm7
        by_cases hj : j < 5
        · have hd := HF.out j hj1 (by omega)
          have c1 := markF_p hm8 j hj
          have c0 := markF_p hm8 (j - 1) (by omega)
          rw [Nat.zero_add] at c1 c0
          clear hd c1 c0
          rcases (show j = 1 ∨ j = 2 ∨ j = 3 ∨ j = 4 by omega) with rfl | rfl | rfl | rfl
          · have hd : (markF r6 1 - markF r6 0) % 4294967296 ≤ szN n := HF.out 1 (by omega) (by omega)
            have c1 : wr.cell? ⟨mb, 1, none⟩ = some (.int .u32 (markF r6 1)) := hm8.cell 1
            have c0 : wr.cell? ⟨mb, 0, none⟩ = some (.int .u32 (markF r6 0)) := hm8.cell 0
            have hd' : decide (IntKind.u32.wrap (szN n : Int) < IntKind.u32.wrap (markF r6 1 - markF r6 0)) = false := by rw [IntKind.wrap_u32, IntKind.wrap_u32]; simp; omega
            have z0 : IntKind.i64.wrap 0 = 0 := by rfl
            clear hd
            go_wp2_with fail
            go_region_held3 (fun w' => w'.cell? ⟨mb, 1, none⟩ = some (.int .u32 (markF r6 1)) ∧ w'.cell? ⟨mb, 0, none⟩ = some (.int .u32 (markF r6 0))) (first | exact ⟨e1, e0⟩ | (go_keep; done))
              (first | (go_at_call 13; (with_reducible refine (lsize_p n _).mono ?_); rintro e w9 ⟨rfl, hb9⟩; have h9 := h8.drew.on hb9; have hm9 : MarksAt w9 mb r6 := Held.below (W := wr.drew) hm8 hb9 hm8.lt; have e1 : w9.cell? ⟨mb, 1, none⟩ = some (.int .u32 (markF r6 1)) := hm9.cell 1; have e0 : w9.cell? ⟨mb, 0, none⟩ = some (.int .u32 (markF r6 0)) := hm9.cell 0))
            go_wp2
            go_roundw
            case rel => exact ⟨2, by omega, by omega, rfl, h9, hm9⟩
            case measure => simp [intOf]
          · have hd : (markF r6 2 - markF r6 1) % 4294967296 ≤ szN n := HF.out 2 (by omega) (by omega)
            have c1 : wr.cell? ⟨mb, 2, none⟩ = some (.int .u32 (markF r6 2)) := hm8.cell 2
            have c0 : wr.cell? ⟨mb, 1, none⟩ = some (.int .u32 (markF r6 1)) := hm8.cell 1
            have hd' : decide (IntKind.u32.wrap (szN n : Int) < IntKind.u32.wrap (markF r6 2 - markF r6 1)) = false := by rw [IntKind.wrap_u32, IntKind.wrap_u32]; simp; omega
            have z0 : IntKind.i64.wrap 1 = 1 := by rfl
            clear hd
            go_wp2_with fail
            go_region_held3 (fun w' => w'.cell? ⟨mb, 2, none⟩ = some (.int .u32 (markF r6 2)) ∧ w'.cell? ⟨mb, 1, none⟩ = some (.int .u32 (markF r6 1))) (first | exact ⟨e1, e0⟩ | (go_keep; done))
              (first | (go_at_call 13; (with_reducible refine (lsize_p n _).mono ?_); rintro e w9 ⟨rfl, hb9⟩; have h9 := h8.drew.on hb9; have hm9 : MarksAt w9 mb r6 := Held.below (W := wr.drew) hm8 hb9 hm8.lt; have e1 : w9.cell? ⟨mb, 2, none⟩ = some (.int .u32 (markF r6 2)) := hm9.cell 2; have e0 : w9.cell? ⟨mb, 1, none⟩ = some (.int .u32 (markF r6 1)) := hm9.cell 1))
            go_wp2
            go_roundw
            case rel => exact ⟨3, by omega, by omega, rfl, h9, hm9⟩
            case measure => simp [intOf]
          · have hd : (markF r6 3 - markF r6 2) % 4294967296 ≤ szN n := HF.out 3 (by omega) (by omega)
            have c1 : wr.cell? ⟨mb, 3, none⟩ = some (.int .u32 (markF r6 3)) := hm8.cell 3
            have c0 : wr.cell? ⟨mb, 2, none⟩ = some (.int .u32 (markF r6 2)) := hm8.cell 2
            have hd' : decide (IntKind.u32.wrap (szN n : Int) < IntKind.u32.wrap (markF r6 3 - markF r6 2)) = false := by rw [IntKind.wrap_u32, IntKind.wrap_u32]; simp; omega
            have z0 : IntKind.i64.wrap 2 = 2 := by rfl
            clear hd
            go_wp2_with fail
            go_region_held3 (fun w' => w'.cell? ⟨mb, 3, none⟩ = some (.int .u32 (markF r6 3)) ∧ w'.cell? ⟨mb, 2, none⟩ = some (.int .u32 (markF r6 2))) (first | exact ⟨e1, e0⟩ | (go_keep; done))
              (first | (go_at_call 13; (with_reducible refine (lsize_p n _).mono ?_); rintro e w9 ⟨rfl, hb9⟩; have h9 := h8.drew.on hb9; have hm9 : MarksAt w9 mb r6 := Held.below (W := wr.drew) hm8 hb9 hm8.lt; have e1 : w9.cell? ⟨mb, 3, none⟩ = some (.int .u32 (markF r6 3)) := hm9.cell 3; have e0 : w9.cell? ⟨mb, 2, none⟩ = some (.int .u32 (markF r6 2)) := hm9.cell 2))
            go_wp2
            go_roundw
            case rel => exact ⟨4, by omega, by omega, rfl, h9, hm9⟩
            case measure => simp [intOf]
          · have hd : (markF r6 4 - markF r6 3) % 4294967296 ≤ szN n := HF.out 4 (by omega) (by omega)
            have c1 : wr.cell? ⟨mb, 4, none⟩ = some (.int .u32 (markF r6 4)) := hm8.cell 4
            have c0 : wr.cell? ⟨mb, 3, none⟩ = some (.int .u32 (markF r6 3)) := hm8.cell 3
            have hd' : decide (IntKind.u32.wrap (szN n : Int) < IntKind.u32.wrap (markF r6 4 - markF r6 3)) = false := by rw [IntKind.wrap_u32, IntKind.wrap_u32]; simp; omega
            have z0 : IntKind.i64.wrap 3 = 3 := by rfl
            clear hd
            go_wp2_with fail
            go_region_held3 (fun w' => w'.cell? ⟨mb, 4, none⟩ = some (.int .u32 (markF r6 4)) ∧ w'.cell? ⟨mb, 3, none⟩ = some (.int .u32 (markF r6 3))) (first | exact ⟨e1, e0⟩ | (go_keep; done))
              (first | (go_at_call 13; (with_reducible refine (lsize_p n _).mono ?_); rintro e w9 ⟨rfl, hb9⟩; have h9 := h8.drew.on hb9; have hm9 : MarksAt w9 mb r6 := Held.below (W := wr.drew) hm8 hb9 hm8.lt; have e1 : w9.cell? ⟨mb, 4, none⟩ = some (.int .u32 (markF r6 4)) := hm9.cell 4; have e0 : w9.cell? ⟨mb, 3, none⟩ = some (.int .u32 (markF r6 3)) := hm9.cell 3))
            go_wp2
            go_roundw
            case rel => exact ⟨5, by omega, by omega, rfl, h9, hm9⟩
            case measure => simp [intOf]
        · obtain rfl : j = 5 := by omega
          have hd := f4
          have c1 : wr.cell? ⟨mb, 4, none⟩ = some (.int .u32 (markF r6 4)) := hm8.cell 4
          have c0 : wr.cell? ⟨mb, 0, none⟩ = some (.int .u32 (markF r6 0)) := hm8.cell 0
          have hd' : decide (IntKind.u32.wrap (szN n : Int) < IntKind.u32.wrap (markF r6 4 - markF r6 0)) = false := by rw [IntKind.wrap_u32, IntKind.wrap_u32]; simp; omega
          clear hd
          go_wp2_with fail
          go_region_held3 (fun w' => w'.cell? ⟨mb, 4, none⟩ = some (.int .u32 (markF r6 4)) ∧ w'.cell? ⟨mb, 0, none⟩ = some (.int .u32 (markF r6 0))) (first | exact ⟨e1, e0⟩ | (go_keep; done))
            (first | (go_at_call 13; (with_reducible refine (lsize_p n _).mono ?_); rintro e w9 ⟨rfl, hb9⟩; have h9 := h8.drew.on hb9; have hm9 : MarksAt w9 mb r6 := Held.below (W := wr.drew) hm8 hb9 hm8.lt; have e1 : w9.cell? ⟨mb, 4, none⟩ = some (.int .u32 (markF r6 4)) := hm9.cell 4; have e0 : w9.cell? ⟨mb, 0, none⟩ = some (.int .u32 (markF r6 0)) := hm9.cell 0))
          go_wp2
          go_roundw
          case rel => exact ⟨k + 1, by omega, by go_num, r6, HN6.out, h9⟩
          case measure => simp [intOf]; omega
    · go_wp2
      all_goals
        go_ret
        exact ⟨rfl, hr.below⟩
end Go.Proofs.Ytfnhnicjomaelaa
