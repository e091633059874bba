/-
  The walk of RingSlots. Conditions: the acts' numbers fit their kinds.
-/
import Derived.Test.YtfnhnicjomaelaaRingO
namespace Go.Proofs.Ytfnhnicjomaelaa
set_option linter.unusedSimpArgs false
set_option linter.unusedVariables false
open Go.ChangeShapes Go.WideShapes Go.ChangeAt Go.RowKit

theorem RS.mark_add (r : RS) (a j : Nat) : (r.mark a + j) % 4294967296 = r.mark (a + j) := by
  unfold RS.mark
  rw [Int.emod_add_emod]
  congr 1
  omega

set_option maxRecDepth 100000 in
set_option maxHeartbeats 1000000 in
theorem slots_w (n f : Int) (hf0 : 0 ≤ f) (hf1 : f ≤ 4294967295) (A : Option Addr) (len cap : Nat) (acts : Nat → ActV) (hl : len ≤ cap) (hc : cap ≤ maxLen) (W : World) (hA : ActsAt W A len acts) :
    Calls Try.prog 8 #[.int .i64 n, .int .u32 f, .slice A len cap] W fun e w' => e = .returned (.bool true) ∧ Below W.heap.size W w' := by
  unfold maxLen at hc
  obtain ⟨b, o, HAb, hin⟩ := ActsAt.open hA
  clear hA
  have hsz := szN_size n
  go_enter Try.func8, Try.ntmps8
  go_wp2_with fail
  refine (shown3_p _).mono ?_
  rintro e w1 ⟨rfl, hb1⟩
  go_wp2_with fail
  refine (lsize_p n _).mono ?_
  rintro e w2 ⟨rfl, hb2⟩
  have hB2 := hb1.trans (hb2.mono hb1.size)
  clear hb1 hb2
  go_wp2_with fail
  refine (new_p (szN n) f hsz hf0 hf1 _).mono ?_
  rintro e w3 ⟨p, q, rfl, h3, hp3, hq3, hb3⟩
  have hB3 := hB2.trans (hb3.mono hB2.size)
  have hz2 := hB2.size
  clear hb3 hB2
  go_wp2_with fail
  refine (lsize_p n _).mono ?_
  rintro e w4 ⟨rfl, hb4⟩
  have h4 := h3.below hb4
  have hB4 := hB3.trans (hb4.mono hB3.size)
  clear hb4 hB3 h3
  go_wp2_with fail
  refine (new_r (szN n) f hsz hf0 hf1 _).mono ?_
  rintro e w5 ⟨p', q', rfl, h5, hp5, hq5, hb5⟩
  have hP : Pair W w5 p q p' q' (RS.new (szN n) f) := ⟨⟨h4.below hb5, h5, by have := h4.ring.lt; omega, by have := h4.ring.lt; omega, by have := h4.slots.lt; omega, by have := h4.slots.lt; omega⟩, hB4.trans (hb5.mono hB4.size), by omega, by omega, by have := hB4.size; omega, by have := hB4.size; omega⟩
  clear hb5 hB4 h4 h5 hp3 hq3 hp5 hq5 hz2
  obtain ⟨hn1, hn2⟩ := szN_bd n
  go_wp2
  go_loopw [12] (fun i wr => ∃ k : Nat, k ≤ len ∧ i = .int .i64 k ∧ ∃ r, r.n = szN n ∧ Pair W wr p q p' q' r) (fun i _ => len - (intOf i).toNat)
  case atStart => exact ⟨0, Nat.zero_le _, rfl, _, rfl, hP⟩
  case round =>
    obtain ⟨k, hk, rfl, r, hrn, hr⟩ := hrel
    clear hP
    by_cases hlt : k < len ∧ k < 80
    · obtain ⟨hlt, h80⟩ := hlt
      obtain rfl := HAb.out (by omega)
      have hrange := (hin (by omega)).range hr.below hlt
      obtain ⟨⟨a0, a1⟩, ⟨a2, a3⟩, a4, a5⟩ := Fits.bd ((hin (by omega)).fits k hlt)
      have HN := Lib.hid hrn
      clear hrn
      go_wp2_with (refine wpList_load_mid rfl 37 (.tmp 57) rfl b (o + k * 5) rfl _ _ hrange Try.underlying37 rfl act_info ?_; rw [cells_av])
      refine (did_p wr p q p' q' r hr.both _ _ _ _ _ a0 a1 a2 a3 a4 a5).mono ?_
      rintro e w6 ⟨rfl, hB6, hF6⟩
      have h6 := hr.step hB6 hF6
      have hn6 := r.step_n (opK (acts k).o) (acts k).i (acts k).l (acts k).f (acts k).d
      rw [HN.out] at hn6
      generalize r.step (opK (acts k).o) (acts k).i (acts k).l (acts k).f (acts k).d = r6 at h6 hn6
      have HN6 := Lib.hid hn6
      clear hB6 hF6 hrange hr hn6
      go_wp2
      go_roundw
      case rel => exact ⟨k + 1, by omega, by go_num, r6, HN6.out, h6⟩
      case measure => simp [intOf]; omega
    · have HN := Lib.hid hrn
      clear hrn
      go_wp2_with fail
      all_goals
        refine (slots_p wr p q r hr.both.prog).mono ?_
        rintro e w7 ⟨sb, rfl, hs7, _, hb7⟩
        have h7 := hr.on hb7
        clear hr hb7
        go_wp2_with fail
        refine (marks_p w7 p q r h7.both.prog).mono ?_
        rintro e w8 ⟨mb, rfl, hm8, _, hb8⟩
        have h8 := h7.on hb8
        have hs8 := hs7.below hb8 hs7.lt
        clear h7 hs7 hb8
        rw [HN.out] at hs8 ⊢
        go_wp2_with fail
        refine (lsize_p n _).mono ?_
        rintro e w9 ⟨rfl, hb9⟩
        have h9 := h8.on hb9
        have hs9 := hs8.below hb9 hs8.lt
        have hm9 : MarksAt w9 mb r := hm8.below hb9 hm8.lt
        clear h8 hs8 hm8 hb9
        go_wp2
        go_loopw [15] (fun i wq => ∃ j : Nat, j ≤ szN n ∧ i = .int .i64 j ∧ Pair W wq p q p' q' r ∧ MarksAt wq mb r ∧ Held wq sb 9 (strCells (szN n) r.cont)) (fun i _ => szN n - (intOf i).toNat)
        case atStart => exact ⟨0, Nat.zero_le _, rfl, h9, hm9, hs9⟩
        case round =>
          obtain ⟨j, hj1, rfl, h10, hm10, hs10⟩ := hrel
          clear h9 hm9 hs9
          by_cases hj : j < szN n
          · go_wp2_with fail
            refine (lsize_p n _).mono ?_
            rintro e w11 ⟨rfl, hb11⟩
            have h11 := h10.on hb11
            have hs11 := hs10.below hb11 hs10.lt
            have hm11 : MarksAt w11 mb r := hm10.below hb11 hm10.lt
            clear h10 hs10 hm10 hb11
            have c0 : w11.cell? ⟨mb, 0, none⟩ = some (.int .u32 (r.mark r.c)) := hm11.cell 0
            obtain ⟨k0, k1⟩ := mark_bd r r.c
            have hadd := r.mark_add r.c j
            obtain ⟨k2, k3⟩ := mark_bd r (r.c + j)
            have i0 := Int.emod_nonneg (r.mark (r.c + j)) (b := (szN n : Int)) (by omega)
            have i1 := Int.emod_lt_of_pos (r.mark (r.c + j)) (b := (szN n : Int)) (by omega)
            go_wp2_with fail
            refine (lsize_p n _).mono ?_
            rintro e w12 ⟨rfl, hb12⟩
            have h12 := h11.on hb12
            have hs12 := hs11.below hb12 hs11.lt
            have hm12 : MarksAt w12 mb r := hm11.below hb12 hm11.lt
            clear h11 hs11 hm11 hb12 c0
            have hsl := h12.both.prog.ok.slot_lt (r.c + j)
            rw [HN.out] at hsl
            have hslot : r.slot (r.c + j) = (r.mark (r.c + j) % (szN n : Int)).toNat := by unfold RS.slot; rw [HN.out]
            have cs : w12.cell? ⟨sb, (r.mark (r.c + j) % (szN n : Int)).toNat, none⟩ = some (.string (r.cont (r.slot (r.c + j)))) := by
              rw [← hslot]
              exact (hs12.cell _).trans (strCells_get hsl _)
            have HSL := Lib.hid hslot
            clear hslot
            go_wp2_with fail
            refine (decode_r _ _).mono ?_
            rintro e w13 ⟨rfl, hb13⟩
            have h13 := h12.on hb13
            have hs13 := hs12.below hb13 hs12.lt
            have hm13 : MarksAt w13 mb r := hm12.below hb13 hm12.lt
            have cs13 : w13.cell? ⟨sb, (r.mark (r.c + j) % (szN n : Int)).toNat, none⟩ = some (.string (r.cont (r.slot (r.c + j)))) := by
              rw [← HSL.out]
              exact (hs13.cell _).trans (strCells_get hsl _)
            clear h12 hs12 hm12 hb13 cs
            have ok := h13.both.prog.ok
            have hci := ok.ci
            have hit := ok.it
            have htb := ok.tb
            have hbp := ok.bp
            have hroom := ok.room
            have hpos := ok.pos
            have hwin := ok.window (k := j) (by rw [HN.out]; exact hj)
            obtain ⟨L, hL⟩ : ∃ L, IntKind.u32.wrap (r.mark r.ds.length - r.mark r.c) = L := ⟨_, rfl⟩
            obtain ⟨I, hI⟩ : ∃ I, IntKind.u32.wrap (r.mark r.i - r.mark r.c) = I := ⟨_, rfl⟩
            have hL' : L = (r.ds.length : Int) - r.c := by rw [← hL, IntKind.wrap_u32]; exact r.far_mark (by omega) (by omega)
            have hI' : I = (r.i : Int) - r.c := by rw [← hI, IntKind.wrap_u32]; exact r.far_mark (by omega) (by omega)
            have hjw : IntKind.u32.wrap (j : Int) = j := by rw [IntKind.wrap_u32]; omega
            by_cases hin2 : r.c + j < r.ds.length
            · rw [if_pos hin2] at hwin
              have hat := ok.at_ok (j := r.c + j) hin2
              obtain ⟨s1, s2, s3, s4, s5, s6⟩ := hat
              obtain ⟨dn, hdn⟩ : ∃ dn, decide (r.c + j < r.i) = dn := ⟨_, rfl⟩
              have hbyt : r.byt (r.c + j) = encS (r.at_ (r.c + j)).1 (r.at_ (r.c + j)).2.1 (r.at_ (r.c + j)).2.2 dn := by rw [← hdn]; rfl
              rw [hbyt] at hwin
              have hdec : decB (encS (r.at_ (r.c + j)).1 (r.at_ (r.c + j)).2.1 (r.at_ (r.c + j)).2.2 dn) = true := by rw [decB_encS _ _ _ _ s1 s2 (by omega) (by omega) s5 s6]; exact (RS.rightB_iff _).2 ⟨s3, s4⟩
              obtain ⟨e1, e2, e3, e4⟩ := numAt_encS (r.at_ (r.c + j)).1 (r.at_ (r.c + j)).2.1 (r.at_ (r.c + j)).2.2 dn s1 s2 (by omega) (by omega) s5 s6
              have hvE : decV (r.cont (r.slot (r.c + j))) = dv (r.at_ (r.c + j)).1 (r.at_ (r.c + j)).2.1 (r.at_ (r.c + j)).2.2 dn := by rw [hwin]; unfold decV; rw [hdec, e1, e2, e3, e4]; rfl
              have hcE : decE (r.cont (r.slot (r.c + j))) = 0 := by rw [hwin]; unfold decE; rw [hdec]; rfl
              rw [hvE, hcE]
              have g1 : (r.cont (r.slot (r.c + j))).toList.isEmpty = false := strNone_no (by rw [hwin]; exact fun e => by have := congrArg ByteArray.size e; rw [encS_size] at this; cases this)
              have t1 : decide ((j : Int) < L) = true := by rw [hL']; simp; omega
              have t2 : decide ((j : Int) < I) = dn := by rw [hI', ← hdn, decide_eq_decide]; omega
              generalize r.cont (r.slot (r.c + j)) = s at g1 cs13 ⊢
              generalize (r.at_ (r.c + j)).1 = b0
              generalize (r.at_ (r.c + j)).2.1 = b1
              generalize (r.at_ (r.c + j)).2.2 = b2
              have HT := Lib.hid t2
              clear hwin hbyt hdec e1 e2 e3 e4 hvE hcE hdn hL' hI' s1 s2 s3 s4 s5 s6
              have HT2 := HT.out
              clear HT t2
              cases dn
              · have h14 := h13.on ((Below.refl _ _).alloc (Nat.le_refl _) (.cells (dcs b0 b1 b2 false) 35))
                have hs14 := hs13.alloc (.cells (dcs b0 b1 b2 false) 35)
                have hm14 : MarksAt _ mb r := hm13.alloc (.cells (dcs b0 b1 b2 false) 35)
                have cs14 : (w13.alloc (.cells (dcs b0 b1 b2 false) 35)).cell? ⟨sb, (r.mark (r.c + j) % (szN n : Int)).toNat, none⟩ = _ := (World.cell?_alloc_lt _ _ _ hs13.lt).trans cs13
                have cd := (Held.new w13 35 (dcs b0 b1 b2 false)).desc.1.2.2.2
                go_wp2_with fail
                generalize w13.alloc (.cells (dcs b0 b1 b2 false) 35) = w14 at h14 hs14 hm14 cs14 cd ⊢
                have m0 : w14.cell? ⟨mb, 0, none⟩ = some (.int .u32 (r.mark r.c)) := hm14.cell 0
                have m1 : w14.cell? ⟨mb, 1, none⟩ = some (.int .u32 (r.mark r.i)) := hm14.cell 1
                have m4 : w14.cell? ⟨mb, 4, none⟩ = some (.int .u32 (r.mark r.ds.length)) := hm14.cell 4
                clear h13 hs13 hm13 cs13 ok hci hit htb hbp hroom hpos hadd
                go_quiet (fail)
                go_wp2
                go_roundw
                case rel => exact ⟨j + 1, by omega, by go_num, h14.drewN _, hm14, hs14⟩
                case measure => simp [intOf]; omega
              · have h14 := h13.on ((Below.refl _ _).alloc (Nat.le_refl _) (.cells (dcs b0 b1 b2 true) 35))
                have hs14 := hs13.alloc (.cells (dcs b0 b1 b2 true) 35)
                have hm14 : MarksAt _ mb r := hm13.alloc (.cells (dcs b0 b1 b2 true) 35)
                have cs14 : (w13.alloc (.cells (dcs b0 b1 b2 true) 35)).cell? ⟨sb, (r.mark (r.c + j) % (szN n : Int)).toNat, none⟩ = _ := (World.cell?_alloc_lt _ _ _ hs13.lt).trans cs13
                have cd := (Held.new w13 35 (dcs b0 b1 b2 true)).desc.1.2.2.2
                go_wp2_with fail
                generalize w13.alloc (.cells (dcs b0 b1 b2 true) 35) = w14 at h14 hs14 hm14 cs14 cd ⊢
                have m0 : w14.cell? ⟨mb, 0, none⟩ = some (.int .u32 (r.mark r.c)) := hm14.cell 0
                have m1 : w14.cell? ⟨mb, 1, none⟩ = some (.int .u32 (r.mark r.i)) := hm14.cell 1
                have m4 : w14.cell? ⟨mb, 4, none⟩ = some (.int .u32 (r.mark r.ds.length)) := hm14.cell 4
                clear h13 hs13 hm13 cs13 ok hci hit htb hbp hroom hpos hadd
                go_quiet (fail)
                go_wp2
                go_roundw
                case rel => exact ⟨j + 1, by omega, by go_num, h14.drewN _, hm14, hs14⟩
                case measure => simp [intOf]; omega
            · rw [if_neg hin2] at hwin
              have hvE : decV (r.cont (r.slot (r.c + j))) = dv 0 0 0 false := by rw [hwin]; rfl
              have hcE : decE (r.cont (r.slot (r.c + j))) = 20 := by rw [hwin]; rfl
              rw [hvE, hcE]
              have g1 : (r.cont (r.slot (r.c + j))).toList.isEmpty = true := strNone_yes hwin
              have t1 : decide ((j : Int) < L) = false := by rw [hL']; simp; omega
              generalize r.cont (r.slot (r.c + j)) = s at g1 cs13 ⊢
              clear hwin hvE hcE hL' hI'
              have h14 := h13.on ((Below.refl _ _).alloc (Nat.le_refl _) (.cells (dcs 0 0 0 false) 35))
              have hs14 := hs13.alloc (.cells (dcs 0 0 0 false) 35)
              have hm14 : MarksAt _ mb r := hm13.alloc (.cells (dcs 0 0 0 false) 35)
              have cs14 : (w13.alloc (.cells (dcs 0 0 0 false) 35)).cell? ⟨sb, (r.mark (r.c + j) % (szN n : Int)).toNat, none⟩ = _ := (World.cell?_alloc_lt _ _ _ hs13.lt).trans cs13
              have cd := (Held.new w13 35 (dcs 0 0 0 false)).desc.1.2.2.2
              go_wp2_with fail
              generalize w13.alloc (.cells (dcs 0 0 0 false) 35) = w14 at h14 hs14 hm14 cs14 cd ⊢
              have m0 : w14.cell? ⟨mb, 0, none⟩ = some (.int .u32 (r.mark r.c)) := hm14.cell 0
              have m1 : w14.cell? ⟨mb, 1, none⟩ = some (.int .u32 (r.mark r.i)) := hm14.cell 1
              have m4 : w14.cell? ⟨mb, 4, none⟩ = some (.int .u32 (r.mark r.ds.length)) := hm14.cell 4
              clear h13 hs13 hm13 cs13 ok hci hit htb hbp hroom hpos hadd
              go_quiet (fail)
              go_wp2
              go_roundw
              case rel => exact ⟨j + 1, by omega, by go_num, h14.drewN _, hm14, hs14⟩
              case measure => simp [intOf]; omega
          · go_wp2_with fail
            refine (lsize_p n _).mono ?_
            rintro e w11 ⟨rfl, hb11⟩
            have h11 := h10.on hb11
            go_wp2
            go_ret
            exact ⟨rfl, h11.below⟩
end Go.Proofs.Ytfnhnicjomaelaa
