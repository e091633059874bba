/-
  The walk of RingFirst. Conditions: the acts' numbers fit their kinds.
-/
import Derived.Test.YtfnhnicjomaelaaRingT
namespace Go.Proofs.Ytfnhnicjomaelaa
set_option linter.unusedSimpArgs false
set_option linter.unusedVariables false
open Go.ChangeShapes Go.WideShapes Go.ChangeAt Go.RowKit

/-- the same ring with another first index -/
def RS.at0 (r : RS) (g : Int) : RS := { r with f := g }
theorem RS.at0_postR (r : RS) (g i l f : Int) (d : Bool) : (r.at0 g).postR i l f d = (r.postR i l f d).at0 g := by
  unfold RS.postR
  rcases (!rightB l || d) with _ | _
  · simp only [cond_false]
    show (if r.ds.length = r.c + r.n then r.at0 g else (r.at0 g).post (i, l, f)) = _
    split <;> rfl
  · rfl
theorem RS.at0_fetchR (r : RS) (g : Int) : (r.at0 g).fetchR = r.fetchR.at0 g := by
  unfold RS.fetchR
  show (bif r.hasFetch then (r.at0 g).fetch else r.at0 g) = _
  cases r.hasFetch <;> rfl
theorem RS.at0_finishR (r : RS) (g : Int) : (r.at0 g).finishR = r.finishR.at0 g := by
  unfold RS.finishR
  show (bif r.hasFinish then (r.at0 g).finish else r.at0 g) = _
  cases r.hasFinish <;> rfl
theorem RS.at0_cleanR (r : RS) (g : Int) : (r.at0 g).cleanR = r.cleanR.at0 g := by
  unfold RS.cleanR
  show (bif r.hasClean then (r.at0 g).clean else r.at0 g) = _
  cases r.hasClean <;> rfl
/-- two rings of the program, with blocks of their own -/
structure Twin (W w : World) (p q p' q' : Nat) (ra rb : RS) : Prop where
  a : RingP w p q ra
  b : RingP w p' q' rb
  below : Below W.heap.size W w
  n1 : W.heap.size ≤ p
  n2 : W.heap.size ≤ q
  n3 : W.heap.size ≤ p'
  n4 : W.heap.size ≤ q'
  x1 : p ≠ p'
  x2 : p ≠ q'
  x3 : q ≠ p'
  x4 : q ≠ q'
theorem Twin.on {W w w' : World} {p q p' q' : Nat} {ra rb : RS} (h : Twin W w p q p' q' ra rb) (hb : Below w.heap.size w w') : Twin W w' p q p' q' ra rb :=
  ⟨h.a.below hb, h.b.below hb, h.below.trans (hb.mono h.below.size), h.n1, h.n2, h.n3, h.n4, h.x1, h.x2, h.x3, h.x4⟩
theorem Twin.lt {W w : World} {p q p' q' : Nat} {ra rb : RS} (h : Twin W w p q p' q' ra rb) : p < w.heap.size ∧ q < w.heap.size ∧ p' < w.heap.size ∧ q' < w.heap.size := ⟨h.a.ring.lt, h.a.slots.lt, h.b.ring.lt, h.b.slots.lt⟩
/-- the first has stepped -/
theorem Twin.stepA {W w w1 : World} {p q p' q' : Nat} {ra rb r1 : RS} (h : Twin W w p q p' q' ra rb) (ha : RingP w1 p q r1) (fa : Foot (Own2 p q) w w1) : Twin W w1 p q p' q' r1 rb :=
  ⟨ha, h.b.foot fa (by simp only [Own2]; have := h.x1; have := h.x3; omega) (by simp only [Own2]; have := h.x2; have := h.x4; omega), fa.after h.below (fun i hi => by have := h.n1; have := h.n2; simp only [Own2] at hi; omega), h.n1, h.n2, h.n3, h.n4, h.x1, h.x2, h.x3, h.x4⟩
/-- the second has stepped -/
theorem Twin.stepB {W w w1 : World} {p q p' q' : Nat} {ra rb r1 : RS} (h : Twin W w p q p' q' ra rb) (hb : RingP w1 p' q' r1) (fb : Foot (Own2 p' q') w w1) : Twin W w1 p q p' q' ra r1 :=
  ⟨h.a.foot fb (by simp only [Own2]; have := h.x1; have := h.x2; omega) (by simp only [Own2]; have := h.x3; have := h.x4; omega), hb, fb.after h.below (fun i hi => by have := h.n3; have := h.n4; simp only [Own2] at hi; omega), h.n1, h.n2, h.n3, h.n4, h.x1, h.x2, h.x3, h.x4⟩
theorem Twin.other {W w : World} {p q p' q' : Nat} {ra rb : RS} (h : Twin W w p q p' q' ra rb) {b : Nat} (hb : W.heap.size ≤ b) (hn : b ≠ p ∧ b ≠ q ∧ b ≠ p' ∧ b ≠ q') (j : Nat) (v : Value) : Twin W (w.setCell ⟨b, j, none⟩ v) p q p' q' ra rb :=
  ⟨h.a.other hn.1 hn.2.1 j v, h.b.other hn.2.2.1 hn.2.2.2 j v, h.below.setCell (p := ⟨b, j, none⟩) hb v, h.n1, h.n2, h.n3, h.n4, h.x1, h.x2, h.x3, h.x4⟩
theorem ActsIn.desc {W w : World} {b o len : Nat} {acts : Nat → ActV} (h : ActsIn W b o len acts) (hb : Below W.heap.size W w) {k : Nat} (hk : k < len) : w.rangeAt b (o + k * 5 + 1) (dcs (acts k).i (acts k).l (acts k).f (acts k).d).toList := fun j v hv => by
  rw [Nat.add_assoc, hb.cell (p := ⟨b, o + k * 5 + (1 + j), none⟩) h.lt]
  refine h.cells k hk (1 + j) v ?_
  rw [Nat.add_comm 1 j]
  exact hv
theorem desc_info : (Try.prog.info? 35).map (·.size) = some 4 := by kernel_rfl

set_option maxRecDepth 100000 in
set_option maxHeartbeats 2000000 in
theorem first_w (n f g : Int) (hf0 : 0 ≤ f) (hf1 : f ≤ 4294967295) (hg0 : 0 ≤ g) (hg1 : g ≤ 4294967295) (A : Option Addr) (len cap : Nat) (acts : Nat → ActV) (hl : len ≤ cap) (hc : cap ≤ maxLen) (W : World) (hA : ActsAt W A len acts) :
    Calls Try.prog 7 #[.int .i64 n, .int .u32 f, .int .u32 g, .slice A len cap] W fun e w' => e = .returned (.bool true) ∧ Below W.heap.size W w' := by
  unfold maxLen at hc
  obtain ⟨b, o, HAb, hin⟩ := ActsAt.open hA
  clear hA
  have hsz := szN_size n
  go_enter Try.func7, Try.ntmps7
  go_wp2_with fail
  refine (shown3_p _).mono ?_
  rintro e w1 ⟨rfl, hb1⟩
  go_wp2_with fail
  refine (lsize_p n _).mono ?_
  rintro e w2 ⟨rfl, hb2⟩
  have hB2 := hb1.trans (hb2.mono hb1.size)
  clear hb1 hb2
  go_wp2_with fail
  refine (new_p (szN n) f hsz hf0 hf1 _).mono ?_
  rintro e w3 ⟨p, q, rfl, h3, hp3, hq3, hb3⟩
  have hB3 := hB2.trans (hb3.mono hB2.size)
  have hz2 := hB2.size
  clear hb3 hB2
  go_wp2_with fail
  refine (lsize_p n _).mono ?_
  rintro e w4 ⟨rfl, hb4⟩
  have h4 := h3.below hb4
  have hB4 := hB3.trans (hb4.mono hB3.size)
  clear hb4 hB3 h3
  go_wp2_with fail
  refine (new_p (szN n) g hsz hg0 hg1 _).mono ?_
  rintro e w5 ⟨p', q', rfl, h5, hp5, hq5, hb5⟩
  have hP : Twin W w5 p q p' q' (RS.new (szN n) f) ((RS.new (szN n) f).at0 g) := ⟨h4.below hb5, h5, hB4.trans (hb5.mono hB4.size), by omega, by omega, by have := hB4.size; omega, by have := hB4.size; omega, by have := h4.ring.lt; omega, by have := h4.ring.lt; omega, by have := h4.slots.lt; omega, by have := h4.slots.lt; omega⟩
  clear hb5 hB4 h4 h5 hp3 hq3 hp5 hq5 hz2
  go_wp2
  go_loopw [14] (fun i wr => ∃ k : Nat, k ≤ len ∧ i = .int .i64 k ∧ ∃ r, Twin W wr p q p' q' r (r.at0 g)) (fun i _ => len - (intOf i).toNat)
  case atStart => exact ⟨0, Nat.zero_le _, rfl, _, hP⟩
  case round =>
    obtain ⟨k, hk, rfl, r, hr⟩ := hrel
    clear hP
    by_cases hlt : k < len ∧ k < 80
    · obtain ⟨hlt, h80⟩ := hlt
      obtain rfl := HAb.out (by omega)
      have HI := hin (by omega)
      obtain ⟨⟨a0, a1⟩, ⟨a2, a3⟩, a4, a5⟩ := Fits.bd (HI.fits k hlt)
      have t0 := hr.on ((Below.refl _ _).alloc (Nat.le_refl _) (.cells (dcs 0 0 0 false) 35))
      have t1 := t0.on ((Below.refl _ _).alloc (Nat.le_refl _) (.cells (dcs 0 0 0 false) 35))
      have x1 := (Held.new wr 35 (dcs 0 0 0 false)).alloc (.cells (dcs 0 0 0 false) 35)
      have y1 := Held.new (wr.alloc (.cells (dcs 0 0 0 false) 35)) 35 (dcs 0 0 0 false)
      rw [World.size_alloc] at y1
      obtain ⟨l1, l2, l3, l4⟩ := hr.lt
      have nxW : W.heap.size ≤ wr.heap.size := hr.below.size
      obtain ⟨w6, hw6⟩ : ∃ w6, (wr.alloc (.cells (dcs 0 0 0 false) 35)).alloc (.cells (dcs 0 0 0 false) 35) = w6 := ⟨_, rfl⟩
      rw [hw6] at t1 x1 y1
      have co : w6.cell? ⟨b, o + k * 5, none⟩ = some (.int .i64 (acts k).o) := by
        have := (HI.range t1.below hlt) 0 _ rfl
        rwa [Nat.add_zero] at this
      have hd6 := HI.desc t1.below hlt
      have hk5 := opK_tmod (acts k).o
      obtain ⟨bx, hbx⟩ : ∃ bx, wr.heap.size = bx := ⟨_, rfl⟩
      have nx : bx ≠ p ∧ bx ≠ q ∧ bx ≠ p' ∧ bx ≠ q' := by omega
      have ny : bx + 1 ≠ p ∧ bx + 1 ≠ q ∧ bx + 1 ≠ p' ∧ bx + 1 ≠ q' := by omega
      rw [hbx] at x1 y1 nxW
      clear t0 hr l1 l2 l3 l4
      rcases opK_cases (acts k).o with ho | ho | ho | ho | ho
      · rw [ho] at hk5
        clear ho
        have HD6 := Lib.hid hd6
        clear hd6
        go_wp2_with (refine wpList_load_mid rfl 35 (.tmp 63) rfl b (o + k * 5 + 1) rfl _ _ HD6.out Try.underlying35 rfl desc_info ?_; dsimp only [Array.toArray_toList])
        clear hw6 hbx co HD6
        refine (post_p w6 p q r t1.a _ _ _ _ a0 a1 a2 a3 a4 a5).mono ?_
        rintro e w7 ⟨rfl, h7, f7⟩
        have t7 := t1.stepA h7 f7
        have HD7 := Lib.hid (HI.desc t7.below hlt)
        have x7 := x1.foot f7 (by simp only [Own2]; omega)
        have y7 := y1.foot f7 (by simp only [Own2]; omega)
        clear t1 h7 f7 x1 y1
        go_wp2_with (refine wpList_load_mid rfl 35 (.tmp 70) rfl b (o + k * 5 + 1) rfl _ _ HD7.out Try.underlying35 rfl desc_info ?_; dsimp only [Array.toArray_toList])
        clear HD7
        refine (post_p w7 p' q' _ t7.b _ _ _ _ a0 a1 a2 a3 a4 a5).mono ?_
        rintro e w8 ⟨rfl, h8, f8⟩
        rw [RS.at0_postR] at h8
        have t8 := t7.stepB h8 f8
        have x8 := x7.foot f8 (by simp only [Own2]; omega)
        have y8 := y7.foot f8 (by simp only [Own2]; omega)
        clear t7 h8 f8 x7 y7
        rw [show (r.at0 g).postE (acts k).l (acts k).d = r.postE (acts k).l (acts k).d from rfl]
        obtain ⟨⟨x_0, x_1, x_2, x_3⟩, _⟩ := x8.desc
        obtain ⟨⟨y_0, y_1, y_2, y_3⟩, _⟩ := y8.desc
        go_wp2
        go_roundw
        case rel => exact ⟨k + 1, by omega, by go_num, _, t8⟩
        case measure => simp [intOf]; omega
      · rw [ho] at hk5
        clear ho
        clear hd6
        go_wp2_with fail
        clear hw6 hbx co
        refine (bell_p w6 p q r t1.a).mono ?_
        rintro e w7 ⟨rfl, h7, f7⟩
        have t7 := t1.stepA h7 f7
        have x7 := x1.foot f7 (by simp only [Own2]; omega)
        have y7 := y1.foot f7 (by simp only [Own2]; omega)
        clear t1 h7 f7 x1 y1
        go_wp2_with fail
        refine (bell_p w7 p' q' _ t7.b).mono ?_
        rintro e w8 ⟨rfl, h8, f8⟩
        have h8' : RingP w8 p' q' (r.bell.at0 g) := h8
        have t8 := t7.stepB h8' f8
        have x8 := x7.foot f8 (by simp only [Own2]; omega)
        have y8 := y7.foot f8 (by simp only [Own2]; omega)
        clear t7 h8 h8' f8 x7 y7
        obtain ⟨⟨x_0, x_1, x_2, x_3⟩, _⟩ := x8.desc
        obtain ⟨⟨y_0, y_1, y_2, y_3⟩, _⟩ := y8.desc
        go_wp2
        go_roundw
        case rel => exact ⟨k + 1, by omega, by go_num, _, t8⟩
        case measure => simp [intOf]; omega
      · rw [ho] at hk5
        clear ho
        clear hd6
        go_wp2_with fail
        clear hw6 hbx co
        refine (fetch_p w6 p q r t1.a).mono ?_
        rintro e w7 ⟨rfl, h7, f7⟩
        have t7 := t1.stepA h7 f7
        have x7 := x1.foot f7 (by simp only [Own2]; omega)
        have y7 := y1.foot f7 (by simp only [Own2]; omega)
        clear t1 h7 f7 x1 y1
        obtain ⟨v, hv⟩ : ∃ v : PD × Bool, (bif r.hasFetch then dv (r.at_ r.t).1 (r.at_ r.t).2.1 (r.at_ r.t).2.2 false else dv 0 0 0 false) = dv v.1.1 v.1.2.1 v.1.2.2 v.2 := by
          cases r.hasFetch
          · exact ⟨((0, 0, 0), false), rfl⟩
          · exact ⟨(r.at_ r.t, false), rfl⟩
        rw [hv]
        have HV := Lib.hid hv
        clear hv
        have q7 := x7.desc.2
        obtain ⟨q0, q1, q2, q3⟩ := q7
        obtain ⟨⟨p0, p1, p2, p3⟩, _⟩ := x7.desc
        have x8 : Held ((((w7.setCell ⟨bx, 0, none⟩ (.int .u32 v.1.1)).setCell ⟨bx, 1, none⟩ (.int .u32 v.1.2.1)).setCell ⟨bx, 2, none⟩ (.int .u32 v.1.2.2)).setCell ⟨bx, 3, none⟩ (.bool v.2)) bx 35 (dcs v.1.1 v.1.2.1 v.1.2.2 v.2) := (((x7.set 0 _).set 1 _).set 2 _).set 3 _
        have y8 := (((y7.other (b' := bx) (by omega) 0 (.int .u32 v.1.1)).other (b' := bx) (by omega) 1 (.int .u32 v.1.2.1)).other (b' := bx) (by omega) 2 (.int .u32 v.1.2.2)).other (b' := bx) (by omega) 3 (.bool v.2)
        have t8 := (((t7.other nxW nx 0 (.int .u32 v.1.1)).other nxW nx 1 (.int .u32 v.1.2.1)).other nxW nx 2 (.int .u32 v.1.2.2)).other nxW nx 3 (.bool v.2)
        go_wp2_with fail
        generalize (((w7.setCell ⟨bx, 0, none⟩ (.int .u32 v.1.1)).setCell ⟨bx, 1, none⟩ (.int .u32 v.1.2.1)).setCell ⟨bx, 2, none⟩ (.int .u32 v.1.2.2)).setCell ⟨bx, 3, none⟩ (.bool v.2) = w8 at x8 y8 t8 ⊢
        clear t7 x7 y7 p0 p1 p2 p3 q0 q1 q2 q3
        refine (fetch_p w8 p' q' _ t8.b).mono ?_
        rintro e w9 ⟨rfl, h9, f9⟩
        rw [RS.at0_fetchR] at h9
        have t9 := t8.stepB h9 f9
        have x9 := x8.foot f9 (by simp only [Own2]; omega)
        have y9 := y8.foot f9 (by simp only [Own2]; omega)
        clear t8 h9 f9 x8 y8
        rw [show (r.at0 g).hasFetch = r.hasFetch from rfl, show (r.at0 g).at_ (r.at0 g).t = r.at_ r.t from rfl, HV.out]
        obtain ⟨q0, q1, q2, q3⟩ := y9.desc.2
        obtain ⟨⟨p0, p1, p2, p3⟩, _⟩ := y9.desc
        have y10 : Held ((((w9.setCell ⟨bx + 1, 0, none⟩ (.int .u32 v.1.1)).setCell ⟨bx + 1, 1, none⟩ (.int .u32 v.1.2.1)).setCell ⟨bx + 1, 2, none⟩ (.int .u32 v.1.2.2)).setCell ⟨bx + 1, 3, none⟩ (.bool v.2)) (bx + 1) 35 (dcs v.1.1 v.1.2.1 v.1.2.2 v.2) := (((y9.set 0 _).set 1 _).set 2 _).set 3 _
        have x10 := (((x9.other (b' := bx + 1) (by omega) 0 (.int .u32 v.1.1)).other (b' := bx + 1) (by omega) 1 (.int .u32 v.1.2.1)).other (b' := bx + 1) (by omega) 2 (.int .u32 v.1.2.2)).other (b' := bx + 1) (by omega) 3 (.bool v.2)
        have t10 := (((t9.other (b := bx + 1) (by omega) ny 0 (.int .u32 v.1.1)).other (b := bx + 1) (by omega) ny 1 (.int .u32 v.1.2.1)).other (b := bx + 1) (by omega) ny 2 (.int .u32 v.1.2.2)).other (b := bx + 1) (by omega) ny 3 (.bool v.2)
        obtain ⟨w10, hw10⟩ : ∃ w10, (((w9.setCell ⟨bx + 1, 0, none⟩ (.int .u32 v.1.1)).setCell ⟨bx + 1, 1, none⟩ (.int .u32 v.1.2.1)).setCell ⟨bx + 1, 2, none⟩ (.int .u32 v.1.2.2)).setCell ⟨bx + 1, 3, none⟩ (.bool v.2) = w10 := ⟨_, rfl⟩
        rw [hw10] at y10 x10 t10
        clear t9 x9 y9
        obtain ⟨⟨x_0, x_1, x_2, x_3⟩, _⟩ := x10.desc
        obtain ⟨⟨y_0, y_1, y_2, y_3⟩, _⟩ := y10.desc
        go_wp2
        go_roundw
        case rel => exact ⟨k + 1, by omega, by go_num, _, t10⟩
        case measure => simp [intOf]; omega
      · rw [ho] at hk5
        clear ho
        clear hd6
        go_wp2_with fail
        clear hw6 hbx co
        refine (finish_p1 w6 p q r t1.a).mono ?_
        rintro e w7 ⟨rfl, h7, f7⟩
        have t7 := t1.stepA h7 f7
        have x7 := x1.foot f7 (by simp only [Own2]; omega)
        have y7 := y1.foot f7 (by simp only [Own2]; omega)
        clear t1 h7 f7 x1 y1
        obtain ⟨v, hv⟩ : ∃ v : PD × Bool, (bif r.hasFinish then dv (r.at_ r.i).1 (r.at_ r.i).2.1 (r.at_ r.i).2.2 true else dv 0 0 0 false) = dv v.1.1 v.1.2.1 v.1.2.2 v.2 := by
          cases r.hasFinish
          · exact ⟨((0, 0, 0), false), rfl⟩
          · exact ⟨(r.at_ r.i, true), rfl⟩
        rw [hv]
        have HV := Lib.hid hv
        clear hv
        have q7 := x7.desc.2
        obtain ⟨q0, q1, q2, q3⟩ := q7
        obtain ⟨⟨p0, p1, p2, p3⟩, _⟩ := x7.desc
        have x8 : Held ((((w7.setCell ⟨bx, 0, none⟩ (.int .u32 v.1.1)).setCell ⟨bx, 1, none⟩ (.int .u32 v.1.2.1)).setCell ⟨bx, 2, none⟩ (.int .u32 v.1.2.2)).setCell ⟨bx, 3, none⟩ (.bool v.2)) bx 35 (dcs v.1.1 v.1.2.1 v.1.2.2 v.2) := (((x7.set 0 _).set 1 _).set 2 _).set 3 _
        have y8 := (((y7.other (b' := bx) (by omega) 0 (.int .u32 v.1.1)).other (b' := bx) (by omega) 1 (.int .u32 v.1.2.1)).other (b' := bx) (by omega) 2 (.int .u32 v.1.2.2)).other (b' := bx) (by omega) 3 (.bool v.2)
        have t8 := (((t7.other nxW nx 0 (.int .u32 v.1.1)).other nxW nx 1 (.int .u32 v.1.2.1)).other nxW nx 2 (.int .u32 v.1.2.2)).other nxW nx 3 (.bool v.2)
        go_wp2_with fail
        generalize (((w7.setCell ⟨bx, 0, none⟩ (.int .u32 v.1.1)).setCell ⟨bx, 1, none⟩ (.int .u32 v.1.2.1)).setCell ⟨bx, 2, none⟩ (.int .u32 v.1.2.2)).setCell ⟨bx, 3, none⟩ (.bool v.2) = w8 at x8 y8 t8 ⊢
        clear t7 x7 y7 p0 p1 p2 p3 q0 q1 q2 q3
        refine (finish_p1 w8 p' q' _ t8.b).mono ?_
        rintro e w9 ⟨rfl, h9, f9⟩
        rw [RS.at0_finishR] at h9
        have t9 := t8.stepB h9 f9
        have x9 := x8.foot f9 (by simp only [Own2]; omega)
        have y9 := y8.foot f9 (by simp only [Own2]; omega)
        clear t8 h9 f9 x8 y8
        rw [show (r.at0 g).hasFinish = r.hasFinish from rfl, show (r.at0 g).at_ (r.at0 g).i = r.at_ r.i from rfl, HV.out]
        obtain ⟨q0, q1, q2, q3⟩ := y9.desc.2
        obtain ⟨⟨p0, p1, p2, p3⟩, _⟩ := y9.desc
        have y10 : Held ((((w9.setCell ⟨bx + 1, 0, none⟩ (.int .u32 v.1.1)).setCell ⟨bx + 1, 1, none⟩ (.int .u32 v.1.2.1)).setCell ⟨bx + 1, 2, none⟩ (.int .u32 v.1.2.2)).setCell ⟨bx + 1, 3, none⟩ (.bool v.2)) (bx + 1) 35 (dcs v.1.1 v.1.2.1 v.1.2.2 v.2) := (((y9.set 0 _).set 1 _).set 2 _).set 3 _
        have x10 := (((x9.other (b' := bx + 1) (by omega) 0 (.int .u32 v.1.1)).other (b' := bx + 1) (by omega) 1 (.int .u32 v.1.2.1)).other (b' := bx + 1) (by omega) 2 (.int .u32 v.1.2.2)).other (b' := bx + 1) (by omega) 3 (.bool v.2)
        have t10 := (((t9.other (b := bx + 1) (by omega) ny 0 (.int .u32 v.1.1)).other (b := bx + 1) (by omega) ny 1 (.int .u32 v.1.2.1)).other (b := bx + 1) (by omega) ny 2 (.int .u32 v.1.2.2)).other (b := bx + 1) (by omega) ny 3 (.bool v.2)
        obtain ⟨w10, hw10⟩ : ∃ w10, (((w9.setCell ⟨bx + 1, 0, none⟩ (.int .u32 v.1.1)).setCell ⟨bx + 1, 1, none⟩ (.int .u32 v.1.2.1)).setCell ⟨bx + 1, 2, none⟩ (.int .u32 v.1.2.2)).setCell ⟨bx + 1, 3, none⟩ (.bool v.2) = w10 := ⟨_, rfl⟩
        rw [hw10] at y10 x10 t10
        clear t9 x9 y9
        obtain ⟨⟨x_0, x_1, x_2, x_3⟩, _⟩ := x10.desc
        obtain ⟨⟨y_0, y_1, y_2, y_3⟩, _⟩ := y10.desc
        go_wp2
        go_roundw
        case rel => exact ⟨k + 1, by omega, by go_num, _, t10⟩
        case measure => simp [intOf]; omega
      · rw [ho] at hk5
        clear ho
        clear hd6
        go_wp2_with fail
        clear hw6 hbx co
        refine (clean_p w6 p q r t1.a).mono ?_
        rintro e w7 ⟨rfl, h7, f7⟩
        have t7 := t1.stepA h7 f7
        have x7 := x1.foot f7 (by simp only [Own2]; omega)
        have y7 := y1.foot f7 (by simp only [Own2]; omega)
        clear t1 h7 f7 x1 y1
        obtain ⟨v, hv⟩ : ∃ v : PD × Bool, (bif r.hasClean then dv (r.at_ r.c).1 (r.at_ r.c).2.1 (r.at_ r.c).2.2 true else dv 0 0 0 false) = dv v.1.1 v.1.2.1 v.1.2.2 v.2 := by
          cases r.hasClean
          · exact ⟨((0, 0, 0), false), rfl⟩
          · exact ⟨(r.at_ r.c, true), rfl⟩
        rw [hv]
        have HV := Lib.hid hv
        clear hv
        have q7 := x7.desc.2
        obtain ⟨q0, q1, q2, q3⟩ := q7
        obtain ⟨⟨p0, p1, p2, p3⟩, _⟩ := x7.desc
        have x8 : Held ((((w7.setCell ⟨bx, 0, none⟩ (.int .u32 v.1.1)).setCell ⟨bx, 1, none⟩ (.int .u32 v.1.2.1)).setCell ⟨bx, 2, none⟩ (.int .u32 v.1.2.2)).setCell ⟨bx, 3, none⟩ (.bool v.2)) bx 35 (dcs v.1.1 v.1.2.1 v.1.2.2 v.2) := (((x7.set 0 _).set 1 _).set 2 _).set 3 _
        have y8 := (((y7.other (b' := bx) (by omega) 0 (.int .u32 v.1.1)).other (b' := bx) (by omega) 1 (.int .u32 v.1.2.1)).other (b' := bx) (by omega) 2 (.int .u32 v.1.2.2)).other (b' := bx) (by omega) 3 (.bool v.2)
        have t8 := (((t7.other nxW nx 0 (.int .u32 v.1.1)).other nxW nx 1 (.int .u32 v.1.2.1)).other nxW nx 2 (.int .u32 v.1.2.2)).other nxW nx 3 (.bool v.2)
        go_wp2_with fail
        generalize (((w7.setCell ⟨bx, 0, none⟩ (.int .u32 v.1.1)).setCell ⟨bx, 1, none⟩ (.int .u32 v.1.2.1)).setCell ⟨bx, 2, none⟩ (.int .u32 v.1.2.2)).setCell ⟨bx, 3, none⟩ (.bool v.2) = w8 at x8 y8 t8 ⊢
        clear t7 x7 y7 p0 p1 p2 p3 q0 q1 q2 q3
        refine (clean_p w8 p' q' _ t8.b).mono ?_
        rintro e w9 ⟨rfl, h9, f9⟩
        rw [RS.at0_cleanR] at h9
        have t9 := t8.stepB h9 f9
        have x9 := x8.foot f9 (by simp only [Own2]; omega)
        have y9 := y8.foot f9 (by simp only [Own2]; omega)
        clear t8 h9 f9 x8 y8
        rw [show (r.at0 g).hasClean = r.hasClean from rfl, show (r.at0 g).at_ (r.at0 g).c = r.at_ r.c from rfl, HV.out]
        obtain ⟨q0, q1, q2, q3⟩ := y9.desc.2
        obtain ⟨⟨p0, p1, p2, p3⟩, _⟩ := y9.desc
        have y10 : Held ((((w9.setCell ⟨bx + 1, 0, none⟩ (.int .u32 v.1.1)).setCell ⟨bx + 1, 1, none⟩ (.int .u32 v.1.2.1)).setCell ⟨bx + 1, 2, none⟩ (.int .u32 v.1.2.2)).setCell ⟨bx + 1, 3, none⟩ (.bool v.2)) (bx + 1) 35 (dcs v.1.1 v.1.2.1 v.1.2.2 v.2) := (((y9.set 0 _).set 1 _).set 2 _).set 3 _
        have x10 := (((x9.other (b' := bx + 1) (by omega) 0 (.int .u32 v.1.1)).other (b' := bx + 1) (by omega) 1 (.int .u32 v.1.2.1)).other (b' := bx + 1) (by omega) 2 (.int .u32 v.1.2.2)).other (b' := bx + 1) (by omega) 3 (.bool v.2)
        have t10 := (((t9.other (b := bx + 1) (by omega) ny 0 (.int .u32 v.1.1)).other (b := bx + 1) (by omega) ny 1 (.int .u32 v.1.2.1)).other (b := bx + 1) (by omega) ny 2 (.int .u32 v.1.2.2)).other (b := bx + 1) (by omega) ny 3 (.bool v.2)
        obtain ⟨w10, hw10⟩ : ∃ w10, (((w9.setCell ⟨bx + 1, 0, none⟩ (.int .u32 v.1.1)).setCell ⟨bx + 1, 1, none⟩ (.int .u32 v.1.2.1)).setCell ⟨bx + 1, 2, none⟩ (.int .u32 v.1.2.2)).setCell ⟨bx + 1, 3, none⟩ (.bool v.2) = w10 := ⟨_, rfl⟩
        rw [hw10] at y10 x10 t10
        clear t9 x9 y9
        obtain ⟨⟨x_0, x_1, x_2, x_3⟩, _⟩ := x10.desc
        obtain ⟨⟨y_0, y_1, y_2, y_3⟩, _⟩ := y10.desc
        go_wp2
        go_roundw
        case rel => exact ⟨k + 1, by omega, by go_num, _, t10⟩
        case measure => simp [intOf]; omega
    · go_wp2
      all_goals
        go_ret
        exact ⟨rfl, hr.below⟩
end Go.Proofs.Ytfnhnicjomaelaa
