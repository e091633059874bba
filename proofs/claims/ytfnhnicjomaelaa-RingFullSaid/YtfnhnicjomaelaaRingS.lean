/-
  The walk of RingFull. Conditions: the descriptor's numbers fit their kinds.
-/
import Derived.Test.YtfnhnicjomaelaaRingR
namespace Go.Proofs.Ytfnhnicjomaelaa
set_option linter.unusedSimpArgs false
set_option linter.unusedVariables false
open Go.ChangeShapes Go.WideShapes Go.ChangeAt Go.RowKit

/-- one ring of the program, new, behind the row's beginning -/
structure One (W w : World) (p q : Nat) (r : RS) : Prop where
  ring : RingP w p q r
  below : Below W.heap.size W w
  n1 : W.heap.size ≤ p
  n2 : W.heap.size ≤ q
theorem One.step {W w w' : World} {p q : Nat} {r r' : RS} (h : One W w p q r) (hb : RingP w' p q r') (hf : Foot (Own2 p q) w w') : One W w' p q r' :=
  ⟨hb, hf.after h.below (fun i hi => by have := h.n1; have := h.n2; simp only [Own2] at hi; omega), h.n1, h.n2⟩
theorem One.on {W w w' : World} {p q : Nat} {r : RS} (h : One W w p q r) (hb : Below w.heap.size w w') : One W w' p q r := ⟨h.ring.below hb, h.below.trans (hb.mono h.below.size), h.n1, h.n2⟩
theorem One.alloc {W w : World} {p q : Nat} {r : RS} (h : One W w p q r) (o : Obj) : One W (w.alloc o) p q r := h.on ((Below.refl _ _).alloc (Nat.le_refl _) _)
theorem One.drewN {W w : World} {p q : Nat} {r : RS} (h : One W w p q r) (k : Nat) : One W (w.drewN k) p q r := ⟨h.ring.drewN k, below_drewN h.below k, h.n1, h.n2⟩

/-- a ring into which k have been posted, and nothing else was done -/
structure Filled (r : RS) (n k : Nat) : Prop where
  n : r.n = n
  c : r.c = 0
  i : r.i = 0
  t : r.t = 0
  b : r.b = 0
  l : r.ds.length = k
theorem Filled.new (n : Nat) (f : Int) : Filled (RS.new n f) n 0 := ⟨rfl, rfl, rfl, rfl, rfl, rfl⟩
theorem Filled.post {r : RS} {n k : Nat} (h : Filled r n k) (hk : k < n) {l : Int} (hl : rightB l = true) (i f : Int) : r.postE l false = 0 ∧ Filled (r.postR i l f false) n (k + 1) := by
  obtain ⟨h1, h2, h3, h4, h5, h6⟩ := h
  have hne : ¬ r.ds.length = r.c + r.n := by omega
  refine ⟨by simp [RS.postE, hl, hne], ?_⟩
  have e : r.postR i l f false = r.post (i, l, f) := by simp [RS.postR, hl, hne]
  rw [e]
  exact ⟨h1, h2, h3, h4, h5, by simp [RS.post, h6]⟩
/-- what a full ring answers -/
structure FullAns (r : RS) (i l f : Int) : Prop where
  e1 : r.postE l false = 30
  r1 : r.postR i l f false = r
  f0 : r.hasFetch = false
  g0 : r.fetchR = r
  c0 : r.bell.hasClean = false
  d0 : r.bell.cleanR = r.bell
  f1 : r.bell.hasFetch = true
  i1 : r.bell.fetchR.hasFinish = true
  c1 : r.bell.fetchR.finishR.hasClean = true
  e2 : r.bell.fetchR.finishR.cleanR.postE l false = 0
  e3 : (r.bell.fetchR.finishR.cleanR.postR i l f false).postE l false = 30
theorem Filled.full {r : RS} {n : Nat} (h : Filled r n n) (hn : 1 ≤ n) {l : Int} (hl : rightB l = true) (i f : Int) : FullAns r i l f := by
  obtain ⟨h1, h2, h3, h4, h5, h6⟩ := h
  have hfull : r.ds.length = r.c + r.n := by omega
  have hb : r.bell.hasFetch = true := decide_eq_true (show r.t < r.ds.length by omega)
  have eb : r.bell.fetchR = r.bell.fetch := by simp [RS.fetchR, hb]
  have hi : r.bell.fetch.hasFinish = true := decide_eq_true (show r.i < r.t + 1 by omega)
  have ei : r.bell.fetch.finishR = r.bell.fetch.finish := by simp [RS.finishR, hi]
  have hc : r.bell.fetch.finish.hasClean = true := decide_eq_true (show r.c < r.i + 1 by omega)
  have ec : r.bell.fetch.finish.cleanR = r.bell.fetch.finish.clean := by simp [RS.cleanR, hc]
  have hne : ¬ r.bell.fetch.finish.clean.ds.length = r.bell.fetch.finish.clean.c + r.bell.fetch.finish.clean.n := by show ¬ r.ds.length = r.c + 1 + r.n; omega
  have hf0 : r.hasFetch = false := decide_eq_false (show ¬ r.t < r.b by omega)
  have hc0 : r.bell.hasClean = false := decide_eq_false (show ¬ r.c < r.i by omega)
  refine ⟨by simp [RS.postE, hl, hfull], by simp [RS.postR, hl, hfull], hf0, by simp [RS.fetchR, hf0], hc0, by simp [RS.cleanR, hc0], hb, by rw [eb]; exact hi, by rw [eb, ei]; exact hc, by rw [eb, ei, ec]; simp [RS.postE, hl, hne], ?_⟩
  rw [eb, ei, ec]
  have e : r.bell.fetch.finish.clean.postR i l f false = r.bell.fetch.finish.clean.post (i, l, f) := by simp [RS.postR, hl, hne]
  rw [e]
  have hf2 : (r.bell.fetch.finish.clean.post (i, l, f)).ds.length = (r.bell.fetch.finish.clean.post (i, l, f)).c + (r.bell.fetch.finish.clean.post (i, l, f)).n := by
    show (r.ds ++ [(i, l, f)]).length = r.c + 1 + r.n
    simp
    omega
  simp [RS.postE, hl, hf2]

theorem eE0 : RS.emptyE true = 0 := rfl
theorem eE1 : RS.emptyE false = 31 := rfl

set_option maxRecDepth 100000 in
set_option maxHeartbeats 1000000 in
theorem full_w (n f : Int) (hf0 : 0 ≤ f) (hf1 : f ≤ 4294967295) (i l g : Int) (d : Bool) (hi : 0 ≤ i) (hi1 : i ≤ 4294967295) (hl : 0 ≤ l) (hl1 : l ≤ 4294967295) (hg : 0 ≤ g) (hg1 : g ≤ 4294967295) (W : World) :
    Calls Try.prog 9 #[.int .i64 n, .int .u32 f, dv i l g d] W fun e w' => e = .returned (.bool true) ∧ Below W.heap.size W w' := by
  have hsz := szN_size n
  obtain ⟨hn1, hn2⟩ := szN_bd n
  obtain ⟨V, hV⟩ : ∃ V, W.alloc (.cells (dcs i l g d) 35) = V := ⟨_, rfl⟩
  have hbx : Held V W.heap.size 35 (dcs i l g d) := by rw [← hV]; exact Held.new W _ _
  have hbV : Below W.heap.size W V := by rw [← hV]; exact (Below.refl _ _).alloc (Nat.le_refl _) _
  have lV := hbx.lt
  go_enter Try.func9, Try.ntmps9
  go_wp2_with fail
  clear hV
  refine (shown3_p _).mono ?_
  rintro e w1 ⟨rfl, hb1⟩
  go_wp2_with fail
  refine (lsize_p n _).mono ?_
  rintro e w2 ⟨rfl, hb2⟩
  have hB2 := hb1.trans (hb2.mono hb1.size)
  clear hb1 hb2
  go_wp2_with fail
  refine (new_p (szN n) f hsz hf0 hf1 _).mono ?_
  rintro e w3 ⟨p, q, rfl, h3, hp3, hq3, hb3⟩
  have hz2 := hB2.size
  have O3 : One V w3 p q (RS.new (szN n) f) := ⟨h3, hB2.trans (hb3.mono hB2.size), by omega, by omega⟩
  clear hb3 hB2 h3 hp3 hq3 hz2
  obtain ⟨⟨b0, b1, b2, b3⟩, _⟩ := (hbx.below O3.below lV).desc
  go_wp2_with fail
  refine (right_r _ _ _ _ _).mono ?_
  rintro e w4 ⟨rfl, hb4⟩
  have O4 := O3.on hb4
  clear O3 hb4 b0 b1 b2 b3
  obtain ⟨⟨b0, b1, b2, b3⟩, _⟩ := (hbx.below O4.below lV).desc
  rcases hr : (!rightB l || d)
  · obtain ⟨hr1, rfl⟩ : rightB l = true ∧ d = false := by simpa using hr
    clear hr
    rw [hr1]
    go_wp2
    clear b0 b1 b2 b3
    go_loopw [11] (fun x wq => ∃ j : Nat, j ≤ szN n ∧ x = .int .i64 j ∧ ∃ r, Filled r (szN n) j ∧ One V wq p q r) (fun x _ => szN n - (intOf x).toNat)
    case atStart => exact ⟨0, Nat.zero_le _, rfl, _, Filled.new _ _, O4⟩
    case round =>
      obtain ⟨j, hj1, rfl, r, hF, O5⟩ := hrel
      clear O4
      by_cases hj : j < szN n
      · go_wp2_with fail
        refine (lsize_p n _).mono ?_
        rintro e w6 ⟨rfl, hb6⟩
        have O6 := O5.on hb6
        clear O5 hb6
        obtain ⟨⟨b0, b1, b2, b3⟩, _⟩ := (hbx.below O6.below lV).desc
        obtain ⟨pe, hF'⟩ := hF.post hj hr1 i g
        go_wp2_with fail
        refine (post_p _ p q r O6.ring i l g false hi hi1 hl hl1 hg hg1).mono ?_
        rintro e w7 ⟨rfl, h7, hf7⟩
        have O7 := O6.step h7 hf7
        clear O6 h7 hf7 b0 b1 b2 b3
        rw [pe]
        clear pe
        go_wp2
        go_roundw
        case rel => exact ⟨j + 1, by omega, by go_num, _, hF', O7⟩
        case measure => simp [intOf]; omega
      · obtain rfl : j = szN n := by omega
        obtain ⟨a1, a2, a3, a4, a5, a6, a7, a8, a9, a10, a11⟩ := hF.full hn1 hr1 i g
        go_wp2_with fail
        refine (lsize_p n _).mono ?_
        rintro e w6 ⟨rfl, hb6⟩
        have O6 := O5.on hb6
        clear O5 hb6
        obtain ⟨⟨b0, b1, b2, b3⟩, _⟩ := (hbx.below O6.below lV).desc
        go_wp2_with fail
        refine (post_p _ p q r O6.ring i l g false hi hi1 hl hl1 hg hg1).mono ?_
        rintro e w7 ⟨rfl, h7, hf7⟩
        have O7 := O6.step h7 hf7
        rw [a2] at O7
        rw [a1]
        clear O6 h7 hf7 b0 b1 b2 b3 a1 a2
        go_wp2_with fail
        refine (fetch_p _ p q r O7.ring).mono ?_
        rintro e w8 ⟨rfl, h8, hf8⟩
        have O8 := (O7.step h8 hf8).alloc (.cells (dcs 0 0 0 false) 35)
        rw [a4] at O8
        rw [a3, eE1]
        dsimp only [cond_false]
        clear O7 h8 hf8 a3 a4
        go_wp2_with fail
        refine (bell_p _ p q r O8.ring).mono ?_
        rintro e w9 ⟨rfl, h9, hf9⟩
        have O9 := O8.step h9 hf9
        clear O8 h9 hf9
        go_wp2_with fail
        refine (clean_p _ p q _ O9.ring).mono ?_
        rintro e w10 ⟨rfl, h10, hf10⟩
        have O10 := (O9.step h10 hf10).alloc (.cells (dcs 0 0 0 false) 35)
        rw [a6] at O10
        rw [a5, eE1]
        dsimp only [cond_false]
        clear O9 h10 hf10 a5 a6
        go_wp2_with fail
        refine (fetch_p _ p q _ O10.ring).mono ?_
        rintro e w11 ⟨rfl, h11, hf11⟩
        have O11' := O10.step h11 hf11
        rw [a7, eE0]
        dsimp only [cond_true]
        have O11 := fun o => O11'.alloc o
        clear O10 h11 hf11 a7 O11'
        go_wp2_with fail
        refine (finish_p1 _ p q _ (O11 _).ring).mono ?_
        rintro e w12 ⟨rfl, h12, hf12⟩
        have O12' := (O11 _).step h12 hf12
        rw [a8, eE0]
        dsimp only [cond_true]
        have O12 := fun o => O12'.alloc o
        clear O11 h12 hf12 a8 O12'
        go_wp2_with fail
        refine (clean_p _ p q _ (O12 _).ring).mono ?_
        rintro e w13 ⟨rfl, h13, hf13⟩
        have O13' := (O12 _).step h13 hf13
        rw [a9, eE0]
        dsimp only [cond_true]
        have O13 := fun o => O13'.alloc o
        have hB13 := fun o => (hbx.below (O13 o).below lV).desc.1
        clear O12 h13 hf13 a9 O13'
        generalize r.bell.fetchR.finishR.at_ r.bell.fetchR.finishR.c = D
        have O14 := O13 (.cells (dcs D.1 D.2.1 D.2.2 true) 35)
        obtain ⟨b0, b1, b2, b3⟩ := hB13 (.cells (dcs D.1 D.2.1 D.2.2 true) 35)
        clear O13 hB13
        go_wp2_with fail
        generalize w13.alloc (.cells (dcs D.1 D.2.1 D.2.2 true) 35) = w14 at O14 b0 b1 b2 b3 ⊢
        refine (post_p _ p q _ O14.ring i l g false hi hi1 hl hl1 hg hg1).mono ?_
        rintro e w15 ⟨rfl, h15, hf15⟩
        have O15 := O14.step h15 hf15
        rw [a10]
        clear O14 h15 hf15 b0 b1 b2 b3 a10
        obtain ⟨⟨b0, b1, b2, b3⟩, _⟩ := (hbx.below O15.below lV).desc
        go_wp2_with fail
        refine (post_p _ p q _ O15.ring i l g false hi hi1 hl hl1 hg hg1).mono ?_
        rintro e w16 ⟨rfl, h16, hf16⟩
        have O16 := O15.step h16 hf16
        rw [a11]
        clear O15 h16 hf16 b0 b1 b2 b3 a11
        go_wp2
        go_ret
        exact ⟨rfl, hbV.trans (O16.below.mono (by omega))⟩
  · rcases hr1 : rightB l
    · go_wp2
      go_ret
      exact ⟨rfl, hbV.trans (O4.below.mono (by omega))⟩
    · obtain rfl : d = true := by simpa [hr1] using hr
      go_wp2
      go_ret
      exact ⟨rfl, hbV.trans (O4.below.mono (by omega))⟩
end Go.Proofs.Ytfnhnicjomaelaa
