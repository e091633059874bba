/-
  The walk of RingRest. Conditions: the first index fits its kind.
-/
import Derived.Test.YtfnhnicjomaelaaRingS
namespace Go.Proofs.Ytfnhnicjomaelaa
set_option linter.unusedSimpArgs false
set_option linter.unusedVariables false
open Go.ChangeShapes Go.WideShapes Go.ChangeAt Go.RowKit

/-- a ring into which k were posted, all of which are cleaned -/
structure Idle (r : RS) (n : Nat) (f : Int) (k : Nat) : Prop where
  n : r.n = n
  f : r.f = f
  c : r.c = k
  i : r.i = k
  t : r.t = k
  b : r.b = k
  l : r.ds.length = k
theorem Idle.new (n : Nat) (f : Int) : Idle (RS.new n f) n f 0 := ⟨rfl, rfl, rfl, rfl, rfl, rfl, rfl⟩
/-- the ring behind one round -/
abbrev rd1 (r : RS) (x : Int) : RS := r.postR x 1 0 false
abbrev rd2 (r : RS) (x : Int) : RS := (rd1 r x).bell
abbrev rd3 (r : RS) (x : Int) : RS := (rd2 r x).fetchR
abbrev rd4 (r : RS) (x : Int) : RS := (rd3 r x).finishR
abbrev rd5 (r : RS) (x : Int) : RS := (rd4 r x).cleanR
structure RoundAns (r : RS) (n : Nat) (f : Int) (k : Nat) (x : Int) : Prop where
  e : r.postE 1 false = 0
  f1 : (rd2 r x).hasFetch = true
  d1 : (rd2 r x).at_ (rd2 r x).t = (x, 1, 0)
  i1 : (rd3 r x).hasFinish = true
  d2 : (rd3 r x).at_ (rd3 r x).i = (x, 1, 0)
  c1 : (rd4 r x).hasClean = true
  d3 : (rd4 r x).at_ (rd4 r x).c = (x, 1, 0)
  next : Idle (rd5 r x) n f (k + 1)
theorem Idle.round {r : RS} {n : Nat} {f : Int} {k : Nat} (h : Idle r n f k) (hn : 1 ≤ n) (x : Int) : RoundAns r n f k x := by
  obtain ⟨h1, h2, h3, h4, h5, h6, h7⟩ := h
  have hne : ¬ r.ds.length = r.c + r.n := by omega
  have hr1 : rightB 1 = true := rfl
  have e1 : rd1 r x = r.post (x, 1, 0) := by simp [rd1, RS.postR, hr1, hne]
  have hat : (r.ds ++ [(x, 1, 0)]).getD k (0, 0, 0) = (x, 1, 0) := by
    rw [List.getD_eq_getElem?_getD, List.getElem?_append_right (by omega), h7]
    simp
  have e2 : rd2 r x = (r.post (x, 1, 0)).bell := by unfold rd2; rw [e1]
  have hlen : (r.ds ++ [(x, 1, 0)]).length = k + 1 := by simp; omega
  have hf : (rd2 r x).hasFetch = true := by rw [e2]; exact decide_eq_true (show r.t < (r.ds ++ [(x, 1, 0)]).length by omega)
  have e3 : rd3 r x = (r.post (x, 1, 0)).bell.fetch := by unfold rd3 RS.fetchR; rw [hf, e2]; rfl
  have hi : (rd3 r x).hasFinish = true := by rw [e3]; exact decide_eq_true (show r.i < r.t + 1 by omega)
  have e4 : rd4 r x = (r.post (x, 1, 0)).bell.fetch.finish := by unfold rd4 RS.finishR; rw [hi, e3]; rfl
  have hc : (rd4 r x).hasClean = true := by rw [e4]; exact decide_eq_true (show r.c < r.i + 1 by omega)
  have e5 : rd5 r x = (r.post (x, 1, 0)).bell.fetch.finish.clean := by unfold rd5 RS.cleanR; rw [hc, e4]; rfl
  refine ⟨by simp [RS.postE, hr1, hne], hf, ?_, hi, ?_, hc, ?_, ?_⟩
  · rw [e2]
    show (r.ds ++ [(x, 1, 0)]).getD r.t (0, 0, 0) = _
    rw [h5]; exact hat
  · rw [e3]
    show (r.ds ++ [(x, 1, 0)]).getD r.i (0, 0, 0) = _
    rw [h4]; exact hat
  · rw [e4]
    show (r.ds ++ [(x, 1, 0)]).getD r.c (0, 0, 0) = _
    rw [h3]; exact hat
  · rw [e5]
    exact ⟨h1, h2, by show r.c + 1 = _; omega, by show r.i + 1 = _; omega, by show r.t + 1 = _; omega, hlen, hlen⟩
theorem Idle.marks {r : RS} {n : Nat} {f : Int} {k : Nat} (h : Idle r n f k) : ∀ j, j < 5 → markF r j = (f + k) % 4294967296 := fun j hj => by
  obtain ⟨h1, h2, h3, h4, h5, h6, h7⟩ := h
  have e : r.mark k = (f + k) % 4294967296 := by unfold RS.mark; rw [h2]
  rcases (show j = 0 ∨ j = 1 ∨ j = 2 ∨ j = 3 ∨ j = 4 by omega) with rfl | rfl | rfl | rfl | rfl
  · show r.mark r.c = _; rw [h3]; exact e
  · show r.mark r.i = _; rw [h4]; exact e
  · show r.mark r.t = _; rw [h5]; exact e
  · show r.mark r.b = _; rw [h6]; exact e
  · show r.mark r.ds.length = _; rw [h7]; exact e
theorem Idle.conts {r : RS} {n : Nat} {f : Int} {k : Nat} (h : Idle r n f k) (j : Nat) : r.cont j = ⟨#[]⟩ := RS.cont_none fun m h1 h2 => by have := h.c; have := h.l; omega

set_option maxRecDepth 100000 in
set_option maxHeartbeats 1000000 in
theorem rest_w (n f tm : Int) (hf0 : 0 ≤ f) (hf1 : f ≤ 4294967295) (W : World) :
    Calls Try.prog 10 #[.int .i64 n, .int .u32 f, .int .i64 tm] W fun e w' => e = .returned (.bool true) ∧ Below W.heap.size W w' := by
  have hsz := szN_size n
  obtain ⟨hn1, hn2⟩ := szN_bd n
  go_enter Try.func10, Try.ntmps10
  go_wp2_with fail
  refine (shown3_p _).mono ?_
  rintro e w1 ⟨rfl, hb1⟩
  go_wp2_with fail
  refine (lsize_p n _).mono ?_
  rintro e w2 ⟨rfl, hb2⟩
  have hB2 := hb1.trans (hb2.mono hb1.size)
  clear hb1 hb2
  go_wp2_with fail
  refine (new_p (szN n) f hsz hf0 hf1 _).mono ?_
  rintro e w3 ⟨p, q, rfl, h3, hp3, hq3, hb3⟩
  have hz2 := hB2.size
  have O3 : One W w3 p q (RS.new (szN n) f) := ⟨h3, hB2.trans (hb3.mono hB2.size), by omega, by omega⟩
  clear hb3 hB2 h3 hp3 hq3 hz2
  by_cases ht0 : tm < 0
  · go_wp2
    go_ret
    exact ⟨rfl, O3.below⟩
  by_cases ht1 : 20 < tm
  · go_wp2
    go_ret
    exact ⟨rfl, O3.below⟩
  obtain ⟨T, rfl⟩ : ∃ T : Nat, tm = T := ⟨tm.toNat, by omega⟩
  have hT : T ≤ 20 := by omega
  go_wp2
  clear ht0 ht1
  go_loopw [10] (fun x wq => ∃ j : Nat, j ≤ T ∧ x = .int .i64 j ∧ ∃ r, Idle r (szN n) f j ∧ One W wq p q r) (fun x _ => T - (intOf x).toNat)
  case atStart => exact ⟨0, Nat.zero_le _, rfl, _, Idle.new _ _, O3⟩
  case round =>
    obtain ⟨j, hj1, rfl, r, hI, O5⟩ := hrel
    clear O3
    by_cases hj : j < T
    · obtain ⟨a1, a2, a3, a4, a5, a6, a7, a8⟩ := hI.round hn1 (j : Int)
      have HX := Lib.hid a8
      clear a8
      go_wp2_with fail
      refine (post_p _ p q r O5.ring j 1 0 false (by omega) (by omega) (by omega) (by omega) (by omega) (by omega)).mono ?_
      rintro e w7 ⟨rfl, h7, hf7⟩
      have O7 := O5.step h7 hf7
      rw [a1]
      clear O5 h7 hf7 a1
      go_wp2_with fail
      refine (bell_p _ p q _ O7.ring).mono ?_
      rintro e w8 ⟨rfl, h8, hf8⟩
      have O8 := O7.step h8 hf8
      clear O7 h8 hf8
      go_wp2_with fail
      refine (fetch_p _ p q _ O8.ring).mono ?_
      rintro e w9 ⟨rfl, h9, hf9⟩
      have O9 := (O8.step h9 hf9).alloc (.cells (dcs j 1 0 false) 35)
      have x9 := Held.new w9 35 (dcs j 1 0 false)
      rw [a2, a3, eE0]
      dsimp only [cond_true]
      have nx : ¬ Own2 p q w9.heap.size := by have := h9.ring.lt; have := h9.slots.lt; simp only [Own2]; omega
      clear O8 h9 hf9 a2 a3
      go_wp2_with fail
      generalize w9.alloc (.cells (dcs j 1 0 false) 35) = w10 at O9 x9 ⊢
      obtain ⟨bx, hbx⟩ : ∃ bx, w9.heap.size = bx := ⟨_, rfl⟩
      rw [hbx] at x9 nx ⊢
      clear hbx
      refine (finish_p1 _ p q _ O9.ring).mono ?_
      rintro e w11 ⟨rfl, h11, hf11⟩
      have O11 := (O9.step h11 hf11).alloc (.cells (dcs j 1 0 true) 35)
      have x11 := (x9.foot hf11 nx).alloc (.cells (dcs j 1 0 true) 35)
      have y11 := Held.new w11 35 (dcs j 1 0 true)
      rw [a4, a5, eE0]
      dsimp only [cond_true]
      have ny : ¬ Own2 p q w11.heap.size := by have := h11.ring.lt; have := h11.slots.lt; simp only [Own2]; omega
      clear O9 h11 hf11 a4 a5 x9
      go_wp2_with fail
      generalize w11.alloc (.cells (dcs j 1 0 true) 35) = w12 at O11 x11 y11 ⊢
      obtain ⟨bY, hbY⟩ : ∃ bY, w11.heap.size = bY := ⟨_, rfl⟩
      rw [hbY] at y11 ny ⊢
      clear hbY
      refine (clean_p _ p q _ O11.ring).mono ?_
      rintro e w13 ⟨rfl, h13, hf13⟩
      have O13 := (O11.step h13 hf13).alloc (.cells (dcs j 1 0 true) 35)
      have x13 := ((x11.foot hf13 nx).alloc (.cells (dcs j 1 0 true) 35)).desc.1.1
      have y13 := ((y11.foot hf13 ny).alloc (.cells (dcs j 1 0 true) 35)).desc.1.1
      rw [a6, a7, eE0]
      dsimp only [cond_true]
      clear O11 h13 hf13 a6 a7 x11 y11 nx ny
      go_wp2
      go_roundw
      case rel => exact ⟨j + 1, by omega, by go_num, _, HX.out, O13⟩
      case measure => simp [intOf]; omega
    · obtain rfl : j = T := by omega
      have HM := Lib.hid hI.marks
      have HC := Lib.hid hI.conts
      have hrn := hI.n
      have HN := Lib.hid hrn
      clear hrn hI
      go_wp2_with fail
      refine (marks_p _ p q r O5.ring).mono ?_
      rintro e w7 ⟨mb, rfl, hm7, _, hb7⟩
      have O7 := (O5.on hb7).alloc (.cells #[.int .u32 ((f + j) % 4294967296), .int .u32 ((f + j) % 4294967296), .int .u32 ((f + j) % 4294967296), .int .u32 ((f + j) % 4294967296), .int .u32 ((f + j) % 4294967296)] 22)
      have hma := markF_p (hm7.alloc (.cells #[.int .u32 ((f + j) % 4294967296), .int .u32 ((f + j) % 4294967296), .int .u32 ((f + j) % 4294967296), .int .u32 ((f + j) % 4294967296), .int .u32 ((f + j) % 4294967296)] 22))
      have hmb := Held.new w7 22 #[.int .u32 ((f + j) % 4294967296), .int .u32 ((f + j) % 4294967296), .int .u32 ((f + j) % 4294967296), .int .u32 ((f + j) % 4294967296), .int .u32 ((f + j) % 4294967296)]
      clear hb7 O5
      go_wp2_with fail
      generalize w7.alloc (.cells #[.int .u32 ((f + j) % 4294967296), .int .u32 ((f + j) % 4294967296), .int .u32 ((f + j) % 4294967296), .int .u32 ((f + j) % 4294967296), .int .u32 ((f + j) % 4294967296)] 22) = w8 at O7 hma hmb ⊢
      refine (sameMarks_p mb 0 w7.heap.size 0 5 5 5 (fun _ => (f + j) % 4294967296) (by omega) w8 (fun m hm => by rw [hma m hm, HM.out m hm]) (fun m hm => by
        rw [Nat.zero_add, hmb.cell m]
        rcases (show m = 0 ∨ m = 1 ∨ m = 2 ∨ m = 3 ∨ m = 4 by omega) with rfl | rfl | rfl | rfl | rfl <;> rfl)).mono ?_
      rintro e w9 ⟨rfl, j9, hj9⟩
      have O9 : One W w9 p q r := by rw [hj9]; exact O7.drewN _
      clear O7 hj9 hma hmb hm7
      go_wp2_with fail
      refine (slots_p _ p q r O9.ring).mono ?_
      rintro e w10 ⟨sb, rfl, hs10, _, hb10⟩
      have O10 := O9.on hb10
      clear O9 hb10
      rw [HN.out] at hs10 ⊢
      go_wp2_with fail
      refine (lsize_p n _).mono ?_
      rintro e w11 ⟨rfl, hb11⟩
      have O11 := O10.on hb11
      have hs11 := hs10.below hb11 hs10.lt
      have hmk := make_str w11 (szN n) (by omega)
      have O12 := O11.alloc (.cells (strCells (szN n) fun _ => ⟨#[]⟩) 9)
      have hs12 := strs_at (hs11.alloc (.cells (strCells (szN n) fun _ => ⟨#[]⟩) 9))
      have ht12 := strs_at (Held.new w11 9 (strCells (szN n) fun _ => ⟨#[]⟩))
      clear O10 hb11 hs10 O11 hs11
      go_wp2_with fail
      refine (sameSlots_p sb 0 w11.heap.size 0 (szN n) (szN n) (szN n) (fun _ => ⟨#[]⟩) (by omega) _ (fun m hm => by rw [hs12 m hm, HC.out m]) ht12).mono ?_
      rintro e w13 ⟨rfl, j13, rfl⟩
      go_wp2
      go_ret
      exact ⟨rfl, below_drewN O12.below _⟩
end Go.Proofs.Ytfnhnicjomaelaa
