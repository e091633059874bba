/-
  The contract of 'shown' of layer 3, and the walk of RingSizes. Conditions: those that each theorem names.
-/
import Derived.Test.YtfnhnicjomaelaaRingK
namespace Go.Proofs.Ytfnhnicjomaelaa
set_option linter.unusedSimpArgs false
set_option linter.unusedVariables false
open Go.ChangeShapes Go.WideShapes Go.ChangeAt Go.RowKit

def ex1 : RS := (RS.new 1 7).postR 1 2 0 false
def ex2 : RS := ex1.bell
def ex3 : RS := ex2.fetchR
def ex4 : RS := ex3.finishR
theorem ex_e1 : (RS.new 1 7).postE 2 false = 0 := by decide +kernel
theorem ex_e2 : ex1.postE 2 false = 30 := by decide +kernel
theorem ex_r2 : ex1.postR 1 2 0 false = ex1 := by unfold ex1; rfl
theorem ex_f : ex2.hasFetch = true := by decide +kernel
theorem ex_i : ex3.hasFinish = true := by decide +kernel
theorem ex_c : ex4.hasClean = true := by decide +kernel
theorem ex_d : ex2.at_ ex2.t = (1, 2, 0) := by decide +kernel
theorem ex_d3 : ex3.at_ ex3.i = (1, 2, 0) := by decide +kernel
theorem ex_d4 : ex4.at_ ex4.c = (1, 2, 0) := by decide +kernel

/-- a ring and a descriptor beside it -/
theorem shown3_p (W : World) : Calls Try.prog 11 #[] W fun e w' => e = .returned (.bool true) ∧ Below W.heap.size W w' := by
  go_enter Try.func11, Try.ntmps11
  go_wp2_with fail
  refine (new_p 1 7 (by omega) (by omega) (by omega) _).mono ?_
  rintro e w1 ⟨p, q, rfl, h1, hp1, hq1, hB1⟩
  have hz1 := hB1.size
  have hnew : ∀ b, Own2 p q b → W.heap.size ≤ b := fun b hb => by rcases hb with rfl | rfl <;> assumption
  have HN := Lib.hid hnew
  clear hnew
  have g1 := h1.alloc (.cells (dcs 1 2 0 false) 35)
  have d1 := Held.new w1 35 (dcs 1 2 0 false)
  have hB1' : Below W.heap.size W (w1.alloc (.cells (dcs 1 2 0 false) 35)) := hB1.alloc (by omega) _
  have lp := h1.ring.lt
  have lq := h1.slots.lt
  obtain ⟨⟨a0, a1, a2, a3⟩, _⟩ := d1.desc
  go_wp2_with fail
  generalize w1.alloc (.cells (dcs 1 2 0 false) 35) = w2 at g1 d1 hB1' a0 a1 a2 a3 ⊢
  obtain ⟨bd, hbd⟩ : ∃ bd, w1.heap.size = bd := ⟨_, rfl⟩
  rw [hbd] at d1 a0 a1 a2 a3 ⊢
  have nd : ¬ Own2 p q bd := by simp only [Own2]; omega
  have nbW : W.heap.size ≤ bd := by omega
  clear h1 hB1 hbd hz1
  refine (post_p _ p q _ g1 1 2 0 false (by omega) (by omega) (by omega) (by omega) (by omega) (by omega)).mono ?_
  rintro e w3 ⟨rfl, h3, hF3⟩
  have d3 := d1.foot hF3 nd
  have hB3 := hF3.after hB1' HN.out
  rw [ex_e1]
  have h3' : RingP w3 p q ex1 := h3
  clear h3 hF3 hB1' d1 g1 a0 a1 a2 a3
  obtain ⟨⟨a0, a1, a2, a3⟩, _⟩ := d3.desc
  go_wp2_with fail
  refine (post_p _ p q _ h3' 1 2 0 false (by omega) (by omega) (by omega) (by omega) (by omega) (by omega)).mono ?_
  rintro e w4 ⟨rfl, h4, hF4⟩
  have d4 := d3.foot hF4 nd
  have hB4 := hF4.after hB3 HN.out
  rw [ex_e2]
  rw [ex_r2] at h4
  clear h3' hF4 hB3 d3 a0 a1 a2 a3
  go_wp2_with fail
  refine (bell_p _ p q _ h4).mono ?_
  rintro e w5 ⟨rfl, h5, hF5⟩
  have d5 := d4.foot hF5 nd
  have hB5 := hF5.after hB4 HN.out
  have h5' : RingP w5 p q ex2 := h5
  clear h4 hF5 hB4 d4 h5
  go_wp2_with fail
  refine (fetch_p _ p q _ h5').mono ?_
  rintro e w6 ⟨rfl, h6, hF6⟩
  have d6 := d5.foot hF6 nd
  have hB6 := hF6.after hB5 HN.out
  rw [ex_f, ex_d]
  have h6' : RingP w6 p q ex3 := h6
  clear h5' hF6 hB5 d5 h6
  have x6 := Held.new w6 35 (dcs 1 2 0 false)
  have h7 := h6'.alloc (.cells (dcs 1 2 0 false) 35)
  have d7 := d6.alloc (.cells (dcs 1 2 0 false) 35)
  have hB7 : Below W.heap.size W (w6.alloc (.cells (dcs 1 2 0 false) 35)) := hB6.alloc hB6.size _
  have nx : ¬ Own2 p q w6.heap.size := by have := h6'.ring.lt; have := h6'.slots.lt; simp only [Own2]; omega
  dsimp only [cond_true]
  go_wp2_with fail
  generalize w6.alloc (.cells (dcs 1 2 0 false) 35) = w7 at x6 h7 d7 hB7 ⊢
  obtain ⟨bx, hbx⟩ : ∃ bx, w6.heap.size = bx := ⟨_, rfl⟩
  rw [hbx] at x6 nx ⊢
  have nbx : bd ≠ bx := by have := d6.lt; omega
  clear h6' d6 hB6 hbx
  refine (finish_p1 _ p q _ h7).mono ?_
  rintro e w8 ⟨rfl, h8, hF8⟩
  have d8 := d7.foot hF8 nd
  have x8 := x6.foot hF8 nx
  have hB8 := hF8.after hB7 HN.out
  rw [ex_i, ex_d3]
  have h8' : RingP w8 p q ex4 := h8
  clear h7 hF8 hB7 d7 h8 x6
  have h9 := h8'.alloc (.cells (dcs 1 2 0 true) 35)
  have d9 := d8.alloc (.cells (dcs 1 2 0 true) 35)
  have x9 := x8.alloc (.cells (dcs 1 2 0 true) 35)
  have hB9 : Below W.heap.size W (w8.alloc (.cells (dcs 1 2 0 true) 35)) := hB8.alloc hB8.size _
  dsimp only [cond_true]
  go_wp2_with fail
  generalize w8.alloc (.cells (dcs 1 2 0 true) 35) = w9 at x9 h9 d9 hB9 ⊢
  clear h8' d8 x8 hB8
  refine (clean_p _ p q _ h9).mono ?_
  rintro e w10 ⟨rfl, h10, hF10⟩
  have d10 := d9.foot hF10 nd
  have x10 := x9.foot hF10 nx
  have hB10 := hF10.after hB9 HN.out
  rw [ex_c, ex_d4]
  clear h9 hF10 hB9 d9 x9
  have hE : RS.emptyE true = 0 := rfl
  rw [hE]
  dsimp only [cond_true]
  have nb : bd ≠ bx := nbx
  have d11 := d10.alloc (.cells (dcs 1 2 0 true) 35)
  have x11 := x10.alloc (.cells (dcs 1 2 0 true) 35)
  have y11 := Held.new w10 35 (dcs 1 2 0 true)
  have nb2 : w10.heap.size ≠ bd := by have := d10.lt; omega
  have hB11 : Below W.heap.size W (w10.alloc (.cells (dcs 1 2 0 true) 35)) := hB10.alloc hB10.size _
  have d12 := d11.set 3 (.bool true)
  have x12 := x11.other (Ne.symm nb) 3 (.bool true)
  have y12 := y11.other nb2 3 (.bool true)
  have hB12 : Below W.heap.size W ((w10.alloc (.cells (dcs 1 2 0 true) 35)).setCell ⟨bd, 3, none⟩ (.bool true)) := hB11.setCell (p := ⟨bd, 3, none⟩) nbW _
  obtain ⟨w12, hw12⟩ : ∃ w12, (w10.alloc (.cells (dcs 1 2 0 true) 35)).setCell ⟨bd, 3, none⟩ (.bool true) = w12 := ⟨_, rfl⟩
  rw [hw12] at d12 x12 y12 hB12
  have k3 := d11.desc.1.2.2.2
  have f3 := d11.desc.2.2.2.2
  have k0 := x12.desc.1.1
  obtain ⟨⟨u0, u1, u2, u3⟩, _⟩ := y12.desc
  obtain ⟨⟨s0, s1, s2, s3⟩, _⟩ := Held.desc (i := 1) (l := 2) (f := 0) (d := true) d12
  clear d10 x10 d11 x11 y11 hB11 hB10 d12 x12 y12
  go_wp2
  go_ret
  exact ⟨rfl, hB12⟩
end Go.Proofs.Ytfnhnicjomaelaa
