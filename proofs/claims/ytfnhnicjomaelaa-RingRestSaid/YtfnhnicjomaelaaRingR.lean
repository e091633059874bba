/-
  The walk of RingSizes. Conditions: the descriptor's numbers fit their kinds.
-/
import Derived.Test.YtfnhnicjomaelaaRingQ
namespace Go.Proofs.Ytfnhnicjomaelaa
set_option linter.unusedSimpArgs false
set_option linter.unusedVariables false
open Go.ChangeShapes Go.WideShapes Go.ChangeAt Go.RowKit

/-- what the walk carries: the descriptor's box, and that nothing that was there has turned -/
structure Carry (W w : World) (i l f : Int) (d : Bool) : Prop where
  box : Held w W.heap.size 35 (dcs i l f d)
  below : Below W.heap.size W w
theorem Carry.on {W w w' : World} {i l f : Int} {d : Bool} (h : Carry W w i l f d) (hb : Below w.heap.size w w') : Carry W w' i l f d := ⟨h.box.below hb h.box.lt, h.below.trans (hb.mono h.below.size)⟩
theorem Carry.alloc {W w : World} {i l f : Int} {d : Bool} (h : Carry W w i l f d) (o : Obj) : Carry W (w.alloc o) i l f d := h.on ((Below.refl _ _).alloc (Nat.le_refl _) _)
theorem Carry.new (W : World) (i l f : Int) (d : Bool) : Carry W (W.alloc (.cells (dcs i l f d) 35)) i l f d := ⟨Held.new W _ _, (Below.refl _ _).alloc (Nat.le_refl _) _⟩

set_option maxRecDepth 100000 in
set_option maxHeartbeats 1000000 in
theorem sizes_w (n f : Int) (hf0 : 0 ≤ f) (hf1 : f ≤ 4294967295) (i l g : Int) (d : Bool) (W : World) :
    Calls Try.prog 4 #[.int .i64 n, .int .u32 f, dv i l g d] W fun e w' => e = .returned (.bool true) ∧ Below W.heap.size W w' := by
  rcases hs : isSizeB n
  · go_enter Try.func4, Try.ntmps4
    go_wp2_with fail
    refine (shown3_p _).mono ?_
    rintro e w1 ⟨rfl, hb1⟩
    have C1 := (Carry.new W i l g d).on hb1
    clear hb1
    go_wp2_with fail
    refine (new_no n f hs _).mono ?_
    rintro e w2 ⟨rfl, hb2⟩
    have C2 := C1.on hb2
    clear hb2 C1
    go_wp2_with fail
    refine (new_r_no n f hs _).mono ?_
    rintro e w3 ⟨rfl, rfl⟩
    go_wp2_with fail
    refine (fetch_nil _).mono ?_
    rintro e w3 ⟨rfl, hb3⟩
    have C3 := (C2.on hb3).alloc (.cells (dcs 0 0 0 false) 35)
    clear hb3 C2
    go_wp2_with fail
    generalize w3.alloc (.cells (dcs 0 0 0 false) 35) = w3' at C3 ⊢
    refine (finish_nil _).mono ?_
    rintro e w4 ⟨rfl, hb4⟩
    have C4 := (C3.on hb4).alloc (.cells (dcs 0 0 0 false) 35)
    clear hb4 C3
    go_wp2_with fail
    generalize w4.alloc (.cells (dcs 0 0 0 false) 35) = w4' at C4 ⊢
    refine (clean_nil _).mono ?_
    rintro e w5 ⟨rfl, hb5⟩
    have C5 := (C4.on hb5).alloc (.cells (dcs 0 0 0 false) 35)
    clear hb5 C4
    obtain ⟨⟨b0, b1, b2, b3⟩, _⟩ := C5.box.desc
    go_wp2_with fail
    generalize w5.alloc (.cells (dcs 0 0 0 false) 35) = w5' at C5 b0 b1 b2 b3 ⊢
    refine (post_nil i l g d _).mono ?_
    rintro e w6 ⟨rfl, hb6⟩
    have C6 := C5.on hb6
    clear hb6 C5 b0 b1 b2 b3
    go_wp2_with fail
    refine (bell_nil _).mono ?_
    rintro e w7 ⟨rfl, hb7⟩
    have C7 := C6.on hb7
    clear hb7 C6
    go_wp2_with fail
    refine (marks_nil _).mono ?_
    rintro e w8 ⟨rfl, hb8⟩
    have C8 := C7.on hb8
    clear hb8 C7
    go_wp2_with fail
    refine (slots_nil _).mono ?_
    rintro e w9 ⟨rfl, hb9⟩
    have C9 := C8.on hb9
    clear hb9 C8
    have C10 := C9
    go_wp2
    go_ret
    exact ⟨rfl, C10.below⟩
  · obtain ⟨m, rfl, hm⟩ := isSize_cases hs
    have hb0 := (isSize_bd hs)
    obtain ⟨hm1, hm2⟩ := hb0
    clear hs
    go_enter Try.func4, Try.ntmps4
    go_wp2_with fail
    refine (shown3_p _).mono ?_
    rintro e w1 ⟨rfl, hb1⟩
    have C1 := (Carry.new W i l g d).on hb1
    clear hb1
    go_wp2_with fail
    refine (new_p m f hm hf0 hf1 _).mono ?_
    rintro e w1' ⟨p, q, rfl, h1, _, _, hb2⟩
    have C1' := C1.on hb2
    clear hb2 C1
    go_wp2_with fail
    refine (new_r m f hm hf0 hf1 _).mono ?_
    rintro e w2 ⟨p', q', rfl, _, _, _, hb3⟩
    have C2 := C1'.on hb3
    have h2 := h1.below hb3
    clear hb3 C1' h1
    go_wp2_with fail
    refine (fetch_nil _).mono ?_
    rintro e w3 ⟨rfl, hb3⟩
    have C3 := (C2.on hb3).alloc (.cells (dcs 0 0 0 false) 35)
    have h3 := (h2.below hb3).alloc (.cells (dcs 0 0 0 false) 35)
    clear hb3 C2 h2
    go_wp2_with fail
    generalize w3.alloc (.cells (dcs 0 0 0 false) 35) = w3' at C3 h3 ⊢
    refine (finish_nil _).mono ?_
    rintro e w4 ⟨rfl, hb4⟩
    have C4 := (C3.on hb4).alloc (.cells (dcs 0 0 0 false) 35)
    have h4 := (h3.below hb4).alloc (.cells (dcs 0 0 0 false) 35)
    clear hb4 C3 h3
    go_wp2_with fail
    generalize w4.alloc (.cells (dcs 0 0 0 false) 35) = w4' at C4 h4 ⊢
    refine (clean_nil _).mono ?_
    rintro e w5 ⟨rfl, hb5⟩
    have C5 := (C4.on hb5).alloc (.cells (dcs 0 0 0 false) 35)
    have h5 := (h4.below hb5).alloc (.cells (dcs 0 0 0 false) 35)
    clear hb5 C4 h4
    obtain ⟨⟨b0, b1, b2, b3⟩, _⟩ := C5.box.desc
    go_wp2_with fail
    generalize w5.alloc (.cells (dcs 0 0 0 false) 35) = w5' at C5 h5 b0 b1 b2 b3 ⊢
    refine (post_nil i l g d _).mono ?_
    rintro e w6 ⟨rfl, hb6⟩
    have C6 := C5.on hb6
    have h6 := h5.below hb6
    clear hb6 C5 h5 b0 b1 b2 b3
    go_wp2_with fail
    refine (bell_nil _).mono ?_
    rintro e w7 ⟨rfl, hb7⟩
    have C7 := C6.on hb7
    have h7 := h6.below hb7
    clear hb7 C6 h6
    go_wp2_with fail
    refine (marks_nil _).mono ?_
    rintro e w8 ⟨rfl, hb8⟩
    have C8 := C7.on hb8
    have h8 := h7.below hb8
    clear hb8 C7 h7
    go_wp2_with fail
    refine (slots_nil _).mono ?_
    rintro e w9 ⟨rfl, hb9⟩
    have C9 := C8.on hb9
    have h9 := h8.below hb9
    clear hb9 C8 h8
    have C10 := C9
    have h10 := h9
    have hmk : (RS.new m f).mark 0 = f := by simp [RS.mark, RS.new]; omega
    have hmarks : ∀ j, j < 5 → markF (RS.new m f) j = f := fun j hj => by
      rcases (show j = 0 ∨ j = 1 ∨ j = 2 ∨ j = 3 ∨ j = 4 by omega) with rfl | rfl | rfl | rfl | rfl <;> exact hmk
    have HM := Lib.hid hmarks
    clear hmk hmarks
    go_wp2_with fail
    refine (slots_p _ p q _ h10).mono ?_
    rintro e w11 ⟨sb, rfl, _, _, hb11⟩
    have C11 := C10.on hb11
    have h11 := h10.below hb11
    clear hb11 C10 h10
    rw [show (RS.new m f).n = m from rfl]
    go_wp2_with fail
    refine (marks_p _ p q _ h11).mono ?_
    rintro e w12 ⟨mb, rfl, hm12, _, hb12⟩
    have C12 := (C11.on hb12).alloc (.cells #[.int .u32 f, .int .u32 f, .int .u32 f, .int .u32 f, .int .u32 f] 22)
    have hma := markF_p (hm12.alloc (.cells #[.int .u32 f, .int .u32 f, .int .u32 f, .int .u32 f, .int .u32 f] 22))
    have hmb := Held.new w12 22 #[.int .u32 f, .int .u32 f, .int .u32 f, .int .u32 f, .int .u32 f]
    clear hb12 C11
    go_wp2_with fail
    generalize w12.alloc (.cells #[.int .u32 f, .int .u32 f, .int .u32 f, .int .u32 f, .int .u32 f] 22) = w13 at C12 hma hmb ⊢
    refine (sameMarks_p mb 0 w12.heap.size 0 5 5 5 (fun _ => f) (by omega) w13 (fun j hj => by rw [hma j hj, HM.out j hj]) (fun j hj => by
      rw [Nat.zero_add, hmb.cell j]
      rcases (show j = 0 ∨ j = 1 ∨ j = 2 ∨ j = 3 ∨ j = 4 by omega) with rfl | rfl | rfl | rfl | rfl <;> rfl)).mono ?_
    rintro e w14 ⟨rfl, j14, rfl⟩
    go_wp2
    go_ret
    exact ⟨rfl, below_drewN C12.below _⟩
end Go.Proofs.Ytfnhnicjomaelaa
