/-
  Contracts of layer 3's laws' own helpers: size, SameMarks, SameSlots, shown, did. Conditions: those that each theorem names.
-/
import Derived.Test.YtfnhnicjomaelaaRingJ
import Derived.Test.YtfnhnicjomaelaaActs
namespace Go.Proofs.Ytfnhnicjomaelaa
set_option linter.unusedSimpArgs false
set_option linter.unusedVariables false
open Go.ChangeShapes Go.WideShapes Go.ChangeAt Go.RowKit

/-- what an act does: 0 to 4 -/
def opK (o : Int) : Int := o % 18446744073709551616 % 5
theorem opK_cases (o : Int) : opK o = 0 ∨ opK o = 1 ∨ opK o = 2 ∨ opK o = 3 ∨ opK o = 4 := by unfold opK; omega
/-- a size of five -/
def szN (n : Int) : Nat := if opK n = 0 then 1 else if opK n = 1 then 2 else if opK n = 2 then 4 else if opK n = 3 then 8 else 16
theorem szN_size (n : Int) : szN n = 1 ∨ szN n = 2 ∨ szN n = 4 ∨ szN n = 8 ∨ szN n = 16 ∨ szN n = 32 ∨ szN n = 64 ∨ szN n = 128 ∨ szN n = 256 ∨ szN n = 512 ∨ szN n = 1024 ∨ szN n = 2048 ∨ szN n = 4096 := by
  unfold szN
  rcases opK_cases n with h | h | h | h | h <;> simp [h]
theorem opK_tmod (n : Int) : (IntKind.u64.wrap n).tmod 5 = opK n := by
  rw [IntKind.wrap_u64, Int.tmod_eq_emod_of_nonneg (by omega)]
  rfl
theorem lsize_p (n : Int) (W : World) : Calls Try.prog 13 #[.int .i64 n] W fun e w' => e = .returned (.int .i64 (szN n)) ∧ Below W.heap.size W w' := by
  have hk := opK_tmod n
  have hz : szN n = if opK n = 0 then 1 else if opK n = 1 then 2 else if opK n = 2 then 4 else if opK n = 3 then 8 else 16 := rfl
  rcases opK_cases n with h | h | h | h | h
  all_goals
    rw [h] at hk hz
    simp at hz
    go_enter Try.func13, Try.ntmps13
    go_wp2
    go_ret
    exact ⟨by rw [hz]; rfl, by go_grown⟩

theorem sameMarks_p (a ao b bo n : Nat) (ca cb : Nat) (f : Nat → Int) (hn : n ≤ 4096) (W : World) (ha : ∀ j, j < n → W.cell? ⟨a, ao + j, none⟩ = some (.int .u32 (f j))) (hb : ∀ j, j < n → W.cell? ⟨b, bo + j, none⟩ = some (.int .u32 (f j))) :
    Calls Try.prog 16 #[.slice (some ⟨a, ao, none⟩) n ca, .slice (some ⟨b, bo, none⟩) n cb] W fun e w' => e = .returned (.bool true) ∧ ∃ k, w' = W.drewN k := by
  have HA := Lib.hid ha
  have HB := Lib.hid hb
  clear ha hb
  go_enter Try.func16, Try.ntmps16
  go_wp2
  go_loopw [5] (fun i wr => ∃ k : Nat, k ≤ n ∧ i = .int .i64 k ∧ ∃ d, wr = W.drewN d) (fun i _ => n - (intOf i).toNat)
  case atStart => exact ⟨0, Nat.zero_le _, rfl, 0, rfl⟩
  case round =>
    obtain ⟨k, hk, rfl, d, rfl⟩ := hrel
    by_cases hlt : k < n
    · have c1 := HA.out k hlt
      have c2 := HB.out k hlt
      go_wp2_with fail
      go_quiet (fail)
      go_wp2
      go_roundw
      case rel => exact ⟨k + 1, by omega, by go_num, _, rfl⟩
      case measure => simp [intOf]; omega
    · go_wp2
      go_ret
      exact ⟨rfl, _, rfl⟩
theorem sameSlots_p (a ao b bo n : Nat) (ca cb : Nat) (f : Nat → ByteArray) (hn : n ≤ 4096) (W : World) (ha : ∀ j, j < n → W.cell? ⟨a, ao + j, none⟩ = some (.string (f j))) (hb : ∀ j, j < n → W.cell? ⟨b, bo + j, none⟩ = some (.string (f j))) :
    Calls Try.prog 18 #[.slice (some ⟨a, ao, none⟩) n ca, .slice (some ⟨b, bo, none⟩) n cb] W fun e w' => e = .returned (.bool true) ∧ ∃ k, w' = W.drewN k := by
  have HA := Lib.hid ha
  have HB := Lib.hid hb
  clear ha hb
  go_enter Try.func18, Try.ntmps18
  go_wp2
  go_loopw [5] (fun i wr => ∃ k : Nat, k ≤ n ∧ i = .int .i64 k ∧ ∃ d, wr = W.drewN d) (fun i _ => n - (intOf i).toNat)
  case atStart => exact ⟨0, Nat.zero_le _, rfl, 0, rfl⟩
  case round =>
    obtain ⟨k, hk, rfl, d, rfl⟩ := hrel
    by_cases hlt : k < n
    · have c1 := HA.out k hlt
      have c2 := HB.out k hlt
      go_wp2_with fail
      go_quiet (fail)
      go_wp2
      go_roundw
      case rel => exact ⟨k + 1, by omega, by go_num, _, rfl⟩
      case measure => simp [intOf]; omega
    · go_wp2
      go_ret
      exact ⟨rfl, _, rfl⟩
/-- a ring's next state -/
def RS.step (r : RS) (k i l f : Int) (d : Bool) : RS := if k = 0 then r.postR i l f d else if k = 1 then r.bell else if k = 2 then r.fetchR else if k = 3 then r.finishR else r.cleanR
theorem RS.Ok.step {r : RS} (h : r.Ok) (k : Int) {i l f : Int} (d : Bool) (hi : 0 ≤ i ∧ i ≤ 4294967295) (hf : 0 ≤ f ∧ f ≤ 4294967295) : (r.step k i l f d).Ok := by
  unfold RS.step
  repeat' split
  · exact h.postR d hi hf
  · exact h.bell
  · exact h.fetchR
  · exact h.finishR
  · exact h.cleanR
/-- the blocks of two rings -/
abbrev Own4 (p q p' q' : Nat) (b : Nat) : Prop := Own2 p q b ∨ Own2 p' q' b
/-- two rings, one of the program and one of the document, with blocks of their own -/
structure Both (W : World) (p q p' q' : Nat) (r : RS) : Prop where
  prog : RingP W p q r
  doc : RingR W p' q' r
  a1 : p ≠ p'
  a2 : p ≠ q'
  a3 : q ≠ p'
  a4 : q ≠ q'
theorem Both.n1 {W : World} {p q p' q' : Nat} {r : RS} (h : Both W p q p' q' r) : ¬ Own2 p q p' ∧ ¬ Own2 p q q' ∧ ¬ Own2 p' q' p ∧ ¬ Own2 p' q' q := by
  have := h.a1; have := h.a2; have := h.a3; have := h.a4
  simp only [Own2]
  omega
theorem Both.below {W W' : World} {p q p' q' : Nat} {r : RS} (h : Both W p q p' q' r) (hb : Below W.heap.size W W') : Both W' p q p' q' r := ⟨h.prog.below hb, h.doc.below hb, h.a1, h.a2, h.a3, h.a4⟩
theorem Both.alloc {W : World} {p q p' q' : Nat} {r : RS} (h : Both W p q p' q' r) (o : Obj) : Both (W.alloc o) p q p' q' r := ⟨h.prog.alloc o, h.doc.alloc o, h.a1, h.a2, h.a3, h.a4⟩
theorem Both.drew {W : World} {p q p' q' : Nat} {r : RS} (h : Both W p q p' q' r) : Both W.drew p q p' q' r := ⟨h.prog.drew, h.doc.drew, h.a1, h.a2, h.a3, h.a4⟩
theorem Both.drewN {W : World} {p q p' q' : Nat} {r : RS} (h : Both W p q p' q' r) (k : Nat) : Both (W.drewN k) p q p' q' r := ⟨h.prog.drewN k, h.doc.drewN k, h.a1, h.a2, h.a3, h.a4⟩
theorem Both.lt {W : World} {p q p' q' : Nat} {r : RS} (h : Both W p q p' q' r) : p < W.heap.size ∧ q < W.heap.size ∧ p' < W.heap.size ∧ q' < W.heap.size := ⟨h.prog.ring.lt, h.prog.slots.lt, h.doc.ring.lt, h.doc.slots.lt⟩
/-- an act's value -/
abbrev av (o i l f : Int) (d : Bool) : Value := .agg #[.int .i64 o, .int .u32 i, .int .u32 l, .int .u32 f, .bool d]
def DidGives (p q p' q' : Nat) (r' : RS) (W : World) (e : Ending) (w' : World) : Prop := e = .returned (.bool true) ∧ Both w' p q p' q' r' ∧ Foot (Own4 p q p' q') W w'

/-- the cells of an act's descriptor -/
def ActCells (w : World) (b : Nat) (i l f : Int) (d : Bool) : Prop := w.cell? ⟨b, 1, none⟩ = some (.int .u32 i) ∧ w.cell? ⟨b, 2, none⟩ = some (.int .u32 l) ∧ w.cell? ⟨b, 3, none⟩ = some (.int .u32 f) ∧ w.cell? ⟨b, 4, none⟩ = some (.bool d)

set_option maxRecDepth 100000 in
theorem did_post (W : World) (p q p' q' : Nat) (r : RS) (h : Both W p q p' q' r) (o i l f : Int) (d : Bool) (hk : opK o = 0) (hi : 0 ≤ i) (hi1 : i ≤ 4294967295) (hl : 0 ≤ l) (hl1 : l ≤ 4294967295) (hf : 0 ≤ f) (hf1 : f ≤ 4294967295) :
    Calls Try.prog 15 #[.pointer (some ⟨p, 0, none⟩), .pointer (some ⟨p', 0, none⟩), av o i l f d] W (DidGives p q p' q' (r.postR i l f d) W) := by
  have ht := opK_tmod o
  rw [hk] at ht
  clear hk
  have hA := h.alloc (.cells #[.int .i64 o, .int .u32 i, .int .u32 l, .int .u32 f, .bool d] 37)
  have hF : Foot (Own4 p q p' q') W (W.alloc (.cells #[.int .i64 o, .int .u32 i, .int .u32 l, .int .u32 f, .bool d] 37)) := (Foot.refl _ _).alloc _
  have hX := Held.new W 37 #[.int .i64 o, .int .u32 i, .int .u32 l, .int .u32 f, .bool d]
  obtain ⟨lp, lq, lp', lq'⟩ := h.lt
  obtain ⟨n1, n2, n3, n4⟩ := h.n1
  have x0 := hX.cell 0
  have x1 := hX.cell 1
  have x2 := hX.cell 2
  have x3 := hX.cell 3
  have x4 := hX.cell 4
  simp only [List.getElem?_toArray, List.getElem?_cons_zero, List.getElem?_cons_succ] at x0 x1 x2 x3 x4
  go_enter Try.func15, Try.ntmps15
  go_wp2_with fail
  generalize W.alloc (.cells #[.int .i64 o, .int .u32 i, .int .u32 l, .int .u32 f, .bool d] 37) = w1 at hA hF hX x0 x1 x2 x3 x4 ⊢
  have hcd : ActCells w1.drew W.heap.size i l f d := ⟨x1, x2, x3, x4⟩
  refine (wpIn_wide (n := 6)).1 ?_
  refine wpIn_region_G (fun w => ActCells w W.heap.size i l f d) 7 10 rfl (by kernel_rfl) (fun hcl => ?_)
  refine wpAnyG_take (i := 0) 8 (v := (.pointer (some ⟨p, 0, none⟩))) rfl rfl (by kernel_rfl) (by kernel_rfl) (by kernel_rfl) (fun _ _ _ h => h) (by kernel_rfl) (by decide) hcl ⟨by rfl, fun w hR => ?hy_1, fun _ => rfl⟩ hcd (fun hc1 => ?rest_1)
  case hy_1 => (try dsimp only at hR); (try obtain ⟨hR1, hR2, hR3, hR4⟩ := hR); go_simp; try (first | rfl | (intro h; omega) | omega)
  clear hcl; have hcl := hc1; clear hc1; simp only [Act.put, List.setIfInBounds_toArray, List.set_cons_zero, List.set_cons_succ]
  refine wpAnyG_take (i := 1) 8 (v := (.pointer (some ⟨W.heap.size, 1, none⟩))) rfl rfl (by kernel_rfl) (by kernel_rfl) (by kernel_rfl) (fun _ _ _ h => h) (by kernel_rfl) (by decide) hcl ⟨by rfl, fun w hR => ?hy_2, fun _ => rfl⟩ hcd (fun hc1 => ?rest_2)
  case hy_2 => (try dsimp only at hR); (try obtain ⟨hR1, hR2, hR3, hR4⟩ := hR); go_simp; try (first | rfl | (intro h; omega) | omega)
  clear hcl; have hcl := hc1; clear hc1; simp only [Act.put, List.setIfInBounds_toArray, List.set_cons_zero, List.set_cons_succ]
  refine wpAnyG_take (i := 2) 8 (v := (dv i l f d)) rfl rfl (by kernel_rfl) (by kernel_rfl) (by kernel_rfl) (fun _ _ _ h => h) (by kernel_rfl) (by decide) hcl ⟨by rfl, fun w hR => ?hy_3, fun _ => rfl⟩ hcd (fun hc1 => ?rest_3)
  case hy_3 => (try dsimp only at hR); (try obtain ⟨hR1, hR2, hR3, hR4⟩ := hR); go_simp; try (first | rfl | (intro h; omega) | omega)
  clear hcl; have hcl := hc1; clear hc1; simp only [Act.put, List.setIfInBounds_toArray, List.set_cons_zero, List.set_cons_succ]
  refine wpAnyG_take (i := 4) 8 (v := (.pointer (some ⟨p', 0, none⟩))) rfl rfl (by kernel_rfl) (by kernel_rfl) (by kernel_rfl) (fun _ _ _ h => h) (by kernel_rfl) (by decide) hcl ⟨by rfl, fun w hR => ?hy_4, fun _ => rfl⟩ hcd (fun hc1 => ?rest_4)
  case hy_4 => (try dsimp only at hR); (try obtain ⟨hR1, hR2, hR3, hR4⟩ := hR); go_simp; try (first | rfl | (intro h; omega) | omega)
  clear hcl; have hcl := hc1; clear hc1; simp only [Act.put, List.setIfInBounds_toArray, List.set_cons_zero, List.set_cons_succ]
  refine wpAnyG_take (i := 5) 8 (v := (.pointer (some ⟨W.heap.size, 1, none⟩))) rfl rfl (by kernel_rfl) (by kernel_rfl) (by kernel_rfl) (fun _ _ _ h => h) (by kernel_rfl) (by decide) hcl ⟨by rfl, fun w hR => ?hy_5, fun _ => rfl⟩ hcd (fun hc1 => ?rest_5)
  case hy_5 => (try dsimp only at hR); (try obtain ⟨hR1, hR2, hR3, hR4⟩ := hR); go_simp; try (first | rfl | (intro h; omega) | omega)
  clear hcl; have hcl := hc1; clear hc1; simp only [Act.put, List.setIfInBounds_toArray, List.set_cons_zero, List.set_cons_succ]
  refine wpAnyG_take (i := 6) 8 (v := (dv i l f d)) rfl rfl (by kernel_rfl) (by kernel_rfl) (by kernel_rfl) (fun _ _ _ h => h) (by kernel_rfl) (by decide) hcl ⟨by rfl, fun w hR => ?hy_6, fun _ => rfl⟩ hcd (fun hc1 => ?rest_6)
  case hy_6 => (try dsimp only at hR); (try obtain ⟨hR1, hR2, hR3, hR4⟩ := hR); go_simp; try (first | rfl | (intro h; omega) | omega)
  clear hcl; have hcl := hc1; clear hc1; simp only [Act.put, List.setIfInBounds_toArray, List.set_cons_zero, List.set_cons_succ]
  refine wpAnyG_one (i := 3) (by kernel_rfl) rfl (fun K hK => ?_)
  go_simp
  refine ⟨trivial, (callsIn_wide.2 (post_p w1.drew p q r hA.prog.drew i l f d hi hi1 hl hl1 hf hf1)).mono ?_⟩
  rintro e w2 ⟨rfl, hP2, hF2⟩
  have hX2 : Held w2 W.heap.size 37 #[.int .i64 o, .int .u32 i, .int .u32 l, .int .u32 f, .bool d] := Held.foot (W := w1.drew) hX hF2 (by simp only [Own2]; omega)
  have hD2 := hA.doc.drew.foot hF2 n1 n2
  have hG2 : Foot (Own4 p q p' q') W w2 := hF.drew.trans hF2 (fun _ _ e => .inl e)
  have hc2 : ActCells w2 W.heap.size i l f d := ⟨hX2.cell 1, hX2.cell 2, hX2.cell 3, hX2.cell 4⟩
  refine hK _ _ (.inr hc2) ?_
  clear hK K
  refine wpAnyG_one (i := 7) (by kernel_rfl) rfl (fun K hK => ?_)
  go_simp
  refine ⟨trivial, (callsIn_wide.2 (post_r w2 p' q' r hD2 i l f d hi hi1 hl hl1 hf hf1)).mono ?_⟩
  rintro e w3 ⟨rfl, hR3, hF3⟩
  have hP3 := hP2.foot hF3 n3 n4
  have hG3 : Foot (Own4 p q p' q') W w3 := hG2.trans hF3 (fun _ _ e => .inr e)
  refine hK _ _ (.inl (by kernel_rfl)) ?_
  clear hK K hc2 hcd hcl
  refine wpAnyG_pure (i := 8) (v := (.bool true)) rfl rfl (by kernel_rfl) (by kernel_rfl) (by kernel_rfl) (fun _ _ _ h => h) (by decide) ⟨by rfl, fun w _ => ?hy_7, fun _ => rfl⟩ (.inl (by kernel_rfl)) ?rest_7
  case hy_7 => go_simp; try (first | rfl | (intro h; omega) | omega)
  simp only [Act.put, List.setIfInBounds_toArray, List.set_cons_zero, List.set_cons_succ]
  refine wpAnyG_one (i := 9) (by kernel_rfl) rfl (fun K hK => ?_)
  go_simp
  refine hK _ _ (.inl (by kernel_rfl)) ?_
  clear hK K
  refine wpAnyG_done (by kernel_rfl) ?_ _
  go_wp2
  go_ret
  exact ⟨rfl, ⟨hP3, hR3, h.a1, h.a2, h.a3, h.a4⟩, hG3⟩

set_option maxRecDepth 100000 in
theorem did_fetch (W : World) (p q p' q' : Nat) (r : RS) (h : Both W p q p' q' r) (o i l f : Int) (d : Bool) (hk : opK o = 2) :
    Calls Try.prog 15 #[.pointer (some ⟨p, 0, none⟩), .pointer (some ⟨p', 0, none⟩), av o i l f d] W (DidGives p q p' q' r.fetchR W) := by
  have ht := opK_tmod o
  rw [hk] at ht
  clear hk
  have hA := h.alloc (.cells #[.int .i64 o, .int .u32 i, .int .u32 l, .int .u32 f, .bool d] 37)
  have hF : Foot (Own4 p q p' q') W (W.alloc (.cells #[.int .i64 o, .int .u32 i, .int .u32 l, .int .u32 f, .bool d] 37)) := (Foot.refl _ _).alloc _
  obtain ⟨n1, n2, n3, n4⟩ := h.n1
  go_enter Try.func15, Try.ntmps15
  go_wp2_with fail
  refine (fetch_p _ p q r hA.prog).mono ?_
  rintro e w2 ⟨rfl, hP2, hF2⟩
  have hD2 := hA.doc.foot hF2 n1 n2
  have hG2 : Foot (Own4 p q p' q') W w2 := hF.trans hF2 (fun _ _ e => .inl e)
  clear hF2 hA hF
  obtain ⟨v, hv⟩ : ∃ v : PD × Bool, (bif r.hasFetch then dv (r.at_ r.t).1 (r.at_ r.t).2.1 (r.at_ r.t).2.2 false else dv 0 0 0 false) = dv v.1.1 v.1.2.1 v.1.2.2 v.2 := by
    cases r.hasFetch
    · exact ⟨((0, 0, 0), false), rfl⟩
    · exact ⟨(r.at_ r.t, false), rfl⟩
  rw [hv]
  have HV := Lib.hid hv
  clear hv
  have b1 := (Held.new w2 35 (dcs v.1.1 v.1.2.1 v.1.2.2 v.2))
  have hP3 := hP2.alloc (.cells (dcs v.1.1 v.1.2.1 v.1.2.2 v.2) 35)
  have hD3 := hD2.alloc (.cells (dcs v.1.1 v.1.2.1 v.1.2.2 v.2) 35)
  have hG3 := hG2.alloc (.cells (dcs v.1.1 v.1.2.1 v.1.2.2 v.2) 35)
  have lt3 : p' < w2.heap.size ∧ q' < w2.heap.size := ⟨hD2.ring.lt, hD2.slots.lt⟩
  go_wp2_with fail
  generalize w2.alloc (.cells (dcs v.1.1 v.1.2.1 v.1.2.2 v.2) 35) = w3 at b1 hP3 hD3 hG3 ⊢
  refine (fetch_r3 _ p' q' r hD3).mono ?_
  rintro e w4 ⟨rfl, hR4, hF4⟩
  rw [HV.out]
  have hP4 := hP3.foot hF4 n3 n4
  have hG4 : Foot (Own4 p q p' q') W w4 := hG3.trans hF4 (fun _ _ e => .inr e)
  have b4 := b1.foot hF4 (by simp only [Own2]; omega)
  have hP5 := hP4.alloc (.cells (dcs v.1.1 v.1.2.1 v.1.2.2 v.2) 35)
  have hR5 := hR4.alloc (.cells (dcs v.1.1 v.1.2.1 v.1.2.2 v.2) 35)
  have hG5 := hG4.alloc (.cells (dcs v.1.1 v.1.2.1 v.1.2.2 v.2) 35)
  obtain ⟨⟨a0, a1, a2, a3⟩, _⟩ := (b4.alloc (.cells (dcs v.1.1 v.1.2.1 v.1.2.2 v.2) 35)).desc
  clear b1 hP3 hD3 hG3 hF4 hP2 hD2 hG2 HV
  go_wp2
  go_ret
  exact ⟨rfl, ⟨hP5, hR5, h.a1, h.a2, h.a3, h.a4⟩, hG5⟩

set_option maxRecDepth 100000 in
theorem did_finish (W : World) (p q p' q' : Nat) (r : RS) (h : Both W p q p' q' r) (o i l f : Int) (d : Bool) (hk : opK o = 3) :
    Calls Try.prog 15 #[.pointer (some ⟨p, 0, none⟩), .pointer (some ⟨p', 0, none⟩), av o i l f d] W (DidGives p q p' q' r.finishR W) := by
  have ht := opK_tmod o
  rw [hk] at ht
  clear hk
  have hA := h.alloc (.cells #[.int .i64 o, .int .u32 i, .int .u32 l, .int .u32 f, .bool d] 37)
  have hF : Foot (Own4 p q p' q') W (W.alloc (.cells #[.int .i64 o, .int .u32 i, .int .u32 l, .int .u32 f, .bool d] 37)) := (Foot.refl _ _).alloc _
  obtain ⟨n1, n2, n3, n4⟩ := h.n1
  go_enter Try.func15, Try.ntmps15
  go_wp2_with fail
  refine (finish_p1 _ p q r hA.prog).mono ?_
  rintro e w2 ⟨rfl, hP2, hF2⟩
  have hD2 := hA.doc.foot hF2 n1 n2
  have hG2 : Foot (Own4 p q p' q') W w2 := hF.trans hF2 (fun _ _ e => .inl e)
  clear hF2 hA hF
  obtain ⟨v, hv⟩ : ∃ v : PD × Bool, (bif r.hasFinish then dv (r.at_ r.i).1 (r.at_ r.i).2.1 (r.at_ r.i).2.2 true else dv 0 0 0 false) = dv v.1.1 v.1.2.1 v.1.2.2 v.2 := by
    cases r.hasFinish
    · exact ⟨((0, 0, 0), false), rfl⟩
    · exact ⟨(r.at_ r.i, true), rfl⟩
  rw [hv]
  have HV := Lib.hid hv
  clear hv
  have b1 := (Held.new w2 35 (dcs v.1.1 v.1.2.1 v.1.2.2 v.2))
  have hP3 := hP2.alloc (.cells (dcs v.1.1 v.1.2.1 v.1.2.2 v.2) 35)
  have hD3 := hD2.alloc (.cells (dcs v.1.1 v.1.2.1 v.1.2.2 v.2) 35)
  have hG3 := hG2.alloc (.cells (dcs v.1.1 v.1.2.1 v.1.2.2 v.2) 35)
  have lt3 : p' < w2.heap.size ∧ q' < w2.heap.size := ⟨hD2.ring.lt, hD2.slots.lt⟩
  go_wp2_with fail
  generalize w2.alloc (.cells (dcs v.1.1 v.1.2.1 v.1.2.2 v.2) 35) = w3 at b1 hP3 hD3 hG3 ⊢
  refine (finish_r3 _ p' q' r hD3).mono ?_
  rintro e w4 ⟨rfl, hR4, hF4⟩
  rw [HV.out]
  have hP4 := hP3.foot hF4 n3 n4
  have hG4 : Foot (Own4 p q p' q') W w4 := hG3.trans hF4 (fun _ _ e => .inr e)
  have b4 := b1.foot hF4 (by simp only [Own2]; omega)
  have hP5 := hP4.alloc (.cells (dcs v.1.1 v.1.2.1 v.1.2.2 v.2) 35)
  have hR5 := hR4.alloc (.cells (dcs v.1.1 v.1.2.1 v.1.2.2 v.2) 35)
  have hG5 := hG4.alloc (.cells (dcs v.1.1 v.1.2.1 v.1.2.2 v.2) 35)
  obtain ⟨⟨a0, a1, a2, a3⟩, _⟩ := (b4.alloc (.cells (dcs v.1.1 v.1.2.1 v.1.2.2 v.2) 35)).desc
  clear b1 hP3 hD3 hG3 hF4 hP2 hD2 hG2 HV
  go_wp2
  go_ret
  exact ⟨rfl, ⟨hP5, hR5, h.a1, h.a2, h.a3, h.a4⟩, hG5⟩

set_option maxRecDepth 100000 in
theorem did_clean (W : World) (p q p' q' : Nat) (r : RS) (h : Both W p q p' q' r) (o i l f : Int) (d : Bool) (hk : opK o = 4) :
    Calls Try.prog 15 #[.pointer (some ⟨p, 0, none⟩), .pointer (some ⟨p', 0, none⟩), av o i l f d] W (DidGives p q p' q' r.cleanR W) := by
  have ht := opK_tmod o
  rw [hk] at ht
  clear hk
  have hA := h.alloc (.cells #[.int .i64 o, .int .u32 i, .int .u32 l, .int .u32 f, .bool d] 37)
  have hF : Foot (Own4 p q p' q') W (W.alloc (.cells #[.int .i64 o, .int .u32 i, .int .u32 l, .int .u32 f, .bool d] 37)) := (Foot.refl _ _).alloc _
  obtain ⟨n1, n2, n3, n4⟩ := h.n1
  go_enter Try.func15, Try.ntmps15
  go_wp2_with fail
  refine (clean_p _ p q r hA.prog).mono ?_
  rintro e w2 ⟨rfl, hP2, hF2⟩
  have hD2 := hA.doc.foot hF2 n1 n2
  have hG2 : Foot (Own4 p q p' q') W w2 := hF.trans hF2 (fun _ _ e => .inl e)
  clear hF2 hA hF
  obtain ⟨v, hv⟩ : ∃ v : PD × Bool, (bif r.hasClean then dv (r.at_ r.c).1 (r.at_ r.c).2.1 (r.at_ r.c).2.2 true else dv 0 0 0 false) = dv v.1.1 v.1.2.1 v.1.2.2 v.2 := by
    cases r.hasClean
    · exact ⟨((0, 0, 0), false), rfl⟩
    · exact ⟨(r.at_ r.c, true), rfl⟩
  rw [hv]
  have HV := Lib.hid hv
  clear hv
  have b1 := (Held.new w2 35 (dcs v.1.1 v.1.2.1 v.1.2.2 v.2))
  have hP3 := hP2.alloc (.cells (dcs v.1.1 v.1.2.1 v.1.2.2 v.2) 35)
  have hD3 := hD2.alloc (.cells (dcs v.1.1 v.1.2.1 v.1.2.2 v.2) 35)
  have hG3 := hG2.alloc (.cells (dcs v.1.1 v.1.2.1 v.1.2.2 v.2) 35)
  have lt3 : p' < w2.heap.size ∧ q' < w2.heap.size := ⟨hD2.ring.lt, hD2.slots.lt⟩
  go_wp2_with fail
  generalize w2.alloc (.cells (dcs v.1.1 v.1.2.1 v.1.2.2 v.2) 35) = w3 at b1 hP3 hD3 hG3 ⊢
  refine (clean_r3 _ p' q' r hD3).mono ?_
  rintro e w4 ⟨rfl, hR4, hF4⟩
  rw [HV.out]
  have hP4 := hP3.foot hF4 n3 n4
  have hG4 : Foot (Own4 p q p' q') W w4 := hG3.trans hF4 (fun _ _ e => .inr e)
  have b4 := b1.foot hF4 (by simp only [Own2]; omega)
  have hP5 := hP4.alloc (.cells (dcs v.1.1 v.1.2.1 v.1.2.2 v.2) 35)
  have hR5 := hR4.alloc (.cells (dcs v.1.1 v.1.2.1 v.1.2.2 v.2) 35)
  have hG5 := hG4.alloc (.cells (dcs v.1.1 v.1.2.1 v.1.2.2 v.2) 35)
  obtain ⟨⟨a0, a1, a2, a3⟩, _⟩ := (b4.alloc (.cells (dcs v.1.1 v.1.2.1 v.1.2.2 v.2) 35)).desc
  clear b1 hP3 hD3 hG3 hF4 hP2 hD2 hG2 HV
  go_wp2
  go_ret
  exact ⟨rfl, ⟨hP5, hR5, h.a1, h.a2, h.a3, h.a4⟩, hG5⟩

set_option maxRecDepth 100000 in
theorem did_bell (W : World) (p q p' q' : Nat) (r : RS) (h : Both W p q p' q' r) (o i l f : Int) (d : Bool) (hk : opK o = 1) :
    Calls Try.prog 15 #[.pointer (some ⟨p, 0, none⟩), .pointer (some ⟨p', 0, none⟩), av o i l f d] W (DidGives p q p' q' r.bell W) := by
  have ht := opK_tmod o
  rw [hk] at ht
  clear hk
  have hA := h.alloc (.cells #[.int .i64 o, .int .u32 i, .int .u32 l, .int .u32 f, .bool d] 37)
  have hF : Foot (Own4 p q p' q') W (W.alloc (.cells #[.int .i64 o, .int .u32 i, .int .u32 l, .int .u32 f, .bool d] 37)) := (Foot.refl _ _).alloc _
  obtain ⟨n1, n2, n3, n4⟩ := h.n1
  go_enter Try.func15, Try.ntmps15
  go_wp2_with fail
  refine (bell_p _ p q r hA.prog).mono ?_
  rintro e w2 ⟨rfl, hP2, hF2⟩
  have hD2 := hA.doc.foot hF2 n1 n2
  have hG2 : Foot (Own4 p q p' q') W w2 := hF.trans hF2 (fun _ _ e => .inl e)
  clear hF2 hA hF
  go_wp2_with fail
  refine (bell_r _ p' q' r hD2).mono ?_
  rintro e w3 ⟨⟨v, rfl⟩, hR3, hF3⟩
  have hP3 := hP2.foot hF3 n3 n4
  have hG3 : Foot (Own4 p q p' q') W w3 := hG2.trans hF3 (fun _ _ e => .inr e)
  go_wp2
  go_ret
  exact ⟨rfl, ⟨hP3, hR3, h.a1, h.a2, h.a3, h.a4⟩, hG3⟩
theorem did_p (W : World) (p q p' q' : Nat) (r : RS) (h : Both W p q p' q' r) (o i l f : Int) (d : Bool) (hi : 0 ≤ i) (hi1 : i ≤ 4294967295) (hl : 0 ≤ l) (hl1 : l ≤ 4294967295) (hf : 0 ≤ f) (hf1 : f ≤ 4294967295) :
    Calls Try.prog 15 #[.pointer (some ⟨p, 0, none⟩), .pointer (some ⟨p', 0, none⟩), av o i l f d] W (DidGives p q p' q' (r.step (opK o) i l f d) W) := by
  rcases opK_cases o with hk | hk | hk | hk | hk
  · have e : r.step (opK o) i l f d = r.postR i l f d := by rw [hk]; rfl
    rw [e]; exact did_post W p q p' q' r h o i l f d hk hi hi1 hl hl1 hf hf1
  · have e : r.step (opK o) i l f d = r.bell := by rw [hk]; rfl
    rw [e]; exact did_bell W p q p' q' r h o i l f d hk
  · have e : r.step (opK o) i l f d = r.fetchR := by rw [hk]; rfl
    rw [e]; exact did_fetch W p q p' q' r h o i l f d hk
  · have e : r.step (opK o) i l f d = r.finishR := by rw [hk]; rfl
    rw [e]; exact did_finish W p q p' q' r h o i l f d hk
  · have e : r.step (opK o) i l f d = r.cleanR := by rw [hk]; rfl
    rw [e]; exact did_clean W p q p' q' r h o i l f d hk
end Go.Proofs.Ytfnhnicjomaelaa
