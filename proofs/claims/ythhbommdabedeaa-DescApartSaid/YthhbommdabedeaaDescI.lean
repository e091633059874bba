/-
  The contract of 'shown', and the walks of the laws DescBytes, DescApart, DescEnds, DescDone. Conditions: each field fits its kind.
-/
import Derived.Test.YthhbommdabedeaaDescF
namespace Go.Proofs.Ythhbommdabedeaa
open Go.ChangeShapes Go.WideShapes Go.ChangeAt Go.RowKit

theorem t123 : encT 1 2 3 false = ⟨#[1, 0, 0, 0, 2, 0, 0, 0, 3, 0, 0, 0, 1, 91, 0, 0]⟩ := by decide +kernel
theorem e2 : encE 2 = 0 := by decide +kernel
theorem d123 : decB ⟨#[1, 0, 0, 0, 2, 0, 0, 0, 3, 0, 0, 0, 1, 91, 0, 0]⟩ = true := by decide +kernel
theorem v123 : decV ⟨#[1, 0, 0, 0, 2, 0, 0, 0, 3, 0, 0, 0, 1, 91, 0, 0]⟩ = dv 1 2 3 false := by
  unfold decV
  rw [d123]
  rfl
theorem c123 : decE ⟨#[1, 0, 0, 0, 2, 0, 0, 0, 3, 0, 0, 0, 1, 91, 0, 0]⟩ = 0 := by
  unfold decE
  rw [d123]
  rfl
theorem c0 : decE ⟨#[]⟩ = 20 := rfl
theorem v0 : decV ⟨#[]⟩ = dv 0 0 0 false := rfl

theorem shown_p (w : World) : Calls Try.prog 10 #[] w fun e w' => e = .returned (.bool true) ∧ Below w.heap.size w w' := by
  go_enter Try.func10, Try.ntmps10
  go_wp2_with fail
  refine (encode_p 1 2 3 false (by omega) (by omega) (by omega) (by omega) (by omega) (by omega) _).mono ?_
  rintro e w1 ⟨rfl, hb1⟩
  rw [t123, e2]
  go_wp2_with fail
  refine (decode_p _ _).mono ?_
  rintro e w2 ⟨rfl, hb2⟩
  rw [v123, c123]
  go_wp2_with fail
  refine (decode_p _ _).mono ?_
  rintro e w3 ⟨rfl, hb3⟩
  rw [v0, c0]
  have hz1 := hb1.size
  have hz2 := hb2.size
  have hz3 : w2.heap.size + 1 ≤ w3.heap.size := by have := hb3.size; simpa using this
  have hD : Held w3 w2.heap.size 24 (dcs 1 2 3 false) := (Held.new w2 _ _).below hb3 (by simp)
  obtain ⟨⟨k0, k1, k2, k3⟩, _⟩ := (hD.alloc (.cells (dcs 0 0 0 false) 24)).desc
  have hB : Below w.heap.size w w3 := ((hb1.trans (hb2.mono (by omega))).alloc (by omega) _).trans (hb3.mono (by simp; omega))
  go_wp2
  go_ret
  exact ⟨rfl, hB.alloc (by omega) _⟩

theorem right_pw (i l f : Int) (d : Bool) (w : World) : Calls Try.prog 13 #[dv i l f d] w fun e w' => e = .returned (.bool (rightB l)) ∧ w.alloc (.cells (dcs i l f d) 24) = w' := by
  by_cases h : 1 ≤ l
  all_goals
    go_enter Try.func13, Try.ntmps13
    go_wp2
    go_ret
    exact ⟨by simp [rightB, h]; try omega, rfl⟩
theorem right_rw (i l f : Int) (d : Bool) (w : World) : Calls Try.prog 14 #[dv i l f d] w fun e w' => e = .returned (.bool (rightB l)) ∧ w.alloc (.cells (dcs i l f d) 24) = w' := by
  by_cases h : 1 ≤ l
  all_goals
    go_enter Try.func14, Try.ntmps14
    go_wp2
    go_ret
    exact ⟨by simp [rightB, h]; try omega, rfl⟩

/-- a struct argument in its box, behind 'shown' -/
theorem shown_box (i l f : Int) (d : Bool) (w : World) : Calls Try.prog 10 #[] (w.alloc (.cells (dcs i l f d) 24)) fun e w' =>
    e = .returned (.bool true) ∧ Below w.heap.size w w' ∧ Held w' w.heap.size 24 (dcs i l f d) :=
  (shown_p _).mono fun _ _ ⟨he, hb⟩ => ⟨he, ((Below.refl _ _).alloc (Nat.le_refl _) _).trans (hb.mono (by simp)), (Held.new w _ _).below hb (by simp)⟩

theorem bytes_w (i l f : Int) (d : Bool) (hi : 0 ≤ i) (hi1 : i ≤ 4294967295) (hl : 0 ≤ l) (hl1 : l ≤ 4294967295) (hf : 0 ≤ f) (hf1 : f ≤ 4294967295) (w : World) :
    Calls Try.prog 3 #[dv i l f d] w fun e w' => e = .returned (.bool true) ∧ Below w.heap.size w w' := by
  go_enter Try.func3, Try.ntmps3
  go_wp2_with fail
  refine (shown_box i l f d w).mono ?_
  rintro e w1 ⟨rfl, hB1, hD1⟩
  have hz1 := hD1.lt
  obtain ⟨⟨a0, a1, a2, a3⟩, _⟩ := hD1.desc
  go_wp2_with fail
  refine (encode_p i l f d hi hi1 hl hl1 hf hf1 _).mono ?_
  rintro e w2 ⟨rfl, hb2⟩
  have hD2 := hD1.below hb2 hz1
  have hz2 := hD2.lt
  have hB2 := hB1.trans (hb2.mono (by omega))
  clear a0 a1 a2 a3 hb2 hB1 hD1
  obtain ⟨⟨a0, a1, a2, a3⟩, _⟩ := hD2.desc
  go_wp2_with fail
  refine (encode_r i l f d hi hi1 hl hl1 hf hf1 _).mono ?_
  rintro e w3 ⟨rfl, hb3⟩
  have hD3 := hD2.below hb3 hz2
  have hz3 := hD3.lt
  have hB3 := hB2.trans (hb3.mono (by omega))
  clear a0 a1 a2 a3 hb3 hB2 hD2 hz1 hz2
  obtain ⟨⟨a0, a1, a2, a3⟩, _⟩ := hD3.desc
  go_wp2_with fail
  go_region_held3 (fun w' => w'.cell? ⟨w.heap.size, 0, none⟩ = some (.int .u32 i) ∧ w'.cell? ⟨w.heap.size, 1, none⟩ = some (.int .u32 l) ∧ w'.cell? ⟨w.heap.size, 2, none⟩ = some (.int .u32 f) ∧ w'.cell? ⟨w.heap.size, 3, none⟩ = some (.bool d)) ((go_keep; done))
    (first | (go_at_call 13; (with_reducible refine (right_pw _ _ _ _ _).mono ?_); rintro e w' ⟨rfl, rfl⟩) | (go_at_call 14; (with_reducible refine (right_rw _ _ _ _ _).mono ?_); rintro e w' ⟨rfl, rfl⟩))
  go_wp2
  go_ret
  exact ⟨rfl, ((hB3.alloc (by omega) _).alloc (by simp; omega) _).drew⟩
end Go.Proofs.Ythhbommdabedeaa
