/-
  Contracts of desc.Finish and of the document's Decode and Finish. Conditions: none.
-/
import Derived.Test.YtfnhnicjomaelaaDescF
namespace Go.Proofs.Ytfnhnicjomaelaa
open Go.ChangeShapes Go.WideShapes Go.ChangeAt Go.RowKit

/-- what Finish tells -/
def finB (s : ByteArray) : Bool := decB s && !(byteAt s 12 == 2)
def finT (s : ByteArray) : ByteArray := bif finB s then encS (numAt s 0) (numAt s 4) (numAt s 8) true else ⟨#[]⟩
def finE (s : ByteArray) : Int := bif finB s then 0 else 20
def Fin2 (s : ByteArray) (w : World) (e : Ending) (w' : World) : Prop := e = .returned (.tuple #[.string (finT s), .int .i64 (finE s)]) ∧ Below w.heap.size w w'

theorem finish_p (s : ByteArray) (w : World) : Calls Try.prog 41 #[.string s] w (Fin2 s w) := by
  obtain ⟨i0, i1⟩ := numAt_bd s 0
  obtain ⟨l0, l1⟩ := numAt_bd s 4
  obtain ⟨f0, f1⟩ := numAt_bd s 8
  rcases hd : decB s
  · have hv : decV s = dv 0 0 0 false := by simp [decV, hd]
    have he : decE s = 20 := by simp [decE, hd]
    have hf : finB s = false := by simp [finB, hd]
    clear hd
    go_enter Try.func41, Try.ntmps41
    go_wp2_with fail
    refine (decode_p s _).mono ?_
    rintro e w1 ⟨rfl, hb1⟩
    rw [hv, he]
    go_wp2
    go_ret2
    exact ⟨by simp [finT, finE, hf], hb1.alloc hb1.size _⟩
  · rcases hk : (byteAt s 12 == 2)
    · have hv : decV s = dv (numAt s 0) (numAt s 4) (numAt s 8) false := by simp [decV, hd, hk]
      have he : decE s = 0 := by simp [decE, hd]
      have hf : finB s = true := by simp [finB, hd, hk]
      clear hd hk
      go_enter Try.func41, Try.ntmps41
      go_wp2_with fail
      refine (decode_p s _).mono ?_
      rintro e w1 ⟨rfl, hb1⟩
      rw [hv, he]
      clear hv he
      go_wp2_with (go_at_call 55; refine (encoding_p _ _ _ _ i0 i1 l0 l1 f0 f1 _).mono ?_; rintro e w2 ⟨rfl, hb2⟩)
      go_ret2
      refine ⟨by simp [finT, finE, hf], ((hb1.alloc hb1.size _).alloc (by have := hb1.size; simp; omega) _).trans (hb2.mono (by have := hb1.size; simp; omega))⟩
    · have hv : decV s = dv (numAt s 0) (numAt s 4) (numAt s 8) true := by simp [decV, hd, hk]
      have he : decE s = 0 := by simp [decE, hd]
      have hf : finB s = false := by simp [finB, hk]
      clear hd hk
      go_enter Try.func41, Try.ntmps41
      go_wp2_with fail
      refine (decode_p s _).mono ?_
      rintro e w1 ⟨rfl, hb1⟩
      rw [hv, he]
      clear hv he
      go_wp2
      go_ret2
      refine ⟨by simp [finT, finE, hf], ?_⟩
      have hz := hb1.size
      go_grown

theorem numAt_sub (s : ByteArray) (a b : Nat) (h16 : s.size = 16) (hb : b = a + 4) (h : b ≤ 16) : (s.extract a b).size = 4 ∧ numAt (s.extract a b) 0 = numAt s a := by
  subst hb
  have hl : (s.extract a (a + 4)).data.toList = (s.data.toList.drop a).take 4 := by
    simp [ByteArray.data_extract]
  refine ⟨by rw [ByteArray.size_extract]; omega, ?_⟩
  have hk : ∀ k, k < 4 → byteAt (s.extract a (a + 4)) k = byteAt s (a + k) := fun k hk => by
    simp only [byteAt, hl, List.getD, List.getElem?_take_of_lt hk, List.getElem?_drop]
  simp only [numAt, Nat.zero_add]
  rw [hk 0 (by omega), hk 1 (by omega), hk 2 (by omega), hk 3 (by omega)]
  rfl
theorem sum13 (s : ByteArray) (h16 : s.size = 16) : (s.extract 0 13).size ≤ 1000 ∧ (s.extract 0 13).data.toList = s.data.toList.take 13 := by
  refine ⟨by rw [ByteArray.size_extract]; omega, by simp [ByteArray.data_extract]⟩

/-- what the document's Decode finds -/
structure Looks (s : ByteArray) (b1 b2 b3 b4 b5 : Bool) : Prop where
  n1 : (((byteAt s 12).toNat : Int) != 1) = b1
  n2 : (((byteAt s 12).toNat : Int) != 2) = b2
  n3 : (((byteAt s 13).toNat : Int) != ((xorAll 90 (s.data.toList.take 13)).toNat : Int)) = b3
  n4 : (((byteAt s 14).toNat : Int) != 0) = b4
  n5 : (((byteAt s 15).toNat : Int) != 0) = b5
theorem ne_u8 (x y : UInt8) : ((x.toNat : Int) != (y.toNat : Int)) = !(x == y) := by
  rw [Bool.eq_iff_iff]
  simp only [bne_iff_ne, ne_eq, Bool.not_eq_true', beq_eq_false_iff_ne]
  constructor
  · intro h e; exact h (by rw [e])
  · intro h e; exact h (UInt8.toNat_inj.1 (by omega))
theorem Looks.form {s : ByteArray} {b1 b2 b3 b4 b5 : Bool} (h : Looks s b1 b2 b3 b4 b5) : formB s = ((!b1 || !b2) && (!b3 && (!b4 && !b5))) := by
  have n1 := (ne_u8 (byteAt s 12) 1).symm.trans h.n1
  have n2 := (ne_u8 (byteAt s 12) 2).symm.trans h.n2
  have n3 := (ne_u8 _ _).symm.trans h.n3
  have n4 := (ne_u8 (byteAt s 14) 0).symm.trans h.n4
  have n5 := (ne_u8 (byteAt s 15) 0).symm.trans h.n5
  unfold formB
  rw [← n1, ← n2, ← n3, ← n4, ← n5]
  simp

set_option maxHeartbeats 2000000 in
/-- something is wrong with the sixteen bytes' form -/
theorem decode_r_no (s : ByteArray) (h16 : s.size = 16) (b1 b2 b3 b4 b5 : Bool) (hL : Looks s b1 b2 b3 b4 b5) (hb : (b1 && b2 || b3 || b4 || b5) = true) (w : World) :
    Calls Try.prog 25 #[.string s] w fun e w' => e = .returned (.tuple #[dv 0 0 0 false, .int .i64 20]) ∧ Below w.heap.size w w' := by
  obtain ⟨n1, n2, n3, n4, n5⟩ := hL
  obtain ⟨z13, x13⟩ := sum13 s h16
  have hi : ((s.size : Int) != 16) = false := by rw [h16]; rfl
  have h15 : 15 < s.size := by omega
  have hsum : ∀ W, Calls Try.prog 46 #[.string (s.extract 0 13)] W fun e w' => e = .returned (.int .u8 ((xorAll 90 (s.data.toList.take 13)).toNat : Int)) ∧ W = w' := fun W => by
    have h := sum_r (s.extract 0 13) z13 W
    rw [x13] at h
    exact h
  obtain ⟨c, hc⟩ : ∃ c, xorAll 90 (s.data.toList.take 13) = c := ⟨_, rfl⟩
  rw [hc] at hsum n3
  have HS := Lib.hid hsum
  clear hc z13 x13 h16 hsum
  have g12 : 12 < s.size := by omega
  have g13 : 13 < s.size := by omega
  have g14 : 14 < s.size := by omega
  have e12 : s[12].toNat = (byteAt s 12).toNat := by rw [byteAt_get]
  have e13 : s[13].toNat = (byteAt s 13).toNat := by rw [byteAt_get]
  have e14 : s[14].toNat = (byteAt s 14).toNat := by rw [byteAt_get]
  have e15 : s[15].toNat = (byteAt s 15).toNat := by rw [byteAt_get]
  have hcase : (b1 = true ∧ b2 = true) ∨ (b1 = false ∧ b3 = true) ∨ (b1 = false ∧ b3 = false ∧ b4 = true) ∨ (b1 = false ∧ b3 = false ∧ b4 = false ∧ b5 = true) ∨
      (b1 = true ∧ b2 = false ∧ b3 = true) ∨ (b1 = true ∧ b2 = false ∧ b3 = false ∧ b4 = true) ∨ (b1 = true ∧ b2 = false ∧ b3 = false ∧ b4 = false ∧ b5 = true) := by
    revert hb
    cases b1 <;> cases b2 <;> cases b3 <;> cases b4 <;> cases b5 <;> simp
  clear hb
  rcases hcase with ⟨rfl, rfl⟩ | ⟨rfl, rfl⟩ | ⟨rfl, rfl, rfl⟩ | ⟨rfl, rfl, rfl, rfl⟩ | ⟨rfl, rfl, rfl⟩ | ⟨rfl, rfl, rfl, rfl⟩ | ⟨rfl, rfl, rfl, rfl, rfl⟩
  all_goals
    go_enter Try.func25, Try.ntmps25
    go_wp2
    go_quiet ((go_at_call 46; exact Calls.quiet_of_same ((HS.out _).mono (fun _ _ ⟨a, b⟩ => ⟨a, b.symm⟩))))
    go_wp2
    refine bodyPost_ret (v := .tuple #[dv 0 0 0 false, .int .i64 20]) (by simp [results, Try.results25, go_sem]) rfl ⟨rfl, ?_⟩
    exact ((((below_drewN ((Below.refl _ _).alloc (Nat.le_refl _) _) _).setCell (by simp) _).setCell (by simp) _).setCell (by simp) _).setCell (by simp) _

theorem decode_r_size (s : ByteArray) (h16 : s.size ≠ 16) (w : World) :
    Calls Try.prog 25 #[.string s] w fun e w' => e = .returned (.tuple #[dv 0 0 0 false, .int .i64 20]) ∧ Below w.heap.size w w' := by
  have hi : ((s.size : Int) != 16) = true := by simp; omega
  go_enter Try.func25, Try.ntmps25
  go_wp2
  go_quiet (fail)
  go_wp2
  refine bodyPost_ret (v := .tuple #[dv 0 0 0 false, .int .i64 20]) (by simp [results, Try.results25, go_sem]) rfl ⟨rfl, ?_⟩
  exact ((((below_drewN ((Below.refl _ _).alloc (Nat.le_refl _) _) _).setCell (by simp) _).setCell (by simp) _).setCell (by simp) _).setCell (by simp) _
end Go.Proofs.Ytfnhnicjomaelaa
