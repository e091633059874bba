/-
  Contracts of desc.Decode, desc.Finish and of the document's Decode, Finish. Conditions: none.
-/
import Derived.Test.YtfnhnicjomaelaaDescE
namespace Go.Proofs.Ytfnhnicjomaelaa
open Go.ChangeShapes Go.WideShapes Go.ChangeAt Go.RowKit

/-- what Decode tells -/
def decV (s : ByteArray) : Value := bif decB s then dv (numAt s 0) (numAt s 4) (numAt s 8) (byteAt s 12 == 2) else dv 0 0 0 false
def decE (s : ByteArray) : Int := bif decB s then 0 else 20
def Dec2 (s : ByteArray) (w : World) (e : Ending) (w' : World) : Prop := e = .returned (.tuple #[decV s, .int .i64 (decE s)]) ∧ Below w.heap.size w w'
theorem numAt_bd (s : ByteArray) (k : Nat) : 0 ≤ numAt s k ∧ numAt s k ≤ 4294967295 := num4_bd _ _ _ _

/-- a descriptor's cells -/
abbrev dcs (i l f : Int) (d : Bool) : Array Value := #[.int .u32 i, .int .u32 l, .int .u32 f, .bool d]
/-- block b holds a descriptor: its cells may be read and written -/
theorem Held.desc {W : World} {b : Nat} {i l f : Int} {d : Bool} (h : Held W b 35 (dcs i l f d)) :
    (W.cell? ⟨b, 0, none⟩ = some (.int .u32 i) ∧ W.cell? ⟨b, 1, none⟩ = some (.int .u32 l) ∧ W.cell? ⟨b, 2, none⟩ = some (.int .u32 f) ∧ W.cell? ⟨b, 3, none⟩ = some (.bool d)) ∧
    (W.frozen? ⟨b, 0, none⟩ = false ∧ W.frozen? ⟨b, 1, none⟩ = false ∧ W.frozen? ⟨b, 2, none⟩ = false ∧ W.frozen? ⟨b, 3, none⟩ = false) :=
  ⟨⟨h.cell 0, h.cell 1, h.cell 2, h.cell 3⟩, h.frozen 0, h.frozen 1, h.frozen 2, h.frozen 3⟩

theorem decode_p (s : ByteArray) (w : World) : Calls Try.prog 54 #[.string s] w (Dec2 s w) := by
  by_cases h16 : s.size = 16
  · have hs := Lib.hid h16
    have hi : ((s.size : Int) != 16) = false := by rw [h16]; rfl
    clear h16
    obtain ⟨i0, i1⟩ := numAt_bd s 0
    obtain ⟨l0, l1⟩ := numAt_bd s 4
    obtain ⟨f0, f1⟩ := numAt_bd s 8
    have hdb : decB s = (rightB (numAt s 4) && decide (reS s = s)) := by simp [decB, hs.out]
    have HD := Lib.hid hdb
    clear hdb
    obtain ⟨dn, hdn⟩ : ∃ dn, (byteAt s 12 == 2) = dn := ⟨_, rfl⟩
    have RE := Lib.hid (show reS s = encS (numAt s 0) (numAt s 4) (numAt s 8) dn by rw [← hdn]; rfl)
    go_enter Try.func54, Try.ntmps54
    go_wp2_with fail
    refine (read_p s hs _).mono ?_
    rintro e w1 ⟨rfl, hb1⟩
    have hz1 : w.heap.size + 1 ≤ w1.heap.size := by have := hb1.size; simpa using this
    have hR1 : Held w1 w.heap.size 35 (dcs 0 0 0 false) := (Held.new w _ _).below hb1 (by simp)
    have hB1 : Below w.heap.size w w1 := ((Below.refl _ _).alloc (Nat.le_refl _) _).trans (hb1.mono (by simp))
    clear hb1
    rw [hdn]
    have HDN := Lib.hid hdn
    clear hdn
    go_wp2_with fail
    refine (right_p _ _ _ _ _).mono ?_
    rintro e w2 ⟨rfl, hb2⟩
    have hz2 : w1.heap.size + 1 ≤ w2.heap.size := by have := hb2.size; simpa using this
    have hR2 : Held w2 w.heap.size 35 (dcs 0 0 0 false) := (hR1.alloc _).below hb2 (by simp; omega)
    have hD2 : Held w2 w1.heap.size 35 (dcs (numAt s 0) (numAt s 4) (numAt s 8) dn) := (Held.new w1 _ _).below hb2 (by simp)
    have hB2 : Below w.heap.size w w2 := (hB1.alloc (by omega) _).trans (hb2.mono (by simp; omega))
    clear hb2 hR1 hB1
    rcases hr : rightB (numAt s 4)
    · obtain ⟨⟨c0, c1, c2, c3⟩, q0, q1, q2, q3⟩ := hR2.desc
      go_wp2
      refine bodyPost_ret (v := .tuple #[dv 0 0 0 false, .int .i64 20]) (by simp [results, Try.results54, go_sem, c0, c1, c2, c3]) rfl ⟨?_, ?_⟩
      · simp [decV, decE, HD.out, hr]
      · exact (((hB2.setCell (by simp) _).setCell (by simp) _).setCell (by simp) _).setCell (by simp) _
    · obtain ⟨⟨d0, d1, d2, d3⟩, _⟩ := hD2.desc
      go_wp2_with fail
      refine (encoding_p _ _ _ _ i0 i1 l0 l1 f0 f1 _).mono ?_
      rintro e w3 ⟨rfl, hb3⟩
      have hR3 := hR2.below hb3 (by omega)
      have hD3 := hD2.below hb3 (by omega)
      have hB3 := hB2.trans (hb3.mono (by omega))
      clear d0 d1 d2 d3 hb3
      obtain ⟨⟨c0, c1, c2, c3⟩, q0, q1, q2, q3⟩ := hR3.desc
      obtain ⟨⟨d0, d1, d2, d3⟩, _⟩ := hD3.desc
      rw [← RE.out]
      by_cases heq : reS s = s
      · have g1 := strEq_yes heq
        have HE := Lib.hid heq
        clear heq
        go_wp2
        refine bodyPost_ret (v := .tuple #[dv (numAt s 0) (numAt s 4) (numAt s 8) dn, .int .i64 0]) (by simp [results, Try.results54, go_sem, c0, c1, c2, c3]) rfl ⟨?_, ?_⟩
        · have hb : decB s = true := by rw [HD.out, hr]; simpa using HE.out
          simp [decV, decE, hb, HDN.out]
        · exact (((hB3.setCell (by simp) _).setCell (by simp) _).setCell (by simp) _).setCell (by simp) _
      · have g1 := strEq_no heq
        have HE := Lib.hid heq
        clear heq
        go_wp2
        refine bodyPost_ret (v := .tuple #[dv 0 0 0 false, .int .i64 20]) (by simp [results, Try.results54, go_sem, c0, c1, c2, c3]) rfl ⟨?_, ?_⟩
        · have hb : decB s = false := by rw [HD.out, hr]; simpa using HE.out
          simp [decV, decE, hb]
        · exact (((hB3.setCell (by simp) _).setCell (by simp) _).setCell (by simp) _).setCell (by simp) _
  · have hi : ((s.size : Int) != 16) = true := by simp; omega
    have hb : decB s = false := by simp [decB, h16]
    clear h16
    go_enter Try.func54, Try.ntmps54
    go_wp2
    refine bodyPost_ret (v := .tuple #[dv 0 0 0 false, .int .i64 20]) (by simp [results, Try.results54, go_sem]) rfl ⟨?_, ?_⟩
    · simp [decV, decE, hb]
    · go_grown
end Go.Proofs.Ytfnhnicjomaelaa
