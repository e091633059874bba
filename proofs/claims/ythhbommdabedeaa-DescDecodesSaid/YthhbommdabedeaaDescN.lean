/-
  The walk of the law DescDecodes. Conditions: none.
-/
import Derived.Test.YthhbommdabedeaaDescI
import Derived.Test.YthhbommdabedeaaDescH
namespace Go.Proofs.Ythhbommdabedeaa
open Go.ChangeShapes Go.WideShapes Go.ChangeAt Go.RowKit

theorem decodes_w (s : ByteArray) (w : World) : Calls Try.prog 4 #[.string s] w fun e w' => e = .returned (.bool true) ∧ Below w.heap.size w w' := by
  obtain ⟨i, l, f, d, hv⟩ : ∃ i l f d, decV s = dv i l f d := by
    rcases hd : decB s
    · exact ⟨0, 0, 0, false, by simp [decV, hd]⟩
    · exact ⟨numAt s 0, numAt s 4, numAt s 8, byteAt s 12 == 2, by simp [decV, hd]⟩
  have HV := Lib.hid hv
  clear hv
  go_enter Try.func4, Try.ntmps4
  go_wp2_with fail
  refine (shown_p _).mono ?_
  rintro e w1 ⟨rfl, hb1⟩
  go_wp2_with fail
  refine (decode_p _ _).mono ?_
  rintro e w2 ⟨rfl, hb2⟩
  rw [HV.out]
  have hB2 := hb1.trans (hb2.mono hb1.size)
  have hz2 := hB2.size
  clear hb1 hb2
  go_wp2_with fail
  refine (decode_r _ _).mono ?_
  rintro e w3 ⟨rfl, hb3⟩
  rw [HV.out]
  have hz3 : w2.heap.size + 1 ≤ w3.heap.size := by have := hb3.size; simpa using this
  have hD3 : Held w3 w2.heap.size 24 (dcs i l f d) := (Held.new w2 _ _).below hb3 (by simp)
  have hB3 := (hB2.alloc hz2 (.cells (dcs i l f d) 24)).trans (hb3.mono (by simp; omega))
  clear hb3 hB2
  go_wp2_with fail
  refine (finish_p _ _).mono ?_
  rintro e w4 ⟨rfl, hb4⟩
  have hz4 : w3.heap.size + 1 ≤ w4.heap.size := by have := hb4.size; simpa using this
  have hD4 := (hD3.alloc (.cells (dcs i l f d) 24)).below hb4 (by simp; omega)
  have hE4 : Held w4 w3.heap.size 24 (dcs i l f d) := (Held.new w3 _ _).below hb4 (by simp)
  have hB4 := (hB3.alloc (by omega) (.cells (dcs i l f d) 24)).trans (hb4.mono (by simp; omega))
  clear hb4 hB3 hD3
  go_wp2_with fail
  refine (finish_r _ _).mono ?_
  rintro e w5 ⟨rfl, hb5⟩
  have hD5 := hD4.below hb5 (by omega)
  have hE5 := hE4.below hb5 (by omega)
  have hB5 := hB4.trans (hb5.mono (by omega))
  clear hb5 hB4 hD4 hE4
  obtain ⟨⟨a0, a1, a2, a3⟩, _⟩ := hD5.desc
  obtain ⟨⟨b0, b1, b2, b3⟩, _⟩ := hE5.desc
  go_wp2
  go_ret
  exact ⟨rfl, hB5⟩
end Go.Proofs.Ythhbommdabedeaa
