/-
  Contracts of desc's builder and writer: what was gathered, with more behind it; the sixteen bytes of a descriptor. Conditions: those that each theorem names.
-/
import Derived.RangeFuncBox
import Derived.RangeFuncNested
import Derived.OwnWalk
import Derived.Maps.AppendAt
import Derived.Deep.AppendLies
import Derived.Deep.RegionHeld3
import Derived.Test.YtfnhnicjomaelaaDescA
namespace Go.Proofs.Ytfnhnicjomaelaa
open Go.ChangeShapes Go.WideShapes Go.ChangeAt Go.RowKit

theorem infoU8 : (Try.prog.info? 5).map (fun i => (i.zero, i.size, i.bytes)) = some (some (.int .u8 0), 1, 1) := by kernel_rfl
theorem cellsU_append (l r : List UInt8) : cellsU (l ++ r) = cellsU l ++ cellsU r := by simp [cellsU]
theorem cellsU_length (l : List UInt8) : (cellsU l).length = l.length := by simp [cellsU]
theorem cellsU_one (l : List UInt8) : ∀ u ∈ cellsU l, u.oneCell' = true := by
  intro u hu
  obtain ⟨b, _, rfl⟩ := List.mem_map.1 hu
  rfl
theorem BytesAt.news {w : World} {b : Nat} {l : List UInt8} (h : BytesAt w b l) : ∀ j u, (cellsU l)[j]? = some u → w.cell? ((⟨b, 0, none⟩ : Addr).add j) = some u := by
  intro j u hu
  have ha : (⟨b, 0, none⟩ : Addr).add j = ⟨b, j, none⟩ := by
    simp only [Addr.add, Nat.zero_add]
    split <;> simp_all
  rw [ha]
  have hj : j < l.length := by
    have := (List.getElem?_eq_some_iff.1 hu).1
    simpa [cellsU] using this
  rw [h j hj]
  simpa [cellsU, hj] using hu

/-- the writer at block p holds these bytes -/
def Wr (W : World) (p : Nat) (l : List UInt8) : Prop := ∃ v, Boxed W p 98 v ∧ W.ownsRow (p + 1) 5 1 v l.length (cellsU l)
theorem Wr.lt {W : World} {p : Nat} {l : List UInt8} (h : Wr W p l) : p < W.heap.size := by obtain ⟨v, hb, _⟩ := h; exact hb.lt
theorem Wr.alloc {W : World} {p : Nat} {l : List UInt8} (h : Wr W p l) (o : Obj) : Wr (W.alloc o) p l := by
  obtain ⟨v, hb, hr⟩ := h
  exact ⟨v, hb.alloc o, hr.alloc o⟩
theorem Wr.drew {W : World} {p : Nat} {l : List UInt8} (h : Wr W p l) : Wr W.drew p l := h

def AddGives (p : Nat) (l : List UInt8) (W : World) (e : Ending) (W' : World) : Prop := (∃ v, e = .returned v) ∧ Wr W' p l ∧ Below p W W'

theorem add_p (p b m c : Nat) (l r : List UInt8) (W : World) (hW : Wr W p l) (hr : BytesAt W b r) (hm : Hid (r.length = m)) (h0 : 0 < m) (hlen : l.length + m ≤ 1000) :
    Calls Try.prog 64 #[.pointer (some ⟨p, 0, none⟩), .slice (some ⟨b, 0, none⟩) m c] W (AddGives p (l ++ r) W) := by
  obtain ⟨i0, hi, hz0, hz1, hz2⟩ := info_parts infoU8
  obtain ⟨v, hb, hrow⟩ := hW
  have hlt := hb.lt
  have hc := hb.cell
  go_enter Try.func64, Try.ntmps64
  go_wp2_with (at_builtin; refine wpList_append_own _ rfl _ _ 87 rfl (p + 1) 5 i0 (.int .u8 0) 1 1 Try.underlying87 hi hz0 hz1 hz2 rfl (by decide) _ _ _ rfl hrow ⟨b, 0, none⟩ m c (cellsU r) rfl (by rw [cellsU_length, hm.out]; omega) hr.news (cellsU_one r) (by simp [maxLen]; omega) (by omega) (by omega) ?_; intro v' w1 hown' hgrow _; obtain ⟨g', cap', rfl, hg1, hg2⟩ := World.ownsRow.form hown' (by omega); have hb1 : Boxed w1 p 98 v := hb.kept hgrow (hb.not_row (by decide) hrow); have hc1 := hb1.cell; have hf1 := hb1.frozen)
  go_end0
  have hb2 := hb1.set (.slice (some ⟨g', 0, none⟩) (l.length + m) cap')
  refine ⟨⟨_, rfl⟩, ⟨_, hb2, ?_⟩, ?_⟩
  · rw [cellsU_append, List.length_append, hm.out]
    exact hown'.kept (grownBy_setCell' w1 p _) (.inr (hb1.not_row (by decide) hown').symm)
  · exact ((Below.refl p W).grown hgrow (by omega) (fun k hk => by have := (hrow.lt k hk).1; omega)).setCell (p := ⟨p, 0, none⟩) (Nat.le_refl _) _

theorem bytesAt_new (w : World) (l : List UInt8) (cs : List Value) (hcs : cs = cellsU l) : BytesAt (w.alloc (.cells cs.toArray 5)) w.heap.size l := by
  intro j hj
  have h := World.cell?_alloc_mark w cs.toArray 5 (0, 0) j
  rw [h, hcs]
  simp [cellsU, hj]
theorem le4_cells (n : Int) (h0 : 0 ≤ n) (h1 : n ≤ 4294967295) : [Value.int .u8 (n % 256), .int .u8 (n / 256 % 256), .int .u8 (n / 65536 % 256), .int .u8 (n / 16777216)] = cellsU (le4 n) := by
  simp only [cellsU, le4, List.map_cons, List.map_nil, u8_nat]
  congr 4
  rw [show n / 16777216 % 256 = n / 16777216 by omega]

theorem wnumber_p (p : Nat) (n : Int) (h0 : 0 ≤ n) (h1 : n ≤ 4294967295) (l : List UInt8) (hl : l.length ≤ 900) (W : World) (hW : Wr W p l) :
    Calls Try.prog 63 #[.pointer (some ⟨p, 0, none⟩), .int .u32 n] W (AddGives p (l ++ le4 n) W) := by
  have hp := hW.lt
  go_enter Try.func63, Try.ntmps63
  go_wp2_with (go_at_call 64; refine (add_p p W.heap.size 4 4 l (le4 n) _ (hW.alloc _) (bytesAt_new W (le4 n) _ (le4_cells n h0 h1)) (Lib.hid rfl) (by omega) (by omega)).mono ?_; rintro e w' ⟨⟨v, rfl⟩, hw', hb'⟩)
  go_end0
  exact ⟨⟨_, rfl⟩, hw', ((Below.refl p W).alloc (by omega) _).trans hb'⟩

theorem text_p (p : Nat) (l : List UInt8) (h0 : 0 < l.length) (W : World) (hW : Wr W p l) :
    Calls Try.prog 67 #[.pointer (some ⟨p, 0, none⟩)] W fun e w' => e = .returned (.string ⟨l.toArray⟩) ∧ W = w' := by
  obtain ⟨v, hb, hrow⟩ := hW
  have hc := hb.cell
  obtain ⟨g, cap, rfl, hg1, hg2⟩ := World.ownsRow.form hrow h0
  have hr : (convert 87 9 (.slice (some ⟨g, 0, none⟩) l.length cap)).run Try.prog W = .ok (.string ⟨l.toArray⟩) W := by
    refine run_convert_bytes_back _ _ _ 5 _ _ l Try.underlying87 Try.underlying5 Try.underlying9 (fun j hj => ?_)
    exact hrow.cells rfl j _ (by simp [cellsU, hj])
  go_enter Try.func67, Try.ntmps67
  go_wp2
  go_ret
  exact ⟨rfl, rfl⟩

theorem seal_p (p : Nat) (l : List UInt8) (h0 : 0 < l.length) (hl : l.length ≤ 900) (W : World) (hW : Wr W p l) :
    Calls Try.prog 66 #[.pointer (some ⟨p, 0, none⟩)] W (AddGives p (l ++ [xorAll 90 l, 0, 0]) W) := by
  obtain ⟨v, hb, hrow⟩ := hW
  have hp := hb.lt
  have hc := hb.cell
  obtain ⟨g, cap, rfl, hg1, hg2⟩ := World.ownsRow.form hrow h0
  have hW : Wr W p l := ⟨_, hb, hrow⟩
  have hbytes : BytesAt W g l := fun j hj => by
    have := hrow.cells rfl j (.int .u8 (l[j].toNat : Int)) (by simp [cellsU, hj])
    have ha : (⟨g, 0, none⟩ : Addr).add j = ⟨g, j, none⟩ := by
      simp only [Addr.add, Nat.zero_add]
      split <;> simp_all
    rwa [ha] at this
  have hbd : BytesAt W.drew g l := hbytes
  have hWd : Wr W.drew p l := hW
  go_enter Try.func66, Try.ntmps66
  go_wp2_with fail
  go_region_with (first
    | (go_at_call 70; refine (checksum_p g cap l _ (by omega) hbd).mono ?_; rintro e w' ⟨rfl, rfl⟩)
    | (go_at_call 64; refine (add_p p W.heap.size 1 1 l [xorAll 90 l] _ (hWd.alloc _) (bytesAt_new W.drew [xorAll 90 l] _ rfl) (Lib.hid rfl) (by omega) (by omega)).mono ?_; rintro e w' ⟨⟨v, rfl⟩, hw', hb'⟩))
  have hp' := hw'.lt
  go_wp2_with (go_at_call 64; refine (add_p p w'.heap.size 2 2 (l ++ [xorAll 90 l]) [0, 0] _ (hw'.alloc _) (bytesAt_new w' [0, 0] _ rfl) (Lib.hid rfl) (by omega) (by simp; omega)).mono ?_; rintro e w2 ⟨⟨v2, rfl⟩, hw2, hb2⟩)
  go_end0
  refine ⟨⟨_, rfl⟩, by simpa using hw2, ?_⟩
  exact ((((Below.refl p W).drew.alloc (Nat.le_of_lt hp) _).trans hb').alloc (Nat.le_of_lt hp') _).trans hb2

theorem wr_new (w : World) : Wr (w.alloc (.cells #[.slice none 0 0] 98)) w.heap.size [] := ⟨_, Boxed.new w _ _, World.ownsRow_nil _ _ _ _⟩

def EncGives (i l f : Int) (d : Bool) (w : World) (e : Ending) (w' : World) : Prop := e = .returned (.string (encS i l f d)) ∧ Below w.heap.size w w'

theorem encoding_p (i l f : Int) (d : Bool) (hi : 0 ≤ i) (hi1 : i ≤ 4294967295) (hl : 0 ≤ l) (hl1 : l ≤ 4294967295) (hf : 0 ≤ f) (hf1 : f ≤ 4294967295) (w : World) :
    Calls Try.prog 55 #[dv i l f d] w (EncGives i l f d w) := by
  obtain ⟨W0, hW0⟩ : ∃ W0, (w.alloc (.cells #[.int .u32 i, .int .u32 l, .int .u32 f, .bool d] 35)).alloc (.cells #[.slice none 0 0] 98) = W0 := ⟨_, rfl⟩
  have hw0 : Wr W0 (w.heap.size + 1) [] := by
    rw [← hW0]
    have h := wr_new (w.alloc (.cells #[.int .u32 i, .int .u32 l, .int .u32 f, .bool d] 35))
    rw [World.size_alloc] at h
    exact h
  have hB0 : Below w.heap.size w W0 := by rw [← hW0]; go_grown
  have c1 : W0.cell? ⟨w.heap.size, 1, none⟩ = some (.int .u32 l) := by rw [← hW0]; simp [go_sem]
  have c2 : W0.cell? ⟨w.heap.size, 2, none⟩ = some (.int .u32 f) := by rw [← hW0]; simp [go_sem]
  have c3 : W0.cell? ⟨w.heap.size, 3, none⟩ = some (.bool d) := by rw [← hW0]; simp [go_sem]
  have HW0 := Lib.hid hW0
  clear hW0
  go_enter Try.func55, Try.ntmps55
  go_wp2_with fail
  rw [HW0.out]
  refine (wnumber_p (w.heap.size + 1) i hi hi1 [] (by simp) _ hw0).mono ?_
  rintro e w1 ⟨⟨v1, rfl⟩, hw1, hb1⟩
  rw [← hb1.cell (by simp)] at c1 c2 c3
  have hB1 := hB0.trans (hb1.mono (by omega))
  go_wp2_with fail
  refine (wnumber_p (w.heap.size + 1) l hl hl1 _ (by simp [le4]) _ hw1).mono ?_
  rintro e w2 ⟨⟨v2, rfl⟩, hw2, hb2⟩
  rw [← hb2.cell (by simp)] at c2 c3
  have hB2 := hB1.trans (hb2.mono (by omega))
  clear c1
  go_wp2_with fail
  refine (wnumber_p (w.heap.size + 1) f hf hf1 _ (by simp [le4]) _ hw2).mono ?_
  rintro e w3 ⟨⟨v3, rfl⟩, hw3, hb3⟩
  rw [← hb3.cell (by simp)] at c3
  have hB3 := hB2.trans (hb3.mono (by omega))
  have hp3 := hw3.lt
  clear c2
  go_wp2_with (go_at_call 65; refine (kind_p d _).mono ?_; rintro e w' ⟨rfl, rfl⟩)
  refine (add_p (w.heap.size + 1) w3.heap.size 1 1 _ [kindU d] _ (hw3.alloc _) (bytesAt_new w3 [kindU d] _ rfl) (Lib.hid rfl) (by omega) (by simp [le4])).mono ?_
  rintro e w4 ⟨⟨v4, rfl⟩, hw4, hb4⟩
  have hB4 := (hB3.alloc (by omega) _).trans (hb4.mono (by omega))
  go_wp2_with fail
  refine (seal_p (w.heap.size + 1) _ (by simp; omega) (by simp [le4]) _ hw4).mono ?_
  rintro e w5 ⟨⟨v5, rfl⟩, hw5, hb5⟩
  have hB5 := hB4.trans (hb5.mono (by omega))
  go_wp2_with fail
  refine (text_p (w.heap.size + 1) _ (by simp; omega) _ hw5).mono ?_
  rintro e w6 ⟨rfl, rfl⟩
  go_wp2
  go_ret
  exact ⟨rfl, hB5⟩
end Go.Proofs.Ytfnhnicjomaelaa
