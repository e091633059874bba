/-
  Contracts of desc.Encode and of the document's Encode. Conditions: each field fits its kind.
-/
import Derived.Test.YtfnhnicjomaelaaDescB
namespace Go.Proofs.Ytfnhnicjomaelaa
open Go.ChangeShapes Go.WideShapes Go.ChangeAt Go.RowKit

/-- what Encode tells -/
def encT (i l f : Int) (d : Bool) : ByteArray := bif rightB l then encS i l f d else ⟨#[]⟩
def encE (l : Int) : Int := bif rightB l then 0 else 20
def Enc2 (i l f : Int) (d : Bool) (w : World) (e : Ending) (w' : World) : Prop := e = .returned (.tuple #[.string (encT i l f d), .int .i64 (encE l)]) ∧ Below w.heap.size w w'

theorem encode_p (i l f : Int) (d : Bool) (hi : 0 ≤ i) (hi1 : i ≤ 4294967295) (hl : 0 ≤ l) (hl1 : l ≤ 4294967295) (hf : 0 ≤ f) (hf1 : f ≤ 4294967295) (w : World) :
    Calls Try.prog 43 #[dv i l f d] w (Enc2 i l f d w) := by
  rcases hr : rightB l
  · go_enter Try.func43, Try.ntmps43
    go_wp2_with fail
    refine (right_p i l f d _).mono ?_
    rintro e w1 ⟨rfl, hb1⟩
    go_wp2
    go_ret2
    exact ⟨by simp [encT, encE, hr], ((Below.refl _ _).alloc (Nat.le_refl _) _).trans (hb1.mono (by simp))⟩
  · go_enter Try.func43, Try.ntmps43
    go_wp2_with fail
    refine (right_p i l f d _).mono ?_
    rintro e w1 ⟨rfl, hb1⟩
    have hz := hb1.size
    have c0 : w1.cell? ⟨w.heap.size, 0, none⟩ = some (.int .u32 i) := by rw [hb1.cell (by simp)]; simp [go_sem]
    have c1 : w1.cell? ⟨w.heap.size, 1, none⟩ = some (.int .u32 l) := by rw [hb1.cell (by simp)]; simp [go_sem]
    have c2 : w1.cell? ⟨w.heap.size, 2, none⟩ = some (.int .u32 f) := by rw [hb1.cell (by simp)]; simp [go_sem]
    have c3 : w1.cell? ⟨w.heap.size, 3, none⟩ = some (.bool d) := by rw [hb1.cell (by simp)]; simp [go_sem]
    simp at hz
    go_wp2_with fail
    refine (encoding_p i l f d hi hi1 hl hl1 hf hf1 _).mono ?_
    rintro e w2 ⟨rfl, hb2⟩
    go_wp2
    go_ret2
    exact ⟨by simp [encT, encE, hr], (((Below.refl _ _).alloc (Nat.le_refl _) _).trans (hb1.mono (by simp))).trans (hb2.mono (by omega))⟩

/-- put, its world told -/
theorem put_w (n : Int) (h0 : 0 ≤ n) (h1 : n ≤ 4294967295) (w : World) : Calls Try.prog 59 #[.int .u32 n] w fun e w' => e = .returned (.string ⟨(le4 n).toArray⟩) ∧ w.alloc (.cells (cellsU (le4 n)).toArray 5) = w' := by
  have hr := run_text w (le4 n) _ (le4_cells n h0 h1)
  rw [show (le4 n).length = 4 from rfl] at hr
  go_enter Try.func59, Try.ntmps59
  go_wp2
  go_ret
  exact ⟨rfl, by rw [← le4_cells n h0 h1]⟩

theorem size_snoc (s : ByteArray) (k : UInt8) : (s ++ ⟨#[k]⟩ : ByteArray).size = s.size + 1 := by rw [ByteArray.size_append]; rfl
theorem keep_al (w1 : World) (o1 o2 o3 : Obj) (b k : Nat) (hb : b < w1.heap.size) : (((w1.alloc o1).alloc o2).alloc o3).drew.cell? ⟨b, k, none⟩ = w1.cell? ⟨b, k, none⟩ := by
  show (((w1.alloc o1).alloc o2).alloc o3).cell? ⟨b, k, none⟩ = _
  rw [World.cell?_alloc_lt _ _ _ (by simp; omega), World.cell?_alloc_lt _ _ _ (by simp; omega), World.cell?_alloc_lt _ _ _ (by simpa using hb)]

theorem encode_r (i l f : Int) (d : Bool) (hi : 0 ≤ i) (hi1 : i ≤ 4294967295) (hl : 0 ≤ l) (hl1 : l ≤ 4294967295) (hf : 0 ≤ f) (hf1 : f ≤ 4294967295) (w : World) :
    Calls Try.prog 49 #[dv i l f d] w (Enc2 i l f d w) := by
  rcases hr : rightB l
  · go_enter Try.func49, Try.ntmps49
    go_wp2_with fail
    refine (right_r i l f d _).mono ?_
    rintro e w1 ⟨rfl, hb1⟩
    go_wp2
    go_ret2
    exact ⟨by simp [encT, encE, hr], ((Below.refl _ _).alloc (Nat.le_refl _) _).trans (hb1.mono (by simp))⟩
  · go_enter Try.func49, Try.ntmps49
    go_wp2_with fail
    refine (right_r i l f d _).mono ?_
    rintro e w1 ⟨rfl, hb1⟩
    have hz := hb1.size
    have c0 : w1.cell? ⟨w.heap.size, 0, none⟩ = some (.int .u32 i) := by rw [hb1.cell (by simp)]; simp [go_sem]
    have c1 : w1.cell? ⟨w.heap.size, 1, none⟩ = some (.int .u32 l) := by rw [hb1.cell (by simp)]; simp [go_sem]
    have c2 : w1.cell? ⟨w.heap.size, 2, none⟩ = some (.int .u32 f) := by rw [hb1.cell (by simp)]; simp [go_sem]
    have c3 : w1.cell? ⟨w.heap.size, 3, none⟩ = some (.bool d) := by rw [hb1.cell (by simp)]; simp [go_sem]
    simp at hz
    go_wp2_with fail
    have hlt : w.heap.size < w1.heap.size := by omega
    have li : (le4 i).length = 4 := rfl
    have ll : (le4 l).length = 4 := rfl
    have lf : (le4 f).length = 4 := rfl
    go_region_held3 (fun w' => w'.cell? ⟨w.heap.size, 0, none⟩ = some (.int .u32 i) ∧ w'.cell? ⟨w.heap.size, 1, none⟩ = some (.int .u32 l) ∧ w'.cell? ⟨w.heap.size, 2, none⟩ = some (.int .u32 f) ∧ w'.cell? ⟨w.heap.size, 3, none⟩ = some (.bool d)) ((first | (go_keep; done) | (simp only [keep_al _ _ _ _ _ _ hlt]; exact ⟨c0, c1, c2, c3⟩)))
      (first | (go_at_call 59; refine (put_w _ (by omega) (by omega) _).mono ?_; rintro e w' ⟨rfl, rfl⟩))
    obtain ⟨W3, hW3⟩ : ∃ W3, (((w1.alloc (.cells (cellsU (le4 i)).toArray 5)).alloc (.cells (cellsU (le4 l)).toArray 5)).alloc (.cells (cellsU (le4 f)).toArray 5)).drew = W3 := ⟨_, rfl⟩
    have hB3 : Below w.heap.size w W3 := by
      rw [← hW3]
      exact ((((((Below.refl _ _).alloc (Nat.le_refl _) _).trans (hb1.mono (by simp))).alloc (by omega) _).alloc (by simp; omega) _).alloc (by simp; omega) _).drew
    have hz3 : w.heap.size < W3.heap.size := by rw [← hW3]; simp; omega
    have k3 : W3.cell? ⟨w.heap.size, 3, none⟩ = some (.bool d) := by rw [← hW3, keep_al _ _ _ _ _ _ hlt]; exact c3
    rename_i hHeld
    clear hHeld
    rw [hW3]
    clear hW3 c0 c1 c2 c3 li ll lf hz hlt hb1
    obtain ⟨s12, hs12⟩ : ∃ s : ByteArray, ({ data := (le4 i).toArray } ++ { data := (le4 l).toArray } ++ { data := (le4 f).toArray } : ByteArray) = s := ⟨_, rfl⟩
    have hsz : s12.size ≤ 12 := by rw [← hs12]; simp [ByteArray.size, le4]
    have hdat : s12.data.toList = le4 i ++ le4 l ++ le4 f := by rw [← hs12]; simp
    rw [hs12]
    have HD := Lib.hid hdat
    clear hs12 hdat
    have fin : ∀ k : UInt8, k = kindU d → (s12 ++ ⟨#[k]⟩ : ByteArray) ++ ⟨[xorAll 90 (s12 ++ ⟨#[k]⟩ : ByteArray).data.toList, 0, 0].toArray⟩ = encS i l f d := by
      rintro k rfl
      apply ext_list
      simp [HD.out, encS, encL, headL]
    have hsum : ∀ (k : UInt8) (W : World), Calls Try.prog 46 #[.string (s12 ++ ⟨#[k]⟩)] W fun e w' => e = .returned (.int .u8 ((xorAll 90 (s12 ++ ⟨#[k]⟩ : ByteArray).data.toList).toNat : Int)) ∧ W = w' := fun k W => sum_r _ (by rw [size_snoc]; omega) W
    have FIN := Lib.hid fin
    clear fin
    cases d
    · obtain ⟨c, hc⟩ : ∃ c, xorAll 90 (s12 ++ ⟨#[1]⟩ : ByteArray).data.toList = c := ⟨_, rfl⟩
      have hs1 := hsum 1
      have F1 := FIN.out 1 rfl
      rw [hc] at hs1 F1
      have FF := Lib.hid F1
      clear F1 hc hsum FIN
      have hrun := run_text W3 [c, 0, 0] [.int .u8 (c.toNat : Int), .int .u8 0, .int .u8 0] rfl
      simp only [List.length_cons, List.length_nil, Nat.zero_add, Nat.reduceAdd] at hrun
      go_wp2_with (go_at_call 46; refine (hs1 _).mono ?_; rintro e w' ⟨rfl, rfl⟩)
      go_ret2
      exact ⟨by rw [FF.out]; simp [encT, encE, hr], hB3.alloc (by omega) _⟩
    · obtain ⟨c, hc⟩ : ∃ c, xorAll 90 (s12 ++ ⟨#[2]⟩ : ByteArray).data.toList = c := ⟨_, rfl⟩
      have hs1 := hsum 2
      have F1 := FIN.out 2 rfl
      rw [hc] at hs1 F1
      have FF := Lib.hid F1
      clear F1 hc hsum FIN
      have hrun := run_text W3 [c, 0, 0] [.int .u8 (c.toNat : Int), .int .u8 0, .int .u8 0] rfl
      simp only [List.length_cons, List.length_nil, Nat.zero_add, Nat.reduceAdd] at hrun
      go_wp2_with (go_at_call 46; refine (hs1 _).mono ?_; rintro e w' ⟨rfl, rfl⟩)
      go_ret2
      exact ⟨by rw [FF.out]; simp [encT, encE, hr], hB3.alloc (by omega) _⟩
end Go.Proofs.Ytfnhnicjomaelaa
