/-
  Plain mathematics of layer 2: the sixteen bytes of a descriptor, what is read from sixteen bytes, and that the two are inverse. Conditions: those that each theorem names.
-/
import Derived.Laws.BitsAllLaws
import Derived.Laws.BitsLemmas
import Derived.Laws.StructEq
namespace Go.Proofs.Ytfnhnicjomaelaa

/-- the last byte of a number -/
def u8 (x : Int) : UInt8 := UInt8.ofNat (x % 256).toNat
theorem u8_nat (x : Int) : ((u8 x).toNat : Int) = x % 256 := by
  have h1 := Int.emod_nonneg x (b := 256) (by omega)
  have h2 := Int.emod_lt_of_pos x (b := 256) (by omega)
  simp only [u8, UInt8.toNat_ofNat']
  omega
theorem u8_of (b : UInt8) : u8 (b.toNat : Int) = b := by
  apply UInt8.toNat_inj.1
  have h := u8_nat (b.toNat : Int)
  have := b.toNat_lt
  omega
/-- the four bytes of a number -/
def le4 (n : Int) : List UInt8 := [u8 n, u8 (n / 256), u8 (n / 65536), u8 (n / 16777216)]
/-- the number of four bytes -/
def num4 (a b c d : UInt8) : Int := (a.toNat : Int) + 256 * (b.toNat : Int) + 65536 * (c.toNat : Int) + 16777216 * (d.toNat : Int)
theorem num4_bd (a b c d : UInt8) : 0 ≤ num4 a b c d ∧ num4 a b c d ≤ 4294967295 := by
  have := a.toNat_lt; have := b.toNat_lt; have := c.toNat_lt; have := d.toNat_lt
  unfold num4; omega
theorem num4_le4 (n : Int) (h0 : 0 ≤ n) (h1 : n ≤ 4294967295) : num4 (u8 n) (u8 (n / 256)) (u8 (n / 65536)) (u8 (n / 16777216)) = n := by
  unfold num4
  rw [u8_nat, u8_nat, u8_nat, u8_nat]
  omega
theorem le4_num4 (a b c d : UInt8) : le4 (num4 a b c d) = [a, b, c, d] := by
  have ha := a.toNat_lt; have hb := b.toNat_lt; have hc := c.toNat_lt; have hd := d.toNat_lt
  have e0 := u8_nat (num4 a b c d)
  have e1 := u8_nat (num4 a b c d / 256)
  have e2 := u8_nat (num4 a b c d / 65536)
  have e3 := u8_nat (num4 a b c d / 16777216)
  unfold num4 at e0 e1 e2 e3
  unfold le4 num4
  congr 1
  · apply UInt8.toNat_inj.1; omega
  congr 1
  · apply UInt8.toNat_inj.1; omega
  congr 1
  · apply UInt8.toNat_inj.1; omega
  congr 1
  · apply UInt8.toNat_inj.1; omega

/-- bytes, xor'ed with each other -/
def xorAll (c : UInt8) (l : List UInt8) : UInt8 := l.foldl (· ^^^ ·) c
theorem xorAll_snoc (c : UInt8) (l : List UInt8) (b : UInt8) : xorAll c (l ++ [b]) = xorAll c l ^^^ b := by simp [xorAll]
theorem xorAll_from (l : List UInt8) : ∀ c : UInt8, xorAll c l = c ^^^ xorAll 0 l := by
  induction l with
  | nil => intro c; simp [xorAll]
  | cons b l ih =>
    intro c
    have h1 := ih (c ^^^ b)
    have h2 := ih (0 ^^^ b)
    simp only [xorAll, List.foldl_cons] at h1 h2 ⊢
    rw [h1, h2]
    simp [UInt8.xor_assoc]
theorem xorAll_append (c : UInt8) (l r : List UInt8) : xorAll c (l ++ r) = xorAll c l ^^^ xorAll 0 r := by
  rw [show xorAll c (l ++ r) = xorAll (xorAll c l) r by simp [xorAll], xorAll_from]
theorem u8_xor_bits (a b : UInt8) : bits .xor .u8 (a.toNat : Int) (b.toNat : Int) = ((a ^^^ b).toNat : Int) := by
  rw [u8_xor_nat _ _ a.toNat_lt b.toNat_lt, UInt8.toNat_xor]

def kindU (d : Bool) : UInt8 := bif d then 2 else 1
/-- the first thirteen bytes -/
def headL (i l f : Int) (d : Bool) : List UInt8 := le4 i ++ le4 l ++ le4 f ++ [kindU d]
/-- all sixteen bytes -/
def encL (i l f : Int) (d : Bool) : List UInt8 := headL i l f d ++ [xorAll 90 (headL i l f d), 0, 0]
def encS (i l f : Int) (d : Bool) : ByteArray := ⟨(encL i l f d).toArray⟩
theorem headL_length (i l f : Int) (d : Bool) : (headL i l f d).length = 13 := rfl
theorem encL_length (i l f : Int) (d : Bool) : (encL i l f d).length = 16 := rfl
theorem encS_size (i l f : Int) (d : Bool) : (encS i l f d).size = 16 := rfl
theorem encS_inj {i l f i' l' f' : Int} {d d' : Bool} (hi : 0 ≤ i) (hi1 : i ≤ 4294967295) (hl : 0 ≤ l) (hl1 : l ≤ 4294967295) (hf : 0 ≤ f) (hf1 : f ≤ 4294967295)
    (hi' : 0 ≤ i') (hi1' : i' ≤ 4294967295) (hl' : 0 ≤ l') (hl1' : l' ≤ 4294967295) (hf' : 0 ≤ f') (hf1' : f' ≤ 4294967295) (h : encS i l f d = encS i' l' f' d') : i = i' ∧ l = l' ∧ f = f' ∧ d = d' := by
  have h2 : encL i l f d = encL i' l' f' d' := by
    have := congrArg ByteArray.data h
    simpa [encS] using this
  simp only [encL, headL, le4, List.cons_append, List.nil_append, List.cons.injEq] at h2
  obtain ⟨a0, a1, a2, a3, b0, b1, b2, b3, c0, c1, c2, c3, k, _⟩ := h2
  refine ⟨?_, ?_, ?_, ?_⟩
  · rw [← num4_le4 i hi hi1, ← num4_le4 i' hi' hi1', a0, a1, a2, a3]
  · rw [← num4_le4 l hl hl1, ← num4_le4 l' hl' hl1', b0, b1, b2, b3]
  · rw [← num4_le4 f hf hf1, ← num4_le4 f' hf' hf1', c0, c1, c2, c3]
  · cases d <;> cases d' <;> simp_all [kindU]

/-- the byte at a place, or 0 -/
def byteAt (s : ByteArray) (k : Nat) : UInt8 := s.data.toList.getD k 0
theorem byteAt_get (s : ByteArray) (k : Nat) (h : k < s.size) : s[k] = byteAt s k := by
  have h' : k < s.data.toList.length := by simpa using h
  simp only [byteAt, List.getD, List.getElem?_eq_getElem h', Option.getD_some]
  rfl
/-- the number at a place -/
def numAt (s : ByteArray) (k : Nat) : Int := num4 (byteAt s k) (byteAt s (k + 1)) (byteAt s (k + 2)) (byteAt s (k + 3))
theorem list16 (l : List UInt8) (h : l.length = 16) : ∃ a0 a1 a2 a3 a4 a5 a6 a7 a8 a9 a10 a11 a12 a13 a14 a15, l = [a0, a1, a2, a3, a4, a5, a6, a7, a8, a9, a10, a11, a12, a13, a14, a15] := by
  match l, h with
  | [a0, a1, a2, a3, a4, a5, a6, a7, a8, a9, a10, a11, a12, a13, a14, a15], _ => exact ⟨_, _, _, _, _, _, _, _, _, _, _, _, _, _, _, _, rfl⟩
theorem ext_list {s t : ByteArray} (h : s.data.toList = t.data.toList) : s = t := by
  apply ByteArray.ext
  exact Array.toList_inj.1 h
theorem strEq (a b : ByteArray) : (a.toList == b.toList) = decide (a = b) := by
  rw [Bool.eq_iff_iff]
  simp only [beq_iff_eq, decide_eq_true_eq, ByteArray.toList_eq]
  exact ⟨fun h => ext_list h, fun h => by rw [h]⟩
theorem strEq_yes {a b : ByteArray} (h : a = b) : (a.toList == b.toList) = true := by rw [strEq]; simpa using h
theorem strEq_no {a b : ByteArray} (h : a ≠ b) : (a.toList == b.toList) = false := by rw [strEq]; simpa using h
/-- is the length right? -/
def rightB (l : Int) : Bool := decide (1 ≤ l) && decide (l ≤ 65535)
/-- the descriptor's bytes that s would be -/
def reS (s : ByteArray) : ByteArray := encS (numAt s 0) (numAt s 4) (numAt s 8) (byteAt s 12 == 2)
/-- is s the encoding of a valid descriptor? -/
def decB (s : ByteArray) : Bool := decide (s.size = 16) && (rightB (numAt s 4) && decide (reS s = s))
theorem numAt_encS (i l f : Int) (d : Bool) (hi : 0 ≤ i) (hi1 : i ≤ 4294967295) (hl : 0 ≤ l) (hl1 : l ≤ 4294967295) (hf : 0 ≤ f) (hf1 : f ≤ 4294967295) :
    numAt (encS i l f d) 0 = i ∧ numAt (encS i l f d) 4 = l ∧ numAt (encS i l f d) 8 = f ∧ (byteAt (encS i l f d) 12 == 2) = d := by
  refine ⟨num4_le4 i hi hi1, num4_le4 l hl hl1, num4_le4 f hf hf1, ?_⟩
  show (kindU d == 2) = d
  cases d <;> rfl
theorem reS_encS (i l f : Int) (d : Bool) (hi : 0 ≤ i) (hi1 : i ≤ 4294967295) (hl : 0 ≤ l) (hl1 : l ≤ 4294967295) (hf : 0 ≤ f) (hf1 : f ≤ 4294967295) : reS (encS i l f d) = encS i l f d := by
  obtain ⟨h1, h2, h3, h4⟩ := numAt_encS i l f d hi hi1 hl hl1 hf hf1
  unfold reS; rw [h1, h2, h3, h4]
theorem decB_encS (i l f : Int) (d : Bool) (hi : 0 ≤ i) (hi1 : i ≤ 4294967295) (hl : 0 ≤ l) (hl1 : l ≤ 4294967295) (hf : 0 ≤ f) (hf1 : f ≤ 4294967295) : decB (encS i l f d) = rightB l := by
  obtain ⟨_, h2, _, _⟩ := numAt_encS i l f d hi hi1 hl hl1 hf hf1
  simp [decB, encS_size, h2, reS_encS i l f d hi hi1 hl hl1 hf hf1]

/-- the document's test of sixteen bytes -/
def formB (s : ByteArray) : Bool := (byteAt s 12 == 1 || byteAt s 12 == 2) && (byteAt s 13 == xorAll 90 (s.data.toList.take 13) && (byteAt s 14 == 0 && byteAt s 15 == 0))
theorem reS_form (s : ByteArray) (h : s.size = 16) : decide (reS s = s) = formB s := by
  obtain ⟨a0, a1, a2, a3, a4, a5, a6, a7, a8, a9, a10, a11, a12, a13, a14, a15, hl⟩ := list16 s.data.toList (by simpa using h)
  have hs : s = ⟨#[a0, a1, a2, a3, a4, a5, a6, a7, a8, a9, a10, a11, a12, a13, a14, a15]⟩ := ext_list hl
  have e : (reS s).data.toList = [a0, a1, a2, a3] ++ [a4, a5, a6, a7] ++ [a8, a9, a10, a11] ++ [kindU (a12 == 2)] ++ [xorAll 90 ([a0, a1, a2, a3] ++ [a4, a5, a6, a7] ++ [a8, a9, a10, a11] ++ [kindU (a12 == 2)]), 0, 0] := by
    rw [← le4_num4 a0 a1 a2 a3, ← le4_num4 a4 a5 a6 a7, ← le4_num4 a8 a9 a10 a11, hs]
    rfl
  have hk : (kindU (a12 == 2) = a12) ↔ (a12 = 1 ∨ a12 = 2) := by
    by_cases h2 : a12 = 2
    · subst h2; simp [kindU]
    · have : (a12 == 2) = false := by simpa using h2
      rw [this]; simp only [kindU, cond_false]
      constructor
      · intro h; exact .inl h.symm
      · rintro (h | h)
        · exact h.symm
        · exact absurd h h2
  rw [Bool.eq_iff_iff]
  simp only [decide_eq_true_eq]
  have hform : formB s = true ↔ (a12 = 1 ∨ a12 = 2) ∧ a13 = xorAll 90 [a0, a1, a2, a3, a4, a5, a6, a7, a8, a9, a10, a11, a12] ∧ a14 = 0 ∧ a15 = 0 := by
    rw [hs]; simp [formB, byteAt]
  rw [hform]
  constructor
  · intro hr
    have e2 : (reS s).data.toList = s.data.toList := by rw [hr]
    rw [e, hl] at e2
    simp only [List.cons_append, List.nil_append, List.cons.injEq, true_and, and_true] at e2
    obtain ⟨k, x, z1, z2⟩ := e2
    rw [k] at x
    exact ⟨hk.1 k, x.symm, z1.symm, z2.symm⟩
  · rintro ⟨k, x, rfl, rfl⟩
    have k' := hk.2 k
    apply ext_list
    rw [e, hl, k', x]
    rfl
end Go.Proofs.Ytfnhnicjomaelaa
