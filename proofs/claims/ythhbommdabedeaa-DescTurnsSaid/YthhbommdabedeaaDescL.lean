/-
  The walk of the law DescTurns: bytes of a descriptor, one of which is another one, are no descriptor's. Conditions: each argument fits its kind.
-/
import Derived.Test.YthhbommdabedeaaDescK
namespace Go.Proofs.Ythhbommdabedeaa
open Go.ChangeShapes Go.WideShapes Go.ChangeAt Go.RowKit

theorem x_left (a b c : UInt8) : a ^^^ (b ^^^ c) = b ^^^ (a ^^^ c) := by rw [← UInt8.xor_assoc, ← UInt8.xor_assoc, UInt8.xor_comm a b]
theorem xorAll_cons (c b : UInt8) (l : List UInt8) : xorAll c (b :: l) = xorAll (c ^^^ b) l := rfl
theorem xorAll_set (x : UInt8) (l : List UInt8) : ∀ (c : UInt8) (k : Nat) (h : k < l.length), xorAll c (l.set k x) = xorAll c l ^^^ (l[k] ^^^ x) := by
  induction l with
  | nil => intro c k h; simp at h
  | cons b l ih =>
    intro c k h
    match k with
    | 0 =>
      simp only [List.set_cons_zero, xorAll_cons, List.getElem_cons_zero]
      rw [xorAll_from l (c ^^^ x), xorAll_from l (c ^^^ b)]
      generalize xorAll 0 l = X
      rw [UInt8.xor_assoc, UInt8.xor_assoc, UInt8.xor_assoc, x_left X b x, ← UInt8.xor_assoc b b, UInt8.xor_self, UInt8.zero_xor, UInt8.xor_comm X x]
    | k + 1 =>
      simp only [List.set_cons_succ, xorAll_cons, List.getElem_cons_succ]
      exact ih (c ^^^ b) k (by simpa using h)
theorem xor_zero_eq {a b : UInt8} (h : a ^^^ b = 0) : a = b := by
  have h2 : (a ^^^ b) ^^^ b = b := by rw [h, UInt8.zero_xor]
  rw [UInt8.xor_assoc, UInt8.xor_self, UInt8.xor_zero] at h2
  exact h2

/-- what every encoding keeps -/
def Keeps16 (l : List UInt8) : Prop := l.length = 16 ∧ xorAll 90 (l.take 14) = 0 ∧ l[14]? = some 0 ∧ l[15]? = some 0
theorem keeps_of_dec {s : ByteArray} (h : decB s = true) : Keeps16 s.data.toList := by
  simp only [decB, Bool.and_eq_true, decide_eq_true_eq] at h
  obtain ⟨h16, _, hre⟩ := h
  have hf : formB s = true := by rw [← reS_form s h16]; simpa using hre
  obtain ⟨a0, a1, a2, a3, a4, a5, a6, a7, a8, a9, a10, a11, a12, a13, a14, a15, hl⟩ := list16 s.data.toList (by simpa using h16)
  simp only [formB, byteAt, hl, Bool.and_eq_true, beq_iff_eq] at hf
  obtain ⟨_, h13, h14, h15⟩ := hf
  rw [hl]
  simp only [List.getD, List.getElem?_cons_succ, List.getElem?_cons_zero, Option.getD_some] at h13 h14 h15
  refine ⟨rfl, ?_, by simp [h14], by simp [h15]⟩
  have e : List.take 14 [a0, a1, a2, a3, a4, a5, a6, a7, a8, a9, a10, a11, a12, a13, a14, a15] = List.take 13 [a0, a1, a2, a3, a4, a5, a6, a7, a8, a9, a10, a11, a12, a13, a14, a15] ++ [a13] := rfl
  rw [e, xorAll_snoc, ← h13, UInt8.xor_self]
/-- another byte is found -/
theorem keeps_set {l : List UInt8} (h : Keeps16 l) (k : Nat) (hk : k < l.length) (x : UInt8) (h' : Keeps16 (l.set k x)) : l[k] = x := by
  obtain ⟨n1, x1, z1, y1⟩ := h
  obtain ⟨n2, x2, z2, y2⟩ := h'
  by_cases k14 : k < 14
  · have ht : (l.set k x).take 14 = (l.take 14).set k x := by rw [List.take_set]
    rw [ht, xorAll_set x (l.take 14) 90 k (by simp; omega), x1, UInt8.zero_xor] at x2
    have := xor_zero_eq x2
    simpa using this
  · rcases (show k = 14 ∨ k = 15 by omega) with rfl | rfl
    · rw [List.getElem?_set_self hk] at z2
      rw [List.getElem?_eq_getElem hk] at z1
      exact (Option.some.inj z1).trans (Option.some.inj z2).symm
    · rw [List.getElem?_set_self hk] at y2
      rw [List.getElem?_eq_getElem hk] at y1
      exact (Option.some.inj y1).trans (Option.some.inj y2).symm
theorem turned_list (s : ByteArray) (k : Nat) (hk : k < s.size) (x : UInt8) : (s.extract 0 k ++ ⟨#[x]⟩ ++ s.extract (k + 1) s.size : ByteArray).data.toList = s.data.toList.set k x := by
  have hk' : k < s.data.toList.length := by simpa using hk
  rw [List.set_eq_take_append_cons_drop, if_pos hk']
  simp [ByteArray.data_extract]
  rw [List.take_of_length_le]
  simp
theorem turned_no {s : ByteArray} (h : decB s = true) (k : Nat) (hk : k < s.size) (x : UInt8) (hne : byteAt s k ≠ x) : decB (s.extract 0 k ++ ⟨#[x]⟩ ++ s.extract (k + 1) s.size) = false := by
  rcases hb : decB (s.extract 0 k ++ ⟨#[x]⟩ ++ s.extract (k + 1) s.size)
  · exact hb
  · have h' := keeps_of_dec hb
    rw [turned_list s k hk x] at h'
    have hk' : k < s.data.toList.length := by simpa using hk
    refine absurd ?_ hne
    have := keeps_set (keeps_of_dec h) k hk' x h'
    simp only [byteAt, List.getD, List.getElem?_eq_getElem hk', Option.getD_some]
    exact this

theorem bcell {W w1 : World} (hb : Below W.heap.size W w1) : (∀ b o, b < W.heap.size → w1.cell? ⟨b, o, none⟩ = W.cell? ⟨b, o, none⟩) ∧ (∀ b o, b < W.heap.size → w1.frozen? ⟨b, o, none⟩ = W.frozen? ⟨b, o, none⟩) :=
  ⟨fun b o h => hb.cell (p := ⟨b, o, none⟩) h, fun b o h => hb.frozen (p := ⟨b, o, none⟩) h⟩
theorem byte_ne {x : UInt8} {c : Int} (h0 : 0 ≤ c) (h1 : c ≤ 255) (h : ((x.toNat : Int) == c) = false) : x ≠ u8 c := by
  rintro rfl
  rw [u8_nat, show c % 256 = c by omega] at h
  simp at h
theorem run_text1 (W : World) (b : Nat) (c : Int) (hc0 : 0 ≤ c) (hc1 : c ≤ 255) (h : W.cell? ⟨b, 0, none⟩ = some (.int .u8 c)) :
    (convert 35 9 (.slice (some ⟨b, 0, none⟩) 1 1)).run Try.prog W = .ok (.string ⟨#[u8 c]⟩) W := by
  refine run_convert_bytes_back W 35 9 5 ⟨b, 0, none⟩ 1 [u8 c] Try.underlying35 Try.underlying5 Try.underlying9 (fun j hj => ?_)
  obtain rfl : j = 0 := by simp at hj; omega
  simp only [Addr.add, List.getElem_cons_zero, u8_nat]
  rw [show c % 256 = c by omega]
  exact h

set_option maxHeartbeats 1000000 in
theorem turns_w (i l f : Int) (d : Bool) (hi : 0 ≤ i) (hi1 : i ≤ 4294967295) (hl : 0 ≤ l) (hl1 : l ≤ 4294967295) (hf : 0 ≤ f) (hf1 : f ≤ 4294967295) (n c : Int) (hc0 : 0 ≤ c) (hc1 : c ≤ 255) (w : World) :
    Calls Try.prog 6 #[dv i l f d, .int .i64 n, .int .u8 c] w fun e w' => e = .returned (.bool true) ∧ Below w.heap.size w w' := by
  go_enter Try.func6, Try.ntmps6
  go_wp2_with fail
  refine (shown_box i l f d w).mono ?_
  rintro e w1 ⟨rfl, hB1, hD1⟩
  have hz1 := hD1.lt
  obtain ⟨⟨a0, a1, a2, a3⟩, _⟩ := hD1.desc
  go_wp2_with fail
  refine (encode_p i l f d hi hi1 hl hl1 hf hf1 _).mono ?_
  rintro e w2 ⟨rfl, hb2⟩
  have hB2 := hB1.trans (hb2.mono (by omega))
  have hz2 := hb2.size
  clear a0 a1 a2 a3 hb2 hB1 hD1
  rcases hr : rightB l
  · have he : encE l = 20 := by simp [encE, hr]
    have ht : encT i l f d = ⟨#[]⟩ := by simp [encT, hr]
    rw [he, ht]
    clear he ht hr
    go_wp2
    go_ret
    exact ⟨rfl, hB2⟩
  have he : encE l = 0 := by simp [encE, hr]
  have ht : encT i l f d = encS i l f d := by simp [encT, hr]
  have hdb : decB (encS i l f d) = true := (decB_encS i l f d hi hi1 hl hl1 hf hf1).trans hr
  rw [he, ht]
  clear he ht hr
  obtain ⟨s, hs⟩ : ∃ s, encS i l f d = s := ⟨_, rfl⟩
  have hsz : s.size = 16 := by rw [← hs]; exact encS_size i l f d
  rw [hs] at hdb
  rw [hs]
  clear hs
  have HZ := Lib.hid hsz
  have HB := Lib.hid hdb
  clear hdb
  by_cases hn : n < 0
  · clear hsz
    go_wp2
    go_ret
    exact ⟨rfl, hB2⟩
  by_cases hn' : 16 ≤ n
  · have hge : decide ((s.size : Int) ≤ n) = true := by rw [hsz]; simpa using hn'
    clear hsz
    go_wp2
    go_ret
    exact ⟨rfl, hB2⟩
  obtain ⟨k, rfl⟩ : ∃ k : Nat, n = k := ⟨n.toNat, by omega⟩
  have hk : k < s.size := by omega
  have hk16 : k < 16 := by omega
  have hle : s.size ≤ 16 := by omega
  clear hsz
  have g1 : decide ((k : Int) < 0) = false := by simp
  have g2 : decide (s.size ≤ k) = false := by simp; omega
  have ek : s[k].toNat = (byteAt s k).toNat := by rw [byteAt_get]
  rcases hq : (((byteAt s k).toNat : Int) == c)
  · have hno := Lib.hid (turned_no HB.out k hk (u8 c) (byte_ne hc0 hc1 hq))
    have sl1 : ∀ W, (Instr.slice 9 (.string s) none (some (.int .i64 (k : Int))) none).run Try.prog W = .ok (.string (s.extract 0 k)) W := fun W => run_slice_string_h W _ s Try.underlying9 .i64 k (by omega) (by omega)
    have sl2 : ∀ W, (Instr.slice 9 (.string s) (some (.int .i64 ((k : Int) + 1))) none none).run Try.prog W = .ok (.string (s.extract (k + 1) s.size)) W := fun W => by
      have h := run_slice_string_l (P := Try.prog) W 9 s Try.underlying9 .i64 ((k : Int) + 1) (by omega) (by omega)
      rw [show ((k : Int) + 1).toNat = k + 1 by omega] at h
      exact h
    have cv : ∀ (W : World) (b : Nat), W.cell? ⟨b, 0, none⟩ = some (.int .u8 c) → (convert 35 9 (.slice (some ⟨b, 0, none⟩) 1 1)).run Try.prog W = .ok (.string ⟨#[u8 c]⟩) W := fun W b h => run_text1 W b c hc0 hc1 h
    obtain ⟨A, hA⟩ : ∃ A, s.extract 0 k = A := ⟨_, rfl⟩
    obtain ⟨B, hB⟩ : ∃ B : ByteArray, (⟨#[u8 c]⟩ : ByteArray) = B := ⟨_, rfl⟩
    obtain ⟨E, hE⟩ : ∃ E, s.extract (k + 1) s.size = E := ⟨_, rfl⟩
    have zA : A.size ≤ 16 := by rw [← hA, ByteArray.size_extract]; omega
    have zB : B.size ≤ 16 := by rw [← hB]; exact Nat.le_of_ble_eq_true rfl
    have zE : E.size ≤ 16 := by rw [← hE, ByteArray.size_extract]; omega
    rw [hA] at sl1 hno
    rw [hB] at cv hno
    rw [hE] at sl2 hno
    clear hA hB hE
    have q1 : A.size + B.size ≤ 9223372036854775807 := by omega
    have q2 : A.size + B.size + E.size ≤ 9223372036854775807 := by omega
    have wk : IntKind.i64.wrap ((k : Int) + 1) = (k : Int) + 1 := IntWalk.i64_in _ (by omega)
    have vN := Lib.hid (show decV (A ++ B ++ E) = dv 0 0 0 false by simp [decV, hno.out])
    have cN := Lib.hid (show decE (A ++ B ++ E) = 20 by simp [decE, hno.out])
    have hdec : ∀ W, Calls Try.prog 15 #[.string (A ++ B ++ E)] W fun e w' => e = .returned (.tuple #[dv 0 0 0 false, .int .i64 20]) ∧ Below W.heap.size W w' := fun W => by
      have h := decode_p (A ++ B ++ E) W
      unfold Dec2 at h
      rw [vN.out, cN.out] at h
      exact h
    have HDc := Lib.hid hdec
    have o1 : w2.heap.size < w2.heap.size + 1 + 1 := by omega
    clear hdec
    go_wp2_with fail
    go_region_with (first | (go_at_call 15; (with_reducible refine (HDc.out _).mono ?_); rintro e w3 ⟨rfl, hb3⟩; obtain ⟨hc3, hf3⟩ := bcell hb3))
    all_goals
      clear hc3 hf3 cv sl1 sl2 o1
      have hz3 := hb3.size
      simp at hz3
      go_wp2
      go_ret
      refine ⟨rfl, ?_⟩
      repeat (first | exact hB2 | refine Below.drew ?_ | refine Below.setCell ?_ (by simp; omega) _ | refine Below.alloc ?_ (by simp; omega) _ | refine Below.alloc ?_ (by omega) _ | refine Below.trans ?_ (hb3.mono (by simp; omega)))
  · go_wp2
    go_ret
    exact ⟨rfl, hB2⟩
end Go.Proofs.Ythhbommdabedeaa
