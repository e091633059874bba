/-
  Contracts of the small functions of layer 2: desc.kind, desc.Right, desc.number, desc.checksum and the document's Right, put, get, sum. Conditions: each argument fits its kind.
-/
import Derived.Test.YtfnhnicjomaelaaRows
import Derived.Test.YtfnhnicjomaelaaBase
import Derived.Test.YtfnhnicjomaelaaDescM
import Derived.WalkKit
import Derived.ProofKit
import Derived.OpenShut
import Derived.Handy
import Derived.Deep.QuietTactic
import Derived.BigQuiet
import Derived.Laws.IdiomStrings
import Derived.Lib.Hide
namespace Go.Proofs.Ytfnhnicjomaelaa
open Go.ChangeShapes Go.WideShapes Go.ChangeAt Go.RowKit

theorem kind_p (d : Bool) (w : World) : Calls Try.prog 65 #[.bool d] w fun e w' => e = .returned (.int .u8 ((kindU d).toNat : Int)) ∧ w = w' := by
  cases d
  all_goals
    go_enter Try.func65, Try.ntmps65
    go_wp2
    go_ret
    exact ⟨rfl, rfl⟩

/-- a descriptor's value -/
abbrev dv (i l f : Int) (d : Bool) : Value := .agg #[.int .u32 i, .int .u32 l, .int .u32 f, .bool d]

theorem right_p (i l f : Int) (d : Bool) (w : World) : Calls Try.prog 56 #[dv i l f d] w fun e w' => e = .returned (.bool (rightB l)) ∧ Below w.heap.size w w' := by
  by_cases h : 1 ≤ l
  all_goals
    go_enter Try.func56, Try.ntmps56
    go_wp2
    go_ret
    exact ⟨by simp [rightB, h]; try omega, by go_grown⟩
theorem right_r (i l f : Int) (d : Bool) (w : World) : Calls Try.prog 26 #[dv i l f d] w fun e w' => e = .returned (.bool (rightB l)) ∧ Below w.heap.size w w' := by
  by_cases h : 1 ≤ l
  all_goals
    go_enter Try.func26, Try.ntmps26
    go_wp2
    go_ret
    exact ⟨by simp [rightB, h]; try omega, by go_grown⟩

/-- bytes as cells -/
def cellsU (l : List UInt8) : List Value := l.map fun b => .int .u8 (b.toNat : Int)

theorem or32 (i x m : Nat) (hx : x < 2 ^ i) (hx' : x < 4294967296) (hm : m * 2 ^ i < 4294967296) : bits .or .u32 (x : Int) ((m : Int) * ((2 ^ i : Nat) : Int)) = ((x + m * 2 ^ i : Nat) : Int) := by
  have h := u32_or_nat x (m * 2 ^ i) hx' hm
  rw [Int.natCast_mul] at h
  have h2 := Nat.two_pow_add_eq_or_of_lt hx m
  rw [h, Nat.or_comm, Nat.mul_comm m, ← h2, Nat.add_comm]
theorem or_num4 (a b c d : UInt8) : bits .or .u32 (bits .or .u32 (bits .or .u32 (bits .or .u32 0 (a.toNat : Int)) ((b.toNat : Int) * 256)) ((c.toNat : Int) * 65536)) ((d.toNat : Int) * 16777216) = num4 a b c d := by
  have ha := a.toNat_lt; have hb := b.toNat_lt; have hc := c.toNat_lt; have hd := d.toNat_lt
  have e0 : bits .or .u32 0 (a.toNat : Int) = ((a.toNat : Nat) : Int) := by
    have := u32_or_nat 0 a.toNat (by omega) (by omega)
    simpa using this
  have e1 := or32 8 a.toNat b.toNat (by omega) (by omega) (by omega)
  have e2 := or32 16 (a.toNat + b.toNat * 2 ^ 8) c.toNat (by omega) (by omega) (by omega)
  have e3 := or32 24 (a.toNat + b.toNat * 2 ^ 8 + c.toNat * 2 ^ 16) d.toNat (by omega) (by omega) (by omega)
  rw [e0, show (256 : Int) = ((2 ^ 8 : Nat) : Int) from rfl, e1, show (65536 : Int) = ((2 ^ 16 : Nat) : Int) from rfl, e2, show (16777216 : Int) = ((2 ^ 24 : Nat) : Int) from rfl, e3]
  unfold num4
  omega

theorem number_p (b : Nat) (x0 x1 x2 x3 : UInt8) (w : World) (hc0 : w.cell? ⟨b, 0, none⟩ = some (.int .u8 (x0.toNat : Int))) (hc1 : w.cell? ⟨b, 1, none⟩ = some (.int .u8 (x1.toNat : Int))) (hc2 : w.cell? ⟨b, 2, none⟩ = some (.int .u8 (x2.toNat : Int))) (hc3 : w.cell? ⟨b, 3, none⟩ = some (.int .u8 (x3.toNat : Int))) :
    Calls Try.prog 72 #[.slice (some ⟨b, 0, none⟩) 4 4] w fun e w' => e = .returned (.int .u32 (num4 x0 x1 x2 x3)) ∧ w = w' := by
  have h0 : x0.toNat < 256 := x0.toNat_lt
  have h1 : x1.toNat < 256 := x1.toNat_lt
  have h2 : x2.toNat < 256 := x2.toNat_lt
  have h3 : x3.toNat < 256 := x3.toNat_lt
  go_enter Try.func72, Try.ntmps72
  go_wp2
  go_rounds 5
  go_ret
  exact ⟨by rw [or_num4]; rfl, rfl⟩

/-- the cells of a row hold these bytes -/
def BytesAt (w : World) (b : Nat) (l : List UInt8) : Prop := ∀ j (h : j < l.length), w.cell? ⟨b, j, none⟩ = some (.int .u8 (l[j].toNat : Int))

theorem checksum_p (b c : Nat) (l : List UInt8) (w : World) (hl : l.length ≤ 1000) (hc : BytesAt w b l) :
    Calls Try.prog 70 #[.slice (some ⟨b, 0, none⟩) l.length c] w fun e w' => e = .returned (.int .u8 ((xorAll 90 l).toNat : Int)) ∧ w = w' := by
  go_enter Try.func70, Try.ntmps70
  go_wp2
  go_loop [3, 8] (fun n i => ∃ k : Nat, k ≤ l.length ∧ i = .int .i64 k ∧ n = .int .u8 ((xorAll 90 (l.take k)).toNat : Int)) (fun _ i => l.length - (intOf i).toNat)
  case atStart => exact ⟨0, Nat.zero_le _, rfl, rfl⟩
  case round =>
    obtain ⟨k, hk, rfl, rfl⟩ := hrel
    by_cases hlt : k < l.length
    · have hcell := hc k hlt
      have HS : Hid (xorAll 90 (l.take (k + 1)) = xorAll 90 (l.take k) ^^^ l[k]) := by
        show xorAll 90 (l.take (k + 1)) = _
        rw [List.take_succ_eq_append_getElem hlt, xorAll_snoc]
      go_wp2
      go_round
      case rel => exact ⟨k + 1, by omega, by go_num, by rw [HS.out, u8_xor_bits]⟩
      case measure => simp [intOf]; omega
    · go_wp2
      go_ret
      exact ⟨by rw [List.take_of_length_le (by omega)]; rfl, rfl⟩

theorem sum_r (s : ByteArray) (hs : s.size ≤ 1000) (w : World) : Calls Try.prog 46 #[.string s] w fun e w' => e = .returned (.int .u8 ((xorAll 90 s.data.toList).toNat : Int)) ∧ w = w' := by
  go_enter Try.func46, Try.ntmps46
  go_wp2
  go_loop [3, 4] (fun n i => ∃ k : Nat, k ≤ s.size ∧ i = .int .i64 k ∧ n = .int .u8 ((xorAll 90 (s.data.toList.take k)).toNat : Int)) (fun _ i => s.size - (intOf i).toNat)
  case atStart => exact ⟨0, Nat.zero_le _, rfl, rfl⟩
  case round =>
    obtain ⟨k, hk, rfl, rfl⟩ := hrel
    by_cases hlt : k < s.size
    · have HS : Hid (xorAll 90 (s.data.toList.take (k + 1)) = xorAll 90 (s.data.toList.take k) ^^^ s[k]) := by
        show xorAll 90 (s.data.toList.take (k + 1)) = _
        rw [List.take_succ_eq_append_getElem (by simpa using hlt), xorAll_snoc]
        rfl
      go_wp2
      go_round
      case rel => exact ⟨k + 1, by omega, by go_num, by rw [HS.out, u8_xor_bits]⟩
      case measure => simp [intOf]; omega
    · go_wp2
      go_ret
      exact ⟨by rw [List.take_of_length_le (by simp; omega)]; rfl, rfl⟩

/-- 'string([]byte{..})' of a new row -/
theorem run_text (w : World) (l : List UInt8) (cs : List Value) (hcs : cs = cellsU l) :
    (convert 87 9 (.slice (some ⟨w.heap.size, 0, none⟩) l.length l.length)).run Try.prog (w.alloc (.cells cs.toArray 5)) = .ok (.string ⟨l.toArray⟩) (w.alloc (.cells cs.toArray 5)) := by
  refine run_convert_bytes_back _ _ _ 5 _ _ l Try.underlying87 Try.underlying5 Try.underlying9 (fun j hj => ?_)
  have h := World.cell?_alloc_mark w cs.toArray 5 (0, 0) j
  have ha : (⟨w.heap.size, 0, none⟩ : Addr).add j = ⟨w.heap.size, j, none⟩ := by
    simp only [Addr.add, Nat.zero_add]
    split <;> simp_all
  rw [ha, h, hcs]
  simp [cellsU, hj]

theorem put_r (n : Int) (h0 : 0 ≤ n) (h1 : n ≤ 4294967295) (w : World) : Calls Try.prog 59 #[.int .u32 n] w fun e w' => e = .returned (.string ⟨(le4 n).toArray⟩) ∧ Below w.heap.size w w' := by
  have hr := run_text w (le4 n) [.int .u8 (n % 256), .int .u8 (n / 256 % 256), .int .u8 (n / 65536 % 256), .int .u8 (n / 16777216)] (by
    simp only [cellsU, le4, List.map_cons, List.map_nil, u8_nat]
    congr 4
    rw [show n / 16777216 % 256 = n / 16777216 by omega])
  rw [show (le4 n).length = 4 from rfl] at hr
  go_enter Try.func59, Try.ntmps59
  go_wp2
  go_ret
  exact ⟨rfl, by go_grown⟩
theorem get_r (s : ByteArray) (hs : s.size = 4) (w : World) : Calls Try.prog 47 #[.string s] w fun e w' => e = .returned (.int .u32 (numAt s 0)) ∧ ∃ n, w' = w.drewN n := by
  have hs4 : 3 < s.size := by omega
  have hs' := Lib.hid hs
  clear hs
  have e0 : s[0].toNat = (byteAt s 0).toNat := by rw [byteAt_get]
  have e1 : s[1].toNat = (byteAt s 1).toNat := by rw [byteAt_get]
  have e2 : s[2].toNat = (byteAt s 2).toNat := by rw [byteAt_get]
  have e3 : s[3].toNat = (byteAt s 3).toNat := by rw [byteAt_get]
  have b0 : (byteAt s 0).toNat < 256 := (byteAt s 0).toNat_lt
  have b1 : (byteAt s 1).toNat < 256 := (byteAt s 1).toNat_lt
  have b2 : (byteAt s 2).toNat < 256 := (byteAt s 2).toNat_lt
  have b3 : (byteAt s 3).toNat < 256 := (byteAt s 3).toNat_lt
  go_enter Try.func47, Try.ntmps47
  go_wp2
  go_quiet (fail)
  go_wp2
  go_ret
  exact ⟨rfl, _, rfl⟩
end Go.Proofs.Ytfnhnicjomaelaa
