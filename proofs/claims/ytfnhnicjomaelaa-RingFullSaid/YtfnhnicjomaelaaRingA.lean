/-
  Contracts of the small functions of ring: missing, place, at, text, store, advance, held, show. Conditions: those that each theorem names.
-/
import Derived.Deep.MidRow
import Derived.Stop.BytesEq
import Derived.Lib.LazyBuf
import Derived.Test.YtfnhnicjomaelaaDescF
import Derived.Test.YtfnhnicjomaelaaWrapA
import Derived.Test.YtfnhnicjomaelaaRingM
namespace Go.Proofs.Ytfnhnicjomaelaa
open Go.ChangeShapes Go.WideShapes Go.ChangeAt Go.RowKit

theorem addr_add (q n : Nat) : (⟨q, 0, none⟩ : Addr).add n = ⟨q, n, none⟩ := by
  simp only [Addr.add, Nat.zero_add]
  split <;> simp_all

/-- the indexes and slots of a ring -/
abbrev rcs (m0 m1 m2 m3 m4 : Int) (q n : Nat) : Array Value := #[.int .u32 m0, .int .u32 m1, .int .u32 m2, .int .u32 m3, .int .u32 m4, .slice (some ⟨q, 0, none⟩) n n]
theorem Held.ring {W : World} {p q n : Nat} {m0 m1 m2 m3 m4 : Int} (h : Held W p 66 (rcs m0 m1 m2 m3 m4 q n)) :
    (W.cell? ⟨p, 0, none⟩ = some (.int .u32 m0) ∧ W.cell? ⟨p, 1, none⟩ = some (.int .u32 m1) ∧ W.cell? ⟨p, 2, none⟩ = some (.int .u32 m2) ∧ W.cell? ⟨p, 3, none⟩ = some (.int .u32 m3) ∧ W.cell? ⟨p, 4, none⟩ = some (.int .u32 m4) ∧ W.cell? ⟨p, 5, none⟩ = some (.slice (some ⟨q, 0, none⟩) n n)) ∧
    (W.frozen? ⟨p, 0, none⟩ = false ∧ W.frozen? ⟨p, 1, none⟩ = false ∧ W.frozen? ⟨p, 2, none⟩ = false ∧ W.frozen? ⟨p, 3, none⟩ = false ∧ W.frozen? ⟨p, 4, none⟩ = false) :=
  ⟨⟨h.cell 0, h.cell 1, h.cell 2, h.cell 3, h.cell 4, h.cell 5⟩, h.frozen 0, h.frozen 1, h.frozen 2, h.frozen 3, h.frozen 4⟩

theorem missing_p (p q n : Nat) (hn : 1 ≤ n) (W : World) (hc : W.cell? ⟨p, 5, none⟩ = some (.slice (some ⟨q, 0, none⟩) n n)) :
    Calls Try.prog 34 #[.pointer (some ⟨p, 0, none⟩)] W fun e w' => e = .returned (.bool false) ∧ W = w' := by
  have h0 : ((n : Int) == 0) = false := by simp; omega
  go_enter Try.func34, Try.ntmps34
  go_wp2
  go_ret
  exact ⟨by simp, rfl⟩
theorem missing_nil (W : World) : Calls Try.prog 34 #[.pointer none] W fun e w' => e = .returned (.bool true) ∧ W = w' := by
  go_enter Try.func34, Try.ntmps34
  go_wp2
  go_ret
  exact ⟨rfl, rfl⟩

theorem rplace_p (p q n : Nat) (m : Int) (hn : isSizeB n = true) (h0 : 0 ≤ m) (h1 : m ≤ 4294967295) (W : World) (hc : W.cell? ⟨p, 5, none⟩ = some (.slice (some ⟨q, 0, none⟩) n n)) :
    Calls Try.prog 53 #[.pointer (some ⟨p, 0, none⟩), .int .u32 m] W fun e w' => e = .returned (.int .i64 (m % n)) ∧ Below W.heap.size W w' := by
  have hs : slotN m n = m % n := by simp [slotN, hn]
  go_enter Try.func53, Try.ntmps53
  go_wp2_with (go_at_call 61; refine (slot_p _ _ _ h0 h1).mono ?_; rintro e w' ⟨rfl, hb⟩)
  go_ret
  exact ⟨rfl, hb⟩
theorem at_p (p q n : Nat) (m : Int) (hn : isSizeB n = true) (h0 : 0 ≤ m) (h1 : m ≤ 4294967295) (W : World) (hc : W.cell? ⟨p, 5, none⟩ = some (.slice (some ⟨q, 0, none⟩) n n)) :
    Calls Try.prog 38 #[.pointer (some ⟨p, 0, none⟩), .int .u32 m] W fun e w' => e = .returned (.pointer (some ⟨q, (m % n).toNat * 16, none⟩)) ∧ Below W.heap.size W w' := by
  obtain ⟨n1, n2⟩ := isSize_bd hn
  have i0 := Int.emod_nonneg m (b := (n : Int)) (by omega)
  have i1 := Int.emod_lt_of_pos m (b := (n : Int)) (by omega)
  have hcd : W.drew.cell? ⟨p, 5, none⟩ = some (.slice (some ⟨q, 0, none⟩) n n) := hc
  go_enter Try.func38, Try.ntmps38
  go_wp2_with fail
  go_region_held3 (fun w' => w'.cell? ⟨p, 5, none⟩ = some (.slice (some ⟨q, 0, none⟩) n n)) (first | (go_keep; done) | exact hcn)
    (first | (go_at_call 53; (with_reducible refine (rplace_p p q n m hn h0 h1 _ hcd).mono ?_); rintro e w' ⟨rfl, hb⟩; have hcn : w'.cell? ⟨p, 5, none⟩ = some (.slice (some ⟨q, 0, none⟩) n n) := (hb.cell (p := ⟨p, 5, none⟩) (World.block_lt_of_cell? W _ hc)).trans hc))
  go_wp2
  go_ret
  exact ⟨by simp, ⟨hb.os, hb.tape, hb.output, hb.size, hb.block⟩⟩

theorem advance_p (p k : Nat) (m : Int) (W : World) (hc : W.cell? ⟨p, k, none⟩ = some (.int .u32 m)) (hf : W.frozen? ⟨p, k, none⟩ = false) :
    Calls Try.prog 40 #[.pointer (some ⟨p, k, none⟩)] W fun e w' => (∃ v, e = .returned v) ∧ W.setCell ⟨p, k, none⟩ (.int .u32 ((m + 1) % 4294967296)) = w' := by
  go_enter Try.func40, Try.ntmps40
  go_wp2
  go_end0
  exact ⟨⟨_, rfl⟩, by simp⟩
theorem held_p (p : Nat) (a b : Int) (W : World) (ha : W.cell? ⟨p, 0, none⟩ = some (.int .u32 a)) (hb : W.cell? ⟨p, 4, none⟩ = some (.int .u32 b)) :
    Calls Try.prog 44 #[.pointer (some ⟨p, 0, none⟩)] W fun e w' => e = .returned (.int .i64 (far a b)) ∧ ∃ k, w' = W.drewN k := by
  obtain ⟨f0, f1⟩ := far_bd a b
  go_enter Try.func44, Try.ntmps44
  go_wp2_with fail
  go_quiet ((go_at_call 57; exact Calls.quiet_of_same ((far_p _ _ _).mono (fun _ _ ⟨a, b⟩ => ⟨a, b.symm⟩))))
  go_wp2
  go_ret
  exact ⟨rfl, _, rfl⟩
theorem show_p (p : Nat) (a b : Int) (W : World) (ha : W.cell? ⟨p, 3, none⟩ = some (.int .u32 a)) (hb : W.cell? ⟨p, 4, none⟩ = some (.int .u32 b)) (hf : W.frozen? ⟨p, 3, none⟩ = false) :
    Calls Try.prog 45 #[.pointer (some ⟨p, 0, none⟩)] W fun e w' => (∃ v, e = .returned v) ∧ W.setCell ⟨p, 3, none⟩ (.int .u32 b) = w' := by
  go_enter Try.func45, Try.ntmps45
  go_wp2
  go_end0
  exact ⟨⟨_, rfl⟩, rfl⟩

/-- a slot's sixteen bytes: zeros where it is empty -/
def slotL (s : ByteArray) : List UInt8 := (List.range 16).map (byteAt s)
/-- a slot's text: none, or sixteen bytes of which the thirteenth is not 0 -/
def SlotText (s : ByteArray) : Prop := s = ⟨#[]⟩ ∨ (s.size = 16 ∧ byteAt s 12 ≠ 0)
theorem slotL_length (s : ByteArray) : (slotL s).length = 16 := rfl
theorem slotL_full {s : ByteArray} (h : s.size = 16) : slotL s = s.data.toList := by
  obtain ⟨a0, a1, a2, a3, a4, a5, a6, a7, a8, a9, a10, a11, a12, a13, a14, a15, hl⟩ := list16 s.data.toList (by simpa using h)
  unfold slotL byteAt
  rw [hl]
  rfl
theorem slotL_none : slotL ⟨#[]⟩ = [0, 0, 0, 0, 0, 0, 0, 0, 0, 0, 0, 0, 0, 0, 0, 0] := rfl
theorem size_u8 : ∀ w, (Go.sizeOf 5).run Try.prog w = .ok 1 w := by
  obtain ⟨i0, hi, hz0, hz1, hz2⟩ := info_parts infoU8
  intro w
  simp [Go.sizeOf, typeInfo, hi, hz1]
theorem slot_info : (Try.prog.info? 78).map (·.size) = some 16 := by kernel_rfl

set_option maxRecDepth 100000 in
theorem text_p2 (q o : Nat) (s : ByteArray) (W : World) (hc : W.rangeAt q o (cellsU (slotL s))) (hs : SlotText s) :
    Calls Try.prog 39 #[.pointer (some ⟨q, o, none⟩)] W fun e w' => e = .returned (.string s) ∧ W = w' := by
  have he := run_equalIn_bytes (P := Try.prog) W 9998 78 5 16 Try.underlying78 Try.underlying5 size_u8 (slotL s) [0, 0, 0, 0, 0, 0, 0, 0, 0, 0, 0, 0, 0, 0, 0, 0] rfl rfl
  have he' : (Op.equalIn 10000 78 (.agg (cellsU (slotL s)).toArray) (.agg #[.int .u8 0, .int .u8 0, .int .u8 0, .int .u8 0, .int .u8 0, .int .u8 0, .int .u8 0, .int .u8 0, .int .u8 0, .int .u8 0, .int .u8 0, .int .u8 0, .int .u8 0, .int .u8 0, .int .u8 0, .int .u8 0])).run Try.prog W = .ok (slotL s == [0, 0, 0, 0, 0, 0, 0, 0, 0, 0, 0, 0, 0, 0, 0, 0]) W := he
  clear he
  generalize hcs : (cellsU (slotL s)).toArray = cs at he'
  rcases hs with rfl | ⟨hz, hk⟩
  · have hb : (slotL ⟨#[]⟩ == [0, 0, 0, 0, 0, 0, 0, 0, 0, 0, 0, 0, 0, 0, 0, 0]) = true := rfl
    rw [hb] at he'
    go_enter Try.func39, Try.ntmps39
    go_wp2_with (refine wpList_load_mid rfl 78 (.tmp 4) rfl q o rfl _ _ hc Try.underlying78 rfl slot_info ?_; rw [hcs])
    go_ret
    exact ⟨rfl, rfl⟩
  · have hb : (slotL s == [0, 0, 0, 0, 0, 0, 0, 0, 0, 0, 0, 0, 0, 0, 0, 0]) = false := by
      rw [beq_eq_false_iff_ne]
      intro h
      have := congrArg (fun l => l.getD 12 0) h
      exact hk this
    rw [hb] at he'
    have hv : (convert 87 9 (.slice (some ⟨q, o, none⟩) 16 16)).run Try.prog W = .ok (.string s) W := by
      have h := run_convert_bytes_back (P := Try.prog) W 87 9 5 ⟨q, o, none⟩ 16 (slotL s) Try.underlying87 Try.underlying5 Try.underlying9 (fun j hj => by
        rw [Addr.add_mid]
        exact hc j _ (by simp [cellsU, hj]))
      rw [slotL_length, slotL_full hz] at h
      exact h
    go_enter Try.func39, Try.ntmps39
    go_wp2_with (refine wpList_load_mid rfl 78 (.tmp 4) rfl q o rfl _ _ hc Try.underlying78 rfl slot_info ?_; rw [hcs])
    go_ret
    exact ⟨rfl, rfl⟩
theorem store_p (q o : Nat) (s : ByteArray) (hs : s.size = 16) (W : World) (ht : W.there q o 16) :
    Calls Try.prog 42 #[.pointer (some ⟨q, o, none⟩), .string s] W fun e w' => (∃ v, e = .returned v) ∧ W.setCells q o (cellsU (slotL s)) = w' := by
  have hr := run_copy_string (P := Try.prog) W 87 9 3 5 q o 16 16 s Try.underlying87 size_u8 (by omega) (fun j hj => (ht j (by omega)).1) (fun j hj => (ht j (by omega)).2)
  go_enter Try.func42, Try.ntmps42
  go_wp2
  go_end0
  refine ⟨⟨_, rfl⟩, ?_⟩
  rw [slotL_full hs]
  rfl
end Go.Proofs.Ytfnhnicjomaelaa
