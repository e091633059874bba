/-
  The contract of the iterator that desc.numbers hands back, and of desc.read. Conditions: the text has sixteen bytes.
-/
import Derived.RangeFuncNested
import Derived.RangeFuncBound
import Derived.RangeFuncCalls
import Derived.RangeFuncLeaves
import Derived.Shelf.Abstract
import Derived.Shelf.RegionOpen
import Derived.OwnWalkIn
import Derived.TacticsInMore
import Derived.LoopNIn
import Derived.LoopIn
import Derived.WalkMore
import Derived.Test.YtfnhnicjomaelaaDescC
import Derived.Test.YtfnhnicjomaelaaOrd
import Derived.Test.YtfnhnicjomaelaaIter
import Derived.Test.YtfnhnicjomaelaaOwn
namespace Go.Proofs.Ytfnhnicjomaelaa
open Go.ChangeShapes Go.WideShapes Go.ChangeAt Go.RowKit Go.Shelf
attribute [local go_sem] Oper.semAt_some

/-- the k-th number of a text -/
def elt (s : ByteArray) (k : Nat) : Int × Int := ((k : Int), numAt s (4 * k))
def elts (s : ByteArray) (k : Nat) : List (Int × Int) := (List.range k).map (elt s)
theorem elts_succ (s : ByteArray) (k : Nat) : elts s (k + 1) = elts s k ++ [elt s k] := by simp [elts, List.range_succ]
theorem elts_length (s : ByteArray) (k : Nat) : (elts s k).length = k := by simp [elts]
abbrev encs (p : Int × Int) : Array Value := #[.int .i64 p.1, .int .u32 p.2]

/-- what a round leaves, by its answer -/
def Answered (n b : Nat) (J Jx : List (Int × Int) → World → Prop) (pre : List (Int × Int)) (W : World) (y : Bool) (W' : World) : Prop := (y = true → J pre W' ∧ KeepsBut n b W W') ∧ (y = false → Jx pre W')

theorem answered (n b : Nat) (J Jx : List (Int × Int) → World → Prop) (pre : List (Int × Int)) (W : World) : ∀ (e : Ending) (W' : World), ((e = .returned (.bool true) ∧ J pre W' ∧ KeepsBut n b W W') ∨ (e = .returned (.bool false) ∧ Jx pre W')) → ∃ y, e = .returned (.bool y) ∧ Answered n b J Jx pre W y W' := by
  rintro e W' (⟨rfl, h1, h2⟩ | ⟨rfl, h1⟩)
  · exact ⟨true, rfl, fun _ => ⟨h1, h2⟩, (fun h => by cases h)⟩
  · exact ⟨false, rfl, (fun h => by cases h), fun _ => h1⟩
theorem boxed_made {w : World} {b : Nat} {t : TypeId} {v : Value} (h : Boxed w b t v) (o : Obj) : Boxed (w.alloc o).drew b t v := h.alloc o
theorem abides_made {J : List (Int × Int) → World → Prop} {B : Nat} (hJ : AbidesFrom B J) {pre : List (Int × Int)} {w : World} (h : J pre w) (o : Obj) : J pre (w.alloc o).drew :=
  hJ _ w _ none h (by have g := World.grownBy_alloc w o none; exact ⟨g.os, g.tape, g.output, g.size, g.block⟩) (fun r h => by cases h)

set_option maxRecDepth 100000 in
set_option maxHeartbeats 4000000 in
theorem numbers1_in (n : Nat) (hn : 2 ≤ n) (l Bs n₁ b : Nat) (s : ByteArray) (hs : Hid (s.size = 16)) (hsn : Bs < n₁) (hsb : Bs ≠ b)
    (J Jx : List (Int × Int) → World → Prop)
    (hY : ∀ pre x W, J pre W → pre.length < 4 → YieldAt Fence.wide (n - 1) Try.prog l (encs x) W fun e W' =>
      (e = .returned (.bool true) ∧ J (pre ++ [x]) W' ∧ KeepsBut n₁ b W W') ∨ (e = .returned (.bool false) ∧ Jx (pre ++ [x]) W'))
    (W : World) (hJ : AbidesFrom W.heap.size J) (bs : Boxed W Bs 9 (.string s)) (h0 : J [] W) :
    CallsIn Fence.wide n Try.prog 71 #[.func (.yield l) #[] #[], .pointer (some ⟨Bs, 0, none⟩)] W fun e W' => (∃ v, e = .returned v) ∧
      ((∃ ys, ys = elts s 4 ∧ J ys W') ∨ (∃ pre, (∃ k, k < 4 ∧ pre = elts s (k + 1)) ∧ Jx pre W')) := by
  refine callsIn_of_wp Try.func71 rfl trivial ?_ rfl
  simp only [Try.ntmps71, List.size_toArray, List.length_cons, List.length_nil, Nat.reduceAdd, Nat.reduceSub, Array.replicate_succ, Array.replicate_zero, List.push_toArray, List.append_toArray, List.nil_append, List.cons_append]
  have hc0 := bs.cell
  have h16 : s.size = 16 := hs.out
  gi_wp2
  gi_loopw [8] (fun i wr => ∃ k : Nat, k ≤ 4 ∧ i = .int .i64 k ∧ Boxed wr Bs 9 (.string s) ∧ J (elts s k) wr)
    (fun i _ => 4 - (intOf i).toNat)
  case atStart => exact ⟨0, Nat.zero_le _, rfl, bs, h0⟩
  case round =>
    obtain ⟨k, hk, rfl, bs', hJ'⟩ := hrel
    clear hc0 bs
    by_cases hlt : k < 4
    · have hcs := bs'.cell
      have h15 : 15 < s.size := by omega
      clear h16
      rcases (show k = 0 ∨ k = 1 ∨ k = 2 ∨ k = 3 by omega) with rfl | rfl | rfl | rfl
      · have g0 : 0 < s.size := by omega
        have g1 : 1 < s.size := by omega
        have g2 : 2 < s.size := by omega
        have g3 : 3 < s.size := by omega
        have e0 : s[0].toNat = (byteAt s 0).toNat := by rw [byteAt_get]
        have e1 : s[1].toNat = (byteAt s 1).toNat := by rw [byteAt_get]
        have e2 : s[2].toNat = (byteAt s 2).toNat := by rw [byteAt_get]
        have e3 : s[3].toNat = (byteAt s 3).toNat := by rw [byteAt_get]
        obtain ⟨fn, tmps, assign, body, hy0, hR0⟩ := hY (elts s 0) (elt s 0) _ (abides_made hJ hJ' (.cells #[.int .u8 (byteAt s 0).toNat, .int .u8 (byteAt s 1).toNat, .int .u8 (byteAt s 2).toNat, .int .u8 (byteAt s 3).toNat] 5)) (by simp [elts])
        have hy : (Instr.yield l #[.int .i64 0, .int .u32 (num4 (byteAt s 0) (byteAt s 1) (byteAt s 2) (byteAt s 3))]).run Try.prog _ = _ := hy0
        have hcd : wr.drew.cell? ⟨Bs, 0, none⟩ = some (.string s) := hcs
        have hR := hR0.mono (answered n₁ b J Jx (elts s 0 ++ [elt s 0]) _)
        clear hy0 hR0
        gi_wp2_with fail
        refine wpIn_region_G (fun w => w.cell? ⟨Bs, 0, none⟩ = some (.string s)) 19 21 rfl (by kernel_rfl) (fun hcl => ?_)
        refine wpAnyG_take (i := 0) 8 (v := (.func (.yield l) #[] #[])) rfl rfl (by kernel_rfl) (by kernel_rfl) (by kernel_rfl) (fun _ _ _ h => h) (by kernel_rfl) (by decide) hcl ⟨by rfl, fun w hR => ?hy0_0, fun _ => rfl⟩ hcd (fun hc1 => ?rest0_0)
        case hy0_0 => (try dsimp only at hR); go_simp; try (first | rfl | (intro h; omega))
        clear hcl; have hcl := hc1; clear hc1; simp only [Act.put, List.setIfInBounds_toArray]
        refine wpAnyG_take (i := 1) 8 (v := (.int .i64 0)) rfl rfl (by kernel_rfl) (by kernel_rfl) (by kernel_rfl) (fun _ _ _ h => h) (by kernel_rfl) (by decide) hcl ⟨by rfl, fun w hR => ?hy0_1, fun _ => rfl⟩ hcd (fun hc1 => ?rest0_1)
        case hy0_1 => (try dsimp only at hR); go_simp; try (first | rfl | (intro h; omega))
        clear hcl; have hcl := hc1; clear hc1; simp only [Act.put]
        refine wpAnyG_take (i := 2) 8 (v := (.string s)) rfl rfl (by kernel_rfl) (by kernel_rfl) (by kernel_rfl) (fun _ _ _ h => h) (by kernel_rfl) (by decide) hcl ⟨by rfl, fun w hR => ?hy0_2, fun _ => rfl⟩ hcd (fun hc1 => ?rest0_2)
        case hy0_2 => (try dsimp only at hR); go_simp; try (first | rfl | (intro h; omega))
        clear hcl; have hcl := hc1; clear hc1; simp only [Act.put]
        refine wpAnyG_take (i := 3) 8 (v := (.int .i64 0)) rfl rfl (by kernel_rfl) (by kernel_rfl) (by kernel_rfl) (fun _ _ _ h => h) (by kernel_rfl) (by decide) hcl ⟨by rfl, fun w hR => ?hy0_3, fun _ => rfl⟩ hcd (fun hc1 => ?rest0_3)
        case hy0_3 => (try dsimp only at hR); go_simp; try (first | rfl | (intro h; omega))
        clear hcl; have hcl := hc1; clear hc1; simp only [Act.put]
        refine wpAnyG_take (i := 4) 8 (v := (.int .u8 ((byteAt s 0).toNat : Int))) rfl rfl (by kernel_rfl) (by kernel_rfl) (by kernel_rfl) (fun _ _ _ h => h) (by kernel_rfl) (by decide) hcl ⟨by rfl, fun w hR => ?hy0_4, fun _ => rfl⟩ hcd (fun hc1 => ?rest0_4)
        case hy0_4 => (try dsimp only at hR); go_simp; try (first | rfl | (intro h; omega))
        clear hcl; have hcl := hc1; clear hc1; simp only [Act.put]
        refine wpAnyG_take (i := 5) 8 (v := (.string s)) rfl rfl (by kernel_rfl) (by kernel_rfl) (by kernel_rfl) (fun _ _ _ h => h) (by kernel_rfl) (by decide) hcl ⟨by rfl, fun w hR => ?hy0_5, fun _ => rfl⟩ hcd (fun hc1 => ?rest0_5)
        case hy0_5 => (try dsimp only at hR); go_simp; try (first | rfl | (intro h; omega))
        clear hcl; have hcl := hc1; clear hc1; simp only [Act.put]
        refine wpAnyG_take (i := 6) 8 (v := (.int .i64 0)) rfl rfl (by kernel_rfl) (by kernel_rfl) (by kernel_rfl) (fun _ _ _ h => h) (by kernel_rfl) (by decide) hcl ⟨by rfl, fun w hR => ?hy0_6, fun _ => rfl⟩ hcd (fun hc1 => ?rest0_6)
        case hy0_6 => (try dsimp only at hR); go_simp; try (first | rfl | (intro h; omega))
        clear hcl; have hcl := hc1; clear hc1; simp only [Act.put]
        refine wpAnyG_take (i := 7) 8 (v := (.int .i64 1)) rfl rfl (by kernel_rfl) (by kernel_rfl) (by kernel_rfl) (fun _ _ _ h => h) (by kernel_rfl) (by decide) hcl ⟨by rfl, fun w hR => ?hy0_7, fun _ => rfl⟩ hcd (fun hc1 => ?rest0_7)
        case hy0_7 => (try dsimp only at hR); go_simp; try (first | rfl | (intro h; omega))
        clear hcl; have hcl := hc1; clear hc1; simp only [Act.put]
        refine wpAnyG_take (i := 8) 8 (v := (.int .u8 ((byteAt s 1).toNat : Int))) rfl rfl (by kernel_rfl) (by kernel_rfl) (by kernel_rfl) (fun _ _ _ h => h) (by kernel_rfl) (by decide) hcl ⟨by rfl, fun w hR => ?hy0_8, fun _ => rfl⟩ hcd (fun hc1 => ?rest0_8)
        case hy0_8 => (try dsimp only at hR); go_simp; try (first | rfl | (intro h; omega))
        clear hcl; have hcl := hc1; clear hc1; simp only [Act.put]
        refine wpAnyG_take (i := 9) 8 (v := (.string s)) rfl rfl (by kernel_rfl) (by kernel_rfl) (by kernel_rfl) (fun _ _ _ h => h) (by kernel_rfl) (by decide) hcl ⟨by rfl, fun w hR => ?hy0_9, fun _ => rfl⟩ hcd (fun hc1 => ?rest0_9)
        case hy0_9 => (try dsimp only at hR); go_simp; try (first | rfl | (intro h; omega))
        clear hcl; have hcl := hc1; clear hc1; simp only [Act.put]
        refine wpAnyG_take (i := 10) 8 (v := (.int .i64 0)) rfl rfl (by kernel_rfl) (by kernel_rfl) (by kernel_rfl) (fun _ _ _ h => h) (by kernel_rfl) (by decide) hcl ⟨by rfl, fun w hR => ?hy0_10, fun _ => rfl⟩ hcd (fun hc1 => ?rest0_10)
        case hy0_10 => (try dsimp only at hR); go_simp; try (first | rfl | (intro h; omega))
        clear hcl; have hcl := hc1; clear hc1; simp only [Act.put]
        refine wpAnyG_take (i := 11) 8 (v := (.int .i64 2)) rfl rfl (by kernel_rfl) (by kernel_rfl) (by kernel_rfl) (fun _ _ _ h => h) (by kernel_rfl) (by decide) hcl ⟨by rfl, fun w hR => ?hy0_11, fun _ => rfl⟩ hcd (fun hc1 => ?rest0_11)
        case hy0_11 => (try dsimp only at hR); go_simp; try (first | rfl | (intro h; omega))
        clear hcl; have hcl := hc1; clear hc1; simp only [Act.put]
        refine wpAnyG_take (i := 12) 8 (v := (.int .u8 ((byteAt s 2).toNat : Int))) rfl rfl (by kernel_rfl) (by kernel_rfl) (by kernel_rfl) (fun _ _ _ h => h) (by kernel_rfl) (by decide) hcl ⟨by rfl, fun w hR => ?hy0_12, fun _ => rfl⟩ hcd (fun hc1 => ?rest0_12)
        case hy0_12 => (try dsimp only at hR); go_simp; try (first | rfl | (intro h; omega))
        clear hcl; have hcl := hc1; clear hc1; simp only [Act.put]
        refine wpAnyG_take (i := 13) 8 (v := (.string s)) rfl rfl (by kernel_rfl) (by kernel_rfl) (by kernel_rfl) (fun _ _ _ h => h) (by kernel_rfl) (by decide) hcl ⟨by rfl, fun w hR => ?hy0_13, fun _ => rfl⟩ hcd (fun hc1 => ?rest0_13)
        case hy0_13 => (try dsimp only at hR); go_simp; try (first | rfl | (intro h; omega))
        clear hcl; have hcl := hc1; clear hc1; simp only [Act.put]
        refine wpAnyG_take (i := 14) 8 (v := (.int .i64 0)) rfl rfl (by kernel_rfl) (by kernel_rfl) (by kernel_rfl) (fun _ _ _ h => h) (by kernel_rfl) (by decide) hcl ⟨by rfl, fun w hR => ?hy0_14, fun _ => rfl⟩ hcd (fun hc1 => ?rest0_14)
        case hy0_14 => (try dsimp only at hR); go_simp; try (first | rfl | (intro h; omega))
        clear hcl; have hcl := hc1; clear hc1; simp only [Act.put]
        refine wpAnyG_take (i := 15) 8 (v := (.int .i64 3)) rfl rfl (by kernel_rfl) (by kernel_rfl) (by kernel_rfl) (fun _ _ _ h => h) (by kernel_rfl) (by decide) hcl ⟨by rfl, fun w hR => ?hy0_15, fun _ => rfl⟩ hcd (fun hc1 => ?rest0_15)
        case hy0_15 => (try dsimp only at hR); go_simp; try (first | rfl | (intro h; omega))
        clear hcl; have hcl := hc1; clear hc1; simp only [Act.put]
        refine wpAnyG_take (i := 16) 8 (v := (.int .u8 ((byteAt s 3).toNat : Int))) rfl rfl (by kernel_rfl) (by kernel_rfl) (by kernel_rfl) (fun _ _ _ h => h) (by kernel_rfl) (by decide) hcl ⟨by rfl, fun w hR => ?hy0_16, fun _ => rfl⟩ hcd (fun hc1 => ?rest0_16)
        case hy0_16 => (try dsimp only at hR); go_simp; try (first | rfl | (intro h; omega))
        clear hcl; have hcl := hc1; clear hc1; simp only [Act.put]
        refine wpAnyG_one (i := 17) (by kernel_rfl) rfl (fun K hK => ?_)
        go_simp
        refine hK _ _ (.inr (by simp [hcs, World.cell?_alloc_some])) ?_
        clear hK K
        refine wpAnyG_one (i := 18) (by kernel_rfl) rfl (fun K hK => ?_)
        go_simp
        refine ⟨trivial, fun _ => by omega, (callsIn_wide.2 (number_p _ (byteAt s 0) (byteAt s 1) (byteAt s 2) (byteAt s 3) _ (by simp [go_sem]) (by simp [go_sem]) (by simp [go_sem]) (by simp [go_sem]))).mono ?_⟩
        rintro e w' ⟨rfl, rfl⟩
        refine hK _ _ (.inr (by simp [hcs, World.cell?_alloc_some])) ?_
        clear hK K
        refine wpAnyG_one (i := 19) (by kernel_rfl) rfl (fun K hK => ?_)
        go_simp
        refine ⟨fun _ => by omega, hR.mono ?_⟩
        rintro e W3 ⟨y, rfl, hA⟩
        refine hK _ _ (.inl (by kernel_rfl)) ?_
        clear hK K
        refine wpAnyG_one (i := 20) (by kernel_rfl) rfl (fun K hK => ?_)
        go_simp
        refine hK _ _ (.inl (by kernel_rfl)) ?_
        clear hK K
        refine wpAnyG_done (by kernel_rfl) ?_ _
        clear hy hR hcd hcs hcl e0 e1 e2 e3
        cases y
        · have hJx3 := hA.2 rfl
          gi_wp2
          refine bodyPost_ret (results_none rfl _ _ _) rfl ?_
          exact ⟨⟨_, rfl⟩, .inr ⟨_, ⟨0, by omega, (elts_succ s 0).symm⟩, hJx3⟩⟩
        · obtain ⟨hJ3, hk3⟩ := hA.1 rfl
          gi_wp2
          exact ⟨⟨1, by omega, rfl, hk3.boxed (boxed_made bs' _) hsn hsb, by rw [elts_succ]; exact hJ3⟩, by simp [intOf]⟩
      · have g0 : 4 < s.size := by omega
        have g1 : 5 < s.size := by omega
        have g2 : 6 < s.size := by omega
        have g3 : 7 < s.size := by omega
        have e0 : s[4].toNat = (byteAt s 4).toNat := by rw [byteAt_get]
        have e1 : s[5].toNat = (byteAt s 5).toNat := by rw [byteAt_get]
        have e2 : s[6].toNat = (byteAt s 6).toNat := by rw [byteAt_get]
        have e3 : s[7].toNat = (byteAt s 7).toNat := by rw [byteAt_get]
        obtain ⟨fn, tmps, assign, body, hy0, hR0⟩ := hY (elts s 1) (elt s 1) _ (abides_made hJ hJ' (.cells #[.int .u8 (byteAt s 4).toNat, .int .u8 (byteAt s 5).toNat, .int .u8 (byteAt s 6).toNat, .int .u8 (byteAt s 7).toNat] 5)) (by simp [elts])
        have hy : (Instr.yield l #[.int .i64 1, .int .u32 (num4 (byteAt s 4) (byteAt s 5) (byteAt s 6) (byteAt s 7))]).run Try.prog _ = _ := hy0
        have hcd : wr.drew.cell? ⟨Bs, 0, none⟩ = some (.string s) := hcs
        have hR := hR0.mono (answered n₁ b J Jx (elts s 1 ++ [elt s 1]) _)
        clear hy0 hR0
        gi_wp2_with fail
        refine wpIn_region_G (fun w => w.cell? ⟨Bs, 0, none⟩ = some (.string s)) 19 21 rfl (by kernel_rfl) (fun hcl => ?_)
        refine wpAnyG_take (i := 0) 8 (v := (.func (.yield l) #[] #[])) rfl rfl (by kernel_rfl) (by kernel_rfl) (by kernel_rfl) (fun _ _ _ h => h) (by kernel_rfl) (by decide) hcl ⟨by rfl, fun w hR => ?hy1_0, fun _ => rfl⟩ hcd (fun hc1 => ?rest1_0)
        case hy1_0 => (try dsimp only at hR); go_simp; try (first | rfl | (intro h; omega))
        clear hcl; have hcl := hc1; clear hc1; simp only [Act.put, List.setIfInBounds_toArray]
        refine wpAnyG_take (i := 1) 8 (v := (.int .i64 1)) rfl rfl (by kernel_rfl) (by kernel_rfl) (by kernel_rfl) (fun _ _ _ h => h) (by kernel_rfl) (by decide) hcl ⟨by rfl, fun w hR => ?hy1_1, fun _ => rfl⟩ hcd (fun hc1 => ?rest1_1)
        case hy1_1 => (try dsimp only at hR); go_simp; try (first | rfl | (intro h; omega))
        clear hcl; have hcl := hc1; clear hc1; simp only [Act.put]
        refine wpAnyG_take (i := 2) 8 (v := (.string s)) rfl rfl (by kernel_rfl) (by kernel_rfl) (by kernel_rfl) (fun _ _ _ h => h) (by kernel_rfl) (by decide) hcl ⟨by rfl, fun w hR => ?hy1_2, fun _ => rfl⟩ hcd (fun hc1 => ?rest1_2)
        case hy1_2 => (try dsimp only at hR); go_simp; try (first | rfl | (intro h; omega))
        clear hcl; have hcl := hc1; clear hc1; simp only [Act.put]
        refine wpAnyG_take (i := 3) 8 (v := (.int .i64 4)) rfl rfl (by kernel_rfl) (by kernel_rfl) (by kernel_rfl) (fun _ _ _ h => h) (by kernel_rfl) (by decide) hcl ⟨by rfl, fun w hR => ?hy1_3, fun _ => rfl⟩ hcd (fun hc1 => ?rest1_3)
        case hy1_3 => (try dsimp only at hR); go_simp; try (first | rfl | (intro h; omega))
        clear hcl; have hcl := hc1; clear hc1; simp only [Act.put]
        refine wpAnyG_take (i := 4) 8 (v := (.int .u8 ((byteAt s 4).toNat : Int))) rfl rfl (by kernel_rfl) (by kernel_rfl) (by kernel_rfl) (fun _ _ _ h => h) (by kernel_rfl) (by decide) hcl ⟨by rfl, fun w hR => ?hy1_4, fun _ => rfl⟩ hcd (fun hc1 => ?rest1_4)
        case hy1_4 => (try dsimp only at hR); go_simp; try (first | rfl | (intro h; omega))
        clear hcl; have hcl := hc1; clear hc1; simp only [Act.put]
        refine wpAnyG_take (i := 5) 8 (v := (.string s)) rfl rfl (by kernel_rfl) (by kernel_rfl) (by kernel_rfl) (fun _ _ _ h => h) (by kernel_rfl) (by decide) hcl ⟨by rfl, fun w hR => ?hy1_5, fun _ => rfl⟩ hcd (fun hc1 => ?rest1_5)
        case hy1_5 => (try dsimp only at hR); go_simp; try (first | rfl | (intro h; omega))
        clear hcl; have hcl := hc1; clear hc1; simp only [Act.put]
        refine wpAnyG_take (i := 6) 8 (v := (.int .i64 4)) rfl rfl (by kernel_rfl) (by kernel_rfl) (by kernel_rfl) (fun _ _ _ h => h) (by kernel_rfl) (by decide) hcl ⟨by rfl, fun w hR => ?hy1_6, fun _ => rfl⟩ hcd (fun hc1 => ?rest1_6)
        case hy1_6 => (try dsimp only at hR); go_simp; try (first | rfl | (intro h; omega))
        clear hcl; have hcl := hc1; clear hc1; simp only [Act.put]
        refine wpAnyG_take (i := 7) 8 (v := (.int .i64 5)) rfl rfl (by kernel_rfl) (by kernel_rfl) (by kernel_rfl) (fun _ _ _ h => h) (by kernel_rfl) (by decide) hcl ⟨by rfl, fun w hR => ?hy1_7, fun _ => rfl⟩ hcd (fun hc1 => ?rest1_7)
        case hy1_7 => (try dsimp only at hR); go_simp; try (first | rfl | (intro h; omega))
        clear hcl; have hcl := hc1; clear hc1; simp only [Act.put]
        refine wpAnyG_take (i := 8) 8 (v := (.int .u8 ((byteAt s 5).toNat : Int))) rfl rfl (by kernel_rfl) (by kernel_rfl) (by kernel_rfl) (fun _ _ _ h => h) (by kernel_rfl) (by decide) hcl ⟨by rfl, fun w hR => ?hy1_8, fun _ => rfl⟩ hcd (fun hc1 => ?rest1_8)
        case hy1_8 => (try dsimp only at hR); go_simp; try (first | rfl | (intro h; omega))
        clear hcl; have hcl := hc1; clear hc1; simp only [Act.put]
        refine wpAnyG_take (i := 9) 8 (v := (.string s)) rfl rfl (by kernel_rfl) (by kernel_rfl) (by kernel_rfl) (fun _ _ _ h => h) (by kernel_rfl) (by decide) hcl ⟨by rfl, fun w hR => ?hy1_9, fun _ => rfl⟩ hcd (fun hc1 => ?rest1_9)
        case hy1_9 => (try dsimp only at hR); go_simp; try (first | rfl | (intro h; omega))
        clear hcl; have hcl := hc1; clear hc1; simp only [Act.put]
        refine wpAnyG_take (i := 10) 8 (v := (.int .i64 4)) rfl rfl (by kernel_rfl) (by kernel_rfl) (by kernel_rfl) (fun _ _ _ h => h) (by kernel_rfl) (by decide) hcl ⟨by rfl, fun w hR => ?hy1_10, fun _ => rfl⟩ hcd (fun hc1 => ?rest1_10)
        case hy1_10 => (try dsimp only at hR); go_simp; try (first | rfl | (intro h; omega))
        clear hcl; have hcl := hc1; clear hc1; simp only [Act.put]
        refine wpAnyG_take (i := 11) 8 (v := (.int .i64 6)) rfl rfl (by kernel_rfl) (by kernel_rfl) (by kernel_rfl) (fun _ _ _ h => h) (by kernel_rfl) (by decide) hcl ⟨by rfl, fun w hR => ?hy1_11, fun _ => rfl⟩ hcd (fun hc1 => ?rest1_11)
        case hy1_11 => (try dsimp only at hR); go_simp; try (first | rfl | (intro h; omega))
        clear hcl; have hcl := hc1; clear hc1; simp only [Act.put]
        refine wpAnyG_take (i := 12) 8 (v := (.int .u8 ((byteAt s 6).toNat : Int))) rfl rfl (by kernel_rfl) (by kernel_rfl) (by kernel_rfl) (fun _ _ _ h => h) (by kernel_rfl) (by decide) hcl ⟨by rfl, fun w hR => ?hy1_12, fun _ => rfl⟩ hcd (fun hc1 => ?rest1_12)
        case hy1_12 => (try dsimp only at hR); go_simp; try (first | rfl | (intro h; omega))
        clear hcl; have hcl := hc1; clear hc1; simp only [Act.put]
        refine wpAnyG_take (i := 13) 8 (v := (.string s)) rfl rfl (by kernel_rfl) (by kernel_rfl) (by kernel_rfl) (fun _ _ _ h => h) (by kernel_rfl) (by decide) hcl ⟨by rfl, fun w hR => ?hy1_13, fun _ => rfl⟩ hcd (fun hc1 => ?rest1_13)
        case hy1_13 => (try dsimp only at hR); go_simp; try (first | rfl | (intro h; omega))
        clear hcl; have hcl := hc1; clear hc1; simp only [Act.put]
        refine wpAnyG_take (i := 14) 8 (v := (.int .i64 4)) rfl rfl (by kernel_rfl) (by kernel_rfl) (by kernel_rfl) (fun _ _ _ h => h) (by kernel_rfl) (by decide) hcl ⟨by rfl, fun w hR => ?hy1_14, fun _ => rfl⟩ hcd (fun hc1 => ?rest1_14)
        case hy1_14 => (try dsimp only at hR); go_simp; try (first | rfl | (intro h; omega))
        clear hcl; have hcl := hc1; clear hc1; simp only [Act.put]
        refine wpAnyG_take (i := 15) 8 (v := (.int .i64 7)) rfl rfl (by kernel_rfl) (by kernel_rfl) (by kernel_rfl) (fun _ _ _ h => h) (by kernel_rfl) (by decide) hcl ⟨by rfl, fun w hR => ?hy1_15, fun _ => rfl⟩ hcd (fun hc1 => ?rest1_15)
        case hy1_15 => (try dsimp only at hR); go_simp; try (first | rfl | (intro h; omega))
        clear hcl; have hcl := hc1; clear hc1; simp only [Act.put]
        refine wpAnyG_take (i := 16) 8 (v := (.int .u8 ((byteAt s 7).toNat : Int))) rfl rfl (by kernel_rfl) (by kernel_rfl) (by kernel_rfl) (fun _ _ _ h => h) (by kernel_rfl) (by decide) hcl ⟨by rfl, fun w hR => ?hy1_16, fun _ => rfl⟩ hcd (fun hc1 => ?rest1_16)
        case hy1_16 => (try dsimp only at hR); go_simp; try (first | rfl | (intro h; omega))
        clear hcl; have hcl := hc1; clear hc1; simp only [Act.put]
        refine wpAnyG_one (i := 17) (by kernel_rfl) rfl (fun K hK => ?_)
        go_simp
        refine hK _ _ (.inr (by simp [hcs, World.cell?_alloc_some])) ?_
        clear hK K
        refine wpAnyG_one (i := 18) (by kernel_rfl) rfl (fun K hK => ?_)
        go_simp
        refine ⟨trivial, fun _ => by omega, (callsIn_wide.2 (number_p _ (byteAt s 4) (byteAt s 5) (byteAt s 6) (byteAt s 7) _ (by simp [go_sem]) (by simp [go_sem]) (by simp [go_sem]) (by simp [go_sem]))).mono ?_⟩
        rintro e w' ⟨rfl, rfl⟩
        refine hK _ _ (.inr (by simp [hcs, World.cell?_alloc_some])) ?_
        clear hK K
        refine wpAnyG_one (i := 19) (by kernel_rfl) rfl (fun K hK => ?_)
        go_simp
        refine ⟨fun _ => by omega, hR.mono ?_⟩
        rintro e W3 ⟨y, rfl, hA⟩
        refine hK _ _ (.inl (by kernel_rfl)) ?_
        clear hK K
        refine wpAnyG_one (i := 20) (by kernel_rfl) rfl (fun K hK => ?_)
        go_simp
        refine hK _ _ (.inl (by kernel_rfl)) ?_
        clear hK K
        refine wpAnyG_done (by kernel_rfl) ?_ _
        clear hy hR hcd hcs hcl e0 e1 e2 e3
        cases y
        · have hJx3 := hA.2 rfl
          gi_wp2
          refine bodyPost_ret (results_none rfl _ _ _) rfl ?_
          exact ⟨⟨_, rfl⟩, .inr ⟨_, ⟨1, by omega, (elts_succ s 1).symm⟩, hJx3⟩⟩
        · obtain ⟨hJ3, hk3⟩ := hA.1 rfl
          gi_wp2
          exact ⟨⟨2, by omega, rfl, hk3.boxed (boxed_made bs' _) hsn hsb, by rw [elts_succ]; exact hJ3⟩, by simp [intOf]⟩
      · have g0 : 8 < s.size := by omega
        have g1 : 9 < s.size := by omega
        have g2 : 10 < s.size := by omega
        have g3 : 11 < s.size := by omega
        have e0 : s[8].toNat = (byteAt s 8).toNat := by rw [byteAt_get]
        have e1 : s[9].toNat = (byteAt s 9).toNat := by rw [byteAt_get]
        have e2 : s[10].toNat = (byteAt s 10).toNat := by rw [byteAt_get]
        have e3 : s[11].toNat = (byteAt s 11).toNat := by rw [byteAt_get]
        obtain ⟨fn, tmps, assign, body, hy0, hR0⟩ := hY (elts s 2) (elt s 2) _ (abides_made hJ hJ' (.cells #[.int .u8 (byteAt s 8).toNat, .int .u8 (byteAt s 9).toNat, .int .u8 (byteAt s 10).toNat, .int .u8 (byteAt s 11).toNat] 5)) (by simp [elts])
        have hy : (Instr.yield l #[.int .i64 2, .int .u32 (num4 (byteAt s 8) (byteAt s 9) (byteAt s 10) (byteAt s 11))]).run Try.prog _ = _ := hy0
        have hcd : wr.drew.cell? ⟨Bs, 0, none⟩ = some (.string s) := hcs
        have hR := hR0.mono (answered n₁ b J Jx (elts s 2 ++ [elt s 2]) _)
        clear hy0 hR0
        gi_wp2_with fail
        refine wpIn_region_G (fun w => w.cell? ⟨Bs, 0, none⟩ = some (.string s)) 19 21 rfl (by kernel_rfl) (fun hcl => ?_)
        refine wpAnyG_take (i := 0) 8 (v := (.func (.yield l) #[] #[])) rfl rfl (by kernel_rfl) (by kernel_rfl) (by kernel_rfl) (fun _ _ _ h => h) (by kernel_rfl) (by decide) hcl ⟨by rfl, fun w hR => ?hy2_0, fun _ => rfl⟩ hcd (fun hc1 => ?rest2_0)
        case hy2_0 => (try dsimp only at hR); go_simp; try (first | rfl | (intro h; omega))
        clear hcl; have hcl := hc1; clear hc1; simp only [Act.put, List.setIfInBounds_toArray]
        refine wpAnyG_take (i := 1) 8 (v := (.int .i64 2)) rfl rfl (by kernel_rfl) (by kernel_rfl) (by kernel_rfl) (fun _ _ _ h => h) (by kernel_rfl) (by decide) hcl ⟨by rfl, fun w hR => ?hy2_1, fun _ => rfl⟩ hcd (fun hc1 => ?rest2_1)
        case hy2_1 => (try dsimp only at hR); go_simp; try (first | rfl | (intro h; omega))
        clear hcl; have hcl := hc1; clear hc1; simp only [Act.put]
        refine wpAnyG_take (i := 2) 8 (v := (.string s)) rfl rfl (by kernel_rfl) (by kernel_rfl) (by kernel_rfl) (fun _ _ _ h => h) (by kernel_rfl) (by decide) hcl ⟨by rfl, fun w hR => ?hy2_2, fun _ => rfl⟩ hcd (fun hc1 => ?rest2_2)
        case hy2_2 => (try dsimp only at hR); go_simp; try (first | rfl | (intro h; omega))
        clear hcl; have hcl := hc1; clear hc1; simp only [Act.put]
        refine wpAnyG_take (i := 3) 8 (v := (.int .i64 8)) rfl rfl (by kernel_rfl) (by kernel_rfl) (by kernel_rfl) (fun _ _ _ h => h) (by kernel_rfl) (by decide) hcl ⟨by rfl, fun w hR => ?hy2_3, fun _ => rfl⟩ hcd (fun hc1 => ?rest2_3)
        case hy2_3 => (try dsimp only at hR); go_simp; try (first | rfl | (intro h; omega))
        clear hcl; have hcl := hc1; clear hc1; simp only [Act.put]
        refine wpAnyG_take (i := 4) 8 (v := (.int .u8 ((byteAt s 8).toNat : Int))) rfl rfl (by kernel_rfl) (by kernel_rfl) (by kernel_rfl) (fun _ _ _ h => h) (by kernel_rfl) (by decide) hcl ⟨by rfl, fun w hR => ?hy2_4, fun _ => rfl⟩ hcd (fun hc1 => ?rest2_4)
        case hy2_4 => (try dsimp only at hR); go_simp; try (first | rfl | (intro h; omega))
        clear hcl; have hcl := hc1; clear hc1; simp only [Act.put]
        refine wpAnyG_take (i := 5) 8 (v := (.string s)) rfl rfl (by kernel_rfl) (by kernel_rfl) (by kernel_rfl) (fun _ _ _ h => h) (by kernel_rfl) (by decide) hcl ⟨by rfl, fun w hR => ?hy2_5, fun _ => rfl⟩ hcd (fun hc1 => ?rest2_5)
        case hy2_5 => (try dsimp only at hR); go_simp; try (first | rfl | (intro h; omega))
        clear hcl; have hcl := hc1; clear hc1; simp only [Act.put]
        refine wpAnyG_take (i := 6) 8 (v := (.int .i64 8)) rfl rfl (by kernel_rfl) (by kernel_rfl) (by kernel_rfl) (fun _ _ _ h => h) (by kernel_rfl) (by decide) hcl ⟨by rfl, fun w hR => ?hy2_6, fun _ => rfl⟩ hcd (fun hc1 => ?rest2_6)
        case hy2_6 => (try dsimp only at hR); go_simp; try (first | rfl | (intro h; omega))
        clear hcl; have hcl := hc1; clear hc1; simp only [Act.put]
        refine wpAnyG_take (i := 7) 8 (v := (.int .i64 9)) rfl rfl (by kernel_rfl) (by kernel_rfl) (by kernel_rfl) (fun _ _ _ h => h) (by kernel_rfl) (by decide) hcl ⟨by rfl, fun w hR => ?hy2_7, fun _ => rfl⟩ hcd (fun hc1 => ?rest2_7)
        case hy2_7 => (try dsimp only at hR); go_simp; try (first | rfl | (intro h; omega))
        clear hcl; have hcl := hc1; clear hc1; simp only [Act.put]
        refine wpAnyG_take (i := 8) 8 (v := (.int .u8 ((byteAt s 9).toNat : Int))) rfl rfl (by kernel_rfl) (by kernel_rfl) (by kernel_rfl) (fun _ _ _ h => h) (by kernel_rfl) (by decide) hcl ⟨by rfl, fun w hR => ?hy2_8, fun _ => rfl⟩ hcd (fun hc1 => ?rest2_8)
        case hy2_8 => (try dsimp only at hR); go_simp; try (first | rfl | (intro h; omega))
        clear hcl; have hcl := hc1; clear hc1; simp only [Act.put]
        refine wpAnyG_take (i := 9) 8 (v := (.string s)) rfl rfl (by kernel_rfl) (by kernel_rfl) (by kernel_rfl) (fun _ _ _ h => h) (by kernel_rfl) (by decide) hcl ⟨by rfl, fun w hR => ?hy2_9, fun _ => rfl⟩ hcd (fun hc1 => ?rest2_9)
        case hy2_9 => (try dsimp only at hR); go_simp; try (first | rfl | (intro h; omega))
        clear hcl; have hcl := hc1; clear hc1; simp only [Act.put]
        refine wpAnyG_take (i := 10) 8 (v := (.int .i64 8)) rfl rfl (by kernel_rfl) (by kernel_rfl) (by kernel_rfl) (fun _ _ _ h => h) (by kernel_rfl) (by decide) hcl ⟨by rfl, fun w hR => ?hy2_10, fun _ => rfl⟩ hcd (fun hc1 => ?rest2_10)
        case hy2_10 => (try dsimp only at hR); go_simp; try (first | rfl | (intro h; omega))
        clear hcl; have hcl := hc1; clear hc1; simp only [Act.put]
        refine wpAnyG_take (i := 11) 8 (v := (.int .i64 10)) rfl rfl (by kernel_rfl) (by kernel_rfl) (by kernel_rfl) (fun _ _ _ h => h) (by kernel_rfl) (by decide) hcl ⟨by rfl, fun w hR => ?hy2_11, fun _ => rfl⟩ hcd (fun hc1 => ?rest2_11)
        case hy2_11 => (try dsimp only at hR); go_simp; try (first | rfl | (intro h; omega))
        clear hcl; have hcl := hc1; clear hc1; simp only [Act.put]
        refine wpAnyG_take (i := 12) 8 (v := (.int .u8 ((byteAt s 10).toNat : Int))) rfl rfl (by kernel_rfl) (by kernel_rfl) (by kernel_rfl) (fun _ _ _ h => h) (by kernel_rfl) (by decide) hcl ⟨by rfl, fun w hR => ?hy2_12, fun _ => rfl⟩ hcd (fun hc1 => ?rest2_12)
        case hy2_12 => (try dsimp only at hR); go_simp; try (first | rfl | (intro h; omega))
        clear hcl; have hcl := hc1; clear hc1; simp only [Act.put]
        refine wpAnyG_take (i := 13) 8 (v := (.string s)) rfl rfl (by kernel_rfl) (by kernel_rfl) (by kernel_rfl) (fun _ _ _ h => h) (by kernel_rfl) (by decide) hcl ⟨by rfl, fun w hR => ?hy2_13, fun _ => rfl⟩ hcd (fun hc1 => ?rest2_13)
        case hy2_13 => (try dsimp only at hR); go_simp; try (first | rfl | (intro h; omega))
        clear hcl; have hcl := hc1; clear hc1; simp only [Act.put]
        refine wpAnyG_take (i := 14) 8 (v := (.int .i64 8)) rfl rfl (by kernel_rfl) (by kernel_rfl) (by kernel_rfl) (fun _ _ _ h => h) (by kernel_rfl) (by decide) hcl ⟨by rfl, fun w hR => ?hy2_14, fun _ => rfl⟩ hcd (fun hc1 => ?rest2_14)
        case hy2_14 => (try dsimp only at hR); go_simp; try (first | rfl | (intro h; omega))
        clear hcl; have hcl := hc1; clear hc1; simp only [Act.put]
        refine wpAnyG_take (i := 15) 8 (v := (.int .i64 11)) rfl rfl (by kernel_rfl) (by kernel_rfl) (by kernel_rfl) (fun _ _ _ h => h) (by kernel_rfl) (by decide) hcl ⟨by rfl, fun w hR => ?hy2_15, fun _ => rfl⟩ hcd (fun hc1 => ?rest2_15)
        case hy2_15 => (try dsimp only at hR); go_simp; try (first | rfl | (intro h; omega))
        clear hcl; have hcl := hc1; clear hc1; simp only [Act.put]
        refine wpAnyG_take (i := 16) 8 (v := (.int .u8 ((byteAt s 11).toNat : Int))) rfl rfl (by kernel_rfl) (by kernel_rfl) (by kernel_rfl) (fun _ _ _ h => h) (by kernel_rfl) (by decide) hcl ⟨by rfl, fun w hR => ?hy2_16, fun _ => rfl⟩ hcd (fun hc1 => ?rest2_16)
        case hy2_16 => (try dsimp only at hR); go_simp; try (first | rfl | (intro h; omega))
        clear hcl; have hcl := hc1; clear hc1; simp only [Act.put]
        refine wpAnyG_one (i := 17) (by kernel_rfl) rfl (fun K hK => ?_)
        go_simp
        refine hK _ _ (.inr (by simp [hcs, World.cell?_alloc_some])) ?_
        clear hK K
        refine wpAnyG_one (i := 18) (by kernel_rfl) rfl (fun K hK => ?_)
        go_simp
        refine ⟨trivial, fun _ => by omega, (callsIn_wide.2 (number_p _ (byteAt s 8) (byteAt s 9) (byteAt s 10) (byteAt s 11) _ (by simp [go_sem]) (by simp [go_sem]) (by simp [go_sem]) (by simp [go_sem]))).mono ?_⟩
        rintro e w' ⟨rfl, rfl⟩
        refine hK _ _ (.inr (by simp [hcs, World.cell?_alloc_some])) ?_
        clear hK K
        refine wpAnyG_one (i := 19) (by kernel_rfl) rfl (fun K hK => ?_)
        go_simp
        refine ⟨fun _ => by omega, hR.mono ?_⟩
        rintro e W3 ⟨y, rfl, hA⟩
        refine hK _ _ (.inl (by kernel_rfl)) ?_
        clear hK K
        refine wpAnyG_one (i := 20) (by kernel_rfl) rfl (fun K hK => ?_)
        go_simp
        refine hK _ _ (.inl (by kernel_rfl)) ?_
        clear hK K
        refine wpAnyG_done (by kernel_rfl) ?_ _
        clear hy hR hcd hcs hcl e0 e1 e2 e3
        cases y
        · have hJx3 := hA.2 rfl
          gi_wp2
          refine bodyPost_ret (results_none rfl _ _ _) rfl ?_
          exact ⟨⟨_, rfl⟩, .inr ⟨_, ⟨2, by omega, (elts_succ s 2).symm⟩, hJx3⟩⟩
        · obtain ⟨hJ3, hk3⟩ := hA.1 rfl
          gi_wp2
          exact ⟨⟨3, by omega, rfl, hk3.boxed (boxed_made bs' _) hsn hsb, by rw [elts_succ]; exact hJ3⟩, by simp [intOf]⟩
      · have g0 : 12 < s.size := by omega
        have g1 : 13 < s.size := by omega
        have g2 : 14 < s.size := by omega
        have g3 : 15 < s.size := by omega
        have e0 : s[12].toNat = (byteAt s 12).toNat := by rw [byteAt_get]
        have e1 : s[13].toNat = (byteAt s 13).toNat := by rw [byteAt_get]
        have e2 : s[14].toNat = (byteAt s 14).toNat := by rw [byteAt_get]
        have e3 : s[15].toNat = (byteAt s 15).toNat := by rw [byteAt_get]
        obtain ⟨fn, tmps, assign, body, hy0, hR0⟩ := hY (elts s 3) (elt s 3) _ (abides_made hJ hJ' (.cells #[.int .u8 (byteAt s 12).toNat, .int .u8 (byteAt s 13).toNat, .int .u8 (byteAt s 14).toNat, .int .u8 (byteAt s 15).toNat] 5)) (by simp [elts])
        have hy : (Instr.yield l #[.int .i64 3, .int .u32 (num4 (byteAt s 12) (byteAt s 13) (byteAt s 14) (byteAt s 15))]).run Try.prog _ = _ := hy0
        have hcd : wr.drew.cell? ⟨Bs, 0, none⟩ = some (.string s) := hcs
        have hR := hR0.mono (answered n₁ b J Jx (elts s 3 ++ [elt s 3]) _)
        clear hy0 hR0
        gi_wp2_with fail
        refine wpIn_region_G (fun w => w.cell? ⟨Bs, 0, none⟩ = some (.string s)) 19 21 rfl (by kernel_rfl) (fun hcl => ?_)
        refine wpAnyG_take (i := 0) 8 (v := (.func (.yield l) #[] #[])) rfl rfl (by kernel_rfl) (by kernel_rfl) (by kernel_rfl) (fun _ _ _ h => h) (by kernel_rfl) (by decide) hcl ⟨by rfl, fun w hR => ?hy3_0, fun _ => rfl⟩ hcd (fun hc1 => ?rest3_0)
        case hy3_0 => (try dsimp only at hR); go_simp; try (first | rfl | (intro h; omega))
        clear hcl; have hcl := hc1; clear hc1; simp only [Act.put, List.setIfInBounds_toArray]
        refine wpAnyG_take (i := 1) 8 (v := (.int .i64 3)) rfl rfl (by kernel_rfl) (by kernel_rfl) (by kernel_rfl) (fun _ _ _ h => h) (by kernel_rfl) (by decide) hcl ⟨by rfl, fun w hR => ?hy3_1, fun _ => rfl⟩ hcd (fun hc1 => ?rest3_1)
        case hy3_1 => (try dsimp only at hR); go_simp; try (first | rfl | (intro h; omega))
        clear hcl; have hcl := hc1; clear hc1; simp only [Act.put]
        refine wpAnyG_take (i := 2) 8 (v := (.string s)) rfl rfl (by kernel_rfl) (by kernel_rfl) (by kernel_rfl) (fun _ _ _ h => h) (by kernel_rfl) (by decide) hcl ⟨by rfl, fun w hR => ?hy3_2, fun _ => rfl⟩ hcd (fun hc1 => ?rest3_2)
        case hy3_2 => (try dsimp only at hR); go_simp; try (first | rfl | (intro h; omega))
        clear hcl; have hcl := hc1; clear hc1; simp only [Act.put]
        refine wpAnyG_take (i := 3) 8 (v := (.int .i64 12)) rfl rfl (by kernel_rfl) (by kernel_rfl) (by kernel_rfl) (fun _ _ _ h => h) (by kernel_rfl) (by decide) hcl ⟨by rfl, fun w hR => ?hy3_3, fun _ => rfl⟩ hcd (fun hc1 => ?rest3_3)
        case hy3_3 => (try dsimp only at hR); go_simp; try (first | rfl | (intro h; omega))
        clear hcl; have hcl := hc1; clear hc1; simp only [Act.put]
        refine wpAnyG_take (i := 4) 8 (v := (.int .u8 ((byteAt s 12).toNat : Int))) rfl rfl (by kernel_rfl) (by kernel_rfl) (by kernel_rfl) (fun _ _ _ h => h) (by kernel_rfl) (by decide) hcl ⟨by rfl, fun w hR => ?hy3_4, fun _ => rfl⟩ hcd (fun hc1 => ?rest3_4)
        case hy3_4 => (try dsimp only at hR); go_simp; try (first | rfl | (intro h; omega))
        clear hcl; have hcl := hc1; clear hc1; simp only [Act.put]
        refine wpAnyG_take (i := 5) 8 (v := (.string s)) rfl rfl (by kernel_rfl) (by kernel_rfl) (by kernel_rfl) (fun _ _ _ h => h) (by kernel_rfl) (by decide) hcl ⟨by rfl, fun w hR => ?hy3_5, fun _ => rfl⟩ hcd (fun hc1 => ?rest3_5)
        case hy3_5 => (try dsimp only at hR); go_simp; try (first | rfl | (intro h; omega))
        clear hcl; have hcl := hc1; clear hc1; simp only [Act.put]
        refine wpAnyG_take (i := 6) 8 (v := (.int .i64 12)) rfl rfl (by kernel_rfl) (by kernel_rfl) (by kernel_rfl) (fun _ _ _ h => h) (by kernel_rfl) (by decide) hcl ⟨by rfl, fun w hR => ?hy3_6, fun _ => rfl⟩ hcd (fun hc1 => ?rest3_6)
        case hy3_6 => (try dsimp only at hR); go_simp; try (first | rfl | (intro h; omega))
        clear hcl; have hcl := hc1; clear hc1; simp only [Act.put]
        refine wpAnyG_take (i := 7) 8 (v := (.int .i64 13)) rfl rfl (by kernel_rfl) (by kernel_rfl) (by kernel_rfl) (fun _ _ _ h => h) (by kernel_rfl) (by decide) hcl ⟨by rfl, fun w hR => ?hy3_7, fun _ => rfl⟩ hcd (fun hc1 => ?rest3_7)
        case hy3_7 => (try dsimp only at hR); go_simp; try (first | rfl | (intro h; omega))
        clear hcl; have hcl := hc1; clear hc1; simp only [Act.put]
        refine wpAnyG_take (i := 8) 8 (v := (.int .u8 ((byteAt s 13).toNat : Int))) rfl rfl (by kernel_rfl) (by kernel_rfl) (by kernel_rfl) (fun _ _ _ h => h) (by kernel_rfl) (by decide) hcl ⟨by rfl, fun w hR => ?hy3_8, fun _ => rfl⟩ hcd (fun hc1 => ?rest3_8)
        case hy3_8 => (try dsimp only at hR); go_simp; try (first | rfl | (intro h; omega))
        clear hcl; have hcl := hc1; clear hc1; simp only [Act.put]
        refine wpAnyG_take (i := 9) 8 (v := (.string s)) rfl rfl (by kernel_rfl) (by kernel_rfl) (by kernel_rfl) (fun _ _ _ h => h) (by kernel_rfl) (by decide) hcl ⟨by rfl, fun w hR => ?hy3_9, fun _ => rfl⟩ hcd (fun hc1 => ?rest3_9)
        case hy3_9 => (try dsimp only at hR); go_simp; try (first | rfl | (intro h; omega))
        clear hcl; have hcl := hc1; clear hc1; simp only [Act.put]
        refine wpAnyG_take (i := 10) 8 (v := (.int .i64 12)) rfl rfl (by kernel_rfl) (by kernel_rfl) (by kernel_rfl) (fun _ _ _ h => h) (by kernel_rfl) (by decide) hcl ⟨by rfl, fun w hR => ?hy3_10, fun _ => rfl⟩ hcd (fun hc1 => ?rest3_10)
        case hy3_10 => (try dsimp only at hR); go_simp; try (first | rfl | (intro h; omega))
        clear hcl; have hcl := hc1; clear hc1; simp only [Act.put]
        refine wpAnyG_take (i := 11) 8 (v := (.int .i64 14)) rfl rfl (by kernel_rfl) (by kernel_rfl) (by kernel_rfl) (fun _ _ _ h => h) (by kernel_rfl) (by decide) hcl ⟨by rfl, fun w hR => ?hy3_11, fun _ => rfl⟩ hcd (fun hc1 => ?rest3_11)
        case hy3_11 => (try dsimp only at hR); go_simp; try (first | rfl | (intro h; omega))
        clear hcl; have hcl := hc1; clear hc1; simp only [Act.put]
        refine wpAnyG_take (i := 12) 8 (v := (.int .u8 ((byteAt s 14).toNat : Int))) rfl rfl (by kernel_rfl) (by kernel_rfl) (by kernel_rfl) (fun _ _ _ h => h) (by kernel_rfl) (by decide) hcl ⟨by rfl, fun w hR => ?hy3_12, fun _ => rfl⟩ hcd (fun hc1 => ?rest3_12)
        case hy3_12 => (try dsimp only at hR); go_simp; try (first | rfl | (intro h; omega))
        clear hcl; have hcl := hc1; clear hc1; simp only [Act.put]
        refine wpAnyG_take (i := 13) 8 (v := (.string s)) rfl rfl (by kernel_rfl) (by kernel_rfl) (by kernel_rfl) (fun _ _ _ h => h) (by kernel_rfl) (by decide) hcl ⟨by rfl, fun w hR => ?hy3_13, fun _ => rfl⟩ hcd (fun hc1 => ?rest3_13)
        case hy3_13 => (try dsimp only at hR); go_simp; try (first | rfl | (intro h; omega))
        clear hcl; have hcl := hc1; clear hc1; simp only [Act.put]
        refine wpAnyG_take (i := 14) 8 (v := (.int .i64 12)) rfl rfl (by kernel_rfl) (by kernel_rfl) (by kernel_rfl) (fun _ _ _ h => h) (by kernel_rfl) (by decide) hcl ⟨by rfl, fun w hR => ?hy3_14, fun _ => rfl⟩ hcd (fun hc1 => ?rest3_14)
        case hy3_14 => (try dsimp only at hR); go_simp; try (first | rfl | (intro h; omega))
        clear hcl; have hcl := hc1; clear hc1; simp only [Act.put]
        refine wpAnyG_take (i := 15) 8 (v := (.int .i64 15)) rfl rfl (by kernel_rfl) (by kernel_rfl) (by kernel_rfl) (fun _ _ _ h => h) (by kernel_rfl) (by decide) hcl ⟨by rfl, fun w hR => ?hy3_15, fun _ => rfl⟩ hcd (fun hc1 => ?rest3_15)
        case hy3_15 => (try dsimp only at hR); go_simp; try (first | rfl | (intro h; omega))
        clear hcl; have hcl := hc1; clear hc1; simp only [Act.put]
        refine wpAnyG_take (i := 16) 8 (v := (.int .u8 ((byteAt s 15).toNat : Int))) rfl rfl (by kernel_rfl) (by kernel_rfl) (by kernel_rfl) (fun _ _ _ h => h) (by kernel_rfl) (by decide) hcl ⟨by rfl, fun w hR => ?hy3_16, fun _ => rfl⟩ hcd (fun hc1 => ?rest3_16)
        case hy3_16 => (try dsimp only at hR); go_simp; try (first | rfl | (intro h; omega))
        clear hcl; have hcl := hc1; clear hc1; simp only [Act.put]
        refine wpAnyG_one (i := 17) (by kernel_rfl) rfl (fun K hK => ?_)
        go_simp
        refine hK _ _ (.inr (by simp [hcs, World.cell?_alloc_some])) ?_
        clear hK K
        refine wpAnyG_one (i := 18) (by kernel_rfl) rfl (fun K hK => ?_)
        go_simp
        refine ⟨trivial, fun _ => by omega, (callsIn_wide.2 (number_p _ (byteAt s 12) (byteAt s 13) (byteAt s 14) (byteAt s 15) _ (by simp [go_sem]) (by simp [go_sem]) (by simp [go_sem]) (by simp [go_sem]))).mono ?_⟩
        rintro e w' ⟨rfl, rfl⟩
        refine hK _ _ (.inr (by simp [hcs, World.cell?_alloc_some])) ?_
        clear hK K
        refine wpAnyG_one (i := 19) (by kernel_rfl) rfl (fun K hK => ?_)
        go_simp
        refine ⟨fun _ => by omega, hR.mono ?_⟩
        rintro e W3 ⟨y, rfl, hA⟩
        refine hK _ _ (.inl (by kernel_rfl)) ?_
        clear hK K
        refine wpAnyG_one (i := 20) (by kernel_rfl) rfl (fun K hK => ?_)
        go_simp
        refine hK _ _ (.inl (by kernel_rfl)) ?_
        clear hK K
        refine wpAnyG_done (by kernel_rfl) ?_ _
        clear hy hR hcd hcs hcl e0 e1 e2 e3
        cases y
        · have hJx3 := hA.2 rfl
          gi_wp2
          refine bodyPost_ret (results_none rfl _ _ _) rfl ?_
          exact ⟨⟨_, rfl⟩, .inr ⟨_, ⟨3, by omega, (elts_succ s 3).symm⟩, hJx3⟩⟩
        · obtain ⟨hJ3, hk3⟩ := hA.1 rfl
          gi_wp2
          exact ⟨⟨4, by omega, rfl, hk3.boxed (boxed_made bs' _) hsn hsb, by rw [elts_succ]; exact hJ3⟩, by simp [intOf]⟩
    · have h4 : k = 4 := by omega
      subst h4
      clear h16
      gi_wp2
      go_end0
      exact ⟨⟨_, rfl⟩, .inl ⟨_, rfl, hJ'⟩⟩
end Go.Proofs.Ytfnhnicjomaelaa
