/-
  The contract of hash.End: an array of closures, called one after another. Conditions: the numbers fit their kinds. The words visited: hash.each and its closure; the document's Words. Conditions: the words lie where the slice says, there are at most a hundred.
-/
import Derived.Test.YtaoaapbbadipfaaMGa
import Derived.Test.YtaoaapbbadipfaaMGb
import Derived.Handy
import Derived.Lib.Hide
/- The contract of hash.End: an array of closures, called one after another. Conditions: the numbers fit their kinds. -/
section
namespace Go.Proofs.Ytaoaapbbadipfaa.Hs
set_option linter.unusedSimpArgs false
set_option linter.unusedVariables false
set_option maxRecDepth 100000
open Go.RowKit

theorem arrInfo : (Try.prog.info? 124).map (·.size) = some 6 := by kernel_rfl
abbrev xorV (b : Nat) : Value := .func (.func 79) #[] #[.pointer (some ⟨b, 0, none⟩)]
abbrev folV (b : Nat) : Value := .func (.func 83) #[] #[.pointer (some ⟨b, 0, none⟩)]
abbrev mulV (b : Nat) : Value := .func (.func 84) #[] #[.pointer (some ⟨b, 0, none⟩)]
theorem xor1_p (h n : BitVec 32) (b : Nat) (w : World) (g : Held w b 22 #[.int .u32 (u n)]) : Calls Try.prog 79 #[.int .u32 (u h), .pointer (some ⟨b, 0, none⟩)] w fun e w' => e = .returned (.int .u32 (u (h ^^^ n))) ∧ w = w' := by
  have c : w.cell? ⟨b, 0, none⟩ = some (.int .u32 (u n)) := g.cell 0
  go_enter Try.func79, Try.ntmps79
  go_wp2
  go_ret
  exact ⟨by rw [← u_xor]; rfl, rfl⟩
theorem fol16_p (h : BitVec 32) (b : Nat) (w : World) (g : Held w b 3 #[.int .i64 16]) : Calls Try.prog 83 #[.int .u32 (u h), .pointer (some ⟨b, 0, none⟩)] w fun e w' => e = .returned (.int .u32 (u (foldB 16 h))) ∧ w = w' := by
  have c : w.cell? ⟨b, 0, none⟩ = some (.int .i64 16) := g.cell 0
  go_enter Try.func83, Try.ntmps83
  go_wp2
  go_ret
  exact ⟨by rw [← u_fold16]; rfl, rfl⟩
theorem fol13_p (h : BitVec 32) (b : Nat) (w : World) (g : Held w b 3 #[.int .i64 13]) : Calls Try.prog 83 #[.int .u32 (u h), .pointer (some ⟨b, 0, none⟩)] w fun e w' => e = .returned (.int .u32 (u (foldB 13 h))) ∧ w = w' := by
  have c : w.cell? ⟨b, 0, none⟩ = some (.int .i64 13) := g.cell 0
  go_enter Try.func83, Try.ntmps83
  go_wp2
  go_ret
  exact ⟨by rw [← u_fold13]; rfl, rfl⟩
theorem mul1_p (h : BitVec 32) (b : Nat) (w : World) (g : Held w b 22 #[.int .u32 2246822507]) : Calls Try.prog 84 #[.int .u32 (u h), .pointer (some ⟨b, 0, none⟩)] w fun e w' => e = .returned (.int .u32 (u (h * 2246822507#32))) ∧ w = w' := by
  have c : w.cell? ⟨b, 0, none⟩ = some (.int .u32 2246822507) := g.cell 0
  go_enter Try.func84, Try.ntmps84
  go_wp2
  go_ret
  exact ⟨by rw [← ue1]; rfl, rfl⟩
theorem mul2_p (h : BitVec 32) (b : Nat) (w : World) (g : Held w b 22 #[.int .u32 3266489909]) : Calls Try.prog 84 #[.int .u32 (u h), .pointer (some ⟨b, 0, none⟩)] w fun e w' => e = .returned (.int .u32 (u (h * 3266489909#32))) ∧ w = w' := by
  have c : w.cell? ⟨b, 0, none⟩ = some (.int .u32 3266489909) := g.cell 0
  go_enter Try.func84, Try.ntmps84
  go_wp2
  go_ret
  exact ⟨by rw [← ue2]; rfl, rfl⟩
theorem folding_m (s : Int) (w : World) : Calls Try.prog 80 #[.int .i64 s] w fun e w' => ∃ b, e = .returned (folV b) ∧ Mem w w' [(b, 3, #[.int .i64 s])] := by
  go_enter Try.func80, Try.ntmps80
  go_wp2
  go_ret
  exact ⟨_, rfl, (Mem.start w).alloc _ _⟩
theorem multiplying_m (s : Int) (w : World) : Calls Try.prog 81 #[.int .u32 s] w fun e w' => ∃ b, e = .returned (mulV b) ∧ Mem w w' [(b, 22, #[.int .u32 s])] := by
  go_enter Try.func81, Try.ntmps81
  go_wp2
  go_ret
  exact ⟨_, rfl, (Mem.start w).alloc _ _⟩
set_option maxRecDepth 100000 in
set_option maxHeartbeats 1000000 in
theorem ending_m (n : BitVec 32) (w : World) : Calls Try.prog 73 #[.int .u32 (u n)] w fun e w' => ∃ b0 br b1 b2 b3 b4 b5, e = .returned (.agg #[xorV b0, folV b1, mulV b2, folV b3, mulV b4, folV b5]) ∧ Mem w w' [(b0, 22, #[.int .u32 (u n)]), (br, 124, #[xorV b0, folV b1, mulV b2, folV b3, mulV b4, folV b5]), (b1, 3, #[.int .i64 16]), (b2, 22, #[.int .u32 2246822507]), (b3, 3, #[.int .i64 13]), (b4, 22, #[.int .u32 3266489909]), (b5, 3, #[.int .i64 16])] := by
  have H := Mem.start w
  go_enter Try.func73, Try.ntmps73
  go_upto_region 1 with (first | ((with_reducible show wpList _ _ _ _ _ (World.alloc _ (.cells _ _))); refine mem_newb H ?_; intro b0 w3 hbk H2; try rw [← hbk]; clear hbk H; have H := H2; clear H2; simp only [List.cons_append, List.nil_append, List.set_cons_zero, List.set_cons_succ, List.setIfInBounds_toArray] at H))
  go_wp2_with (first
    | go_skip
    | (go_at_call 80; refine (folding_m _ _).mono ?_; rintro e w2 ⟨bj, rfl, hm⟩; have H2 := H.join hm; clear H hm; have H := H2; clear H2; simp only [List.cons_append, List.nil_append, List.set_cons_zero, List.set_cons_succ, List.setIfInBounds_toArray] at H)
    | (go_at_call 81; refine (multiplying_m _ _).mono ?_; rintro e w2 ⟨bj, rfl, hm⟩; have H2 := H.join hm; clear H hm; have H := H2; clear H2; simp only [List.cons_append, List.nil_append, List.set_cons_zero, List.set_cons_succ, List.setIfInBounds_toArray] at H)
    | ((with_reducible show wpList _ _ _ (⟨_, .store 124 _ _, _, _, _, _⟩ :: _) _ _); refine mem_store (i := 1) H (by first | exact wanted_none rfl | exact wanted_some rfl rfl rfl rfl) (by exact rfl) (by exact rfl) (by exact rfl) (by exact rfl) (by exact arrInfo) (by exact rfl) (by exact rfl) ?_; intro w2 H2; clear H; have H := H2; clear H2; simp only [List.cons_append, List.nil_append, List.set_cons_zero, List.set_cons_succ, List.setIfInBounds_toArray] at H))
  refine bodyPost_ret (results_cell_row (p := 2) (ty := 124) rfl _ _ _ 124 _ (0, 0) _ rfl (H.at 1 rfl) Try.underlying124 rfl arrInfo) rfl ?_
  exact ⟨_, _, _, _, _, _, _, rfl, H⟩
theorem idx0 (b0 b1 b2 b3 b4 b5 : Nat) (w : World) : (Instr.index 124 (.agg #[xorV b0, folV b1, mulV b2, folV b3, mulV b4, folV b5]) (.int .i64 0)).run Try.prog w = .ok (xorV b0) w := by kernel_rfl
theorem idx1 (b0 b1 b2 b3 b4 b5 : Nat) (w : World) : (Instr.index 124 (.agg #[xorV b0, folV b1, mulV b2, folV b3, mulV b4, folV b5]) (.int .i64 1)).run Try.prog w = .ok (folV b1) w := by kernel_rfl
theorem idx2 (b0 b1 b2 b3 b4 b5 : Nat) (w : World) : (Instr.index 124 (.agg #[xorV b0, folV b1, mulV b2, folV b3, mulV b4, folV b5]) (.int .i64 2)).run Try.prog w = .ok (mulV b2) w := by kernel_rfl
theorem idx3 (b0 b1 b2 b3 b4 b5 : Nat) (w : World) : (Instr.index 124 (.agg #[xorV b0, folV b1, mulV b2, folV b3, mulV b4, folV b5]) (.int .i64 3)).run Try.prog w = .ok (folV b3) w := by kernel_rfl
theorem idx4 (b0 b1 b2 b3 b4 b5 : Nat) (w : World) : (Instr.index 124 (.agg #[xorV b0, folV b1, mulV b2, folV b3, mulV b4, folV b5]) (.int .i64 4)).run Try.prog w = .ok (mulV b4) w := by kernel_rfl
theorem idx5 (b0 b1 b2 b3 b4 b5 : Nat) (w : World) : (Instr.index 124 (.agg #[xorV b0, folV b1, mulV b2, folV b3, mulV b4, folV b5]) (.int .i64 5)).run Try.prog w = .ok (folV b5) w := by kernel_rfl
set_option maxRecDepth 100000 in
set_option maxHeartbeats 1000000 in
theorem end_p (h n : BitVec 32) (w : World) : Calls Try.prog 64 #[.int .u32 (u h), .int .u32 (u n)] w fun e w' => e = .returned (.int .u32 (u (endB h n))) ∧ Below w.heap.size w w' := by
  go_enter Try.func64, Try.ntmps64
  go_wp2_with (go_at_call 73; refine (ending_m n _).mono ?_; rintro e w2 ⟨b0, br, b1, b2, b3, b4, b5, rfl, H⟩)
  have i0 := idx0 b0 b1 b2 b3 b4 b5
  have i1 := idx1 b0 b1 b2 b3 b4 b5
  have i2 := idx2 b0 b1 b2 b3 b4 b5
  have i3 := idx3 b0 b1 b2 b3 b4 b5
  have i4 := idx4 b0 b1 b2 b3 b4 b5
  have i5 := idx5 b0 b1 b2 b3 b4 b5
  refine wp_loop_rounds 7 ?_
  rw [rounds_succ]
  go_wp2_with (go_at_call 79; refine (xor1_p _ _ _ _ (H.at 0 rfl)).mono ?_; rintro e w9 ⟨rfl, rfl⟩)
  rw [rounds_succ]
  go_wp2_with (go_at_call 83; refine (fol16_p _ _ _ (H.at 2 rfl)).mono ?_; rintro e w9 ⟨rfl, rfl⟩)
  rw [rounds_succ]
  go_wp2_with (go_at_call 84; refine (mul1_p _ _ _ (H.at 3 rfl)).mono ?_; rintro e w9 ⟨rfl, rfl⟩)
  rw [rounds_succ]
  go_wp2_with (go_at_call 83; refine (fol13_p _ _ _ (H.at 4 rfl)).mono ?_; rintro e w9 ⟨rfl, rfl⟩)
  rw [rounds_succ]
  go_wp2_with (go_at_call 84; refine (mul2_p _ _ _ (H.at 5 rfl)).mono ?_; rintro e w9 ⟨rfl, rfl⟩)
  rw [rounds_succ]
  go_wp2_with (go_at_call 83; refine (fol16_p _ _ _ (H.at 6 rfl)).mono ?_; rintro e w9 ⟨rfl, rfl⟩)
  rw [rounds_succ]
  go_wp2
  go_ret
  exact ⟨rfl, H.below⟩
end Go.Proofs.Ytaoaapbbadipfaa.Hs
end
/- The words visited: hash.each and its closure; the document's Words. Conditions: the words lie where the slice says, there are at most a hundred. -/
section
namespace Go.Proofs.Ytaoaapbbadipfaa.Hs
set_option linter.unusedSimpArgs false
set_option linter.unusedVariables false
set_option maxRecDepth 100000
open Go.ChangeShapes Go.WideShapes Go.ChangeAt Go.RowKit Go.Shelf
attribute [local go_sem] Oper.semAt_some

/-- the words of a slice, in blocks below B -/
def WordsAt (B : Nat) (w : World) (A : Option Addr) (len : Nat) (f : Nat → BitVec 32) : Prop :=
  ∀ k, k < len → ∃ b o, A = some ⟨b, o, none⟩ ∧ b < B ∧ w.cell? ⟨b, o + k, none⟩ = some (.int .u32 (u (f k)))
theorem WordsAt.same {B : Nat} {w w' : World} {A : Option Addr} {len : Nat} {f : Nat → BitVec 32} (h : WordsAt B w A len f) (hb : ∀ k, k < B → w'.heap[k]? = w.heap[k]?) : WordsAt B w' A len f := fun k hk => by
  obtain ⟨b, o, e, hB, hc⟩ := h k hk
  refine ⟨b, o, e, hB, ?_⟩
  rw [← hc]
  unfold World.cell?
  rw [hb b hB]
theorem WordsAt.mono {B B' : Nat} {w : World} {A : Option Addr} {len : Nat} {f : Nat → BitVec 32} (h : WordsAt B w A len f) (hb : B ≤ B') : WordsAt B' w A len f := fun k hk => by
  obtain ⟨b, o, e, hB, hc⟩ := h k hk
  exact ⟨b, o, e, by omega, hc⟩
theorem WordsAt.below {B : Nat} {w w' : World} {A : Option Addr} {len : Nat} {f : Nat → BitVec 32} (h : WordsAt B w A len f) (hb : Below B w w') : WordsAt B w' A len f := h.same hb.block
theorem WordsAt.none (B : Nat) (w : World) (A : Option Addr) (f : Nat → BitVec 32) : WordsAt B w A 0 f := fun k hk => absurd hk (by omega)
/-- what is yielded at k -/
def wN (f : Nat → BitVec 32) (len k : Nat) : Int := if k < len then u (f k) else 0
abbrev encW (f : Nat → BitVec 32) (len k : Nat) : Array Value := #[.int .u32 (wN f len k), .bool (decide (k < len))]
theorem encW_yes {f : Nat → BitVec 32} {len k : Nat} (h : k < len) : encW f len k = #[.int .u32 (u (f k)), .bool true] := by simp [encW, wN, h]
theorem encW_no {f : Nat → BitVec 32} {len k : Nat} (h : ¬ k < len) : encW f len k = #[.int .u32 0, .bool false] := by simp [encW, wN, h]
theorem each_p (A : Option Addr) (len cap : Nat) (w : World) : Calls Try.prog 62 #[.slice A len cap] w fun e w' =>
    ∃ b, e = .returned (.func (.func 71) #[] #[.pointer (some ⟨b, 0, none⟩)]) ∧ Mem w w' [(b, 107, #[.slice A len cap])] := by
  go_enter Try.func62, Try.ntmps62
  go_wp2
  go_ret
  exact ⟨_, rfl, (Mem.start w).alloc _ _⟩
/-- what a round leaves, by its answer -/
def AnsweredW (n₁ : Nat) (J Jx : List Nat → World → Prop) (pre : List Nat) (W : World) (y : Bool) (W' : World) : Prop := (y = true → J pre W' ∧ KeepsBut n₁ n₁ W W') ∧ (y = false → Jx pre W')
theorem answeredW (n₁ : Nat) (J Jx : List Nat → World → Prop) (pre : List Nat) (W : World) : ∀ (e : Ending) (W' : World), ((e = .returned (.bool true) ∧ J pre W' ∧ KeepsBut n₁ n₁ W W') ∨ (e = .returned (.bool false) ∧ Jx pre W')) → ∃ y, e = .returned (.bool y) ∧ AnsweredW n₁ J Jx pre W y W' := by
  rintro e W' (⟨rfl, h1, h2⟩ | ⟨rfl, h1⟩)
  · exact ⟨true, rfl, fun _ => ⟨h1, h2⟩, (fun h => by cases h)⟩
  · exact ⟨false, rfl, (fun h => by cases h), fun _ => h1⟩
set_option maxRecDepth 100000 in
set_option maxHeartbeats 2000000 in
theorem each1_in (n : Nat) (hn : 2 ≤ n) (l bx n₁ : Nat) (A : Option Addr) (len cap : Nat) (hl : len ≤ cap) (h100 : len ≤ 100) (f : Nat → BitVec 32) (J Jx : List Nat → World → Prop)
    (hY : ∀ pre x V, J pre V → pre.length < len + 1 → YieldAt Fence.wide (n - 1) Try.prog l (encW f len x) V fun e V' =>
      (e = .returned (.bool true) ∧ J (pre ++ [x]) V' ∧ KeepsBut n₁ n₁ V V') ∨ (e = .returned (.bool false) ∧ Jx (pre ++ [x]) V'))
    (W : World) (gx : Held W bx 107 #[.slice A len cap]) (gw : WordsAt n₁ W A len f) (h0 : J [] W) :
    CallsIn Fence.wide n Try.prog 71 #[.func (.yield l) #[] #[], .pointer (some ⟨bx, 0, none⟩)] W fun e W' => (∃ v, e = .returned v) ∧
      ((∃ ys, ys = List.range (len + 1) ∧ J ys W') ∨ (∃ pre, (∃ k, k ≤ len ∧ pre = List.range (k + 1)) ∧ Jx pre W')) := by
  refine callsIn_of_wp Try.func71 rfl trivial ?_ rfl
  simp only [Try.ntmps71, List.size_toArray, List.length_cons, List.length_nil, Nat.reduceAdd, Nat.reduceSub, Array.replicate_succ, Array.replicate_zero, List.push_toArray, List.append_toArray, List.nil_append, List.cons_append]
  have cx : W.cell? ⟨bx, 0, none⟩ = some (.slice A len cap) := gx.cell 0
  have HY := Lib.hid hY
  clear hY
  gi_wp2
  gi_loopw [7] (fun i wr => ∃ k : Nat, k ≤ len ∧ i = .int .i64 k ∧ WordsAt n₁ wr A len f ∧ J (List.range k) wr)
    (fun i _ => len - (intOf i).toNat)
  case atStart => exact ⟨0, Nat.zero_le _, rfl, gw, h0⟩
  case round =>
    obtain ⟨k, hk, rfl, g', hJ⟩ := hrel
    clear cx gx gw
    by_cases hlt : k < len
    · obtain ⟨b, o, rfl, hB, ck⟩ := g' k hlt
      have hYk := HY.out (List.range k) k wr hJ (by simp; omega)
      rw [encW_yes hlt] at hYk
      obtain ⟨fn, tmps, assign, body, hy, hR0⟩ := hYk
      have hR := hR0.mono (answeredW n₁ J Jx (List.range k ++ [k]) wr)
      clear hR0
      have G := Lib.hid g'
      clear g'
      gi_wp2
      refine ⟨fun _ => by omega, hR.mono ?_⟩
      rintro e W3 ⟨y, rfl, hA⟩
      cases y
      · have hJx3 := hA.2 rfl
        gi_wp2
        refine bodyPost_ret (results_none rfl _ _ _) rfl ?_
        exact ⟨⟨_, rfl⟩, .inr ⟨_, ⟨k, by omega, by rw [List.range_succ]⟩, hJx3⟩⟩
      · obtain ⟨hJ3, hk3⟩ := hA.1 rfl
        have g3 := G.out.same (fun i hi => hk3 i hi (by omega))
        have G3 := Lib.hid g3
        clear g3 G
        gi_wp2
        go_roundw
        case rel => exact ⟨k + 1, by omega, by go_num, G3.out, by rw [List.range_succ]; exact hJ3⟩
        case measure => simp [intOf]; omega
    · obtain rfl : k = len := by omega
      have hYk := HY.out (List.range k) k wr hJ (by simp)
      rw [encW_no hlt] at hYk
      obtain ⟨fn, tmps, assign, body, hy, hR0⟩ := hYk
      have hR := hR0.mono (answeredW n₁ J Jx (List.range k ++ [k]) wr)
      clear hR0 g'
      gi_wp2
      refine ⟨fun _ => by omega, hR.mono ?_⟩
      rintro e W3 ⟨y, rfl, hA⟩
      cases y
      · have hJx3 := hA.2 rfl
        gi_wp2
        go_end0
        exact ⟨⟨_, rfl⟩, .inr ⟨_, ⟨k, by omega, by rw [List.range_succ]⟩, hJx3⟩⟩
      · obtain ⟨hJ3, hk3⟩ := hA.1 rfl
        gi_wp2
        go_end0
        exact ⟨⟨_, rfl⟩, .inl ⟨_, by rw [List.range_succ], hJ3⟩⟩
theorem each1_far (n : Nat) (hn : 2 ≤ n) (bx : Nat) (A : Option Addr) (len cap : Nat) (hl : len ≤ cap) (h100 : len ≤ 100) (f : Nat → BitVec 32) (n₁ : Nat) (w : World) (hn₁ : n₁ ≤ w.heap.size) (gx : Held w bx 107 #[.slice A len cap]) (gw : WordsAt n₁ w A len f) :
    SeqFar Fence.wide n Try.prog 71 #[.pointer (some ⟨bx, 0, none⟩)] (encW f len) (KeepsBut n₁ n₁) (fun ys => ys = List.range (len + 1)) (fun pre => ∃ k, k ≤ len ∧ pre = List.range (k + 1)) (len + 1) w := by
  intro l J Jx W hW _ _ hY h0
  exact each1_in n hn l bx n₁ A len cap hl h100 f J Jx hY W (gx.below hW gx.lt) (gw.below (hW.mono hn₁)) h0
end Go.Proofs.Ytaoaapbbadipfaa.Hs
end
