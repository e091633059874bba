/-
  The contract of hash.End: an array of closures, called one after another. Conditions: the numbers fit their kinds.
-/
import Derived.Test.YtaalnkcfoioeeaaHashB
import Derived.Handy
namespace Go.Proofs.Ytaalnkcfoioeeaa
set_option linter.unusedSimpArgs false
set_option linter.unusedVariables false
open Go.RowKit

theorem Mem.join {w0 W W' : World} {l l' : List (Nat × TypeId × Array Value)} (h : Mem w0 W l) (h' : Mem W W' l') : Mem w0 W' (l ++ l') :=
  ⟨h.below.trans (h'.below.mono h.below.size), fun p hp => by
    rcases List.mem_append.1 hp with hp | hp
    · exact ⟨(h.held p hp).1, (h.held p hp).2.below h'.below (h.held p hp).2.lt⟩
    · exact ⟨Nat.le_trans h.below.size (h'.held p hp).1, (h'.held p hp).2⟩,
   List.pairwise_append.2 ⟨h.inc, h'.inc, fun p hp q hq => by
    have h1 := (h.held p hp).2.lt
    have h2 := (h'.held q hq).1
    omega⟩⟩
theorem arrInfo : (Try.prog.info? 43).map (·.size) = some 6 := by kernel_rfl
abbrev xorV (b : Nat) : Value := .func (.func 28) #[] #[.pointer (some ⟨b, 0, none⟩)]
abbrev folV (b : Nat) : Value := .func (.func 32) #[] #[.pointer (some ⟨b, 0, none⟩)]
abbrev mulV (b : Nat) : Value := .func (.func 33) #[] #[.pointer (some ⟨b, 0, none⟩)]
theorem xor1_p (h n : BitVec 32) (b : Nat) (w : World) (g : Held w b 22 #[.int .u32 (u n)]) : Calls Try.prog 28 #[.int .u32 (u h), .pointer (some ⟨b, 0, none⟩)] w fun e w' => e = .returned (.int .u32 (u (h ^^^ n))) ∧ w = w' := by
  have c : w.cell? ⟨b, 0, none⟩ = some (.int .u32 (u n)) := g.cell 0
  go_enter Try.func28, Try.ntmps28
  go_wp2
  go_ret
  exact ⟨by rw [← u_xor]; rfl, rfl⟩
theorem fol16_p (h : BitVec 32) (b : Nat) (w : World) (g : Held w b 3 #[.int .i64 16]) : Calls Try.prog 32 #[.int .u32 (u h), .pointer (some ⟨b, 0, none⟩)] w fun e w' => e = .returned (.int .u32 (u (foldB 16 h))) ∧ w = w' := by
  have c : w.cell? ⟨b, 0, none⟩ = some (.int .i64 16) := g.cell 0
  go_enter Try.func32, Try.ntmps32
  go_wp2
  go_ret
  exact ⟨by rw [← u_fold16]; rfl, rfl⟩
theorem fol13_p (h : BitVec 32) (b : Nat) (w : World) (g : Held w b 3 #[.int .i64 13]) : Calls Try.prog 32 #[.int .u32 (u h), .pointer (some ⟨b, 0, none⟩)] w fun e w' => e = .returned (.int .u32 (u (foldB 13 h))) ∧ w = w' := by
  have c : w.cell? ⟨b, 0, none⟩ = some (.int .i64 13) := g.cell 0
  go_enter Try.func32, Try.ntmps32
  go_wp2
  go_ret
  exact ⟨by rw [← u_fold13]; rfl, rfl⟩
theorem mul1_p (h : BitVec 32) (b : Nat) (w : World) (g : Held w b 22 #[.int .u32 2246822507]) : Calls Try.prog 33 #[.int .u32 (u h), .pointer (some ⟨b, 0, none⟩)] w fun e w' => e = .returned (.int .u32 (u (h * 2246822507#32))) ∧ w = w' := by
  have c : w.cell? ⟨b, 0, none⟩ = some (.int .u32 2246822507) := g.cell 0
  go_enter Try.func33, Try.ntmps33
  go_wp2
  go_ret
  exact ⟨by rw [← ue1]; rfl, rfl⟩
theorem mul2_p (h : BitVec 32) (b : Nat) (w : World) (g : Held w b 22 #[.int .u32 3266489909]) : Calls Try.prog 33 #[.int .u32 (u h), .pointer (some ⟨b, 0, none⟩)] w fun e w' => e = .returned (.int .u32 (u (h * 3266489909#32))) ∧ w = w' := by
  have c : w.cell? ⟨b, 0, none⟩ = some (.int .u32 3266489909) := g.cell 0
  go_enter Try.func33, Try.ntmps33
  go_wp2
  go_ret
  exact ⟨by rw [← ue2]; rfl, rfl⟩
theorem folding_m (s : Int) (w : World) : Calls Try.prog 29 #[.int .i64 s] w fun e w' => ∃ b, e = .returned (folV b) ∧ Mem w w' [(b, 3, #[.int .i64 s])] := by
  go_enter Try.func29, Try.ntmps29
  go_wp2
  go_ret
  exact ⟨_, rfl, (Mem.start w).alloc _ _⟩
theorem multiplying_m (s : Int) (w : World) : Calls Try.prog 30 #[.int .u32 s] w fun e w' => ∃ b, e = .returned (mulV b) ∧ Mem w w' [(b, 22, #[.int .u32 s])] := by
  go_enter Try.func30, Try.ntmps30
  go_wp2
  go_ret
  exact ⟨_, rfl, (Mem.start w).alloc _ _⟩
set_option maxRecDepth 100000 in
set_option maxHeartbeats 1000000 in
theorem ending_m (n : BitVec 32) (w : World) : Calls Try.prog 24 #[.int .u32 (u n)] w fun e w' => ∃ b0 br b1 b2 b3 b4 b5, e = .returned (.agg #[xorV b0, folV b1, mulV b2, folV b3, mulV b4, folV b5]) ∧ Mem w w' [(b0, 22, #[.int .u32 (u n)]), (br, 43, #[xorV b0, folV b1, mulV b2, folV b3, mulV b4, folV b5]), (b1, 3, #[.int .i64 16]), (b2, 22, #[.int .u32 2246822507]), (b3, 3, #[.int .i64 13]), (b4, 22, #[.int .u32 3266489909]), (b5, 3, #[.int .i64 16])] := by
  have H := Mem.start w
  go_enter Try.func24, Try.ntmps24
  go_upto_region 1 with (first | ((with_reducible show wpList _ _ _ _ _ (World.alloc _ (.cells _ _))); refine mem_newb H ?_; intro b0 w3 hbk H2; try rw [← hbk]; clear hbk H; have H := H2; clear H2; simp only [List.cons_append, List.nil_append, List.set_cons_zero, List.set_cons_succ, List.setIfInBounds_toArray] at H))
  go_wp2_with (first
    | go_skip
    | (go_at_call 29; refine (folding_m _ _).mono ?_; rintro e w2 ⟨bj, rfl, hm⟩; have H2 := H.join hm; clear H hm; have H := H2; clear H2; simp only [List.cons_append, List.nil_append, List.set_cons_zero, List.set_cons_succ, List.setIfInBounds_toArray] at H)
    | (go_at_call 30; refine (multiplying_m _ _).mono ?_; rintro e w2 ⟨bj, rfl, hm⟩; have H2 := H.join hm; clear H hm; have H := H2; clear H2; simp only [List.cons_append, List.nil_append, List.set_cons_zero, List.set_cons_succ, List.setIfInBounds_toArray] at H)
    | ((with_reducible show wpList _ _ _ (⟨_, .store 43 _ _, _, _, _, _⟩ :: _) _ _); refine mem_store (i := 1) H (by first | exact wanted_none rfl | exact wanted_some rfl rfl rfl rfl) (by exact rfl) (by exact rfl) (by exact rfl) (by exact rfl) (by exact arrInfo) (by exact rfl) (by exact rfl) ?_; intro w2 H2; clear H; have H := H2; clear H2; simp only [List.cons_append, List.nil_append, List.set_cons_zero, List.set_cons_succ, List.setIfInBounds_toArray] at H))
  refine bodyPost_ret (results_cell_row (p := 2) (ty := 43) rfl _ _ _ 43 _ (0, 0) _ rfl (H.at 1 rfl) Try.underlying43 rfl arrInfo) rfl ?_
  exact ⟨_, _, _, _, _, _, _, rfl, H⟩
theorem idx0 (b0 b1 b2 b3 b4 b5 : Nat) (w : World) : (Instr.index 43 (.agg #[xorV b0, folV b1, mulV b2, folV b3, mulV b4, folV b5]) (.int .i64 0)).run Try.prog w = .ok (xorV b0) w := by kernel_rfl
theorem idx1 (b0 b1 b2 b3 b4 b5 : Nat) (w : World) : (Instr.index 43 (.agg #[xorV b0, folV b1, mulV b2, folV b3, mulV b4, folV b5]) (.int .i64 1)).run Try.prog w = .ok (folV b1) w := by kernel_rfl
theorem idx2 (b0 b1 b2 b3 b4 b5 : Nat) (w : World) : (Instr.index 43 (.agg #[xorV b0, folV b1, mulV b2, folV b3, mulV b4, folV b5]) (.int .i64 2)).run Try.prog w = .ok (mulV b2) w := by kernel_rfl
theorem idx3 (b0 b1 b2 b3 b4 b5 : Nat) (w : World) : (Instr.index 43 (.agg #[xorV b0, folV b1, mulV b2, folV b3, mulV b4, folV b5]) (.int .i64 3)).run Try.prog w = .ok (folV b3) w := by kernel_rfl
theorem idx4 (b0 b1 b2 b3 b4 b5 : Nat) (w : World) : (Instr.index 43 (.agg #[xorV b0, folV b1, mulV b2, folV b3, mulV b4, folV b5]) (.int .i64 4)).run Try.prog w = .ok (mulV b4) w := by kernel_rfl
theorem idx5 (b0 b1 b2 b3 b4 b5 : Nat) (w : World) : (Instr.index 43 (.agg #[xorV b0, folV b1, mulV b2, folV b3, mulV b4, folV b5]) (.int .i64 5)).run Try.prog w = .ok (folV b5) w := by kernel_rfl
set_option maxRecDepth 100000 in
set_option maxHeartbeats 1000000 in
theorem end_p (h n : BitVec 32) (w : World) : Calls Try.prog 14 #[.int .u32 (u h), .int .u32 (u n)] w fun e w' => e = .returned (.int .u32 (u (endB h n))) ∧ Below w.heap.size w w' := by
  go_enter Try.func14, Try.ntmps14
  go_wp2_with (go_at_call 24; refine (ending_m n _).mono ?_; rintro e w2 ⟨b0, br, b1, b2, b3, b4, b5, rfl, H⟩)
  have i0 := idx0 b0 b1 b2 b3 b4 b5
  have i1 := idx1 b0 b1 b2 b3 b4 b5
  have i2 := idx2 b0 b1 b2 b3 b4 b5
  have i3 := idx3 b0 b1 b2 b3 b4 b5
  have i4 := idx4 b0 b1 b2 b3 b4 b5
  have i5 := idx5 b0 b1 b2 b3 b4 b5
  refine wp_loop_rounds 7 ?_
  rw [rounds_succ]
  go_wp2_with (go_at_call 28; refine (xor1_p _ _ _ _ (H.at 0 rfl)).mono ?_; rintro e w9 ⟨rfl, rfl⟩)
  rw [rounds_succ]
  go_wp2_with (go_at_call 32; refine (fol16_p _ _ _ (H.at 2 rfl)).mono ?_; rintro e w9 ⟨rfl, rfl⟩)
  rw [rounds_succ]
  go_wp2_with (go_at_call 33; refine (mul1_p _ _ _ (H.at 3 rfl)).mono ?_; rintro e w9 ⟨rfl, rfl⟩)
  rw [rounds_succ]
  go_wp2_with (go_at_call 32; refine (fol13_p _ _ _ (H.at 4 rfl)).mono ?_; rintro e w9 ⟨rfl, rfl⟩)
  rw [rounds_succ]
  go_wp2_with (go_at_call 33; refine (mul2_p _ _ _ (H.at 5 rfl)).mono ?_; rintro e w9 ⟨rfl, rfl⟩)
  rw [rounds_succ]
  go_wp2_with (go_at_call 32; refine (fol16_p _ _ _ (H.at 6 rfl)).mono ?_; rintro e w9 ⟨rfl, rfl⟩)
  rw [rounds_succ]
  go_wp2
  go_ret
  exact ⟨rfl, H.below⟩
end Go.Proofs.Ytaalnkcfoioeeaa
