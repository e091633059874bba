/-
  What the document's New makes. Conditions: none. What the program's cells do, as an interface; the document's; a law's state: two cells that lie apart. Conditions: as the interface says. The calls, as steps of a law's state; the law begun. Conditions: as the interface says. What came in, opened: acts of layer 11. Conditions: the types' shapes.
-/
import Derived.Test.YtoajgaljccaccaaMGb
import Derived.Test.YtoajgaljccaccaaMGa
/- What the document's New makes. Conditions: none. -/
section
namespace Go.Proofs.Ytoajgaljccaccaa.Ce
set_option linter.unusedSimpArgs false
set_option linter.unusedVariables false
set_option maxRecDepth 100000
open Go.ChangeShapes Go.WideShapes Go.ChangeAt Go.RowKit

theorem infoI64 : (Try.prog.info? 2).map (fun i => (i.zero, i.size, i.bytes)) = some (some (.int .i64 0), 1, 8) := by kernel_rfl
theorem infoInt : (Try.prog.info? 3).map (fun i => (i.zero, i.size, i.bytes)) = some (some (.int .i64 0), 1, 8) := by kernel_rfl
theorem made_ints (n : Nat) : madeCells (Value.int .i64 0).cells n = ints (List.replicate n 0) := by
  rw [ints_zero]
  apply Array.ext
  · simp [madeCells, Value.cells]
  · intro i h1 h2
    simp [madeCells, Value.cells, Nat.mod_one]
theorem make_i64 (W : World) (n : Nat) (hn : n ≤ 4096) : (Instr.makeSlice 55 (.int .i64 n) (.int .i64 n)).run Try.prog W = .ok (.slice (some ⟨W.heap.size, 0, none⟩) n n) (W.alloc (.cells (ints (List.replicate n 0)) 2)) := by
  obtain ⟨i0, hi, hz0, hz1, hz2⟩ := info_parts infoI64
  have h := run_makeSlice (P := Try.prog) W 55 2 i0 _ Try.underlying55 hi hz0 .i64 .i64 n n (by omega) (by omega) (by rw [hz1]; omega) (by rw [hz2]; omega) (by omega)
  rw [hz1] at h
  simp only [Int.toNat_natCast, Nat.mul_one] at h
  rw [made_ints] at h
  exact h
theorem make_int (W : World) (n : Nat) (hn : n ≤ 4096) : (Instr.makeSlice 56 (.int .i64 n) (.int .i64 n)).run Try.prog W = .ok (.slice (some ⟨W.heap.size, 0, none⟩) n n) (W.alloc (.cells (ints (List.replicate n 0)) 3)) := by
  obtain ⟨i0, hi, hz0, hz1, hz2⟩ := info_parts infoInt
  have h := run_makeSlice (P := Try.prog) W 56 3 i0 _ Try.underlying56 hi hz0 .i64 .i64 n n (by omega) (by omega) (by rw [hz1]; omega) (by rw [hz2]; omega) (by omega)
  rw [hz1] at h
  simp only [Int.toNat_natCast, Nat.mul_one] at h
  rw [made_ints] at h
  exact h
section
variable {F : Fence} {n : Nat} {P : Program} {o : Oper} {a : Act} {w : World} {Q : Exit → Act → World → Prop}
theorem wpIn_make {ty : TypeId} {x y : Operand} {v u r : Value} {w' : World} {K : Act → World → Prop} (ho : o.op = .makeSlice ty x y) (hx : opnd a x = some v) (hy : opnd a y = some u) (hm : (Instr.makeSlice ty v u).run P w = .ok r w') (h : K (a.put o.dst r) w') : o.wpIn F n P a w K Q := by
  refine ⟨by simp [Oper.about, ho], ?_⟩
  rw [Oper.semAt_plain F _ _ (by rw [ho]; intro c hc'; cases hc')]
  unfold execOp
  simp only [ho, opnd_eval hx, opnd_eval hy, Sem.run_bind, Sem.run_pure, Result.andThen_ok, hm]
  exact h
end
theorem DAt.new {W W1 : World} {bc bl bs : Nat} {n m k : Int} (ho : okNew n m k = true) (hb : Below W.heap.size W W1) {t1 t2 t3 : TypeId} (h1 : W.heap.size ≤ bc ∧ Held W1 bc t1 (ints (zeroC n m k).c)) (h2 : W.heap.size ≤ bl ∧ Held W1 bl t2 (ints (zeroC n m k).l)) (h3 : W.heap.size ≤ bs ∧ Held W1 bs t3 (ints (zeroC n m k).s))
    (n1 : bc ≠ bl) (n2 : bc ≠ bs) (n3 : bl ≠ bs) {e : Ending} (he : e = .returned (.tuple #[.pointer (some ⟨W1.heap.size, 0, none⟩), .int .i64 0])) :
    NewF DocAt W (zeroC n m k) e (W1.alloc (.cells #[sl bc (zeroC n m k).c, sl bl (zeroC n m k).l, sl bs (zeroC n m k).s] 58)) := by
  refine ⟨W1.heap.size, fun i => i = W1.heap.size ∨ i = bc ∨ i = bl ∨ i = bs, he, ⟨bc, bl, bs, Held.new W1 _ _, ⟨t1, h1.2.alloc _⟩, ⟨t2, h2.2.alloc _⟩, ⟨t3, h3.2.alloc _⟩, ⟨?_, ?_, ?_, n1, n2, n3⟩, fun i => Iff.rfl, FitsC.zero n m k ho⟩, hb.alloc hb.size _, fun i hi => ?_⟩
  · exact Nat.ne_of_gt h1.2.lt
  · exact Nat.ne_of_gt h2.2.lt
  · exact Nat.ne_of_gt h3.2.lt
  · rcases hi with rfl | rfl | rfl | rfl
    · exact hb.size
    · exact h1.1
    · exact h2.1
    · exact h3.1
theorem new_no (n m k : Int) (h : okNew n m k = false) (W : World) : Calls Try.prog 12 #[.int .i64 n, .int .i64 m, .int .i64 k] W fun e w' => e = .returned (.tuple #[.pointer none, .int .i64 2]) ∧ Below W.heap.size W w' := by
  have H := Mem.start W
  by_cases h0 : n < 0
  · clear h
    go_enter Try.func12, Try.ntmps12
    go_wp2
    refine bodyPost_ret (results_two rfl _ _ _) rfl ?_
    exact ⟨rfl, H.below⟩
  by_cases h1 : n > 1000
  · clear h
    go_enter Try.func12, Try.ntmps12
    go_wp2
    refine bodyPost_ret (results_two rfl _ _ _) rfl ?_
    exact ⟨rfl, H.below⟩
  by_cases h2 : m < 0
  · clear h
    go_enter Try.func12, Try.ntmps12
    go_wp2
    refine bodyPost_ret (results_two rfl _ _ _) rfl ?_
    exact ⟨rfl, H.below⟩
  by_cases h3 : m > 1000
  · clear h
    go_enter Try.func12, Try.ntmps12
    go_wp2
    refine bodyPost_ret (results_two rfl _ _ _) rfl ?_
    exact ⟨rfl, H.below⟩
  by_cases h4 : k < 0
  · clear h
    go_enter Try.func12, Try.ntmps12
    go_wp2
    refine bodyPost_ret (results_two rfl _ _ _) rfl ?_
    exact ⟨rfl, H.below⟩
  by_cases h5 : k > 1000
  · clear h
    go_enter Try.func12, Try.ntmps12
    go_wp2
    refine bodyPost_ret (results_two rfl _ _ _) rfl ?_
    exact ⟨rfl, H.below⟩
  exfalso
  simp only [okNew, okNum, Bool.and_eq_false_iff, decide_eq_false_iff_not] at h
  omega
set_option maxHeartbeats 2000000 in
theorem new_yes (n m k : Int) (h : okNew n m k = true) (W : World) : Calls Try.prog 12 #[.int .i64 n, .int .i64 m, .int .i64 k] W (NewF DocAt W (zeroC n m k)) := by
  have HO := Lib.hid h
  simp only [okNew, okNum, Bool.and_eq_true, decide_eq_true_eq] at h
  obtain ⟨⟨⟨h0, h1⟩, h2, h3⟩, h4, h5⟩ := h
  have q0 : ¬ n < 0 := by omega
  have q1 : ¬ n > 1000 := by omega
  have q2 : ¬ m < 0 := by omega
  have q3 : ¬ m > 1000 := by omega
  have q4 : ¬ k < 0 := by omega
  have q5 : ¬ k > 1000 := by omega
  obtain ⟨n, rfl⟩ := Int.eq_ofNat_of_zero_le h0
  obtain ⟨m, rfl⟩ := Int.eq_ofNat_of_zero_le h2
  obtain ⟨k, rfl⟩ := Int.eq_ofNat_of_zero_le h4
  have hn : n ≤ 4096 := by omega
  have hm : m ≤ 4096 := by omega
  have hk : k ≤ 4096 := by omega
  clear h0 h1 h2 h3 h4 h5
  go_enter Try.func12, Try.ntmps12
  go_upto_region 3 with (fail)
  refine region_mem (Mem.start W) 10 rfl (by kernel_rfl) (fun wr hS => ?_)
  refine wpAnyR_take (i := 0) (v := .int .i64 n) rfl rfl (by kernel_rfl) (by kernel_rfl) (by kernel_rfl) (fun _ _ _ h => h) (Nat.le_refl _) ⟨by rfl, fun w _ => (by go_simp; try rfl), fun _ => rfl⟩ hS ?_
  simp only [List.getElem_toArray, List.getElem_cons_zero, List.getElem_cons_succ, Act.put, List.setIfInBounds_toArray, List.set_cons_zero, List.set_cons_succ]
  refine wpAnyR_take (i := 2) (v := .int .i64 m) rfl rfl (by kernel_rfl) (by kernel_rfl) (by kernel_rfl) (fun _ _ _ h => h) (Nat.le_refl _) ⟨by rfl, fun w _ => (by go_simp; try rfl), fun _ => rfl⟩ hS ?_
  simp only [List.getElem_toArray, List.getElem_cons_zero, List.getElem_cons_succ, Act.put, List.setIfInBounds_toArray, List.set_cons_zero, List.set_cons_succ]
  refine wpAnyR_take (i := 4) (v := .int .i64 k) rfl rfl (by kernel_rfl) (by kernel_rfl) (by kernel_rfl) (fun _ _ _ h => h) (Nat.le_refl _) ⟨by rfl, fun w _ => (by go_simp; try rfl), fun _ => rfl⟩ hS ?_
  simp only [List.getElem_toArray, List.getElem_cons_zero, List.getElem_cons_succ, Act.put, List.setIfInBounds_toArray, List.set_cons_zero, List.set_cons_succ]
  have hN := Mem.start W
  replace hN := hS
  refine wpAnyG_three (i := 1) (j := 3) (m := 5) (by kernel_rfl) rfl rfl rfl  (fun K hK => ?_) (fun K hK => ?_) (fun K hK => ?_) 
  · rw [if_pos (by exact rfl)]
    refine wpIn_make rfl (by exact rfl) (by exact rfl) (make_i64 wr n hn) ?_
    refine hK _ _ (.inr (hS.skip _)) ?_
    clear hK K
    have hN5 := hN.alloc 2 (ints (List.replicate n 0))
    have hS5 := hS.skip (.cells (ints (List.replicate n 0)) 2)
    clear hS hN
    generalize hbN : wr.heap.size = bc at hN5 ⊢
    clear hbN
    generalize wr.alloc (.cells (ints (List.replicate n 0)) 2) = w1 at hN5 hS5 ⊢
    have hS := hS5
    have hN := hN5
    clear hS5 hN5
    simp only [List.cons_append, List.nil_append] at hN
    simp only [List.getElem_toArray, List.getElem_cons_zero, List.getElem_cons_succ, Act.put, List.setIfInBounds_toArray, List.set_cons_zero, List.set_cons_succ]
    refine wpAnyG_two (i := 3) (j := 5) (by kernel_rfl) rfl rfl  (fun K hK => ?_) (fun K hK => ?_) 
    · rw [if_pos (by exact rfl)]
      refine wpIn_make rfl (by exact rfl) (by exact rfl) (make_int w1 m hm) ?_
      refine hK _ _ (.inr (hS.skip _)) ?_
      clear hK K
      have hN5 := hN.alloc 3 (ints (List.replicate m 0))
      have hS5 := hS.skip (.cells (ints (List.replicate m 0)) 3)
      clear hS hN
      generalize hbN : w1.heap.size = bl at hN5 ⊢
      clear hbN
      generalize w1.alloc (.cells (ints (List.replicate m 0)) 3) = w2 at hN5 hS5 ⊢
      have hS := hS5
      have hN := hN5
      clear hS5 hN5
      simp only [List.cons_append, List.nil_append] at hN
      simp only [List.getElem_toArray, List.getElem_cons_zero, List.getElem_cons_succ, Act.put, List.setIfInBounds_toArray, List.set_cons_zero, List.set_cons_succ]
      refine wpAnyG_one (i := 5) (by kernel_rfl) rfl (fun K hK => ?_)
      rw [if_pos (by exact rfl)]
      refine wpIn_make rfl (by exact rfl) (by exact rfl) (make_i64 w2 k hk) ?_
      refine hK _ _ (.inr (hS.skip _)) ?_
      clear hK K
      have hN5 := hN.alloc 2 (ints (List.replicate k 0))
      have hS5 := hS.skip (.cells (ints (List.replicate k 0)) 2)
      clear hS hN
      generalize hbN : w2.heap.size = bs at hN5 ⊢
      clear hbN
      generalize w2.alloc (.cells (ints (List.replicate k 0)) 2) = w3 at hN5 hS5 ⊢
      have hS := hS5
      have hN := hN5
      clear hS5 hN5
      simp only [List.cons_append, List.nil_append] at hN
      simp only [List.getElem_toArray, List.getElem_cons_zero, List.getElem_cons_succ, Act.put, List.setIfInBounds_toArray, List.set_cons_zero, List.set_cons_succ]
      refine wpAnyG_one (i := 6) (by kernel_rfl) rfl (fun K hK => ?_)
      go_simp
      refine hK _ _ (.inr hS) ?_
      clear hK K
      refine wpAnyG_one (i := 7) (by kernel_rfl) rfl (fun K hK => ?_)
      go_simp
      refine hK _ _ (.inr (hS.skip _)) ?_
      clear hK K
      have hS5 := hS.skip (.cells #[.slice (some ⟨bc, 0, none⟩) n n, .slice (some ⟨bl, 0, none⟩) m m, .slice (some ⟨bs, 0, none⟩) k k] 58)
      clear hS
      have hS := hS5
      clear hS5
      refine wpAnyG_one (i := 8) (by kernel_rfl) rfl (fun K hK => ?_)
      go_simp
      refine hK _ _ (.inr hS) ?_
      clear hK K
      refine wpAnyG_one (i := 9) (by kernel_rfl) rfl (fun K hK => ?_)
      go_simp
      refine hK _ _ (.inr hS) ?_
      clear hK K
      refine wpAnyG_done (by kernel_rfl) ?_ _
      clear hS
      have HN := Lib.hid hN
      clear hN
      go_wp2
      refine bodyPost_ret (results_two rfl _ _ _) rfl ?_
      have X1 := HN.out.held _ (List.mem_of_getElem? (i := 0) rfl)
      have X2 := HN.out.held _ (List.mem_of_getElem? (i := 1) rfl)
      have X3 := HN.out.held _ (List.mem_of_getElem? (i := 2) rfl)
      have XI := HN.out.inc
      simp at XI
      have R := DAt.new (n := n) (m := m) (k := k) HO.out HN.out.below X1 X2 X3 (by omega) (by omega) (by omega) rfl
      simp only [sl, zeroC, List.length_replicate, Int.toNat_natCast] at R
      exact R
    · rw [if_pos (by exact rfl)]
      refine wpIn_make rfl (by exact rfl) (by exact rfl) (make_i64 w1 k hk) ?_
      refine hK _ _ (.inr (hS.skip _)) ?_
      clear hK K
      have hN5 := hN.alloc 2 (ints (List.replicate k 0))
      have hS5 := hS.skip (.cells (ints (List.replicate k 0)) 2)
      clear hS hN
      generalize hbN : w1.heap.size = bs at hN5 ⊢
      clear hbN
      generalize w1.alloc (.cells (ints (List.replicate k 0)) 2) = w2 at hN5 hS5 ⊢
      have hS := hS5
      have hN := hN5
      clear hS5 hN5
      simp only [List.cons_append, List.nil_append] at hN
      simp only [List.getElem_toArray, List.getElem_cons_zero, List.getElem_cons_succ, Act.put, List.setIfInBounds_toArray, List.set_cons_zero, List.set_cons_succ]
      refine wpAnyG_one (i := 3) (by kernel_rfl) rfl (fun K hK => ?_)
      rw [if_pos (by exact rfl)]
      refine wpIn_make rfl (by exact rfl) (by exact rfl) (make_int w2 m hm) ?_
      refine hK _ _ (.inr (hS.skip _)) ?_
      clear hK K
      have hN5 := hN.alloc 3 (ints (List.replicate m 0))
      have hS5 := hS.skip (.cells (ints (List.replicate m 0)) 3)
      clear hS hN
      generalize hbN : w2.heap.size = bl at hN5 ⊢
      clear hbN
      generalize w2.alloc (.cells (ints (List.replicate m 0)) 3) = w3 at hN5 hS5 ⊢
      have hS := hS5
      have hN := hN5
      clear hS5 hN5
      simp only [List.cons_append, List.nil_append] at hN
      simp only [List.getElem_toArray, List.getElem_cons_zero, List.getElem_cons_succ, Act.put, List.setIfInBounds_toArray, List.set_cons_zero, List.set_cons_succ]
      refine wpAnyG_one (i := 6) (by kernel_rfl) rfl (fun K hK => ?_)
      go_simp
      refine hK _ _ (.inr hS) ?_
      clear hK K
      refine wpAnyG_one (i := 7) (by kernel_rfl) rfl (fun K hK => ?_)
      go_simp
      refine hK _ _ (.inr (hS.skip _)) ?_
      clear hK K
      have hS5 := hS.skip (.cells #[.slice (some ⟨bc, 0, none⟩) n n, .slice (some ⟨bl, 0, none⟩) m m, .slice (some ⟨bs, 0, none⟩) k k] 58)
      clear hS
      have hS := hS5
      clear hS5
      refine wpAnyG_one (i := 8) (by kernel_rfl) rfl (fun K hK => ?_)
      go_simp
      refine hK _ _ (.inr hS) ?_
      clear hK K
      refine wpAnyG_one (i := 9) (by kernel_rfl) rfl (fun K hK => ?_)
      go_simp
      refine hK _ _ (.inr hS) ?_
      clear hK K
      refine wpAnyG_done (by kernel_rfl) ?_ _
      clear hS
      have HN := Lib.hid hN
      clear hN
      go_wp2
      refine bodyPost_ret (results_two rfl _ _ _) rfl ?_
      have X1 := HN.out.held _ (List.mem_of_getElem? (i := 0) rfl)
      have X2 := HN.out.held _ (List.mem_of_getElem? (i := 2) rfl)
      have X3 := HN.out.held _ (List.mem_of_getElem? (i := 1) rfl)
      have XI := HN.out.inc
      simp at XI
      have R := DAt.new (n := n) (m := m) (k := k) HO.out HN.out.below X1 X2 X3 (by omega) (by omega) (by omega) rfl
      simp only [sl, zeroC, List.length_replicate, Int.toNat_natCast] at R
      exact R
  · rw [if_pos (by exact rfl)]
    refine wpIn_make rfl (by exact rfl) (by exact rfl) (make_int wr m hm) ?_
    refine hK _ _ (.inr (hS.skip _)) ?_
    clear hK K
    have hN5 := hN.alloc 3 (ints (List.replicate m 0))
    have hS5 := hS.skip (.cells (ints (List.replicate m 0)) 3)
    clear hS hN
    generalize hbN : wr.heap.size = bl at hN5 ⊢
    clear hbN
    generalize wr.alloc (.cells (ints (List.replicate m 0)) 3) = w1 at hN5 hS5 ⊢
    have hS := hS5
    have hN := hN5
    clear hS5 hN5
    simp only [List.cons_append, List.nil_append] at hN
    simp only [List.getElem_toArray, List.getElem_cons_zero, List.getElem_cons_succ, Act.put, List.setIfInBounds_toArray, List.set_cons_zero, List.set_cons_succ]
    refine wpAnyG_two (i := 1) (j := 5) (by kernel_rfl) rfl rfl  (fun K hK => ?_) (fun K hK => ?_) 
    · rw [if_pos (by exact rfl)]
      refine wpIn_make rfl (by exact rfl) (by exact rfl) (make_i64 w1 n hn) ?_
      refine hK _ _ (.inr (hS.skip _)) ?_
      clear hK K
      have hN5 := hN.alloc 2 (ints (List.replicate n 0))
      have hS5 := hS.skip (.cells (ints (List.replicate n 0)) 2)
      clear hS hN
      generalize hbN : w1.heap.size = bc at hN5 ⊢
      clear hbN
      generalize w1.alloc (.cells (ints (List.replicate n 0)) 2) = w2 at hN5 hS5 ⊢
      have hS := hS5
      have hN := hN5
      clear hS5 hN5
      simp only [List.cons_append, List.nil_append] at hN
      simp only [List.getElem_toArray, List.getElem_cons_zero, List.getElem_cons_succ, Act.put, List.setIfInBounds_toArray, List.set_cons_zero, List.set_cons_succ]
      refine wpAnyG_one (i := 5) (by kernel_rfl) rfl (fun K hK => ?_)
      rw [if_pos (by exact rfl)]
      refine wpIn_make rfl (by exact rfl) (by exact rfl) (make_i64 w2 k hk) ?_
      refine hK _ _ (.inr (hS.skip _)) ?_
      clear hK K
      have hN5 := hN.alloc 2 (ints (List.replicate k 0))
      have hS5 := hS.skip (.cells (ints (List.replicate k 0)) 2)
      clear hS hN
      generalize hbN : w2.heap.size = bs at hN5 ⊢
      clear hbN
      generalize w2.alloc (.cells (ints (List.replicate k 0)) 2) = w3 at hN5 hS5 ⊢
      have hS := hS5
      have hN := hN5
      clear hS5 hN5
      simp only [List.cons_append, List.nil_append] at hN
      simp only [List.getElem_toArray, List.getElem_cons_zero, List.getElem_cons_succ, Act.put, List.setIfInBounds_toArray, List.set_cons_zero, List.set_cons_succ]
      refine wpAnyG_one (i := 6) (by kernel_rfl) rfl (fun K hK => ?_)
      go_simp
      refine hK _ _ (.inr hS) ?_
      clear hK K
      refine wpAnyG_one (i := 7) (by kernel_rfl) rfl (fun K hK => ?_)
      go_simp
      refine hK _ _ (.inr (hS.skip _)) ?_
      clear hK K
      have hS5 := hS.skip (.cells #[.slice (some ⟨bc, 0, none⟩) n n, .slice (some ⟨bl, 0, none⟩) m m, .slice (some ⟨bs, 0, none⟩) k k] 58)
      clear hS
      have hS := hS5
      clear hS5
      refine wpAnyG_one (i := 8) (by kernel_rfl) rfl (fun K hK => ?_)
      go_simp
      refine hK _ _ (.inr hS) ?_
      clear hK K
      refine wpAnyG_one (i := 9) (by kernel_rfl) rfl (fun K hK => ?_)
      go_simp
      refine hK _ _ (.inr hS) ?_
      clear hK K
      refine wpAnyG_done (by kernel_rfl) ?_ _
      clear hS
      have HN := Lib.hid hN
      clear hN
      go_wp2
      refine bodyPost_ret (results_two rfl _ _ _) rfl ?_
      have X1 := HN.out.held _ (List.mem_of_getElem? (i := 1) rfl)
      have X2 := HN.out.held _ (List.mem_of_getElem? (i := 0) rfl)
      have X3 := HN.out.held _ (List.mem_of_getElem? (i := 2) rfl)
      have XI := HN.out.inc
      simp at XI
      have R := DAt.new (n := n) (m := m) (k := k) HO.out HN.out.below X1 X2 X3 (by omega) (by omega) (by omega) rfl
      simp only [sl, zeroC, List.length_replicate, Int.toNat_natCast] at R
      exact R
    · rw [if_pos (by exact rfl)]
      refine wpIn_make rfl (by exact rfl) (by exact rfl) (make_i64 w1 k hk) ?_
      refine hK _ _ (.inr (hS.skip _)) ?_
      clear hK K
      have hN5 := hN.alloc 2 (ints (List.replicate k 0))
      have hS5 := hS.skip (.cells (ints (List.replicate k 0)) 2)
      clear hS hN
      generalize hbN : w1.heap.size = bs at hN5 ⊢
      clear hbN
      generalize w1.alloc (.cells (ints (List.replicate k 0)) 2) = w2 at hN5 hS5 ⊢
      have hS := hS5
      have hN := hN5
      clear hS5 hN5
      simp only [List.cons_append, List.nil_append] at hN
      simp only [List.getElem_toArray, List.getElem_cons_zero, List.getElem_cons_succ, Act.put, List.setIfInBounds_toArray, List.set_cons_zero, List.set_cons_succ]
      refine wpAnyG_one (i := 1) (by kernel_rfl) rfl (fun K hK => ?_)
      rw [if_pos (by exact rfl)]
      refine wpIn_make rfl (by exact rfl) (by exact rfl) (make_i64 w2 n hn) ?_
      refine hK _ _ (.inr (hS.skip _)) ?_
      clear hK K
      have hN5 := hN.alloc 2 (ints (List.replicate n 0))
      have hS5 := hS.skip (.cells (ints (List.replicate n 0)) 2)
      clear hS hN
      generalize hbN : w2.heap.size = bc at hN5 ⊢
      clear hbN
      generalize w2.alloc (.cells (ints (List.replicate n 0)) 2) = w3 at hN5 hS5 ⊢
      have hS := hS5
      have hN := hN5
      clear hS5 hN5
      simp only [List.cons_append, List.nil_append] at hN
      simp only [List.getElem_toArray, List.getElem_cons_zero, List.getElem_cons_succ, Act.put, List.setIfInBounds_toArray, List.set_cons_zero, List.set_cons_succ]
      refine wpAnyG_one (i := 6) (by kernel_rfl) rfl (fun K hK => ?_)
      go_simp
      refine hK _ _ (.inr hS) ?_
      clear hK K
      refine wpAnyG_one (i := 7) (by kernel_rfl) rfl (fun K hK => ?_)
      go_simp
      refine hK _ _ (.inr (hS.skip _)) ?_
      clear hK K
      have hS5 := hS.skip (.cells #[.slice (some ⟨bc, 0, none⟩) n n, .slice (some ⟨bl, 0, none⟩) m m, .slice (some ⟨bs, 0, none⟩) k k] 58)
      clear hS
      have hS := hS5
      clear hS5
      refine wpAnyG_one (i := 8) (by kernel_rfl) rfl (fun K hK => ?_)
      go_simp
      refine hK _ _ (.inr hS) ?_
      clear hK K
      refine wpAnyG_one (i := 9) (by kernel_rfl) rfl (fun K hK => ?_)
      go_simp
      refine hK _ _ (.inr hS) ?_
      clear hK K
      refine wpAnyG_done (by kernel_rfl) ?_ _
      clear hS
      have HN := Lib.hid hN
      clear hN
      go_wp2
      refine bodyPost_ret (results_two rfl _ _ _) rfl ?_
      have X1 := HN.out.held _ (List.mem_of_getElem? (i := 2) rfl)
      have X2 := HN.out.held _ (List.mem_of_getElem? (i := 0) rfl)
      have X3 := HN.out.held _ (List.mem_of_getElem? (i := 1) rfl)
      have XI := HN.out.inc
      simp at XI
      have R := DAt.new (n := n) (m := m) (k := k) HO.out HN.out.below X1 X2 X3 (by omega) (by omega) (by omega) rfl
      simp only [sl, zeroC, List.length_replicate, Int.toNat_natCast] at R
      exact R
  · rw [if_pos (by exact rfl)]
    refine wpIn_make rfl (by exact rfl) (by exact rfl) (make_i64 wr k hk) ?_
    refine hK _ _ (.inr (hS.skip _)) ?_
    clear hK K
    have hN5 := hN.alloc 2 (ints (List.replicate k 0))
    have hS5 := hS.skip (.cells (ints (List.replicate k 0)) 2)
    clear hS hN
    generalize hbN : wr.heap.size = bs at hN5 ⊢
    clear hbN
    generalize wr.alloc (.cells (ints (List.replicate k 0)) 2) = w1 at hN5 hS5 ⊢
    have hS := hS5
    have hN := hN5
    clear hS5 hN5
    simp only [List.cons_append, List.nil_append] at hN
    simp only [List.getElem_toArray, List.getElem_cons_zero, List.getElem_cons_succ, Act.put, List.setIfInBounds_toArray, List.set_cons_zero, List.set_cons_succ]
    refine wpAnyG_two (i := 1) (j := 3) (by kernel_rfl) rfl rfl  (fun K hK => ?_) (fun K hK => ?_) 
    · rw [if_pos (by exact rfl)]
      refine wpIn_make rfl (by exact rfl) (by exact rfl) (make_i64 w1 n hn) ?_
      refine hK _ _ (.inr (hS.skip _)) ?_
      clear hK K
      have hN5 := hN.alloc 2 (ints (List.replicate n 0))
      have hS5 := hS.skip (.cells (ints (List.replicate n 0)) 2)
      clear hS hN
      generalize hbN : w1.heap.size = bc at hN5 ⊢
      clear hbN
      generalize w1.alloc (.cells (ints (List.replicate n 0)) 2) = w2 at hN5 hS5 ⊢
      have hS := hS5
      have hN := hN5
      clear hS5 hN5
      simp only [List.cons_append, List.nil_append] at hN
      simp only [List.getElem_toArray, List.getElem_cons_zero, List.getElem_cons_succ, Act.put, List.setIfInBounds_toArray, List.set_cons_zero, List.set_cons_succ]
      refine wpAnyG_one (i := 3) (by kernel_rfl) rfl (fun K hK => ?_)
      rw [if_pos (by exact rfl)]
      refine wpIn_make rfl (by exact rfl) (by exact rfl) (make_int w2 m hm) ?_
      refine hK _ _ (.inr (hS.skip _)) ?_
      clear hK K
      have hN5 := hN.alloc 3 (ints (List.replicate m 0))
      have hS5 := hS.skip (.cells (ints (List.replicate m 0)) 3)
      clear hS hN
      generalize hbN : w2.heap.size = bl at hN5 ⊢
      clear hbN
      generalize w2.alloc (.cells (ints (List.replicate m 0)) 3) = w3 at hN5 hS5 ⊢
      have hS := hS5
      have hN := hN5
      clear hS5 hN5
      simp only [List.cons_append, List.nil_append] at hN
      simp only [List.getElem_toArray, List.getElem_cons_zero, List.getElem_cons_succ, Act.put, List.setIfInBounds_toArray, List.set_cons_zero, List.set_cons_succ]
      refine wpAnyG_one (i := 6) (by kernel_rfl) rfl (fun K hK => ?_)
      go_simp
      refine hK _ _ (.inr hS) ?_
      clear hK K
      refine wpAnyG_one (i := 7) (by kernel_rfl) rfl (fun K hK => ?_)
      go_simp
      refine hK _ _ (.inr (hS.skip _)) ?_
      clear hK K
      have hS5 := hS.skip (.cells #[.slice (some ⟨bc, 0, none⟩) n n, .slice (some ⟨bl, 0, none⟩) m m, .slice (some ⟨bs, 0, none⟩) k k] 58)
      clear hS
      have hS := hS5
      clear hS5
      refine wpAnyG_one (i := 8) (by kernel_rfl) rfl (fun K hK => ?_)
      go_simp
      refine hK _ _ (.inr hS) ?_
      clear hK K
      refine wpAnyG_one (i := 9) (by kernel_rfl) rfl (fun K hK => ?_)
      go_simp
      refine hK _ _ (.inr hS) ?_
      clear hK K
      refine wpAnyG_done (by kernel_rfl) ?_ _
      clear hS
      have HN := Lib.hid hN
      clear hN
      go_wp2
      refine bodyPost_ret (results_two rfl _ _ _) rfl ?_
      have X1 := HN.out.held _ (List.mem_of_getElem? (i := 1) rfl)
      have X2 := HN.out.held _ (List.mem_of_getElem? (i := 2) rfl)
      have X3 := HN.out.held _ (List.mem_of_getElem? (i := 0) rfl)
      have XI := HN.out.inc
      simp at XI
      have R := DAt.new (n := n) (m := m) (k := k) HO.out HN.out.below X1 X2 X3 (by omega) (by omega) (by omega) rfl
      simp only [sl, zeroC, List.length_replicate, Int.toNat_natCast] at R
      exact R
    · rw [if_pos (by exact rfl)]
      refine wpIn_make rfl (by exact rfl) (by exact rfl) (make_int w1 m hm) ?_
      refine hK _ _ (.inr (hS.skip _)) ?_
      clear hK K
      have hN5 := hN.alloc 3 (ints (List.replicate m 0))
      have hS5 := hS.skip (.cells (ints (List.replicate m 0)) 3)
      clear hS hN
      generalize hbN : w1.heap.size = bl at hN5 ⊢
      clear hbN
      generalize w1.alloc (.cells (ints (List.replicate m 0)) 3) = w2 at hN5 hS5 ⊢
      have hS := hS5
      have hN := hN5
      clear hS5 hN5
      simp only [List.cons_append, List.nil_append] at hN
      simp only [List.getElem_toArray, List.getElem_cons_zero, List.getElem_cons_succ, Act.put, List.setIfInBounds_toArray, List.set_cons_zero, List.set_cons_succ]
      refine wpAnyG_one (i := 1) (by kernel_rfl) rfl (fun K hK => ?_)
      rw [if_pos (by exact rfl)]
      refine wpIn_make rfl (by exact rfl) (by exact rfl) (make_i64 w2 n hn) ?_
      refine hK _ _ (.inr (hS.skip _)) ?_
      clear hK K
      have hN5 := hN.alloc 2 (ints (List.replicate n 0))
      have hS5 := hS.skip (.cells (ints (List.replicate n 0)) 2)
      clear hS hN
      generalize hbN : w2.heap.size = bc at hN5 ⊢
      clear hbN
      generalize w2.alloc (.cells (ints (List.replicate n 0)) 2) = w3 at hN5 hS5 ⊢
      have hS := hS5
      have hN := hN5
      clear hS5 hN5
      simp only [List.cons_append, List.nil_append] at hN
      simp only [List.getElem_toArray, List.getElem_cons_zero, List.getElem_cons_succ, Act.put, List.setIfInBounds_toArray, List.set_cons_zero, List.set_cons_succ]
      refine wpAnyG_one (i := 6) (by kernel_rfl) rfl (fun K hK => ?_)
      go_simp
      refine hK _ _ (.inr hS) ?_
      clear hK K
      refine wpAnyG_one (i := 7) (by kernel_rfl) rfl (fun K hK => ?_)
      go_simp
      refine hK _ _ (.inr (hS.skip _)) ?_
      clear hK K
      have hS5 := hS.skip (.cells #[.slice (some ⟨bc, 0, none⟩) n n, .slice (some ⟨bl, 0, none⟩) m m, .slice (some ⟨bs, 0, none⟩) k k] 58)
      clear hS
      have hS := hS5
      clear hS5
      refine wpAnyG_one (i := 8) (by kernel_rfl) rfl (fun K hK => ?_)
      go_simp
      refine hK _ _ (.inr hS) ?_
      clear hK K
      refine wpAnyG_one (i := 9) (by kernel_rfl) rfl (fun K hK => ?_)
      go_simp
      refine hK _ _ (.inr hS) ?_
      clear hK K
      refine wpAnyG_done (by kernel_rfl) ?_ _
      clear hS
      have HN := Lib.hid hN
      clear hN
      go_wp2
      refine bodyPost_ret (results_two rfl _ _ _) rfl ?_
      have X1 := HN.out.held _ (List.mem_of_getElem? (i := 2) rfl)
      have X2 := HN.out.held _ (List.mem_of_getElem? (i := 1) rfl)
      have X3 := HN.out.held _ (List.mem_of_getElem? (i := 0) rfl)
      have XI := HN.out.inc
      simp at XI
      have R := DAt.new (n := n) (m := m) (k := k) HO.out HN.out.below X1 X2 X3 (by omega) (by omega) (by omega) rfl
      simp only [sl, zeroC, List.length_replicate, Int.toNat_natCast] at R
      exact R
end Go.Proofs.Ytoajgaljccaccaa.Ce
end
/- What the program's cells do, as an interface; the document's; a law's state: two cells that lie apart. Conditions: as the interface says. -/
section
namespace Go.Proofs.Ytoajgaljccaccaa.Ce
set_option linter.unusedSimpArgs false
set_option linter.unusedVariables false
set_option maxRecDepth 100000
open Go.ChangeShapes Go.WideShapes Go.ChangeAt Go.RowKit

/-- what lies somewhere stays, if what it owns stays -/
structure PtOk (P : PT) : Prop where
  on : ∀ {W W' : World} {own : Nat → Prop} {p : Nat} {s : CC} {N : Nat}, P W own p s N → (∀ i, own i → W'.heap[i]? = W.heap[i]?) → W.heap.size ≤ W'.heap.size → P W' own p s N
  lt : ∀ {W : World} {own : Nat → Prop} {p : Nat} {s : CC} {N : Nat}, P W own p s N → ∀ i, own i → i < W.heap.size
theorem DocAt.pt : PtOk DocAt := ⟨fun ⟨a, b, c, h⟩ h1 _ => ⟨a, b, c, h.on h1⟩, fun ⟨a, b, c, h⟩ i hi => h.lt i hi⟩
/-- no cells -/
def NoT : PT := fun _ own _ _ _ => ∀ i, ¬ own i
theorem NoT.pt : PtOk NoT := ⟨fun h _ _ => h, fun h i hi => absurd hi (h i)⟩
/-- a law's state: two cells that lie apart, what the law holds in the blocks T -/
def Kept (T : Nat → Prop) (K : World → Prop) : Prop := ∀ X Y : World, K X → X.heap.size ≤ Y.heap.size → (∀ i, T i → Y.heap[i]? = X.heap[i]?) → K Y
structure St0 (P1 P2 : PT) (W0 W : World) (T : Nat → Prop) (K : World → Prop) (p1 : Nat) (s1 : CC) (N1 : Nat) (p2 : Nat) (s2 : CC) (N2 : Nat) (own own2 : Nat → Prop) : Prop where
  a1 : P1 W own p1 s1 N1
  a2 : P2 W own2 p2 s2 N2
  sep : ∀ i, own i → ¬ own2 i
  b1 : ∀ i, own i → W0.heap.size ≤ i
  b2 : ∀ i, own2 i → W0.heap.size ≤ i
  below : Below W0.heap.size W0 W
  free : ∀ i, T i → i < W.heap.size ∧ ¬ own i ∧ ¬ own2 i
  keep : K W
def St (P1 P2 : PT) (W0 W : World) (T : Nat → Prop) (K : World → Prop) (p1 : Nat) (s1 : CC) (N1 : Nat) (p2 : Nat) (s2 : CC) (N2 : Nat) : Prop := ∃ own own2, St0 P1 P2 W0 W T K p1 s1 N1 p2 s2 N2 own own2
section
variable {P1 P2 : PT} {W0 W W' : World} {T T' : Nat → Prop} {K K' : World → Prop} {p1 N1 p2 N2 : Nat} {s1 s2 : CC}
theorem St.symm (h : St P1 P2 W0 W T K p1 s1 N1 p2 s2 N2) : St P2 P1 W0 W T K p2 s2 N2 p1 s1 N1 := by
  obtain ⟨own, own2, h⟩ := h
  exact ⟨own2, own, h.a2, h.a1, fun i h2 h1 => h.sep i h1 h2, h.b2, h.b1, h.below, fun i hi => ⟨(h.free i hi).1, (h.free i hi).2.2, (h.free i hi).2.1⟩, h.keep⟩
theorem St.bel (h : St P1 P2 W0 W T K p1 s1 N1 p2 s2 N2) : Below W0.heap.size W0 W := by
  obtain ⟨own, own2, h⟩ := h
  exact h.below
theorem St.kp (h : St P1 P2 W0 W T K p1 s1 N1 p2 s2 N2) : K W := by
  obtain ⟨own, own2, h⟩ := h
  exact h.keep
/-- what is new is the law's own -/
theorem St.grow (o1 : PtOk P1) (o2 : PtOk P2) (h : St P1 P2 W0 W T K p1 s1 N1 p2 s2 N2) (hb : Below W.heap.size W W') (hT : ∀ i, T' i → T i ∨ (W.heap.size ≤ i ∧ i < W'.heap.size)) (hK : K' W') : St P1 P2 W0 W' T' K' p1 s1 N1 p2 s2 N2 := by
  obtain ⟨own, own2, h⟩ := h
  refine ⟨own, own2, o1.on h.a1 (fun i hi => hb.block i (o1.lt h.a1 i hi)) hb.size, o2.on h.a2 (fun i hi => hb.block i (o2.lt h.a2 i hi)) hb.size, h.sep, h.b1, h.b2, h.below.trans (hb.mono h.below.size), fun i hi => ?_, hK⟩
  rcases hT i hi with h1 | h1
  · exact ⟨Nat.lt_of_lt_of_le (h.free i h1).1 hb.size, (h.free i h1).2⟩
  · refine ⟨h1.2, fun h2 => ?_, fun h2 => ?_⟩
    · have := o1.lt h.a1 i h2
      omega
    · have := o2.lt h.a2 i h2
      omega
theorem St.on (o1 : PtOk P1) (o2 : PtOk P2) (hk : Kept T K) (h : St P1 P2 W0 W T K p1 s1 N1 p2 s2 N2) (hb : Below W.heap.size W W') : St P1 P2 W0 W' T K p1 s1 N1 p2 s2 N2 := by
  refine h.grow o1 o2 hb (fun i hi => .inl hi) ?_
  obtain ⟨own, own2, h⟩ := h
  exact hk W W' h.keep hb.size fun i hi => hb.block i (h.free i hi).1
theorem Kept.no (T : Nat → Prop) : Kept T (fun _ => True) := fun _ _ _ _ _ => trivial
/-- a call that changes the first of them -/
theorem St.step (o1 : PtOk P1) (o2 : PtOk P2) (hk : Kept T K) (h : St P1 P2 W0 W T K p1 s1 N1 p2 s2 N2) {f : Nat} {args : Array Value} {s' : CC} {N' : Nat} {v : Value}
    (hc : ∀ own, P1 W own p1 s1 N1 → Calls Try.prog f args W (DidF P1 W own p1 s' N' v)) : Calls Try.prog f args W fun e w' => e = .returned v ∧ St P1 P2 W0 w' T K p1 s' N' p2 s2 N2 := by
  obtain ⟨own, own2, h⟩ := h
  refine (hc own h.a1).mono ?_
  rintro e w' ⟨rfl, ⟨own', a, ho⟩, hF⟩
  have h2 : ∀ i, own2 i → w'.heap[i]? = W.heap[i]? := fun i hi => hF.block i (o2.lt h.a2 i hi) fun e => h.sep i e hi
  have hT : ∀ i, T i → w'.heap[i]? = W.heap[i]? := fun i hi => hF.block i (h.free i hi).1 (h.free i hi).2.1
  have hws := h.below.size
  refine ⟨rfl, own', own2, a, o2.on h.a2 h2 hF.size, fun i hi h3 => ?_, fun i hi => ?_, h.b2, ⟨hF.os.trans h.below.os, hF.tape.trans h.below.tape, hF.output.trans h.below.output, Nat.le_trans h.below.size hF.size, fun i hi => (hF.block i (Nat.lt_of_lt_of_le hi h.below.size) (fun e => by have := h.b1 i e; omega)).trans (h.below.block i hi)⟩, fun i hi => ?_, hk W w' h.keep hF.size hT⟩
  · rcases ho i hi with e | e
    · exact h.sep i e h3
    · have := o2.lt h.a2 i h3
      omega
  · rcases ho i hi with e | e
    · exact h.b1 i e
    · omega
  · have hf := h.free i hi
    refine ⟨Nat.lt_of_lt_of_le hf.1 hF.size, fun e => ?_, hf.2.2⟩
    rcases ho i e with e | e
    · exact hf.2.1 e
    · omega
end
/-- what the program does -/
structure PCells (P : PT) : Prop where
  pt : PtOk P
  ok : ∀ {W : World} {own : Nat → Prop} {p : Nat} {s : CC} {N : Nat}, P W own p s N → FitsC s N
  new_no : ∀ (n m k : Int), I64 n → I64 m → I64 k → okNew n m k = false → ∀ W : World, Calls Try.prog 11 #[.int .i64 n, .int .i64 m, .int .i64 k] W fun e w' => e = .returned (.tuple #[.pointer none, .int .i64 2]) ∧ Below W.heap.size W w'
  new_yes : ∀ (n m k : Int), okNew n m k = true → ∀ W : World, Calls Try.prog 11 #[.int .i64 n, .int .i64 m, .int .i64 k] W (NewF P W (zeroC n m k))
  load : ∀ (W : World) (own : Nat → Prop) (p : Nat) (s : CC) (N : Nat) (i : Int), I64 i → N ≤ 1000000 → P W own p s N → Calls Try.prog 14 #[.pointer (some ⟨p, 0, none⟩), .int .i64 i] W (DidF P W own p s N (.tuple #[.int .i64 (loadV s i), .int .i64 (cellE (has s.c i))]))
  store : ∀ (W : World) (own : Nat → Prop) (p : Nat) (s : CC) (N : Nat) (i a : Int), I64 i → I64 a → N ≤ 1000000 → P W own p s N → Calls Try.prog 22 #[.pointer (some ⟨p, 0, none⟩), .int .i64 i, .int .i64 a] W (DidF P W own p (storeS s i a) N (.int .i64 (cellE (has s.c i))))
  add : ∀ (W : World) (own : Nat → Prop) (p : Nat) (s : CC) (N : Nat) (i a : Int), I64 i → I64 a → N ≤ 1000000 → P W own p s N → Calls Try.prog 18 #[.pointer (some ⟨p, 0, none⟩), .int .i64 i, .int .i64 a] W (DidF P W own p (addS s i a) N (.tuple #[.int .i64 (addV s i a), .int .i64 (cellE (has s.c i))]))
  swap : ∀ (W : World) (own : Nat → Prop) (p : Nat) (s : CC) (N : Nat) (i a b : Int), I64 i → I64 a → I64 b → N ≤ 1000000 → P W own p s N → Calls Try.prog 19 #[.pointer (some ⟨p, 0, none⟩), .int .i64 i, .int .i64 a, .int .i64 b] W (DidF P W own p (swapS s i a b) N (.tuple #[.bool (swapV s i a), .int .i64 (cellE (has s.c i))]))
  lock : ∀ (W : World) (own : Nat → Prop) (p : Nat) (s : CC) (N : Nat) (i a : Int), I64 i → I64 a → N ≤ 1000000 → P W own p s N → Calls Try.prog 23 #[.pointer (some ⟨p, 0, none⟩), .int .i64 i, .int .i64 a] W (DidF P W own p (lockS s i a) N (.int .i64 (lockE s i a)))
  unlock : ∀ (W : World) (own : Nat → Prop) (p : Nat) (s : CC) (N : Nat) (i a : Int), I64 i → I64 a → N ≤ 1000000 → P W own p s N → Calls Try.prog 24 #[.pointer (some ⟨p, 0, none⟩), .int .i64 i, .int .i64 a] W (DidF P W own p (unlockS s i a) N (.int .i64 (unlockE s i a)))
  holder : ∀ (W : World) (own : Nat → Prop) (p : Nat) (s : CC) (N : Nat) (i : Int), I64 i → N ≤ 1000000 → P W own p s N → Calls Try.prog 16 #[.pointer (some ⟨p, 0, none⟩), .int .i64 i] W (DidF P W own p s N (.int .i64 (holder s i)))
  change : ∀ (W : World) (own : Nat → Prop) (p : Nat) (s : CC) (N : Nat) (i : Int), I64 i → N ≤ 1000000 → P W own p s N → Calls Try.prog 25 #[.pointer (some ⟨p, 0, none⟩), .int .i64 i] W (DidF P W own p (stepS s i 0) (N + 1) (.int .i64 (stepE s i 0)))
  settle : ∀ (W : World) (own : Nat → Prop) (p : Nat) (s : CC) (N : Nat) (i : Int), I64 i → N ≤ 1000000 → P W own p s N → Calls Try.prog 26 #[.pointer (some ⟨p, 0, none⟩), .int .i64 i] W (DidF P W own p (stepS s i 1) (N + 1) (.int .i64 (stepE s i 1)))
  begin : ∀ (W : World) (own : Nat → Prop) (p : Nat) (s : CC) (N : Nat) (i : Int), I64 i → N ≤ 1000000 → P W own p s N → Calls Try.prog 20 #[.pointer (some ⟨p, 0, none⟩), .int .i64 i] W (DidF P W own p s N (.tuple #[.int .i64 (beginV s i), .int .i64 (beginE s i)]))
  fin : ∀ (W : World) (own : Nat → Prop) (p : Nat) (s : CC) (N : Nat) (i a : Int), I64 i → I64 a → N ≤ 1000000 → P W own p s N → Calls Try.prog 21 #[.pointer (some ⟨p, 0, none⟩), .int .i64 i, .int .i64 a] W (DidF P W own p s N (.tuple #[.bool (endV s i a), .int .i64 (cellE (has s.s i))]))
  nload : ∀ (W : World) (i : Int), Calls Try.prog 14 #[.pointer none, .int .i64 i] W fun e w' => e = .returned (.tuple #[.int .i64 0, .int .i64 1]) ∧ Below W.heap.size W w'
  nstore : ∀ (W : World) (i a : Int), Calls Try.prog 22 #[.pointer none, .int .i64 i, .int .i64 a] W fun e w' => e = .returned (.int .i64 1) ∧ Below W.heap.size W w'
  nadd : ∀ (W : World) (i a : Int), Calls Try.prog 18 #[.pointer none, .int .i64 i, .int .i64 a] W fun e w' => e = .returned (.tuple #[.int .i64 0, .int .i64 1]) ∧ Below W.heap.size W w'
  nswap : ∀ (W : World) (i a b : Int), Calls Try.prog 19 #[.pointer none, .int .i64 i, .int .i64 a, .int .i64 b] W fun e w' => e = .returned (.tuple #[.bool false, .int .i64 1]) ∧ Below W.heap.size W w'
  nlock : ∀ (W : World) (i a : Int), Calls Try.prog 23 #[.pointer none, .int .i64 i, .int .i64 a] W fun e w' => e = .returned (.int .i64 1) ∧ Below W.heap.size W w'
  nunlock : ∀ (W : World) (i a : Int), Calls Try.prog 24 #[.pointer none, .int .i64 i, .int .i64 a] W fun e w' => e = .returned (.int .i64 1) ∧ Below W.heap.size W w'
  nholder : ∀ (W : World) (i : Int), Calls Try.prog 16 #[.pointer none, .int .i64 i] W fun e w' => e = .returned (.int .i64 (-1)) ∧ Below W.heap.size W w'
  nchange : ∀ (W : World) (i : Int), Calls Try.prog 25 #[.pointer none, .int .i64 i] W fun e w' => e = .returned (.int .i64 1) ∧ Below W.heap.size W w'
  nsettle : ∀ (W : World) (i : Int), Calls Try.prog 26 #[.pointer none, .int .i64 i] W fun e w' => e = .returned (.int .i64 1) ∧ Below W.heap.size W w'
  nbegin : ∀ (W : World) (i : Int), Calls Try.prog 20 #[.pointer none, .int .i64 i] W fun e w' => e = .returned (.tuple #[.int .i64 0, .int .i64 1]) ∧ Below W.heap.size W w'
  nfin : ∀ (W : World) (i a : Int), Calls Try.prog 21 #[.pointer none, .int .i64 i, .int .i64 a] W fun e w' => e = .returned (.tuple #[.bool false, .int .i64 1]) ∧ Below W.heap.size W w'
end Go.Proofs.Ytoajgaljccaccaa.Ce
end
/- The calls, as steps of a law's state; the law begun. Conditions: as the interface says. -/
section
namespace Go.Proofs.Ytoajgaljccaccaa.Ce
set_option linter.unusedSimpArgs false
set_option linter.unusedVariables false
set_option maxRecDepth 100000
open Go.ChangeShapes Go.WideShapes Go.ChangeAt Go.RowKit

theorem St.start (w : World) (s : CC) : St NoT NoT w w (fun _ => False) (fun _ => True) 0 s 0 0 s 0 :=
  ⟨fun _ => False, fun _ => False, fun _ h => h, fun _ h => h, fun _ h => h.elim, fun _ h => h.elim, fun _ h => h.elim, Below.refl _ _, fun _ h => h.elim, trivial⟩
section
variable {P1 P2 P : PT} {W0 W W' : World} {T T' : Nat → Prop} {K K' : World → Prop} {p1 N1 p2 N2 : Nat} {s1 s2 s : CC}
/-- the first of them is made -/
theorem St.made (o2 : PtOk P2) (hk : Kept T K) (h : St NoT P2 W0 W T K p1 s1 N1 p2 s2 N2) {f : Nat} {args : Array Value} (hc : Calls Try.prog f args W (NewF P W s)) : Calls Try.prog f args W fun e w' => ∃ p, e = .returned (.tuple #[.pointer (some ⟨p, 0, none⟩), .int .i64 0]) ∧ St P P2 W0 w' T K p s 0 p2 s2 N2 := by
  obtain ⟨own, own2, h⟩ := h
  refine hc.mono ?_
  rintro e w' ⟨p, own', rfl, hP, hb, hn⟩
  have hz := h.below.size
  refine ⟨p, rfl, own', own2, hP, o2.on h.a2 (fun i hi => hb.block i (o2.lt h.a2 i hi)) hb.size, fun i h1 h2 => ?_, fun i hi => by have := hn i hi; omega, h.b2, h.below.trans (hb.mono hz), fun i hi => ⟨Nat.lt_of_lt_of_le (h.free i hi).1 hb.size, fun e => ?_, (h.free i hi).2.2⟩, hk W w' h.keep hb.size fun i hi => hb.block i (h.free i hi).1⟩
  · have := hn i h1
    have := o2.lt h.a2 i h2
    omega
  · have := hn i e
    have := (h.free i hi).1
    omega
theorem St.newP (hP : PCells P) (o2 : PtOk P2) (hk : Kept T K) (h : St NoT P2 W0 W T K p1 s1 N1 p2 s2 N2) (n m k : Int) (ho : okNew n m k = true) : Calls Try.prog 11 #[.int .i64 n, .int .i64 m, .int .i64 k] W fun e w' => ∃ p, e = .returned (.tuple #[.pointer (some ⟨p, 0, none⟩), .int .i64 0]) ∧ St P P2 W0 w' T K p (zeroC n m k) 0 p2 s2 N2 :=
  h.made o2 hk (hP.new_yes n m k ho W)
theorem St.newR (o1 : PtOk P1) (hk : Kept T K) (h : St P1 NoT W0 W T K p1 s1 N1 p2 s2 N2) (n m k : Int) (ho : okNew n m k = true) : Calls Try.prog 12 #[.int .i64 n, .int .i64 m, .int .i64 k] W fun e w' => ∃ p, e = .returned (.tuple #[.pointer (some ⟨p, 0, none⟩), .int .i64 0]) ∧ St P1 DocAt W0 w' T K p1 s1 N1 p (zeroC n m k) 0 :=
  (h.symm.made o1 hk (new_yes n m k ho W)).mono fun e w' ⟨p, he, hh⟩ => ⟨p, he, hh.symm⟩
/-- less is held from now on -/
theorem St.less (h : St P1 P2 W0 W T K p1 s1 N1 p2 s2 N2) (hT : ∀ i, T' i → T i) (hK : K W → K' W) : St P1 P2 W0 W T' K' p1 s1 N1 p2 s2 N2 := by
  obtain ⟨own, own2, h⟩ := h
  exact ⟨own, own2, h.a1, h.a2, h.sep, h.b1, h.b2, h.below, fun i hi => h.free i (hT i hi), hK h.keep⟩
theorem St.none (h : St P1 P2 W0 W T K p1 s1 N1 p2 s2 N2) : St P1 P2 W0 W (fun _ => False) (fun _ => True) p1 s1 N1 p2 s2 N2 := h.less (fun _ h => h.elim) fun _ => trivial
theorem Kept.box (hk : Kept T K) (b : Nat) (ty : TypeId) (cs : Array Value) : Kept (fun i => T i ∨ i = b) (fun X => K X ∧ Held X b ty cs) := fun X Y h hs hb =>
  ⟨hk X Y h.1 hs fun i hi => hb i (.inl hi), (hb b (.inr rfl)).trans h.2⟩
theorem St.box (o1 : PtOk P1) (o2 : PtOk P2) (hk : Kept T K) (O : St P1 P2 W0 W T K p1 s1 N1 p2 s2 N2) {b : Nat} {ty : TypeId} {cs : Array Value} (H : Mem W W' [(b, ty, cs)]) : St P1 P2 W0 W' (fun i => T i ∨ i = b) (fun X => K X ∧ Held X b ty cs) p1 s1 N1 p2 s2 N2 := by
  have hh := H.held _ List.mem_cons_self
  refine O.grow o1 o2 H.below (fun i hi => hi.imp id fun e => by rw [e]; exact ⟨hh.1, hh.2.lt⟩) ⟨?_, hh.2⟩
  obtain ⟨own, own2, h⟩ := O
  exact hk W W' h.keep H.below.size fun i hi => H.below.block i (h.free i hi).1
theorem pack_more (o1 : PtOk P1) (o2 : PtOk P2) (hk : Kept T K) (O : St P1 P2 W0 W T K p1 s1 N1 p2 s2 N2) {b : Nat} {ty : TypeId} {cs : Array Value} (H : Mem W W' [(b, ty, cs)]) :
    ∃ T' K', Kept T' K' ∧ (∀ X, K' X → K X ∧ Held X b ty cs) ∧ (∀ i, T i → T' i) ∧ St P1 P2 W0 W' T' K' p1 s1 N1 p2 s2 N2 :=
  ⟨_, _, hk.box b ty cs, fun X h => h, fun i hi => .inl hi, O.box o1 o2 hk H⟩
theorem St.facts (hP : PCells P) (h : St P P2 W0 W T K p1 s1 N1 p2 s2 N2) : FitsC s1 N1 := by
  obtain ⟨own, own2, h⟩ := h
  exact hP.ok h.a1
end
section
variable {P P2 : PT} (hP : PCells P) (o2 : PtOk P2) {W0 W : World} {T : Nat → Prop} {K : World → Prop} (hk : Kept T K) {p1 N1 p2 N2 : Nat} {s1 s2 : CC}
include hP o2 hk
theorem loadP (h : St P P2 W0 W T K p1 s1 N1 p2 s2 N2) (hN : N1 ≤ 1000000) (i : Int) (hi : I64 i) : Calls Try.prog 14 #[.pointer (some ⟨p1, 0, none⟩), .int .i64 i] W fun e w' => e = .returned (.tuple #[.int .i64 (loadV s1 i), .int .i64 (cellE (has s1.c i))]) ∧ St P P2 W0 w' T K p1 s1 N1 p2 s2 N2 :=
  h.step hP.pt o2 hk fun own a1 => hP.load W own p1 s1 N1 i hi hN a1
theorem storeP (h : St P P2 W0 W T K p1 s1 N1 p2 s2 N2) (hN : N1 ≤ 1000000) (i a : Int) (hi : I64 i) (ha : I64 a) : Calls Try.prog 22 #[.pointer (some ⟨p1, 0, none⟩), .int .i64 i, .int .i64 a] W fun e w' => e = .returned (.int .i64 (cellE (has s1.c i))) ∧ St P P2 W0 w' T K p1 (storeS s1 i a) N1 p2 s2 N2 :=
  h.step hP.pt o2 hk fun own a1 => hP.store W own p1 s1 N1 i a hi ha hN a1
theorem addP (h : St P P2 W0 W T K p1 s1 N1 p2 s2 N2) (hN : N1 ≤ 1000000) (i a : Int) (hi : I64 i) (ha : I64 a) : Calls Try.prog 18 #[.pointer (some ⟨p1, 0, none⟩), .int .i64 i, .int .i64 a] W fun e w' => e = .returned (.tuple #[.int .i64 (addV s1 i a), .int .i64 (cellE (has s1.c i))]) ∧ St P P2 W0 w' T K p1 (addS s1 i a) N1 p2 s2 N2 :=
  h.step hP.pt o2 hk fun own a1 => hP.add W own p1 s1 N1 i a hi ha hN a1
theorem swapP (h : St P P2 W0 W T K p1 s1 N1 p2 s2 N2) (hN : N1 ≤ 1000000) (i a b : Int) (hi : I64 i) (ha : I64 a) (hb : I64 b) : Calls Try.prog 19 #[.pointer (some ⟨p1, 0, none⟩), .int .i64 i, .int .i64 a, .int .i64 b] W fun e w' => e = .returned (.tuple #[.bool (swapV s1 i a), .int .i64 (cellE (has s1.c i))]) ∧ St P P2 W0 w' T K p1 (swapS s1 i a b) N1 p2 s2 N2 :=
  h.step hP.pt o2 hk fun own a1 => hP.swap W own p1 s1 N1 i a b hi ha hb hN a1
theorem lockP (h : St P P2 W0 W T K p1 s1 N1 p2 s2 N2) (hN : N1 ≤ 1000000) (i a : Int) (hi : I64 i) (ha : I64 a) : Calls Try.prog 23 #[.pointer (some ⟨p1, 0, none⟩), .int .i64 i, .int .i64 a] W fun e w' => e = .returned (.int .i64 (lockE s1 i a)) ∧ St P P2 W0 w' T K p1 (lockS s1 i a) N1 p2 s2 N2 :=
  h.step hP.pt o2 hk fun own a1 => hP.lock W own p1 s1 N1 i a hi ha hN a1
theorem unlockP (h : St P P2 W0 W T K p1 s1 N1 p2 s2 N2) (hN : N1 ≤ 1000000) (i a : Int) (hi : I64 i) (ha : I64 a) : Calls Try.prog 24 #[.pointer (some ⟨p1, 0, none⟩), .int .i64 i, .int .i64 a] W fun e w' => e = .returned (.int .i64 (unlockE s1 i a)) ∧ St P P2 W0 w' T K p1 (unlockS s1 i a) N1 p2 s2 N2 :=
  h.step hP.pt o2 hk fun own a1 => hP.unlock W own p1 s1 N1 i a hi ha hN a1
theorem holderP (h : St P P2 W0 W T K p1 s1 N1 p2 s2 N2) (hN : N1 ≤ 1000000) (i : Int) (hi : I64 i) : Calls Try.prog 16 #[.pointer (some ⟨p1, 0, none⟩), .int .i64 i] W fun e w' => e = .returned (.int .i64 (holder s1 i)) ∧ St P P2 W0 w' T K p1 s1 N1 p2 s2 N2 :=
  h.step hP.pt o2 hk fun own a1 => hP.holder W own p1 s1 N1 i hi hN a1
theorem changeP (h : St P P2 W0 W T K p1 s1 N1 p2 s2 N2) (hN : N1 ≤ 1000000) (i : Int) (hi : I64 i) : Calls Try.prog 25 #[.pointer (some ⟨p1, 0, none⟩), .int .i64 i] W fun e w' => e = .returned (.int .i64 (stepE s1 i 0)) ∧ St P P2 W0 w' T K p1 (stepS s1 i 0) (N1 + 1) p2 s2 N2 :=
  h.step hP.pt o2 hk fun own a1 => hP.change W own p1 s1 N1 i hi hN a1
theorem settleP (h : St P P2 W0 W T K p1 s1 N1 p2 s2 N2) (hN : N1 ≤ 1000000) (i : Int) (hi : I64 i) : Calls Try.prog 26 #[.pointer (some ⟨p1, 0, none⟩), .int .i64 i] W fun e w' => e = .returned (.int .i64 (stepE s1 i 1)) ∧ St P P2 W0 w' T K p1 (stepS s1 i 1) (N1 + 1) p2 s2 N2 :=
  h.step hP.pt o2 hk fun own a1 => hP.settle W own p1 s1 N1 i hi hN a1
theorem beginP (h : St P P2 W0 W T K p1 s1 N1 p2 s2 N2) (hN : N1 ≤ 1000000) (i : Int) (hi : I64 i) : Calls Try.prog 20 #[.pointer (some ⟨p1, 0, none⟩), .int .i64 i] W fun e w' => e = .returned (.tuple #[.int .i64 (beginV s1 i), .int .i64 (beginE s1 i)]) ∧ St P P2 W0 w' T K p1 s1 N1 p2 s2 N2 :=
  h.step hP.pt o2 hk fun own a1 => hP.begin W own p1 s1 N1 i hi hN a1
theorem finP (h : St P P2 W0 W T K p1 s1 N1 p2 s2 N2) (hN : N1 ≤ 1000000) (i a : Int) (hi : I64 i) (ha : I64 a) : Calls Try.prog 21 #[.pointer (some ⟨p1, 0, none⟩), .int .i64 i, .int .i64 a] W fun e w' => e = .returned (.tuple #[.bool (endV s1 i a), .int .i64 (cellE (has s1.s i))]) ∧ St P P2 W0 w' T K p1 s1 N1 p2 s2 N2 :=
  h.step hP.pt o2 hk fun own a1 => hP.fin W own p1 s1 N1 i a hi ha hN a1
end
section
variable {P1 : PT} (o1 : PtOk P1) {W0 W : World} {T : Nat → Prop} {K : World → Prop} (hk : Kept T K) {p1 N1 p2 N2 : Nat} {s1 s2 : CC}
include o1 hk
theorem loadR (h : St P1 DocAt W0 W T K p1 s1 N1 p2 s2 N2) (hN : N2 ≤ 1000000) (i : Int) (hi : I64 i) : Calls Try.prog 15 #[.pointer (some ⟨p2, 0, none⟩), .int .i64 i] W fun e w' => e = .returned (.tuple #[.int .i64 (loadV s2 i), .int .i64 (cellE (has s2.c i))]) ∧ St P1 DocAt W0 w' T K p1 s1 N1 p2 s2 N2 :=
  (h.symm.step DocAt.pt o1 hk fun own a2 => load_r W own p2 s2 N2 i a2).mono fun e w' hh => ⟨hh.1, hh.2.symm⟩
theorem storeR (h : St P1 DocAt W0 W T K p1 s1 N1 p2 s2 N2) (hN : N2 ≤ 1000000) (i a : Int) (hi : I64 i) (ha : I64 a) : Calls Try.prog 29 #[.pointer (some ⟨p2, 0, none⟩), .int .i64 i, .int .i64 a] W fun e w' => e = .returned (.int .i64 (cellE (has s2.c i))) ∧ St P1 DocAt W0 w' T K p1 s1 N1 p2 (storeS s2 i a) N2 :=
  (h.symm.step DocAt.pt o1 hk fun own a2 => store_r W own p2 s2 N2 i a ha a2).mono fun e w' hh => ⟨hh.1, hh.2.symm⟩
theorem addR (h : St P1 DocAt W0 W T K p1 s1 N1 p2 s2 N2) (hN : N2 ≤ 1000000) (i a : Int) (hi : I64 i) (ha : I64 a) : Calls Try.prog 48 #[.pointer (some ⟨p2, 0, none⟩), .int .i64 i, .int .i64 a] W fun e w' => e = .returned (.tuple #[.int .i64 (addV s2 i a), .int .i64 (cellE (has s2.c i))]) ∧ St P1 DocAt W0 w' T K p1 s1 N1 p2 (addS s2 i a) N2 :=
  (h.symm.step DocAt.pt o1 hk fun own a2 => add_r W own p2 s2 N2 i a ha a2).mono fun e w' hh => ⟨hh.1, hh.2.symm⟩
theorem swapR (h : St P1 DocAt W0 W T K p1 s1 N1 p2 s2 N2) (hN : N2 ≤ 1000000) (i a b : Int) (hi : I64 i) (ha : I64 a) (hb : I64 b) : Calls Try.prog 49 #[.pointer (some ⟨p2, 0, none⟩), .int .i64 i, .int .i64 a, .int .i64 b] W fun e w' => e = .returned (.tuple #[.bool (swapV s2 i a), .int .i64 (cellE (has s2.c i))]) ∧ St P1 DocAt W0 w' T K p1 s1 N1 p2 (swapS s2 i a b) N2 :=
  (h.symm.step DocAt.pt o1 hk fun own a2 => swap_r W own p2 s2 N2 i a b hb a2).mono fun e w' hh => ⟨hh.1, hh.2.symm⟩
theorem lockR (h : St P1 DocAt W0 W T K p1 s1 N1 p2 s2 N2) (hN : N2 ≤ 1000000) (i a : Int) (hi : I64 i) (ha : I64 a) : Calls Try.prog 30 #[.pointer (some ⟨p2, 0, none⟩), .int .i64 i, .int .i64 a] W fun e w' => e = .returned (.int .i64 (lockE s2 i a)) ∧ St P1 DocAt W0 w' T K p1 s1 N1 p2 (lockS s2 i a) N2 :=
  (h.symm.step DocAt.pt o1 hk fun own a2 => lock_r W own p2 s2 N2 i a a2).mono fun e w' hh => ⟨hh.1, hh.2.symm⟩
theorem unlockR (h : St P1 DocAt W0 W T K p1 s1 N1 p2 s2 N2) (hN : N2 ≤ 1000000) (i a : Int) (hi : I64 i) (ha : I64 a) : Calls Try.prog 31 #[.pointer (some ⟨p2, 0, none⟩), .int .i64 i, .int .i64 a] W fun e w' => e = .returned (.int .i64 (unlockE s2 i a)) ∧ St P1 DocAt W0 w' T K p1 s1 N1 p2 (unlockS s2 i a) N2 :=
  (h.symm.step DocAt.pt o1 hk fun own a2 => unlock_r W own p2 s2 N2 i a a2).mono fun e w' hh => ⟨hh.1, hh.2.symm⟩
theorem holderR (h : St P1 DocAt W0 W T K p1 s1 N1 p2 s2 N2) (hN : N2 ≤ 1000000) (i : Int) (hi : I64 i) : Calls Try.prog 17 #[.pointer (some ⟨p2, 0, none⟩), .int .i64 i] W fun e w' => e = .returned (.int .i64 (holder s2 i)) ∧ St P1 DocAt W0 w' T K p1 s1 N1 p2 s2 N2 :=
  (h.symm.step DocAt.pt o1 hk fun own a2 => holder_r W own p2 s2 N2 i a2).mono fun e w' hh => ⟨hh.1, hh.2.symm⟩
theorem changeR (h : St P1 DocAt W0 W T K p1 s1 N1 p2 s2 N2) (hN : N2 ≤ 1000000) (i : Int) (hi : I64 i) : Calls Try.prog 32 #[.pointer (some ⟨p2, 0, none⟩), .int .i64 i] W fun e w' => e = .returned (.int .i64 (stepE s2 i 0)) ∧ St P1 DocAt W0 w' T K p1 s1 N1 p2 (stepS s2 i 0) (N2 + 1) :=
  (h.symm.step DocAt.pt o1 hk fun own a2 => change_r W own p2 s2 N2 i hN a2).mono fun e w' hh => ⟨hh.1, hh.2.symm⟩
theorem settleR (h : St P1 DocAt W0 W T K p1 s1 N1 p2 s2 N2) (hN : N2 ≤ 1000000) (i : Int) (hi : I64 i) : Calls Try.prog 33 #[.pointer (some ⟨p2, 0, none⟩), .int .i64 i] W fun e w' => e = .returned (.int .i64 (stepE s2 i 1)) ∧ St P1 DocAt W0 w' T K p1 s1 N1 p2 (stepS s2 i 1) (N2 + 1) :=
  (h.symm.step DocAt.pt o1 hk fun own a2 => settle_r W own p2 s2 N2 i hN a2).mono fun e w' hh => ⟨hh.1, hh.2.symm⟩
theorem beginR (h : St P1 DocAt W0 W T K p1 s1 N1 p2 s2 N2) (hN : N2 ≤ 1000000) (i : Int) (hi : I64 i) : Calls Try.prog 50 #[.pointer (some ⟨p2, 0, none⟩), .int .i64 i] W fun e w' => e = .returned (.tuple #[.int .i64 (beginV s2 i), .int .i64 (beginE s2 i)]) ∧ St P1 DocAt W0 w' T K p1 s1 N1 p2 s2 N2 :=
  (h.symm.step DocAt.pt o1 hk fun own a2 => begin_r W own p2 s2 N2 i a2).mono fun e w' hh => ⟨hh.1, hh.2.symm⟩
theorem finR (h : St P1 DocAt W0 W T K p1 s1 N1 p2 s2 N2) (hN : N2 ≤ 1000000) (i a : Int) (hi : I64 i) (ha : I64 a) : Calls Try.prog 51 #[.pointer (some ⟨p2, 0, none⟩), .int .i64 i, .int .i64 a] W fun e w' => e = .returned (.tuple #[.bool (endV s2 i a), .int .i64 (cellE (has s2.s i))]) ∧ St P1 DocAt W0 w' T K p1 s1 N1 p2 s2 N2 :=
  (h.symm.step DocAt.pt o1 hk fun own a2 => end_r W own p2 s2 N2 i a a2).mono fun e w' hh => ⟨hh.1, hh.2.symm⟩
end
end Go.Proofs.Ytoajgaljccaccaa.Ce
end
/- What came in, opened: acts of layer 11. Conditions: the types' shapes. -/
section
namespace Go.Proofs.Ytoajgaljccaccaa.Ce
set_option linter.unusedSimpArgs false
set_option linter.unusedVariables false
set_option maxRecDepth 100000
open Go.Joins Go.Deep Go.ChangeShapes Go.WideShapes Go.ChangeAt Go.RowKit

/-- an act -/
structure AX where
  d : Int
  i : Int
  a : Int
  v : Int
  w : Int
abbrev axC (x : AX) : List Value := [.int .i64 x.d, .int .i64 x.i, .int .i64 x.a, .int .i64 x.v, .int .i64 x.w]
abbrev ax (x : AX) : Value := .agg #[.int .i64 x.d, .int .i64 x.i, .int .i64 x.a, .int .i64 x.v, .int .i64 x.w]
structure AX.Fits (x : AX) : Prop where
  d : I64 x.d
  i : I64 x.i
  a : I64 x.a
  v : I64 x.v
  w : I64 x.w
instance : Inhabited AX := ⟨⟨0, 0, 0, 0, 0⟩⟩
theorem axC_len (x : AX) : (axC x).length = 5 := rfl
section
variable {H : Type} {enc : TypeId × Value → H} {P : Program} {w : World} {base : Nat} {spare : Nat → Bool} {held : Bool}
theorem el_act (fuel : Nat) (cs : List Value) (x : DataW H × List MemPlace) (h : DataW.trod enc Try.prog w base spare held fuel 33 cs = some x) : ∃ y : AX, cs = axC y ∧ y.Fits := by
  obtain ⟨xs, m, _, _, hlen, hxl, hg⟩ := DataW.trod_struct Try.underlying33 h
  rw [show Try.prog.cellsOf 33 = 5 by kernel_rfl] at hlen
  match cs, hlen with
  | [c0, c1, c2, c3, c4], _ =>
    match xs, hxl with
    | [y0, y1, y2, y3, y4], _ =>
      obtain ⟨n0, e0, _, w0⟩ := DataW.trod_int Try.underlying3 (show DataW.trod enc Try.prog w base spare held m 3 [c0] = some y0 from hg 0 _ rfl)
      obtain ⟨n1, e1, _, w1⟩ := DataW.trod_int Try.underlying3 (show DataW.trod enc Try.prog w base spare held m 3 [c1] = some y1 from hg 1 _ rfl)
      obtain ⟨n2, e2, _, w2⟩ := DataW.trod_int Try.underlying3 (show DataW.trod enc Try.prog w base spare held m 3 [c2] = some y2 from hg 2 _ rfl)
      obtain ⟨n3, e3, _, w3⟩ := DataW.trod_int Try.underlying2 (show DataW.trod enc Try.prog w base spare held m 2 [c3] = some y3 from hg 3 _ rfl)
      obtain ⟨n4, e4, _, w4⟩ := DataW.trod_int Try.underlying2 (show DataW.trod enc Try.prog w base spare held m 2 [c4] = some y4 from hg 4 _ rfl)
      simp at e0 e1 e2 e3 e4
      subst e0 e1 e2 e3 e4
      exact ⟨⟨n0, n1, n2, n3, n4⟩, rfl, ⟨bd_i64 w0, bd_i64 w1, bd_i64 w2, bd_i64 w3, bd_i64 w4⟩⟩
theorem open_act {r : Reach} {b0 : Nat} {v : Value} {x : DataW H} {p : List MemPlace} (hv : Value.okWide Try.prog w r b0 33 v) (h : DataW.Trod enc Try.prog w base spare held 33 v x p) : ∃ y : AX, v = ax y ∧ y.Fits := by
  obtain ⟨cs, rfl, hsz⟩ := okWide_struct Try.underlying33 hv
  obtain ⟨l⟩ := cs
  obtain ⟨fuel, hf⟩ := h
  obtain ⟨q, e, hq⟩ := el_act fuel l _ (by simpa [Value.cells] using hf)
  exact ⟨q, by rw [e], hq⟩
/-- the acts of a slice -/
def ActsX (w : World) (A : Option Addr) (n : Nat) (xs : Nat → AX) : Prop := SliceAt w A n 5 axC AX.Fits xs
theorem open_acts11 {r : Reach} {b0 : Nat} {v : Value} {x : DataW H} {p : List MemPlace} (hv : Value.okWide Try.prog w r b0 22 v) (h : DataW.Trod enc Try.prog w base spare held 22 v x p) : ∃ A len cap xs, v = .slice A len cap ∧ len ≤ cap ∧ cap ≤ maxLen ∧ ActsX w A len xs :=
  open_sliceOf (m := 5) axC AX.Fits Try.underlying22 (by kernel_rfl) axC_len (by decide) el_act hv h
end
end Go.Proofs.Ytoajgaljccaccaa.Ce
end
