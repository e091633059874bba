/-
  The program's cell, count and lock; New. Conditions: the cells lie where their pointer says. The program's Load, Store, Add, Swap, Lock, Unlock, Change, Settle, Begin, End. Conditions: the cells lie where their pointer says.
-/
import Derived.Test.YtoajgaljccaccaaMGe
import Derived.Test.YtoajgaljccaccaaMGa
/- The program's cell, count and lock; New. Conditions: the cells lie where their pointer says. -/
section
namespace Go.Proofs.Ytoajgaljccaccaa.Ce
set_option linter.unusedSimpArgs false
set_option linter.unusedVariables false
set_option maxRecDepth 100000
open Go.ChangeShapes Go.WideShapes Go.ChangeAt Go.RowKit

theorem cell_nil (W : World) (i : Int) : Calls Try.prog 35 #[.pointer none, .int .i64 i] W fun e w' => e = .returned (.tuple #[.pointer none, .int .i64 1]) ∧ w' = W := by
  have k1 := missing_nil
  go_enter Try.func35, Try.ntmps35
  go_wp2_with (first
    | go_skip
    | (go_at_call 52; refine (k1 _).mono ?_; rintro e w2 ⟨rfl, rfl⟩))
  refine bodyPost_ret (results_two rfl _ _ _) rfl ?_
  exact ⟨rfl, rfl⟩
theorem cell_no (W : World) (own oc ol os : Nat → Prop) (p bc bl bs : Nat) (s : CC) (N : Nat) (i : Int) (h : PAtS W own oc ol os p bc bl bs s N) (hh : has s.c i = false) : Calls Try.prog 35 #[.pointer (some ⟨p, 0, none⟩), .int .i64 i] W fun e w' => e = .returned (.tuple #[.pointer none, .int .i64 2]) ∧ Below W.heap.size W w' := by
  have c0 : W.cell? ⟨p, 0, none⟩ = some (.pointer (some ⟨bc, 0, none⟩)) := h.box.cell 0
  have c1 : W.cell? ⟨p, 0, none⟩ = some (.pointer (some ⟨bc, 0, none⟩)) := h.box.cell 0
  have k1 := missing_no p bc W c0
  have k2 := at_no W oc bc s.c i h.hc hh
  clear h hh
  go_enter Try.func35, Try.ntmps35
  go_wp2_with (first
    | go_skip
    | (go_at_call 52; refine (k1).mono ?_; rintro e w2 ⟨rfl, rfl⟩)
    | (go_at_call 53; refine k2.mono ?_; rintro e w2 ⟨rfl, hb⟩))
  refine bodyPost_ret (results_two rfl _ _ _) rfl ?_
  exact ⟨rfl, hb⟩
theorem cell_yes (W : World) (own oc ol os : Nat → Prop) (p bc bl bs : Nat) (s : CC) (N k : Nat) (h : PAtS W own oc ol os p bc bl bs s N) (hh : has s.c k = true) : Calls Try.prog 35 #[.pointer (some ⟨p, 0, none⟩), .int .i64 (k : Int)] W (GotC W own p s N k) := by
  have c0 : W.cell? ⟨p, 0, none⟩ = some (.pointer (some ⟨bc, 0, none⟩)) := h.box.cell 0
  have c1 : W.cell? ⟨p, 0, none⟩ = some (.pointer (some ⟨bc, 0, none⟩)) := h.box.cell 0
  have k1 := missing_no p bc W c0
  have k2 := (at_yes W oc bc s.c k h.hc hh).mono fun e w' g => h.gotC hh g
  clear h hh
  go_enter Try.func35, Try.ntmps35
  go_wp2_with (first
    | go_skip
    | (go_at_call 52; refine (k1).mono ?_; rintro e w2 ⟨rfl, rfl⟩)
    | (go_at_call 53; refine k2.mono ?_; rintro e w2 ⟨d, rfl, G⟩))
  refine bodyPost_ret (results_two rfl _ _ _) rfl ?_
  exact ⟨d, rfl, G⟩
theorem count_nil (W : World) (i : Int) : Calls Try.prog 40 #[.pointer none, .int .i64 i] W fun e w' => e = .returned (.tuple #[.pointer none, .int .i64 1]) ∧ w' = W := by
  have k1 := missing_nil
  go_enter Try.func40, Try.ntmps40
  go_wp2_with (first
    | go_skip
    | (go_at_call 52; refine (k1 _).mono ?_; rintro e w2 ⟨rfl, rfl⟩))
  refine bodyPost_ret (results_two rfl _ _ _) rfl ?_
  exact ⟨rfl, rfl⟩
theorem count_no (W : World) (own oc ol os : Nat → Prop) (p bc bl bs : Nat) (s : CC) (N : Nat) (i : Int) (h : PAtS W own oc ol os p bc bl bs s N) (hh : has s.s i = false) : Calls Try.prog 40 #[.pointer (some ⟨p, 0, none⟩), .int .i64 i] W fun e w' => e = .returned (.tuple #[.pointer none, .int .i64 2]) ∧ Below W.heap.size W w' := by
  have c0 : W.cell? ⟨p, 0, none⟩ = some (.pointer (some ⟨bc, 0, none⟩)) := h.box.cell 0
  have c1 : W.cell? ⟨p, 2, none⟩ = some (.pointer (some ⟨bs, 0, none⟩)) := h.box.cell 2
  have k1 := missing_no p bc W c0
  have k2 := at_no W os bs s.s i h.hs hh
  clear h hh
  go_enter Try.func40, Try.ntmps40
  go_wp2_with (first
    | go_skip
    | (go_at_call 52; refine (k1).mono ?_; rintro e w2 ⟨rfl, rfl⟩)
    | (go_at_call 53; refine k2.mono ?_; rintro e w2 ⟨rfl, hb⟩))
  refine bodyPost_ret (results_two rfl _ _ _) rfl ?_
  exact ⟨rfl, hb⟩
theorem count_yes (W : World) (own oc ol os : Nat → Prop) (p bc bl bs : Nat) (s : CC) (N k : Nat) (h : PAtS W own oc ol os p bc bl bs s N) (hh : has s.s k = true) : Calls Try.prog 40 #[.pointer (some ⟨p, 0, none⟩), .int .i64 (k : Int)] W (GotS W own p s N k) := by
  have c0 : W.cell? ⟨p, 0, none⟩ = some (.pointer (some ⟨bc, 0, none⟩)) := h.box.cell 0
  have c1 : W.cell? ⟨p, 2, none⟩ = some (.pointer (some ⟨bs, 0, none⟩)) := h.box.cell 2
  have k1 := missing_no p bc W c0
  have k2 := (at_yes W os bs s.s k h.hs hh).mono fun e w' g => h.gotS hh g
  clear h hh
  go_enter Try.func40, Try.ntmps40
  go_wp2_with (first
    | go_skip
    | (go_at_call 52; refine (k1).mono ?_; rintro e w2 ⟨rfl, rfl⟩)
    | (go_at_call 53; refine k2.mono ?_; rintro e w2 ⟨d, rfl, G⟩))
  refine bodyPost_ret (results_two rfl _ _ _) rfl ?_
  exact ⟨d, rfl, G⟩
theorem actor_all (a : Int) : ([a] : List Int).all (fun x => decide (0 ≤ x) && decide (x ≤ 63)) = actor a := by
  have e : decide (a ≤ 63) = decide (a < 64) := by simp; omega
  simp [actor, e]
theorem lock_nil (W : World) (i : Int) (v : Value) : Calls Try.prog 60 #[.pointer none, .int .i64 i, v] W fun e w' => e = .returned (.tuple #[.pointer none, .int .i64 1]) ∧ w' = W := by
  have k1 := missing_nil
  go_enter Try.func60, Try.ntmps60
  go_wp2_with (first
    | go_skip
    | (go_at_call 52; refine (k1 _).mono ?_; rintro e w2 ⟨rfl, rfl⟩))
  refine bodyPost_ret (results_two rfl _ _ _) rfl ?_
  exact ⟨rfl, rfl⟩
theorem lock_no (W : World) (own oc ol os : Nat → Prop) (p bc bl bs : Nat) (s : CC) (N : Nat) (i a : Int) (ba : Nat) (t : TypeId) (h : PAtS W own oc ol os p bc bl bs s N) (ha : Held W ba t (ints [a])) (hh : (has s.l i && actor a) = false) : Calls Try.prog 60 #[.pointer (some ⟨p, 0, none⟩), .int .i64 i, .slice (some ⟨ba, 0, none⟩) 1 1] W fun e w' => e = .returned (.tuple #[.pointer none, .int .i64 2]) ∧ Below W.heap.size W w' := by
  have c0 : W.cell? ⟨p, 0, none⟩ = some (.pointer (some ⟨bc, 0, none⟩)) := h.box.cell 0
  have c1 : W.cell? ⟨p, 1, none⟩ = some (.pointer (some ⟨bl, 0, none⟩)) := h.box.cell 1
  have k1 := missing_no p bc W c0
  have hnot : ∀ (x : Bool) (w : World), (Op.unary .not (.bool x)).run Try.prog w = .ok (.bool (!x)) w := fun _ _ => rfl
  have HB := Lib.hid (Below.refl W.heap.size W)
  cases hx : actor a with
  | false =>
    have k3 := permitted_p ba t [a] false (by simp) W ha (by rw [actor_all, hx])
    clear h hh ha hx
    go_enter Try.func60, Try.ntmps60
    go_wp2_with (first
    | go_skip
    | (go_at_call 52; refine (k1).mono ?_; rintro e w2 ⟨rfl, rfl⟩)
    | (go_at_call 63; refine k3.mono ?_; rintro e w2 ⟨rfl, rfl⟩))
    refine bodyPost_ret (results_two rfl _ _ _) rfl ?_
    exact ⟨rfl, HB.out⟩
  | true =>
    have k3 := permitted_p ba t [a] true (by simp) W ha (by rw [actor_all, hx])
    rw [hx, Bool.and_true] at hh
    have k2 := at_no W ol bl s.l i h.hl hh
    clear h hh ha hx
    go_enter Try.func60, Try.ntmps60
    go_wp2_with (first
    | go_skip
    | (go_at_call 52; refine (k1).mono ?_; rintro e w2 ⟨rfl, rfl⟩)
    | (go_at_call 63; refine k3.mono ?_; rintro e w2 ⟨rfl, rfl⟩)
    | (go_at_call 53; refine k2.mono ?_; rintro e w2 ⟨rfl, hb⟩))
    refine bodyPost_ret (results_two rfl _ _ _) rfl ?_
    exact ⟨rfl, hb⟩
theorem lock_yes (W : World) (own oc ol os : Nat → Prop) (p bc bl bs : Nat) (s : CC) (N k : Nat) (a : Int) (ba : Nat) (t : TypeId) (h : PAtS W own oc ol os p bc bl bs s N) (ha : Held W ba t (ints [a])) (hh : has s.l k = true) (hx : actor a = true) : Calls Try.prog 60 #[.pointer (some ⟨p, 0, none⟩), .int .i64 (k : Int), .slice (some ⟨ba, 0, none⟩) 1 1] W (GotL W own p s N k) := by
  have c0 : W.cell? ⟨p, 0, none⟩ = some (.pointer (some ⟨bc, 0, none⟩)) := h.box.cell 0
  have c1 : W.cell? ⟨p, 1, none⟩ = some (.pointer (some ⟨bl, 0, none⟩)) := h.box.cell 1
  have k1 := missing_no p bc W c0
  have hnot : ∀ (x : Bool) (w : World), (Op.unary .not (.bool x)).run Try.prog w = .ok (.bool (!x)) w := fun _ _ => rfl
  have k3 := permitted_p ba t [a] true (by simp) W ha (by rw [actor_all, hx])
  have k2 := (at_yes W ol bl s.l k h.hl hh).mono fun e w' g => h.gotL hh g
  clear h hh ha hx
  go_enter Try.func60, Try.ntmps60
  go_wp2_with (first
    | go_skip
    | (go_at_call 52; refine (k1).mono ?_; rintro e w2 ⟨rfl, rfl⟩)
    | (go_at_call 63; refine k3.mono ?_; rintro e w2 ⟨rfl, rfl⟩)
    | (go_at_call 53; refine k2.mono ?_; rintro e w2 ⟨d, rfl, G⟩))
  refine bodyPost_ret (results_two rfl _ _ _) rfl ?_
  exact ⟨d, rfl, G⟩
theorem okNew_all (n m k : Int) : ([n, m, k] : List Int).all (fun x => decide (0 ≤ x) && decide (x ≤ 1000)) = okNew n m k := by
  simp [okNew, okNum, Bool.and_assoc]
theorem newP_no (n m k : Int) (ho : okNew n m k = false) (W : World) : Calls Try.prog 11 #[.int .i64 n, .int .i64 m, .int .i64 k] W fun e w' => e = .returned (.tuple #[.pointer none, .int .i64 2]) ∧ Below W.heap.size W w' := by
  have H := Mem.start W
  have kw := fun W b t h => areSizes_p b t [n, m, k] _ (by simp) W h (okNew_all n m k)
  rw [ho] at kw
  have hnot : ∀ (x : Bool) (w : World), (Op.unary .not (.bool x)).run Try.prog w = .ok (.bool (!x)) w := fun _ _ => rfl
  clear ho
  go_enter Try.func11, Try.ntmps11
  go_wp2_with (first
    | go_skip
    | (go_at_call 27; refine (kw _ _ _ (Held.new W _ _)).mono ?_; rintro e w2 ⟨rfl, rfl⟩))
  refine bodyPost_ret (results_two rfl _ _ _) rfl ?_
  exact ⟨rfl, H.below.alloc (Nat.le_refl _) _⟩
theorem NNew.mk' {W : World} {b n : Nat} (hn : n ≤ 1000) (h : Held W b 85 #[.int .i64 n, .int .u32 0, .int .i32 0, .int .u32 0, .slice none 0 0]) : NNew W (fun i => i = b) b (List.replicate (n : Int).toNat 0) := by
  rw [Int.toNat_natCast]
  exact ⟨by rw [List.length_replicate]; exact h, by rw [List.length_replicate], fun i => Iff.rfl, by rw [List.length_replicate]; exact hn⟩
theorem PAtS.new {W W1 : World} {b1 b2 b3 n m k : Nat} (ho : okNew n m k = true) (hb : Below W.heap.size W W1) (hn : n ≤ 1000) (hm : m ≤ 1000) (hk : k ≤ 1000)
    (h1 : W.heap.size ≤ b1 ∧ Held W1 b1 85 #[.int .i64 n, .int .u32 0, .int .i32 0, .int .u32 0, .slice none 0 0])
    (h2 : W.heap.size ≤ b2 ∧ Held W1 b2 85 #[.int .i64 m, .int .u32 0, .int .i32 0, .int .u32 0, .slice none 0 0])
    (h3 : W.heap.size ≤ b3 ∧ Held W1 b3 85 #[.int .i64 k, .int .u32 0, .int .i32 0, .int .u32 0, .slice none 0 0])
    (n1 : b1 ≠ b2) (n2 : b1 ≠ b3) (n3 : b2 ≠ b3) {e : Ending} (he : e = .returned (.tuple #[.pointer (some ⟨W1.heap.size, 0, none⟩), .int .i64 0])) :
    NewF PAt11 W (zeroC n m k) e (W1.alloc (.cells #[.pointer (some ⟨b1, 0, none⟩), .pointer (some ⟨b2, 0, none⟩), .pointer (some ⟨b3, 0, none⟩)] 54)) := by
  have l1 := h1.2.lt
  have l2 := h2.2.lt
  have l3 := h3.2.lt
  refine ⟨W1.heap.size, fun i => i = W1.heap.size ∨ i = b1 ∨ i = b2 ∨ i = b3, he, ⟨fun i => i = b1, fun i => i = b2, fun i => i = b3, b1, b2, b3, Held.new W1 _ _, .inl (NNew.mk' hn (h1.2.alloc _)), .inl (NNew.mk' hm (h2.2.alloc _)), .inl (NNew.mk' hk (h3.2.alloc _)), by omega, by omega, by omega, fun i hi => by omega, fun i hi => by omega, fun i hi => by omega, fun i => Iff.rfl, FitsC.zero n m k ho⟩, hb.alloc hb.size _, fun i hi => ?_⟩
  rcases hi with rfl | rfl | rfl | rfl
  · exact hb.size
  · exact h1.1
  · exact h2.1
  · exact h3.1
theorem newP_yes (n m k : Int) (h : okNew n m k = true) (W : World) : Calls Try.prog 11 #[.int .i64 n, .int .i64 m, .int .i64 k] W (NewF PAt11 W (zeroC n m k)) := by
  have HO := Lib.hid h
  have kw := fun W b t h => areSizes_p b t [n, m, k] _ (by simp) W h (okNew_all n m k)
  rw [h] at kw
  simp only [okNew, okNum, Bool.and_eq_true, decide_eq_true_eq] at h
  obtain ⟨⟨⟨h0, h1⟩, h2, h3⟩, h4, h5⟩ := h
  obtain ⟨n, rfl⟩ := Int.eq_ofNat_of_zero_le h0
  obtain ⟨m, rfl⟩ := Int.eq_ofNat_of_zero_le h2
  obtain ⟨k, rfl⟩ := Int.eq_ofNat_of_zero_le h4
  have hn : n ≤ 1000 := by omega
  have hm : m ≤ 1000 := by omega
  have hk : k ≤ 1000 := by omega
  have HL := Lib.hid (And.intro hn (And.intro hm hk))
  have hnot : ∀ (x : Bool) (w : World), (Op.unary .not (.bool x)).run Try.prog w = .ok (.bool (!x)) w := fun _ _ => rfl
  clear h0 h1 h2 h3 h4 h5 hn hm hk
  have H := Mem.start W
  go_enter Try.func11, Try.ntmps11
  go_upto_region 3 with (first
    | (go_at_call 27; refine (kw _ _ _ (Held.new W _ _)).mono ?_; rintro e w2 ⟨rfl, rfl⟩))
  have H0 := H.skip (.cells (ints [(n : Int), (m : Int), (k : Int)]) 3)
  clear H kw
  have H := H0
  clear H0
  generalize W.alloc (.cells (ints [(n : Int), (m : Int), (k : Int)]) 3) = W1 at H ⊢
  go_wp2_with (first
    | go_skip
    | (go_at_call 28; refine (zeros_p _ _).mono ?_; rintro e w2 ⟨b, rfl, hM⟩; have H2 := H.join hM; clear H hM; have H := H2; clear H2; simp only [List.cons_append, List.nil_append] at H))
  refine bodyPost_ret (results_two rfl _ _ _) rfl ?_
  have X1 := H.held _ (List.mem_of_getElem? (i := 0) rfl)
  have X2 := H.held _ (List.mem_of_getElem? (i := 1) rfl)
  have X3 := H.held _ (List.mem_of_getElem? (i := 2) rfl)
  have XI := H.inc
  simp at XI
  exact PAtS.new HO.out H.below HL.out.1 HL.out.2.1 HL.out.2.2 X1 X2 X3 (by omega) (by omega) (by omega) rfl
theorem parity_p (v : Int) (W : World) : Calls Try.prog 41 #[.int .i64 v] W fun e w' => e = .returned (.int .i64 (v.tmod 2)) ∧ w' = W := by
  go_enter Try.func41, Try.ntmps41
  go_wp2
  go_ret
  exact ⟨rfl, rfl⟩
theorem held_p (v : Int) (z : Int) (hz : IntKind.i64.wrap (v + 1) = z) (W : World) : Calls Try.prog 44 #[.int .i64 v] W fun e w' => e = .returned (.int .i64 z) ∧ w' = W := by
  go_enter Try.func44, Try.ntmps44
  go_wp2
  go_ret
  exact ⟨rfl, rfl⟩
theorem holderOf_p (v : Int) (z : Int) (hz : IntKind.i64.wrap (v - 1) = z) (W : World) : Calls Try.prog 56 #[.int .i64 v] W fun e w' => e = .returned (.int .i64 z) ∧ w' = W := by
  go_enter Try.func56, Try.ntmps56
  go_wp2
  go_ret
  exact ⟨rfl, rfl⟩
end Go.Proofs.Ytoajgaljccaccaa.Ce
end
/- The program's Load, Store, Add, Swap, Lock, Unlock, Change, Settle, Begin, End. Conditions: the cells lie where their pointer says. -/
section
namespace Go.Proofs.Ytoajgaljccaccaa.Ce
set_option linter.unusedSimpArgs false
set_option linter.unusedVariables false
set_option maxRecDepth 100000
open Go.ChangeShapes Go.WideShapes Go.ChangeAt Go.RowKit

theorem loadOP (W : World) (own : Nat → Prop) (p : Nat) (s : CC) (N : Nat) (i : Int) (hi : I64 i) (hN : N ≤ 1000000) (h : PAt11 W own p s N) : Calls Try.prog 14 #[.pointer (some ⟨p, 0, none⟩), .int .i64 i] W (DidF PAt11 W own p s N (.tuple #[.int .i64 (loadV s i), .int .i64 (cellE (has s.c i))])) := by
  obtain ⟨oc, ol, os, bc, bl, bs, h⟩ := h
  have HD := Lib.hid h
  have hnot : ∀ (x : Bool) (w : World), (Op.unary .not (.bool x)).run Try.prog w = .ok (.bool (!x)) w := fun _ _ => rfl
  cases hh : has s.c i with
  | false =>
    have k1 := cell_no W own oc ol os p bc bl bs s N i h hh
    have e1 : loadV s i = 0 := by rw [loadV, hh]; rfl
    rw [e1]
    clear h hh
    go_enter Try.func14, Try.ntmps14
    go_wp2_with (first
    | go_skip
    | (go_at_call 35; refine k1.mono ?_; rintro e w2 ⟨rfl, hb⟩))
    refine bodyPost_ret (results_two rfl _ _ _) rfl ?_
    exact HD.out.same rfl hb
  | true =>
    obtain ⟨k, rfl, hk, hv⟩ := has_at hh
    have k1 := cell_yes W own oc ol os p bc bl bs s N k h hh
    have e1 : loadV s k = val s.c k := by rw [loadV, if_pos hh]
    rw [e1]
    clear h hh e1 hv
    go_enter Try.func14, Try.ntmps14
    go_wp2_with (first
    | go_skip
    | (go_at_call 35; refine k1.mono ?_; rintro e w2 ⟨d, rfl, G⟩; have gc := G.cell; have gz := G.froz; have G' := Lib.hid G; clear G k1)
    | (go_at_call 36; refine (at_load d _ _ _ gc).mono ?_; rintro e w3 ⟨rfl, rfl⟩))
    refine bodyPost_ret (results_two rfl _ _ _) rfl ?_
    exact G'.out.same _ _ rfl
theorem loadON (W : World) (i : Int) : Calls Try.prog 14 #[.pointer none, .int .i64 i] W fun e w' => e = .returned (.tuple #[.int .i64 0, .int .i64 1]) ∧ Below W.heap.size W w' := by
  have HB := Lib.hid (Below.refl W.heap.size W)
  have hnot : ∀ (x : Bool) (w : World), (Op.unary .not (.bool x)).run Try.prog w = .ok (.bool (!x)) w := fun _ _ => rfl
  have k1 := fun i => cell_nil W i
  go_enter Try.func14, Try.ntmps14
  go_wp2_with (first
    | go_skip
    | (go_at_call 35; refine (k1 _).mono ?_; rintro e w2 ⟨rfl, rfl⟩))
  refine bodyPost_ret (results_two rfl _ _ _) rfl ?_
  exact ⟨rfl, HB.out⟩
theorem storeOP (W : World) (own : Nat → Prop) (p : Nat) (s : CC) (N : Nat) (i a : Int) (hi : I64 i) (ha : I64 a) (hN : N ≤ 1000000) (h : PAt11 W own p s N) : Calls Try.prog 22 #[.pointer (some ⟨p, 0, none⟩), .int .i64 i, .int .i64 a] W (DidF PAt11 W own p (storeS s i a) N (.int .i64 (cellE (has s.c i)))) := by
  obtain ⟨oc, ol, os, bc, bl, bs, h⟩ := h
  have HD := Lib.hid h
  have hnot : ∀ (x : Bool) (w : World), (Op.unary .not (.bool x)).run Try.prog w = .ok (.bool (!x)) w := fun _ _ => rfl
  cases hh : has s.c i with
  | false =>
    have k1 := cell_no W own oc ol os p bc bl bs s N i h hh
    have e1 : storeS s i a = s := by rw [storeS, hh]; rfl
    rw [e1]
    clear h hh
    go_enter Try.func22, Try.ntmps22
    go_wp2_with (first
    | go_skip
    | (go_at_call 35; refine k1.mono ?_; rintro e w2 ⟨rfl, hb⟩))
    go_ret
    exact HD.out.same rfl hb
  | true =>
    obtain ⟨k, rfl, hk, hv⟩ := has_at hh
    have k1 := cell_yes W own oc ol os p bc bl bs s N k h hh
    have e1 : storeS s k a = { s with c := put s.c k a } := by rw [storeS, if_pos hh]
    rw [e1]
    clear h hh e1 hv
    go_enter Try.func22, Try.ntmps22
    go_wp2_with (first
    | go_skip
    | (go_at_call 35; refine k1.mono ?_; rintro e w2 ⟨d, rfl, G⟩; have gc := G.cell; have gz := G.froz; have G' := Lib.hid G; clear G k1)
    | (go_at_call 42; refine (at_store d _ _ a _ gc gz).mono ?_; rintro e w3 ⟨rfl, rfl⟩))
    go_ret
    exact G'.out.set a N _ _ (Nat.le_refl _) ha rfl
theorem storeON (W : World) (i a : Int) : Calls Try.prog 22 #[.pointer none, .int .i64 i, .int .i64 a] W fun e w' => e = .returned (.int .i64 1) ∧ Below W.heap.size W w' := by
  have HB := Lib.hid (Below.refl W.heap.size W)
  have hnot : ∀ (x : Bool) (w : World), (Op.unary .not (.bool x)).run Try.prog w = .ok (.bool (!x)) w := fun _ _ => rfl
  have k1 := fun i => cell_nil W i
  go_enter Try.func22, Try.ntmps22
  go_wp2_with (first
    | go_skip
    | (go_at_call 35; refine (k1 _).mono ?_; rintro e w2 ⟨rfl, rfl⟩))
  go_ret
  exact ⟨rfl, HB.out⟩
theorem addOP (W : World) (own : Nat → Prop) (p : Nat) (s : CC) (N : Nat) (i a : Int) (hi : I64 i) (ha : I64 a) (hN : N ≤ 1000000) (h : PAt11 W own p s N) : Calls Try.prog 18 #[.pointer (some ⟨p, 0, none⟩), .int .i64 i, .int .i64 a] W (DidF PAt11 W own p (addS s i a) N (.tuple #[.int .i64 (addV s i a), .int .i64 (cellE (has s.c i))])) := by
  obtain ⟨oc, ol, os, bc, bl, bs, h⟩ := h
  have HD := Lib.hid h
  have hnot : ∀ (x : Bool) (w : World), (Op.unary .not (.bool x)).run Try.prog w = .ok (.bool (!x)) w := fun _ _ => rfl
  cases hh : has s.c i with
  | false =>
    have k1 := cell_no W own oc ol os p bc bl bs s N i h hh
    have e1 : addS s i a = s := by rw [addS, hh]; rfl
    have e2 : addV s i a = 0 := by rw [addV, hh]; rfl
    rw [e1, e2]
    clear h hh
    go_enter Try.func18, Try.ntmps18
    go_wp2_with (first
    | go_skip
    | (go_at_call 35; refine k1.mono ?_; rintro e w2 ⟨rfl, hb⟩))
    refine bodyPost_ret (results_two rfl _ _ _) rfl ?_
    exact HD.out.same rfl hb
  | true =>
    obtain ⟨k, rfl, hk, hv⟩ := has_at hh
    have k1 := cell_yes W own oc ol os p bc bl bs s N k h hh
    have e1 : addS s k a = { s with c := put s.c k (IntKind.i64.wrap (val s.c k + a)) } := by rw [addS, if_pos hh]
    have e2 : addV s k a = IntKind.i64.wrap (val s.c k + a) := by rw [addV, if_pos hh]
    rw [e1, e2]
    have hz := wrap_i64 (val s.c k + a)
    have ka := fun d w hc hz => at_add d k (val s.c k) a w hc hz
    clear h hh e1 e2 hv
    generalize IntKind.i64.wrap (val s.c k + a) = z at *
    go_enter Try.func18, Try.ntmps18
    go_wp2_with (first
    | go_skip
    | (go_at_call 35; refine k1.mono ?_; rintro e w2 ⟨d, rfl, G⟩; have gc := G.cell; have gz := G.froz; have G' := Lib.hid G; clear G k1)
    | (go_at_call 38; refine (ka d _ gc gz).mono ?_; rintro e w3 ⟨rfl, rfl⟩))
    refine bodyPost_ret (results_two rfl _ _ _) rfl ?_
    exact G'.out.set z N _ _ (Nat.le_refl _) hz rfl
theorem addON (W : World) (i a : Int) : Calls Try.prog 18 #[.pointer none, .int .i64 i, .int .i64 a] W fun e w' => e = .returned (.tuple #[.int .i64 0, .int .i64 1]) ∧ Below W.heap.size W w' := by
  have HB := Lib.hid (Below.refl W.heap.size W)
  have hnot : ∀ (x : Bool) (w : World), (Op.unary .not (.bool x)).run Try.prog w = .ok (.bool (!x)) w := fun _ _ => rfl
  have k1 := fun i => cell_nil W i
  go_enter Try.func18, Try.ntmps18
  go_wp2_with (first
    | go_skip
    | (go_at_call 35; refine (k1 _).mono ?_; rintro e w2 ⟨rfl, rfl⟩))
  refine bodyPost_ret (results_two rfl _ _ _) rfl ?_
  exact ⟨rfl, HB.out⟩
theorem swapOP (W : World) (own : Nat → Prop) (p : Nat) (s : CC) (N : Nat) (i a b : Int) (hi : I64 i) (ha : I64 a) (hbb : I64 b) (hN : N ≤ 1000000) (h : PAt11 W own p s N) : Calls Try.prog 19 #[.pointer (some ⟨p, 0, none⟩), .int .i64 i, .int .i64 a, .int .i64 b] W (DidF PAt11 W own p (swapS s i a b) N (.tuple #[.bool (swapV s i a), .int .i64 (cellE (has s.c i))])) := by
  obtain ⟨oc, ol, os, bc, bl, bs, h⟩ := h
  have HD := Lib.hid h
  have hnot : ∀ (x : Bool) (w : World), (Op.unary .not (.bool x)).run Try.prog w = .ok (.bool (!x)) w := fun _ _ => rfl
  cases hh : has s.c i with
  | false =>
    have k1 := cell_no W own oc ol os p bc bl bs s N i h hh
    have e2 : swapV s i a = false := by rw [swapV, hh]; rfl
    have e1 : swapS s i a b = s := by rw [swapS, e2]; rfl
    rw [e1, e2]
    clear h hh
    go_enter Try.func19, Try.ntmps19
    go_wp2_with (first
    | go_skip
    | (go_at_call 35; refine k1.mono ?_; rintro e w2 ⟨rfl, hb⟩))
    refine bodyPost_ret (results_two rfl _ _ _) rfl ?_
    exact HD.out.same rfl hb
  | true =>
    obtain ⟨k, rfl, hk, hv⟩ := has_at hh
    have k1 := cell_yes W own oc ol os p bc bl bs s N k h hh
    by_cases hx : val s.c k = a
    · have e2 : swapV s k a = true := by rw [swapV, hh, decide_eq_true hx]; rfl
      have e1 : swapS s k a b = { s with c := put s.c k b } := by rw [swapS, if_pos e2]
      rw [e1, e2]
      clear h hh e1 e2 hv
      go_enter Try.func19, Try.ntmps19
      go_wp2_with (first
    | go_skip
    | (go_at_call 35; refine k1.mono ?_; rintro e w2 ⟨d, rfl, G⟩; have gc := G.cell; have gz := G.froz; have G' := Lib.hid G; clear G k1)
    | (go_at_call 39; refine (at_cas_hit d _ _ a b _ gc gz hx).mono ?_; rintro e w3 ⟨rfl, rfl⟩))
      refine bodyPost_ret (results_two rfl _ _ _) rfl ?_
      exact G'.out.set b N _ _ (Nat.le_refl _) hbb rfl
    · have e2 : swapV s k a = false := by rw [swapV, hh, decide_eq_false hx]; rfl
      have e1 : swapS s k a b = s := by rw [swapS, e2]; rfl
      rw [e1, e2]
      clear h hh e1 e2 hv
      go_enter Try.func19, Try.ntmps19
      go_wp2_with (first
    | go_skip
    | (go_at_call 35; refine k1.mono ?_; rintro e w2 ⟨d, rfl, G⟩; have gc := G.cell; have gz := G.froz; have G' := Lib.hid G; clear G k1)
    | (go_at_call 39; refine (at_cas_miss d _ _ a b _ gc gz hx).mono ?_; rintro e w3 ⟨rfl, rfl⟩))
      refine bodyPost_ret (results_two rfl _ _ _) rfl ?_
      exact G'.out.same _ _ rfl
theorem swapON (W : World) (i a b : Int) : Calls Try.prog 19 #[.pointer none, .int .i64 i, .int .i64 a, .int .i64 b] W fun e w' => e = .returned (.tuple #[.bool false, .int .i64 1]) ∧ Below W.heap.size W w' := by
  have HB := Lib.hid (Below.refl W.heap.size W)
  have hnot : ∀ (x : Bool) (w : World), (Op.unary .not (.bool x)).run Try.prog w = .ok (.bool (!x)) w := fun _ _ => rfl
  have k1 := fun i => cell_nil W i
  go_enter Try.func19, Try.ntmps19
  go_wp2_with (first
    | go_skip
    | (go_at_call 35; refine (k1 _).mono ?_; rintro e w2 ⟨rfl, rfl⟩))
  refine bodyPost_ret (results_two rfl _ _ _) rfl ?_
  exact ⟨rfl, HB.out⟩
theorem beginOP (W : World) (own : Nat → Prop) (p : Nat) (s : CC) (N : Nat) (i : Int) (hi : I64 i) (hN : N ≤ 1000000) (h : PAt11 W own p s N) : Calls Try.prog 20 #[.pointer (some ⟨p, 0, none⟩), .int .i64 i] W (DidF PAt11 W own p s N (.tuple #[.int .i64 (beginV s i), .int .i64 (beginE s i)])) := by
  obtain ⟨oc, ol, os, bc, bl, bs, h⟩ := h
  have HD := Lib.hid h
  have hnot : ∀ (x : Bool) (w : World), (Op.unary .not (.bool x)).run Try.prog w = .ok (.bool (!x)) w := fun _ _ => rfl
  cases hh : has s.s i with
  | false =>
    have k1 := count_no W own oc ol os p bc bl bs s N i h hh
    have e1 : beginV s i = 0 := by rw [beginV, hh]; rfl
    have e2 : beginE s i = 2 := by rw [beginE, if_pos hh]
    rw [e1, e2]
    clear h hh
    go_enter Try.func20, Try.ntmps20
    go_wp2_with (first
    | go_skip
    | (go_at_call 40; refine k1.mono ?_; rintro e w2 ⟨rfl, hb⟩))
    refine bodyPost_ret (results_two rfl _ _ _) rfl ?_
    exact HD.out.same rfl hb
  | true =>
    obtain ⟨k, rfl, hk, hv⟩ := has_at hh
    have k1 := count_yes W own oc ol os p bc bl bs s N k h hh
    have hm := h.fits.fs _ (val_mem hh)
    have hne : ¬ has s.s k = false := by rw [hh]; decide
    by_cases hx : val s.s k % 2 = 0
    · have e1 : beginV s k = val s.s k := by rw [beginV, hh, decide_eq_true hx]; rfl
      have e2 : beginE s k = 0 := by rw [beginE, if_neg hne, if_pos hx]
      rw [e1, e2]
      have tq : ((val s.s k).tmod 2 != 0) = false := by rw [Int.tmod_eq_emod_of_nonneg hm.1]; simpa using hx
      clear h hh e1 e2 hv hne
      go_enter Try.func20, Try.ntmps20
      go_wp2_with (first
    | go_skip
    | (go_at_call 40; refine k1.mono ?_; rintro e w2 ⟨d, rfl, G⟩; have gc := G.cell; have gz := G.froz; have G' := Lib.hid G; clear G k1)
    | (go_at_call 36; refine (at_load d _ _ _ gc).mono ?_; rintro e w3 ⟨rfl, rfl⟩)
    | (go_at_call 41; refine (parity_p _ _).mono ?_; rintro e w4 ⟨rfl, rfl⟩))
      refine bodyPost_ret (results_two rfl _ _ _) rfl ?_
      exact G'.out.same _ _ rfl
    · have e1 : beginV s k = 0 := by rw [beginV, hh, decide_eq_false hx]; rfl
      have e2 : beginE s k = 111 := by rw [beginE, if_neg hne, if_neg hx]
      rw [e1, e2]
      have tq : ((val s.s k).tmod 2 != 0) = true := by rw [Int.tmod_eq_emod_of_nonneg hm.1]; simpa using hx
      clear h hh e1 e2 hv hne
      go_enter Try.func20, Try.ntmps20
      go_wp2_with (first
    | go_skip
    | (go_at_call 40; refine k1.mono ?_; rintro e w2 ⟨d, rfl, G⟩; have gc := G.cell; have gz := G.froz; have G' := Lib.hid G; clear G k1)
    | (go_at_call 36; refine (at_load d _ _ _ gc).mono ?_; rintro e w3 ⟨rfl, rfl⟩)
    | (go_at_call 41; refine (parity_p _ _).mono ?_; rintro e w4 ⟨rfl, rfl⟩))
      refine bodyPost_ret (results_two rfl _ _ _) rfl ?_
      exact G'.out.same _ _ rfl
theorem beginON (W : World) (i : Int) : Calls Try.prog 20 #[.pointer none, .int .i64 i] W fun e w' => e = .returned (.tuple #[.int .i64 0, .int .i64 1]) ∧ Below W.heap.size W w' := by
  have HB := Lib.hid (Below.refl W.heap.size W)
  have hnot : ∀ (x : Bool) (w : World), (Op.unary .not (.bool x)).run Try.prog w = .ok (.bool (!x)) w := fun _ _ => rfl
  have k1 := fun i => count_nil W i
  go_enter Try.func20, Try.ntmps20
  go_wp2_with (first
    | go_skip
    | (go_at_call 40; refine (k1 _).mono ?_; rintro e w2 ⟨rfl, rfl⟩))
  refine bodyPost_ret (results_two rfl _ _ _) rfl ?_
  exact ⟨rfl, HB.out⟩
theorem finOP (W : World) (own : Nat → Prop) (p : Nat) (s : CC) (N : Nat) (i a : Int) (hi : I64 i) (ha : I64 a) (hN : N ≤ 1000000) (h : PAt11 W own p s N) : Calls Try.prog 21 #[.pointer (some ⟨p, 0, none⟩), .int .i64 i, .int .i64 a] W (DidF PAt11 W own p s N (.tuple #[.bool (endV s i a), .int .i64 (cellE (has s.s i))])) := by
  obtain ⟨oc, ol, os, bc, bl, bs, h⟩ := h
  have HD := Lib.hid h
  have hnot : ∀ (x : Bool) (w : World), (Op.unary .not (.bool x)).run Try.prog w = .ok (.bool (!x)) w := fun _ _ => rfl
  cases hh : has s.s i with
  | false =>
    have k1 := count_no W own oc ol os p bc bl bs s N i h hh
    have e1 : endV s i a = false := by rw [endV, hh]; rfl
    rw [e1]
    clear h hh
    go_enter Try.func21, Try.ntmps21
    go_wp2_with (first
    | go_skip
    | (go_at_call 40; refine k1.mono ?_; rintro e w2 ⟨rfl, hb⟩))
    refine bodyPost_ret (results_two rfl _ _ _) rfl ?_
    exact HD.out.same rfl hb
  | true =>
    obtain ⟨k, rfl, hk, hv⟩ := has_at hh
    have k1 := count_yes W own oc ol os p bc bl bs s N k h hh
    have e2 : endV s k a = (val s.s k == a) := by rw [endV, hh]; rfl
    rw [e2]
    clear h hh e2 hv
    go_enter Try.func21, Try.ntmps21
    go_wp2_with (first
    | go_skip
    | (go_at_call 40; refine k1.mono ?_; rintro e w2 ⟨d, rfl, G⟩; have gc := G.cell; have gz := G.froz; have G' := Lib.hid G; clear G k1)
    | (go_at_call 36; refine (at_load d _ _ _ gc).mono ?_; rintro e w3 ⟨rfl, rfl⟩))
    refine bodyPost_ret (results_two rfl _ _ _) rfl ?_
    exact G'.out.same _ _ rfl
theorem finON (W : World) (i a : Int) : Calls Try.prog 21 #[.pointer none, .int .i64 i, .int .i64 a] W fun e w' => e = .returned (.tuple #[.bool false, .int .i64 1]) ∧ Below W.heap.size W w' := by
  have HB := Lib.hid (Below.refl W.heap.size W)
  have hnot : ∀ (x : Bool) (w : World), (Op.unary .not (.bool x)).run Try.prog w = .ok (.bool (!x)) w := fun _ _ => rfl
  have k1 := fun i => count_nil W i
  go_enter Try.func21, Try.ntmps21
  go_wp2_with (first
    | go_skip
    | (go_at_call 40; refine (k1 _).mono ?_; rintro e w2 ⟨rfl, rfl⟩))
  refine bodyPost_ret (results_two rfl _ _ _) rfl ?_
  exact ⟨rfl, HB.out⟩
end Go.Proofs.Ytoajgaljccaccaa.Ce
end
