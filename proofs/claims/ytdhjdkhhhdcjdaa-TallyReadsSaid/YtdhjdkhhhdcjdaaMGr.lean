/-
  The program's cell, count and lock; New. Conditions: the cells lie where their pointer says. The program's Load, Store, Add, Swap, Lock, Unlock, Change, Settle, Begin, End. Conditions: the cells lie where their pointer says. The program's Change, Settle, Lock, Unlock. Conditions: the cells lie where their pointer says.
-/
import Derived.Test.YtdhjdkhhhdcjdaaMGq
import Derived.Test.YtdhjdkhhhdcjdaaMGa
/- The program's cell, count and lock; New. Conditions: the cells lie where their pointer says. -/
section
namespace Go.Proofs.Ytdhjdkhhhdcjdaa.Ce
set_option linter.unusedSimpArgs false
set_option linter.unusedVariables false
set_option maxRecDepth 100000
open Go.ChangeShapes Go.WideShapes Go.ChangeAt Go.RowKit

theorem cell_nil (W : World) (i : Int) : Calls Try.prog 61 #[.pointer none, .int .i64 i] W fun e w' => e = .returned (.tuple #[.pointer none, .int .i64 1]) ∧ w' = W := by
  have k1 := missing_nil
  go_enter Try.func61, Try.ntmps61
  go_wp2_with (first
    | go_skip
    | (go_at_call 64; refine (k1 _).mono ?_; rintro e w2 ⟨rfl, rfl⟩))
  refine bodyPost_ret (results_two rfl _ _ _) rfl ?_
  exact ⟨rfl, rfl⟩
theorem cell_no (W : World) (own oc ol os : Nat → Prop) (p bc bl bs : Nat) (s : CC) (N : Nat) (i : Int) (h : PAtS W own oc ol os p bc bl bs s N) (hh : has s.c i = false) : Calls Try.prog 61 #[.pointer (some ⟨p, 0, none⟩), .int .i64 i] W fun e w' => e = .returned (.tuple #[.pointer none, .int .i64 2]) ∧ Below W.heap.size W w' := by
  have c0 : W.cell? ⟨p, 0, none⟩ = some (.pointer (some ⟨bc, 0, none⟩)) := h.box.cell 0
  have c1 : W.cell? ⟨p, 0, none⟩ = some (.pointer (some ⟨bc, 0, none⟩)) := h.box.cell 0
  have k1 := missing_no p bc W c0
  have k2 := at_no W oc bc s.c i h.hc hh
  clear h hh
  go_enter Try.func61, Try.ntmps61
  go_wp2_with (first
    | go_skip
    | (go_at_call 64; refine (k1).mono ?_; rintro e w2 ⟨rfl, rfl⟩)
    | (go_at_call 65; refine k2.mono ?_; rintro e w2 ⟨rfl, hb⟩))
  refine bodyPost_ret (results_two rfl _ _ _) rfl ?_
  exact ⟨rfl, hb⟩
theorem cell_yes (W : World) (own oc ol os : Nat → Prop) (p bc bl bs : Nat) (s : CC) (N k : Nat) (h : PAtS W own oc ol os p bc bl bs s N) (hh : has s.c k = true) : Calls Try.prog 61 #[.pointer (some ⟨p, 0, none⟩), .int .i64 (k : Int)] W (GotC W own p s N k) := by
  have c0 : W.cell? ⟨p, 0, none⟩ = some (.pointer (some ⟨bc, 0, none⟩)) := h.box.cell 0
  have c1 : W.cell? ⟨p, 0, none⟩ = some (.pointer (some ⟨bc, 0, none⟩)) := h.box.cell 0
  have k1 := missing_no p bc W c0
  have k2 := (at_yes W oc bc s.c k h.hc hh).mono fun e w' g => h.gotC hh g
  clear h hh
  go_enter Try.func61, Try.ntmps61
  go_wp2_with (first
    | go_skip
    | (go_at_call 64; refine (k1).mono ?_; rintro e w2 ⟨rfl, rfl⟩)
    | (go_at_call 65; refine k2.mono ?_; rintro e w2 ⟨d, rfl, G⟩))
  refine bodyPost_ret (results_two rfl _ _ _) rfl ?_
  exact ⟨d, rfl, G⟩
theorem count_nil (W : World) (i : Int) : Calls Try.prog 58 #[.pointer none, .int .i64 i] W fun e w' => e = .returned (.tuple #[.pointer none, .int .i64 1]) ∧ w' = W := by
  have k1 := missing_nil
  go_enter Try.func58, Try.ntmps58
  go_wp2_with (first
    | go_skip
    | (go_at_call 64; refine (k1 _).mono ?_; rintro e w2 ⟨rfl, rfl⟩))
  refine bodyPost_ret (results_two rfl _ _ _) rfl ?_
  exact ⟨rfl, rfl⟩
theorem count_no (W : World) (own oc ol os : Nat → Prop) (p bc bl bs : Nat) (s : CC) (N : Nat) (i : Int) (h : PAtS W own oc ol os p bc bl bs s N) (hh : has s.s i = false) : Calls Try.prog 58 #[.pointer (some ⟨p, 0, none⟩), .int .i64 i] W fun e w' => e = .returned (.tuple #[.pointer none, .int .i64 2]) ∧ Below W.heap.size W w' := by
  have c0 : W.cell? ⟨p, 0, none⟩ = some (.pointer (some ⟨bc, 0, none⟩)) := h.box.cell 0
  have c1 : W.cell? ⟨p, 2, none⟩ = some (.pointer (some ⟨bs, 0, none⟩)) := h.box.cell 2
  have k1 := missing_no p bc W c0
  have k2 := at_no W os bs s.s i h.hs hh
  clear h hh
  go_enter Try.func58, Try.ntmps58
  go_wp2_with (first
    | go_skip
    | (go_at_call 64; refine (k1).mono ?_; rintro e w2 ⟨rfl, rfl⟩)
    | (go_at_call 65; refine k2.mono ?_; rintro e w2 ⟨rfl, hb⟩))
  refine bodyPost_ret (results_two rfl _ _ _) rfl ?_
  exact ⟨rfl, hb⟩
theorem count_yes (W : World) (own oc ol os : Nat → Prop) (p bc bl bs : Nat) (s : CC) (N k : Nat) (h : PAtS W own oc ol os p bc bl bs s N) (hh : has s.s k = true) : Calls Try.prog 58 #[.pointer (some ⟨p, 0, none⟩), .int .i64 (k : Int)] W (GotS W own p s N k) := by
  have c0 : W.cell? ⟨p, 0, none⟩ = some (.pointer (some ⟨bc, 0, none⟩)) := h.box.cell 0
  have c1 : W.cell? ⟨p, 2, none⟩ = some (.pointer (some ⟨bs, 0, none⟩)) := h.box.cell 2
  have k1 := missing_no p bc W c0
  have k2 := (at_yes W os bs s.s k h.hs hh).mono fun e w' g => h.gotS hh g
  clear h hh
  go_enter Try.func58, Try.ntmps58
  go_wp2_with (first
    | go_skip
    | (go_at_call 64; refine (k1).mono ?_; rintro e w2 ⟨rfl, rfl⟩)
    | (go_at_call 65; refine k2.mono ?_; rintro e w2 ⟨d, rfl, G⟩))
  refine bodyPost_ret (results_two rfl _ _ _) rfl ?_
  exact ⟨d, rfl, G⟩
theorem actor_all (a : Int) : ([a] : List Int).all (fun x => decide (0 ≤ x) && decide (x ≤ 63)) = actor a := by
  have e : decide (a ≤ 63) = decide (a < 64) := by simp; omega
  simp [actor, e]
theorem okNew_all (n m k : Int) : ([n, m, k] : List Int).all (fun x => decide (0 ≤ x) && decide (x ≤ 1000)) = okNew n m k := by
  simp [okNew, okNum, Bool.and_assoc]
theorem newP_no (n m k : Int) (ho : okNew n m k = false) (W : World) : Calls Try.prog 25 #[.int .i64 n, .int .i64 m, .int .i64 k] W fun e w' => e = .returned (.tuple #[.pointer none, .int .i64 2]) ∧ Below W.heap.size W w' := by
  have H := Mem.start W
  have kw := fun W b t h => areSizes_p b t [n, m, k] _ (by simp) W h (okNew_all n m k)
  rw [ho] at kw
  have hnot : ∀ (x : Bool) (w : World), (Op.unary .not (.bool x)).run Try.prog w = .ok (.bool (!x)) w := fun _ _ => rfl
  clear ho
  go_enter Try.func25, Try.ntmps25
  go_wp2_with (first
    | go_skip
    | (go_at_call 47; refine (kw _ _ _ (Held.new W _ _)).mono ?_; rintro e w2 ⟨rfl, rfl⟩))
  refine bodyPost_ret (results_two rfl _ _ _) rfl ?_
  exact ⟨rfl, H.below.alloc (Nat.le_refl _) _⟩
theorem NNew.mk' {W : World} {b n : Nat} (hn : n ≤ 1000) (h : Held W b 114 #[.int .i64 n, .int .u32 0, .int .i32 0, .int .u32 0, .slice none 0 0]) : NNew W (fun i => i = b) b (List.replicate (n : Int).toNat 0) := by
  rw [Int.toNat_natCast]
  exact ⟨by rw [List.length_replicate]; exact h, by rw [List.length_replicate], fun i => Iff.rfl, by rw [List.length_replicate]; exact hn⟩
theorem PAtS.new {W W1 : World} {b1 b2 b3 n m k : Nat} (ho : okNew n m k = true) (hb : Below W.heap.size W W1) (hn : n ≤ 1000) (hm : m ≤ 1000) (hk : k ≤ 1000)
    (h1 : W.heap.size ≤ b1 ∧ Held W1 b1 114 #[.int .i64 n, .int .u32 0, .int .i32 0, .int .u32 0, .slice none 0 0])
    (h2 : W.heap.size ≤ b2 ∧ Held W1 b2 114 #[.int .i64 m, .int .u32 0, .int .i32 0, .int .u32 0, .slice none 0 0])
    (h3 : W.heap.size ≤ b3 ∧ Held W1 b3 114 #[.int .i64 k, .int .u32 0, .int .i32 0, .int .u32 0, .slice none 0 0])
    (n1 : b1 ≠ b2) (n2 : b1 ≠ b3) (n3 : b2 ≠ b3) {e : Ending} (he : e = .returned (.tuple #[.pointer (some ⟨W1.heap.size, 0, none⟩), .int .i64 0])) :
    NewF PAt11 W (zeroC n m k) e (W1.alloc (.cells #[.pointer (some ⟨b1, 0, none⟩), .pointer (some ⟨b2, 0, none⟩), .pointer (some ⟨b3, 0, none⟩)] 92)) := by
  have l1 := h1.2.lt
  have l2 := h2.2.lt
  have l3 := h3.2.lt
  refine ⟨W1.heap.size, fun i => i = W1.heap.size ∨ i = b1 ∨ i = b2 ∨ i = b3, he, ⟨fun i => i = b1, fun i => i = b2, fun i => i = b3, b1, b2, b3, Held.new W1 _ _, .inl (NNew.mk' hn (h1.2.alloc _)), .inl (NNew.mk' hm (h2.2.alloc _)), .inl (NNew.mk' hk (h3.2.alloc _)), by omega, by omega, by omega, fun i hi => by omega, fun i hi => by omega, fun i hi => by omega, fun i => Iff.rfl, FitsC.zero n m k ho⟩, hb.alloc hb.size _, fun i hi => ?_⟩
  rcases hi with rfl | rfl | rfl | rfl
  · exact hb.size
  · exact h1.1
  · exact h2.1
  · exact h3.1
theorem newP_yes (n m k : Int) (h : okNew n m k = true) (W : World) : Calls Try.prog 25 #[.int .i64 n, .int .i64 m, .int .i64 k] W (NewF PAt11 W (zeroC n m k)) := by
  have HO := Lib.hid h
  have kw := fun W b t h => areSizes_p b t [n, m, k] _ (by simp) W h (okNew_all n m k)
  rw [h] at kw
  simp only [okNew, okNum, Bool.and_eq_true, decide_eq_true_eq] at h
  obtain ⟨⟨⟨h0, h1⟩, h2, h3⟩, h4, h5⟩ := h
  obtain ⟨n, rfl⟩ := Int.eq_ofNat_of_zero_le h0
  obtain ⟨m, rfl⟩ := Int.eq_ofNat_of_zero_le h2
  obtain ⟨k, rfl⟩ := Int.eq_ofNat_of_zero_le h4
  have hn : n ≤ 1000 := by omega
  have hm : m ≤ 1000 := by omega
  have hk : k ≤ 1000 := by omega
  have HL := Lib.hid (And.intro hn (And.intro hm hk))
  have hnot : ∀ (x : Bool) (w : World), (Op.unary .not (.bool x)).run Try.prog w = .ok (.bool (!x)) w := fun _ _ => rfl
  clear h0 h1 h2 h3 h4 h5 hn hm hk
  have H := Mem.start W
  go_enter Try.func25, Try.ntmps25
  go_upto_region 3 with (first
    | (go_at_call 47; refine (kw _ _ _ (Held.new W _ _)).mono ?_; rintro e w2 ⟨rfl, rfl⟩))
  have H0 := H.skip (.cells (ints [(n : Int), (m : Int), (k : Int)]) 3)
  clear H kw
  have H := H0
  clear H0
  generalize W.alloc (.cells (ints [(n : Int), (m : Int), (k : Int)]) 3) = W1 at H ⊢
  go_wp2_with (first
    | go_skip
    | (go_at_call 48; refine (zeros_p _ _).mono ?_; rintro e w2 ⟨b, rfl, hM⟩; have H2 := H.join hM; clear H hM; have H := H2; clear H2; simp only [List.cons_append, List.nil_append] at H))
  refine bodyPost_ret (results_two rfl _ _ _) rfl ?_
  have X1 := H.held _ (List.mem_of_getElem? (i := 0) rfl)
  have X2 := H.held _ (List.mem_of_getElem? (i := 1) rfl)
  have X3 := H.held _ (List.mem_of_getElem? (i := 2) rfl)
  have XI := H.inc
  simp at XI
  exact PAtS.new HO.out H.below HL.out.1 HL.out.2.1 HL.out.2.2 X1 X2 X3 (by omega) (by omega) (by omega) rfl
theorem parity_p (v : Int) (W : World) : Calls Try.prog 60 #[.int .i64 v] W fun e w' => e = .returned (.int .i64 (v.tmod 2)) ∧ w' = W := by
  go_enter Try.func60, Try.ntmps60
  go_wp2
  go_ret
  exact ⟨rfl, rfl⟩
end Go.Proofs.Ytdhjdkhhhdcjdaa.Ce
end
/- The program's Load, Store, Add, Swap, Lock, Unlock, Change, Settle, Begin, End. Conditions: the cells lie where their pointer says. -/
section
namespace Go.Proofs.Ytdhjdkhhhdcjdaa.Ce
set_option linter.unusedSimpArgs false
set_option linter.unusedVariables false
set_option maxRecDepth 100000
open Go.ChangeShapes Go.WideShapes Go.ChangeAt Go.RowKit

theorem loadOP (W : World) (own : Nat → Prop) (p : Nat) (s : CC) (N : Nat) (i : Int) (hi : I64 i) (hN : N ≤ 2000000) (h : PAt11 W own p s N) : Calls Try.prog 50 #[.pointer (some ⟨p, 0, none⟩), .int .i64 i] W (DidF PAt11 W own p s N (.tuple #[.int .i64 (loadV s i), .int .i64 (cellE (has s.c i))])) := by
  obtain ⟨oc, ol, os, bc, bl, bs, h⟩ := h
  have HD := Lib.hid h
  have hnot : ∀ (x : Bool) (w : World), (Op.unary .not (.bool x)).run Try.prog w = .ok (.bool (!x)) w := fun _ _ => rfl
  cases hh : has s.c i with
  | false =>
    have k1 := cell_no W own oc ol os p bc bl bs s N i h hh
    have e1 : loadV s i = 0 := by rw [loadV, hh]; rfl
    rw [e1]
    clear h hh
    go_enter Try.func50, Try.ntmps50
    go_wp2_with (first
    | go_skip
    | (go_at_call 61; refine k1.mono ?_; rintro e w2 ⟨rfl, hb⟩))
    refine bodyPost_ret (results_two rfl _ _ _) rfl ?_
    exact HD.out.same rfl hb
  | true =>
    obtain ⟨k, rfl, hk, hv⟩ := has_at hh
    have k1 := cell_yes W own oc ol os p bc bl bs s N k h hh
    have e1 : loadV s k = val s.c k := by rw [loadV, if_pos hh]
    rw [e1]
    clear h hh e1 hv
    go_enter Try.func50, Try.ntmps50
    go_wp2_with (first
    | go_skip
    | (go_at_call 61; refine k1.mono ?_; rintro e w2 ⟨d, rfl, G⟩; have gc := G.cell; have gz := G.froz; have G' := Lib.hid G; clear G k1)
    | (go_at_call 59; refine (at_load d _ _ _ gc).mono ?_; rintro e w3 ⟨rfl, rfl⟩))
    refine bodyPost_ret (results_two rfl _ _ _) rfl ?_
    exact G'.out.same _ _ rfl
theorem loadON (W : World) (i : Int) : Calls Try.prog 50 #[.pointer none, .int .i64 i] W fun e w' => e = .returned (.tuple #[.int .i64 0, .int .i64 1]) ∧ Below W.heap.size W w' := by
  have HB := Lib.hid (Below.refl W.heap.size W)
  have hnot : ∀ (x : Bool) (w : World), (Op.unary .not (.bool x)).run Try.prog w = .ok (.bool (!x)) w := fun _ _ => rfl
  have k1 := fun i => cell_nil W i
  go_enter Try.func50, Try.ntmps50
  go_wp2_with (first
    | go_skip
    | (go_at_call 61; refine (k1 _).mono ?_; rintro e w2 ⟨rfl, rfl⟩))
  refine bodyPost_ret (results_two rfl _ _ _) rfl ?_
  exact ⟨rfl, HB.out⟩
theorem addOP (W : World) (own : Nat → Prop) (p : Nat) (s : CC) (N : Nat) (i a : Int) (hi : I64 i) (ha : I64 a) (hN : N ≤ 2000000) (h : PAt11 W own p s N) : Calls Try.prog 56 #[.pointer (some ⟨p, 0, none⟩), .int .i64 i, .int .i64 a] W (DidF PAt11 W own p (addS s i a) N (.tuple #[.int .i64 (addV s i a), .int .i64 (cellE (has s.c i))])) := by
  obtain ⟨oc, ol, os, bc, bl, bs, h⟩ := h
  have HD := Lib.hid h
  have hnot : ∀ (x : Bool) (w : World), (Op.unary .not (.bool x)).run Try.prog w = .ok (.bool (!x)) w := fun _ _ => rfl
  cases hh : has s.c i with
  | false =>
    have k1 := cell_no W own oc ol os p bc bl bs s N i h hh
    have e1 : addS s i a = s := by rw [addS, hh]; rfl
    have e2 : addV s i a = 0 := by rw [addV, hh]; rfl
    rw [e1, e2]
    clear h hh
    go_enter Try.func56, Try.ntmps56
    go_wp2_with (first
    | go_skip
    | (go_at_call 61; refine k1.mono ?_; rintro e w2 ⟨rfl, hb⟩))
    refine bodyPost_ret (results_two rfl _ _ _) rfl ?_
    exact HD.out.same rfl hb
  | true =>
    obtain ⟨k, rfl, hk, hv⟩ := has_at hh
    have k1 := cell_yes W own oc ol os p bc bl bs s N k h hh
    have e1 : addS s k a = { s with c := put s.c k (IntKind.i64.wrap (val s.c k + a)) } := by rw [addS, if_pos hh]
    have e2 : addV s k a = IntKind.i64.wrap (val s.c k + a) := by rw [addV, if_pos hh]
    rw [e1, e2]
    have hz := wrap_i64 (val s.c k + a)
    have ka := fun d w hc hz => at_add d k (val s.c k) a w hc hz
    clear h hh e1 e2 hv
    generalize IntKind.i64.wrap (val s.c k + a) = z at *
    go_enter Try.func56, Try.ntmps56
    go_wp2_with (first
    | go_skip
    | (go_at_call 61; refine k1.mono ?_; rintro e w2 ⟨d, rfl, G⟩; have gc := G.cell; have gz := G.froz; have G' := Lib.hid G; clear G k1)
    | (go_at_call 63; refine (ka d _ gc gz).mono ?_; rintro e w3 ⟨rfl, rfl⟩))
    refine bodyPost_ret (results_two rfl _ _ _) rfl ?_
    exact G'.out.set z N _ _ (Nat.le_refl _) hz rfl
theorem addON (W : World) (i a : Int) : Calls Try.prog 56 #[.pointer none, .int .i64 i, .int .i64 a] W fun e w' => e = .returned (.tuple #[.int .i64 0, .int .i64 1]) ∧ Below W.heap.size W w' := by
  have HB := Lib.hid (Below.refl W.heap.size W)
  have hnot : ∀ (x : Bool) (w : World), (Op.unary .not (.bool x)).run Try.prog w = .ok (.bool (!x)) w := fun _ _ => rfl
  have k1 := fun i => cell_nil W i
  go_enter Try.func56, Try.ntmps56
  go_wp2_with (first
    | go_skip
    | (go_at_call 61; refine (k1 _).mono ?_; rintro e w2 ⟨rfl, rfl⟩))
  refine bodyPost_ret (results_two rfl _ _ _) rfl ?_
  exact ⟨rfl, HB.out⟩
theorem beginOP (W : World) (own : Nat → Prop) (p : Nat) (s : CC) (N : Nat) (i : Int) (hi : I64 i) (hN : N ≤ 2000000) (h : PAt11 W own p s N) : Calls Try.prog 49 #[.pointer (some ⟨p, 0, none⟩), .int .i64 i] W (DidF PAt11 W own p s N (.tuple #[.int .i64 (beginV s i), .int .i64 (beginE s i)])) := by
  obtain ⟨oc, ol, os, bc, bl, bs, h⟩ := h
  have HD := Lib.hid h
  have hnot : ∀ (x : Bool) (w : World), (Op.unary .not (.bool x)).run Try.prog w = .ok (.bool (!x)) w := fun _ _ => rfl
  cases hh : has s.s i with
  | false =>
    have k1 := count_no W own oc ol os p bc bl bs s N i h hh
    have e1 : beginV s i = 0 := by rw [beginV, hh]; rfl
    have e2 : beginE s i = 2 := by rw [beginE, if_pos hh]
    rw [e1, e2]
    clear h hh
    go_enter Try.func49, Try.ntmps49
    go_wp2_with (first
    | go_skip
    | (go_at_call 58; refine k1.mono ?_; rintro e w2 ⟨rfl, hb⟩))
    refine bodyPost_ret (results_two rfl _ _ _) rfl ?_
    exact HD.out.same rfl hb
  | true =>
    obtain ⟨k, rfl, hk, hv⟩ := has_at hh
    have k1 := count_yes W own oc ol os p bc bl bs s N k h hh
    have hm := h.fits.fs _ (val_mem hh)
    have hne : ¬ has s.s k = false := by rw [hh]; decide
    by_cases hx : val s.s k % 2 = 0
    · have e1 : beginV s k = val s.s k := by rw [beginV, hh, decide_eq_true hx]; rfl
      have e2 : beginE s k = 0 := by rw [beginE, if_neg hne, if_pos hx]
      rw [e1, e2]
      have tq : ((val s.s k).tmod 2 != 0) = false := by rw [Int.tmod_eq_emod_of_nonneg hm.1]; simpa using hx
      clear h hh e1 e2 hv hne
      go_enter Try.func49, Try.ntmps49
      go_wp2_with (first
    | go_skip
    | (go_at_call 58; refine k1.mono ?_; rintro e w2 ⟨d, rfl, G⟩; have gc := G.cell; have gz := G.froz; have G' := Lib.hid G; clear G k1)
    | (go_at_call 59; refine (at_load d _ _ _ gc).mono ?_; rintro e w3 ⟨rfl, rfl⟩)
    | (go_at_call 60; refine (parity_p _ _).mono ?_; rintro e w4 ⟨rfl, rfl⟩))
      refine bodyPost_ret (results_two rfl _ _ _) rfl ?_
      exact G'.out.same _ _ rfl
    · have e1 : beginV s k = 0 := by rw [beginV, hh, decide_eq_false hx]; rfl
      have e2 : beginE s k = 111 := by rw [beginE, if_neg hne, if_neg hx]
      rw [e1, e2]
      have tq : ((val s.s k).tmod 2 != 0) = true := by rw [Int.tmod_eq_emod_of_nonneg hm.1]; simpa using hx
      clear h hh e1 e2 hv hne
      go_enter Try.func49, Try.ntmps49
      go_wp2_with (first
    | go_skip
    | (go_at_call 58; refine k1.mono ?_; rintro e w2 ⟨d, rfl, G⟩; have gc := G.cell; have gz := G.froz; have G' := Lib.hid G; clear G k1)
    | (go_at_call 59; refine (at_load d _ _ _ gc).mono ?_; rintro e w3 ⟨rfl, rfl⟩)
    | (go_at_call 60; refine (parity_p _ _).mono ?_; rintro e w4 ⟨rfl, rfl⟩))
      refine bodyPost_ret (results_two rfl _ _ _) rfl ?_
      exact G'.out.same _ _ rfl
theorem beginON (W : World) (i : Int) : Calls Try.prog 49 #[.pointer none, .int .i64 i] W fun e w' => e = .returned (.tuple #[.int .i64 0, .int .i64 1]) ∧ Below W.heap.size W w' := by
  have HB := Lib.hid (Below.refl W.heap.size W)
  have hnot : ∀ (x : Bool) (w : World), (Op.unary .not (.bool x)).run Try.prog w = .ok (.bool (!x)) w := fun _ _ => rfl
  have k1 := fun i => count_nil W i
  go_enter Try.func49, Try.ntmps49
  go_wp2_with (first
    | go_skip
    | (go_at_call 58; refine (k1 _).mono ?_; rintro e w2 ⟨rfl, rfl⟩))
  refine bodyPost_ret (results_two rfl _ _ _) rfl ?_
  exact ⟨rfl, HB.out⟩
theorem finOP (W : World) (own : Nat → Prop) (p : Nat) (s : CC) (N : Nat) (i a : Int) (hi : I64 i) (ha : I64 a) (hN : N ≤ 2000000) (h : PAt11 W own p s N) : Calls Try.prog 52 #[.pointer (some ⟨p, 0, none⟩), .int .i64 i, .int .i64 a] W (DidF PAt11 W own p s N (.tuple #[.bool (endV s i a), .int .i64 (cellE (has s.s i))])) := by
  obtain ⟨oc, ol, os, bc, bl, bs, h⟩ := h
  have HD := Lib.hid h
  have hnot : ∀ (x : Bool) (w : World), (Op.unary .not (.bool x)).run Try.prog w = .ok (.bool (!x)) w := fun _ _ => rfl
  cases hh : has s.s i with
  | false =>
    have k1 := count_no W own oc ol os p bc bl bs s N i h hh
    have e1 : endV s i a = false := by rw [endV, hh]; rfl
    rw [e1]
    clear h hh
    go_enter Try.func52, Try.ntmps52
    go_wp2_with (first
    | go_skip
    | (go_at_call 58; refine k1.mono ?_; rintro e w2 ⟨rfl, hb⟩))
    refine bodyPost_ret (results_two rfl _ _ _) rfl ?_
    exact HD.out.same rfl hb
  | true =>
    obtain ⟨k, rfl, hk, hv⟩ := has_at hh
    have k1 := count_yes W own oc ol os p bc bl bs s N k h hh
    have e2 : endV s k a = (val s.s k == a) := by rw [endV, hh]; rfl
    rw [e2]
    clear h hh e2 hv
    go_enter Try.func52, Try.ntmps52
    go_wp2_with (first
    | go_skip
    | (go_at_call 58; refine k1.mono ?_; rintro e w2 ⟨d, rfl, G⟩; have gc := G.cell; have gz := G.froz; have G' := Lib.hid G; clear G k1)
    | (go_at_call 59; refine (at_load d _ _ _ gc).mono ?_; rintro e w3 ⟨rfl, rfl⟩))
    refine bodyPost_ret (results_two rfl _ _ _) rfl ?_
    exact G'.out.same _ _ rfl
theorem finON (W : World) (i a : Int) : Calls Try.prog 52 #[.pointer none, .int .i64 i, .int .i64 a] W fun e w' => e = .returned (.tuple #[.bool false, .int .i64 1]) ∧ Below W.heap.size W w' := by
  have HB := Lib.hid (Below.refl W.heap.size W)
  have hnot : ∀ (x : Bool) (w : World), (Op.unary .not (.bool x)).run Try.prog w = .ok (.bool (!x)) w := fun _ _ => rfl
  have k1 := fun i => count_nil W i
  go_enter Try.func52, Try.ntmps52
  go_wp2_with (first
    | go_skip
    | (go_at_call 58; refine (k1 _).mono ?_; rintro e w2 ⟨rfl, rfl⟩))
  refine bodyPost_ret (results_two rfl _ _ _) rfl ?_
  exact ⟨rfl, HB.out⟩
end Go.Proofs.Ytdhjdkhhhdcjdaa.Ce
end
/- The program's Change, Settle, Lock, Unlock. Conditions: the cells lie where their pointer says. -/
section
namespace Go.Proofs.Ytdhjdkhhhdcjdaa.Ce
set_option linter.unusedSimpArgs false
set_option linter.unusedVariables false
set_option maxRecDepth 100000
open Go.ChangeShapes Go.WideShapes Go.ChangeAt Go.RowKit

theorem DidF.up {W w' : World} {own : Nat → Prop} {p N M : Nat} {s : CC} {v : Value} {e : Ending} (hM : N ≤ M) (h : DidF PAt11 W own p s N v e w') : DidF PAt11 W own p s M v e w' := by
  obtain ⟨he, ⟨own', ⟨oc, ol, os, bc, bl, bs, h1⟩, h2⟩, hf⟩ := h
  exact ⟨he, ⟨own', ⟨oc, ol, os, bc, bl, bs, { h1 with fits := h1.fits.mono hM }⟩, h2⟩, hf⟩
set_option maxHeartbeats 1600000 in
theorem advP (W : World) (own : Nat → Prop) (p : Nat) (s : CC) (N : Nat) (i f : Int) (hN : N ≤ 2000000) (h : PAt11 W own p s N) : Calls Try.prog 55 #[.pointer (some ⟨p, 0, none⟩), .int .i64 i, .int .i64 f] W (DidF PAt11 W own p (stepS s i f) (N + 1) (.int .i64 (stepE s i f))) := by
  obtain ⟨oc, ol, os, bc, bl, bs, h⟩ := h
  have HD := Lib.hid h
  have hnot : ∀ (x : Bool) (w : World), (Op.unary .not (.bool x)).run Try.prog w = .ok (.bool (!x)) w := fun _ _ => rfl
  cases hh : has s.s i with
  | false =>
    have k1 := count_no W own oc ol os p bc bl bs s N i h hh
    have e2 : stepE s i f = 2 := by rw [stepE, if_pos hh]
    have e1 : stepS s i f = s := by rw [stepS, e2]; rfl
    rw [e1, e2]
    clear h hh e1 e2
    go_enter Try.func55, Try.ntmps55
    go_wp2_with (first
    | go_skip
    | (go_at_call 58; refine k1.mono ?_; rintro e w2 ⟨rfl, hb⟩))
    go_ret
    exact (HD.out.same rfl hb).up (Nat.le_succ _)
  | true =>
    obtain ⟨k, rfl, hk, hv⟩ := has_at hh
    have k1 := count_yes W own oc ol os p bc bl bs s N k h hh
    have hm := h.fits.fs _ (val_mem hh)
    have hne : ¬ has s.s k = false := by rw [hh]; decide
    by_cases hx : val s.s k % 2 = f
    · have e2 : stepE s k f = 0 := by rw [stepE, if_neg hne, if_pos hx]
      have e1 : stepS s k f = { s with s := put s.s k (val s.s k + 1) } := by rw [stepS, if_pos e2]
      rw [e1, e2]
      have tq : ((val s.s k).tmod 2 != f) = false := by rw [Int.tmod_eq_emod_of_nonneg hm.1]; simpa using hx
      clear h hh e1 e2 hv hne hx
      have w1 : IntKind.i64.wrap (val s.s k + 1) = val s.s k + 1 := wrap_id (by omega) (by omega)
      go_enter Try.func55, Try.ntmps55
      go_wp2_with (first
    | go_skip
    | (go_at_call 58; refine k1.mono ?_; rintro e w2 ⟨d, rfl, G⟩; have gc := G.cell; have gz := G.froz; have G' := Lib.hid G; clear G k1)
    | (go_at_call 59; refine (at_load d _ _ _ gc).mono ?_; rintro e w3 ⟨rfl, rfl⟩)
    | (go_at_call 60; refine (parity_p _ _).mono ?_; rintro e w4 ⟨rfl, rfl⟩)
    | (go_at_call 62; refine (at_cas_hit d _ (val s.s k) (val s.s k) (val s.s k + 1) _ gc gz rfl).mono ?_; rintro e w3 ⟨rfl, rfl⟩))
      go_ret
      exact G'.out.set (val s.s k + 1) (N + 1) _ _ (Nat.le_succ _) ⟨by omega, by omega⟩ rfl
    · have e2 : stepE s k f = 111 := by rw [stepE, if_neg hne, if_neg hx]
      have e1 : stepS s k f = s := by rw [stepS, e2]; rfl
      rw [e1, e2]
      have tq : ((val s.s k).tmod 2 != f) = true := by rw [Int.tmod_eq_emod_of_nonneg hm.1]; simpa using hx
      clear h hh e1 e2 hv hne hx
      go_enter Try.func55, Try.ntmps55
      go_wp2_with (first
    | go_skip
    | (go_at_call 58; refine k1.mono ?_; rintro e w2 ⟨d, rfl, G⟩; have gc := G.cell; have gz := G.froz; have G' := Lib.hid G; clear G k1)
    | (go_at_call 59; refine (at_load d _ _ _ gc).mono ?_; rintro e w3 ⟨rfl, rfl⟩)
    | (go_at_call 60; refine (parity_p _ _).mono ?_; rintro e w4 ⟨rfl, rfl⟩))
      go_ret
      exact (G'.out.same _ _ rfl).up (Nat.le_succ _)
theorem advN (W : World) (i f : Int) : Calls Try.prog 55 #[.pointer none, .int .i64 i, .int .i64 f] W fun e w' => e = .returned (.int .i64 1) ∧ Below W.heap.size W w' := by
  have HB := Lib.hid (Below.refl W.heap.size W)
  have k1 := fun i => count_nil W i
  go_enter Try.func55, Try.ntmps55
  go_wp2_with (first
    | go_skip
    | (go_at_call 58; refine (k1 _).mono ?_; rintro e w2 ⟨rfl, rfl⟩))
  go_ret
  exact ⟨rfl, HB.out⟩
theorem changeOP (W : World) (own : Nat → Prop) (p : Nat) (s : CC) (N : Nat) (i : Int) (hi : I64 i) (hN : N ≤ 2000000) (h : PAt11 W own p s N) : Calls Try.prog 43 #[.pointer (some ⟨p, 0, none⟩), .int .i64 i] W (DidF PAt11 W own p (stepS s i 0) (N + 1) (.int .i64 (stepE s i 0))) := by
  have k1 := advP W own p s N i 0 hN h
  clear h
  go_enter Try.func43, Try.ntmps43
  go_wp2_with (first
    | go_skip
    | (go_at_call 55; refine k1.mono ?_; rintro e w2 ⟨rfl, hd⟩))
  go_ret
  exact ⟨rfl, hd⟩
theorem changeON (W : World) (i : Int) : Calls Try.prog 43 #[.pointer none, .int .i64 i] W fun e w' => e = .returned (.int .i64 1) ∧ Below W.heap.size W w' := by
  have k1 := advN W i 0
  go_enter Try.func43, Try.ntmps43
  go_wp2_with (first
    | go_skip
    | (go_at_call 55; refine k1.mono ?_; rintro e w2 ⟨rfl, hb⟩))
  go_ret
  exact ⟨rfl, hb⟩
theorem settleOP (W : World) (own : Nat → Prop) (p : Nat) (s : CC) (N : Nat) (i : Int) (hi : I64 i) (hN : N ≤ 2000000) (h : PAt11 W own p s N) : Calls Try.prog 46 #[.pointer (some ⟨p, 0, none⟩), .int .i64 i] W (DidF PAt11 W own p (stepS s i 1) (N + 1) (.int .i64 (stepE s i 1))) := by
  have k1 := advP W own p s N i 1 hN h
  clear h
  go_enter Try.func46, Try.ntmps46
  go_wp2_with (first
    | go_skip
    | (go_at_call 55; refine k1.mono ?_; rintro e w2 ⟨rfl, hd⟩))
  go_ret
  exact ⟨rfl, hd⟩
theorem settleON (W : World) (i : Int) : Calls Try.prog 46 #[.pointer none, .int .i64 i] W fun e w' => e = .returned (.int .i64 1) ∧ Below W.heap.size W w' := by
  have k1 := advN W i 1
  go_enter Try.func46, Try.ntmps46
  go_wp2_with (first
    | go_skip
    | (go_at_call 55; refine k1.mono ?_; rintro e w2 ⟨rfl, hb⟩))
  go_ret
  exact ⟨rfl, hb⟩
/-- what a lock's passing leaves -/
def passE (s : CC) (i a from' : Int) : Int := if (has s.l i && actor a) = false then 2 else if val s.l i = from' then 0 else 110
def passS (s : CC) (i a from' to' : Int) : CC := if passE s i a from' = 0 then { s with l := put s.l i to' } else s
theorem actor_in {a : Int} (h : actor a = true) : 0 ≤ a ∧ a < 64 := by
  simpa [actor] using h
theorem pass_lock (s : CC) (i a z : Int) (hz : actor a = true → z = a + 1) : passE s i a 0 = lockE s i a ∧ passS s i a 0 z = lockS s i a := by
  have e : passE s i a 0 = lockE s i a := rfl
  refine ⟨e, ?_⟩
  unfold passS lockS
  rw [e]
  by_cases hq : lockE s i a = 0
  · rw [if_pos hq, if_pos hq]
    have hx : actor a = true := by
      cases ha : actor a with
      | true => rfl
      | false =>
        exfalso
        rw [lockE, ha, Bool.and_false, if_pos rfl] at hq
        omega
    rw [hz hx]
  · rw [if_neg hq, if_neg hq]
theorem pass_unlock (s : CC) (i a z : Int) (hz : actor a = true → z = a + 1) : passE s i a z = unlockE s i a ∧ passS s i a z 0 = unlockS s i a := by
  have e : passE s i a z = unlockE s i a := by
    cases hq : (has s.l i && actor a) with
    | false => rw [passE, unlockE, if_pos hq, if_pos hq]
    | true =>
      have hx := hq
      rw [Bool.and_eq_true] at hx
      rw [passE, unlockE, hz hx.2]
  refine ⟨e, ?_⟩
  unfold passS unlockS
  rw [e]
end Go.Proofs.Ytdhjdkhhhdcjdaa.Ce
end
