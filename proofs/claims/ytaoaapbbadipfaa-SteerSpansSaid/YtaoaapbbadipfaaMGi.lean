/-
  The laws' own cut and has; the document's Same of tables. Conditions: the tables lie where their values say. Even tables; the document's Even where its numbers may not be. Conditions: those that each theorem names. The document's Even. Conditions: those that each theorem names. Even tables may be, and leave no queue idle; owners of queues. Mathematics alone.
-/
import Derived.Test.YtaoaapbbadipfaaMGh
/- The laws' own cut and has; the document's Same of tables. Conditions: the tables lie where their values say. -/
section
namespace Go.Proofs.Ytaoaapbbadipfaa
set_option linter.unusedSimpArgs false
set_option linter.unusedVariables false
set_option maxRecDepth 100000
open Go.ChangeShapes Go.WideShapes Go.ChangeAt Go.RowKit

theorem clInfo : (Try.prog.info? 29).map (·.size) = some 1 := by kernel_rfl
theorem ssInfo : (Try.prog.info? 30).map (·.size) = some 1 := by kernel_rfl
/-- a table of at most twenty classes and priorities -/
def TB.cut (t : TB) : TB := ⟨t.q, t.cl.take 20, t.sp.take 20⟩
theorem take_get {α : Type} {l : List α} {n k : Nat} {x : α} (h : (l.take n)[k]? = some x) : l[k]? = some x := by
  rw [List.getElem?_take] at h
  split at h
  · exact h
  · cases h
theorem TbAt.cut {B : Nat} {w : World} {A1 A2 : Option Addr} {c1 c2 : Nat} {t : TB} (h : TbAt B w A1 A2 c1 c2 t) : TbAt B w A1 A2 c1 c2 t.cut :=
  ⟨fun k x hx => h.cl k x (take_get hx), fun k x hx => h.sp k x (take_get hx), by have := h.l1; simp [TB.cut]; omega, by have := h.l2; simp [TB.cut]; omega, h.m1, h.m2, h.fq, fun x hx => h.fc x (List.mem_of_mem_take hx), fun x hx => h.fs x (List.mem_of_mem_take hx)⟩
theorem cut_len (t : TB) : t.cut.cl.length ≤ 20 ∧ t.cut.sp.length ≤ 20 := by simp [TB.cut]; omega
end Go.Proofs.Ytaoaapbbadipfaa
end
/- Even tables; the document's Even where its numbers may not be. Conditions: those that each theorem names. -/
section
namespace Go.Proofs.Ytaoaapbbadipfaa
set_option linter.unusedSimpArgs false
set_option linter.unusedVariables false
set_option maxRecDepth 100000
open Go.ChangeShapes Go.WideShapes Go.ChangeAt Go.RowKit

/-- how long the k-th span of an even table is, where it begins -/
def cntN (Q C k : Nat) : Nat := Q / C + (if k < Q % C then 1 else 0)
def offN (Q C k : Nat) : Nat := k * (Q / C) + min k (Q % C)
theorem offN_succ (Q C k : Nat) : offN Q C (k + 1) = offN Q C k + cntN Q C k := by
  unfold offN cntN
  rw [Nat.succ_mul]
  split <;> omega
theorem offN_zero (Q C : Nat) : offN Q C 0 = 0 := by simp [offN]
theorem offN_all {Q C : Nat} (h : 1 ≤ C) : offN Q C C = Q := by
  unfold offN
  have h1 := Nat.div_add_mod Q C
  have h2 := Nat.mod_lt Q (show 0 < C by omega)
  rw [Nat.min_eq_right (by omega)]
  exact h1
def evenS (Q C k : Nat) : List (Int × Int) := (List.range k).map fun i => ((offN Q C i : Int), (cntN Q C i : Int))
theorem evenS_succ (Q C k : Nat) : evenS Q C (k + 1) = evenS Q C k ++ [((offN Q C k : Int), (cntN Q C k : Int))] := by simp [evenS, List.range_succ]
theorem evenS_len (Q C k : Nat) : (evenS Q C k).length = k := by simp [evenS]
def evenC (C k : Nat) : List Int := (List.range k).map fun i => ((i % C : Nat) : Int)
theorem evenC_succ (C k : Nat) : evenC C (k + 1) = evenC C k ++ [((k % C : Nat) : Int)] := by simp [evenC, List.range_succ]
theorem evenC_len (C k : Nat) : (evenC C k).length = k := by simp [evenC]
/-- the even table -/
def evenT (Q C : Nat) : TB := ⟨Q, evenC C 16, evenS Q C C⟩
/-- the cells of spans -/
def spCs (l : List (Int × Int)) : List Value := l.flatMap fun s => [Value.int .i64 s.1, .int .i64 s.2]
theorem spCs_length (l : List (Int × Int)) : (spCs l).length = l.length * 2 := by
  induction l with
  | nil => rfl
  | cons a l ih => simp [spCs] at ih ⊢; omega
theorem spCs_append (a b : List (Int × Int)) : spCs (a ++ b) = spCs a ++ spCs b := by simp [spCs]
theorem spCs_get {l : List (Int × Int)} {k : Nat} {s : Int × Int} (h : l[k]? = some s) : (spCs l)[k * 2]? = some (.int .i64 s.1) ∧ (spCs l)[k * 2 + 1]? = some (.int .i64 s.2) := by
  induction l generalizing k with
  | nil => cases h
  | cons a l ih =>
    cases k with
    | zero =>
      simp at h
      subst h
      exact ⟨rfl, rfl⟩
    | succ k =>
      obtain ⟨h1, h2⟩ := ih (k := k) (by simpa using h)
      have e : spCs (a :: l) = Value.int .i64 a.1 :: Value.int .i64 a.2 :: spCs l := rfl
      rw [e, show (k + 1) * 2 = k * 2 + 1 + 1 by omega]
      exact ⟨by simpa using h1, by simpa using h2⟩
theorem ownsRow_len {W : World} {base : Nat} {e : TypeId} {size : Nat} {v : Value} {n : Nat} {xs : List Value} (h : W.ownsRow base e size v n xs) : ∃ a c, v = .slice a n c := by
  rcases h.2 with ⟨rfl, rfl⟩ | ⟨g, cap, cur, rfl, _⟩
  · exact ⟨none, 0, rfl⟩
  · exact ⟨_, _, rfl⟩
/-- a row of numbers, as a slice of a table -/
theorem rowI_own {W : World} {base : Nat} {e : TypeId} {A : Option Addr} {c n : Nat} {L : List Int} (h : W.ownsRow base e 1 (.slice A n c) n (ints L)) : RowI W.heap.size W A L ∧ n ≤ c ∧ c ≤ maxLen := by
  rcases h.2 with ⟨hv, h0⟩ | ⟨g, cap, cur, hv, hb, hh, h1, h2, h3, h4⟩
  · cases hv
    refine ⟨fun k x hx => ?_, Nat.le_refl _, Nat.zero_le _⟩
    have hl := h.1
    simp [ints] at hl
    subst hl
    cases hx
  · cases hv
    refine ⟨fun k x hx => ⟨g, 0, rfl, (Array.getElem?_eq_some_iff.1 hh).1, ?_⟩, h1, h2⟩
    have hk : k < L.length := (List.getElem?_eq_some_iff.1 hx).1
    have hl := h.1
    simp [ints] at hl
    rw [Nat.zero_add]
    refine (World.ownsRow.cellAt h k (by omega)).trans ?_
    simp [ints, hx]
theorem rowS_own {W : World} {base : Nat} {e : TypeId} {A : Option Addr} {c n : Nat} {L : List (Int × Int)} (h : W.ownsRow base e 2 (.slice A n c) n (spCs L)) : RowS W.heap.size W A L ∧ n ≤ c ∧ c ≤ maxLen := by
  rcases h.2 with ⟨hv, h0⟩ | ⟨g, cap, cur, hv, hb, hh, h1, h2, h3, h4⟩
  · cases hv
    refine ⟨fun k x hx => ?_, Nat.le_refl _, Nat.zero_le _⟩
    have hl := h.1
    rw [spCs_length] at hl
    have : L.length = 0 := by omega
    rw [List.eq_nil_of_length_eq_zero this] at hx
    cases hx
  · cases hv
    refine ⟨fun k x hx => ?_, h1, h2⟩
    have hk : k < L.length := (List.getElem?_eq_some_iff.1 hx).1
    have hl := h.1
    rw [spCs_length] at hl
    obtain ⟨q1, q2⟩ := spCs_get hx
    have hc := h.cells (g := g) rfl
    refine ⟨g, 0, rfl, (Array.getElem?_eq_some_iff.1 hh).1, ?_, ?_⟩
    · have := hc _ _ q1
      rwa [Addr.add_mid] at this
    · have := hc _ _ q2
      rwa [Addr.add_mid] at this
theorem ownsRow_foot {W W' : World} {B : Nat → Prop} {base : Nat} {e : TypeId} {size : Nat} {v : Value} {n : Nat} {xs : List Value} (h : W.ownsRow base e size v n xs) (hf : Foot B W W') (hn : ∀ k, base ≤ k → ¬ B k) : W'.ownsRow base e size v n xs := by
  refine ⟨h.1, ?_⟩
  rcases h.2 with h0 | ⟨g, cap, cur, h1, h2, h3, h4⟩
  · exact .inl h0
  · exact .inr ⟨g, cap, cur, h1, h2, (hf.block g (Array.getElem?_eq_some_iff.1 h3).1 (hn g h2)).trans h3, h4⟩
section
variable {P : Program} {ops : Array Oper} {rest : List Oper} {o : Oper} {a : Act} {w0 w : World} {Q : Exit → Act → World → Prop} {l : List (Nat × TypeId × Array Value)} {t : TypeId} {cs : Array Value}
/-- one cell of a box is written: what else is there stays -/
theorem mem_storefF {b i j : Nat} {ty : TypeId} {x y : Operand} {v : Value} (H : Mem w0 w l) (hw : Region.wanted o (yielded ops a.tmps) = true) (ho : o.op = .store ty x y) (hx : opnd a x = some (.pointer (some ⟨b, j, none⟩))) (hm : l[i]? = some (b, t, cs)) (hy : opnd a y = some v)
    (hi : (P.info? ty).map (·.size) = some 1) (hj' : decide (j < cs.size) = true) (h1 : v.oneCell' = true)
    (h : ∀ w', Mem w0 w' (l.set i (b, t, cs.setIfInBounds j v)) → Foot (· = b) w w' → wpList P ops Q rest (a.put o.dst undef) w') : wpList P ops Q (o :: rest) a w :=
  store_fld (H.at i hm) hw ho hx hy hi hj' h1 fun w' g F => h w' (H.set i hm F g) F
end
/-- no table -/
abbrev noT : Array Value := #[.int .i64 0, .slice none 0 0, .slice none 0 0]
theorem even_no0 (q c : Int)  (h0 : q < 1) (w : World) : Calls Try.prog 29 #[.int .i64 q, .int .i64 c] w fun e w' => e = .returned (.tuple #[.agg noT, .int .i64 2]) ∧ Below w.heap.size w w' := by
  have H := Mem.start w
  have t0 : decide (q < 1) = true := decide_eq_true h0
  go_enter Try.func29, Try.ntmps29
  go_upto_region 1 with (first
    | ((with_reducible show wpList _ _ _ _ _ (World.alloc _ (.cells _ _))); refine mem_newb H ?_; intro b w3 hbk H2; try rw [← hbk]; clear hbk H; have H := H2; clear H2; simp only [List.cons_append, List.nil_append, List.set_cons_zero, List.set_cons_succ, List.setIfInBounds_toArray] at H))
  go_wp2_with (first
    | go_skip
    | ((with_reducible show wpList _ _ _ (⟨_, .store 32 _ _, _, _, _, _⟩ :: _) _ _); refine mem_store (i := 0) H (by first | exact wanted_none rfl | exact wanted_some rfl rfl rfl rfl) (by exact rfl) (by exact rfl) (by exact rfl) (by exact rfl) (by exact tbInfo) (by exact rfl) (by exact rfl) ?_; intro w2 H2; clear H; have H := H2; clear H2; simp only [List.cons_append, List.nil_append, List.set_cons_zero, List.set_cons_succ, List.setIfInBounds_toArray] at H))
  refine ret_held2 (H.at 0 rfl) rfl rfl Try.underlying32 rfl tbInfo ?_
  exact ⟨rfl, H.below⟩
theorem even_no1 (q c : Int) (h0 : ¬ q < 1) (h1 : 64 < q) (w : World) : Calls Try.prog 29 #[.int .i64 q, .int .i64 c] w fun e w' => e = .returned (.tuple #[.agg noT, .int .i64 2]) ∧ Below w.heap.size w w' := by
  have H := Mem.start w
  have t0 : decide (q < 1) = false := decide_eq_false h0
  have t1 : decide (64 < q) = true := decide_eq_true h1
  go_enter Try.func29, Try.ntmps29
  go_upto_region 1 with (first
    | ((with_reducible show wpList _ _ _ _ _ (World.alloc _ (.cells _ _))); refine mem_newb H ?_; intro b w3 hbk H2; try rw [← hbk]; clear hbk H; have H := H2; clear H2; simp only [List.cons_append, List.nil_append, List.set_cons_zero, List.set_cons_succ, List.setIfInBounds_toArray] at H))
  go_wp2_with (first
    | go_skip
    | ((with_reducible show wpList _ _ _ (⟨_, .store 32 _ _, _, _, _, _⟩ :: _) _ _); refine mem_store (i := 0) H (by first | exact wanted_none rfl | exact wanted_some rfl rfl rfl rfl) (by exact rfl) (by exact rfl) (by exact rfl) (by exact rfl) (by exact tbInfo) (by exact rfl) (by exact rfl) ?_; intro w2 H2; clear H; have H := H2; clear H2; simp only [List.cons_append, List.nil_append, List.set_cons_zero, List.set_cons_succ, List.setIfInBounds_toArray] at H))
  refine ret_held2 (H.at 0 rfl) rfl rfl Try.underlying32 rfl tbInfo ?_
  exact ⟨rfl, H.below⟩
theorem even_no2 (q c : Int) (h0 : ¬ q < 1) (h1 : ¬ 64 < q) (h2 : c < 1) (w : World) : Calls Try.prog 29 #[.int .i64 q, .int .i64 c] w fun e w' => e = .returned (.tuple #[.agg noT, .int .i64 2]) ∧ Below w.heap.size w w' := by
  have H := Mem.start w
  have t0 : decide (q < 1) = false := decide_eq_false h0
  have t1 : decide (64 < q) = false := decide_eq_false h1
  have t2 : decide (c < 1) = true := decide_eq_true h2
  go_enter Try.func29, Try.ntmps29
  go_upto_region 1 with (first
    | ((with_reducible show wpList _ _ _ _ _ (World.alloc _ (.cells _ _))); refine mem_newb H ?_; intro b w3 hbk H2; try rw [← hbk]; clear hbk H; have H := H2; clear H2; simp only [List.cons_append, List.nil_append, List.set_cons_zero, List.set_cons_succ, List.setIfInBounds_toArray] at H))
  go_wp2_with (first
    | go_skip
    | ((with_reducible show wpList _ _ _ (⟨_, .store 32 _ _, _, _, _, _⟩ :: _) _ _); refine mem_store (i := 0) H (by first | exact wanted_none rfl | exact wanted_some rfl rfl rfl rfl) (by exact rfl) (by exact rfl) (by exact rfl) (by exact rfl) (by exact tbInfo) (by exact rfl) (by exact rfl) ?_; intro w2 H2; clear H; have H := H2; clear H2; simp only [List.cons_append, List.nil_append, List.set_cons_zero, List.set_cons_succ, List.setIfInBounds_toArray] at H))
  refine ret_held2 (H.at 0 rfl) rfl rfl Try.underlying32 rfl tbInfo ?_
  exact ⟨rfl, H.below⟩
theorem even_no3 (q c : Int) (h0 : ¬ q < 1) (h1 : ¬ 64 < q) (h2 : ¬ c < 1) (h3 : 16 < c) (w : World) : Calls Try.prog 29 #[.int .i64 q, .int .i64 c] w fun e w' => e = .returned (.tuple #[.agg noT, .int .i64 2]) ∧ Below w.heap.size w w' := by
  have H := Mem.start w
  have t0 : decide (q < 1) = false := decide_eq_false h0
  have t1 : decide (64 < q) = false := decide_eq_false h1
  have t2 : decide (c < 1) = false := decide_eq_false h2
  have t3 : decide (16 < c) = true := decide_eq_true h3
  go_enter Try.func29, Try.ntmps29
  go_upto_region 1 with (first
    | ((with_reducible show wpList _ _ _ _ _ (World.alloc _ (.cells _ _))); refine mem_newb H ?_; intro b w3 hbk H2; try rw [← hbk]; clear hbk H; have H := H2; clear H2; simp only [List.cons_append, List.nil_append, List.set_cons_zero, List.set_cons_succ, List.setIfInBounds_toArray] at H))
  go_wp2_with (first
    | go_skip
    | ((with_reducible show wpList _ _ _ (⟨_, .store 32 _ _, _, _, _, _⟩ :: _) _ _); refine mem_store (i := 0) H (by first | exact wanted_none rfl | exact wanted_some rfl rfl rfl rfl) (by exact rfl) (by exact rfl) (by exact rfl) (by exact rfl) (by exact tbInfo) (by exact rfl) (by exact rfl) ?_; intro w2 H2; clear H; have H := H2; clear H2; simp only [List.cons_append, List.nil_append, List.set_cons_zero, List.set_cons_succ, List.setIfInBounds_toArray] at H))
  refine ret_held2 (H.at 0 rfl) rfl rfl Try.underlying32 rfl tbInfo ?_
  exact ⟨rfl, H.below⟩
theorem even_no4 (q c : Int) (h0 : ¬ q < 1) (h1 : ¬ 64 < q) (h2 : ¬ c < 1) (h3 : ¬ 16 < c) (h4 : q < c) (w : World) : Calls Try.prog 29 #[.int .i64 q, .int .i64 c] w fun e w' => e = .returned (.tuple #[.agg noT, .int .i64 2]) ∧ Below w.heap.size w w' := by
  have H := Mem.start w
  have t0 : decide (q < 1) = false := decide_eq_false h0
  have t1 : decide (64 < q) = false := decide_eq_false h1
  have t2 : decide (c < 1) = false := decide_eq_false h2
  have t3 : decide (16 < c) = false := decide_eq_false h3
  have t4 : decide (q < c) = true := decide_eq_true h4
  go_enter Try.func29, Try.ntmps29
  go_upto_region 1 with (first
    | ((with_reducible show wpList _ _ _ _ _ (World.alloc _ (.cells _ _))); refine mem_newb H ?_; intro b w3 hbk H2; try rw [← hbk]; clear hbk H; have H := H2; clear H2; simp only [List.cons_append, List.nil_append, List.set_cons_zero, List.set_cons_succ, List.setIfInBounds_toArray] at H))
  go_wp2_with (first
    | go_skip
    | ((with_reducible show wpList _ _ _ (⟨_, .store 32 _ _, _, _, _, _⟩ :: _) _ _); refine mem_store (i := 0) H (by first | exact wanted_none rfl | exact wanted_some rfl rfl rfl rfl) (by exact rfl) (by exact rfl) (by exact rfl) (by exact rfl) (by exact tbInfo) (by exact rfl) (by exact rfl) ?_; intro w2 H2; clear H; have H := H2; clear H2; simp only [List.cons_append, List.nil_append, List.set_cons_zero, List.set_cons_succ, List.setIfInBounds_toArray] at H))
  refine ret_held2 (H.at 0 rfl) rfl rfl Try.underlying32 rfl tbInfo ?_
  exact ⟨rfl, H.below⟩
theorem even_no (q c : Int) (h : ¬ (1 ≤ q ∧ q ≤ 64 ∧ 1 ≤ c ∧ c ≤ 16 ∧ c ≤ q)) (w : World) : Calls Try.prog 29 #[.int .i64 q, .int .i64 c] w fun e w' => e = .returned (.tuple #[.agg noT, .int .i64 2]) ∧ Below w.heap.size w w' := by
  by_cases h0 : q < 1
  · exact even_no0 q c h0 w
  by_cases h1 : 64 < q
  · exact even_no1 q c h0 h1 w
  by_cases h2 : c < 1
  · exact even_no2 q c h0 h1 h2 w
  by_cases h3 : 16 < c
  · exact even_no3 q c h0 h1 h2 h3 w
  exact even_no4 q c h0 h1 h2 h3 (by omega) w
end Go.Proofs.Ytaoaapbbadipfaa
end
/- The document's Even. Conditions: those that each theorem names. -/
section
namespace Go.Proofs.Ytaoaapbbadipfaa
set_option linter.unusedSimpArgs false
set_option linter.unusedVariables false
set_option maxRecDepth 100000
open Go.ChangeShapes Go.WideShapes Go.ChangeAt Go.RowKit

theorem infoSp_parts : ∃ i, Try.prog.info? 59 = some i ∧ i.zero = some (.agg #[.int .i64 0, .int .i64 0]) ∧ i.size = 2 ∧ i.bytes = 16 := by
  have h : (Try.prog.info? 59).map (fun i => (i.zero, i.size, i.bytes)) = some (some (.agg #[.int .i64 0, .int .i64 0]), 2, 16) := by kernel_rfl
  rcases hi : Try.prog.info? 59 with _ | i
  · rw [hi] at h; cases h
  · rw [hi] at h
    simp at h
    exact ⟨i, rfl, h.1, h.2.1, h.2.2⟩
theorem spCs_one (l : List (Int × Int)) : ∀ u ∈ spCs l, u.oneCell' = true := by
  intro u hu
  obtain ⟨s, _, hs⟩ := List.mem_flatMap.1 hu
  simp at hs
  rcases hs with rfl | rfl <;> rfl
theorem addr_add0 (b j : Nat) : (⟨b, 0, none⟩ : Addr).add j = ⟨b, j, none⟩ := by
  unfold Addr.add
  split
  all_goals first | (simp; done) | (simp; omega)
theorem offN_le {Q C k : Nat} (h : 1 ≤ C) (hk : k < C) : offN Q C k + cntN Q C k ≤ Q := by
  have e := offN_all (Q := Q) h
  rw [← offN_succ]
  conv => rhs; rw [← e]
  unfold offN
  have := Nat.mul_le_mul_right (Q / C) (show k + 1 ≤ C by omega)
  omega
theorem addr_add (b o j : Nat) : (⟨b, o, none⟩ : Addr).add j = ⟨b, o + j, none⟩ := by
  unfold Addr.add
  split
  all_goals first | (simp; done) | (simp; omega)
/-- one cell of a box is written, inside a fence, as an operation alone -/
theorem wpIn_storef_mem {F : Fence} {n : Nat} {P : Program} {o : Oper} {a : Act} {w0 w : World} {Q : Exit → Act → World → Prop} {l : List (Nat × TypeId × Array Value)} {t : TypeId} {cs : Array Value} {b i j : Nat} {ty : TypeId} {x y : Operand} {v : Value} {K : Act → World → Prop} (H : Mem w0 w l) (ho : o.op = .store ty x y) (hx : opnd a x = some (.pointer (some ⟨b, j, none⟩))) (hm : l[i]? = some (b, t, cs)) (hy : opnd a y = some v)
    (hi : (P.info? ty).map (·.size) = some 1) (hj' : decide (j < cs.size) = true) (h1 : v.oneCell' = true)
    (h : ∀ w', Mem w0 w' (l.set i (b, t, cs.setIfInBounds j v)) → Foot (· = b) w w' → K (a.put o.dst undef) w') : o.wpIn F n P a w K Q := by
  refine ⟨by simp [Oper.about, ho], ?_⟩
  rw [Oper.semAt_plain F _ _ (by rw [ho]; intro c hc'; cases hc')]
  have g := H.at i hm
  have hj : j < cs.size := of_decide_eq_true hj'
  have hc : w.cell? ⟨b, j, none⟩ = some cs[j] := (g.cell j).trans (by simp [hj])
  have hf := g.frozen j
  have hcs : v.cells = #[v] := by cases v <;> first | rfl | cases h1
  have hst : (storeVar ty ⟨b, j, none⟩ v).run P w = .ok () (w.setCell ⟨b, j, none⟩ v) := by
    cases hq : P.info? ty with
    | none => simp [hq] at hi
    | some i =>
      have hs : i.size = 1 := by simpa [hq] using hi
      simp [storeVar, sizeOf, typeInfo, hq, hcs, hs, storeCells, Addr.add_mid, run_store P w _ v _ h1, hc, hf]
  unfold execOp
  simp only [ho, opnd_eval hx, opnd_eval hy, Instr.storeAt, Instr.sureAddr, Sem.run_bind, Sem.run_pure, Result.andThen_ok, hst]
  exact h _ (H.set i hm (Foot.cell w ⟨b, j, none⟩ v) (g.set j v)) (Foot.cell w ⟨b, j, none⟩ v)
section
variable {P : Program} {ops : Array Oper} {rest : List Oper} {o : Oper} {a : Act} {w0 w : World} {Q : Exit → Act → World → Prop} {l : List (Nat × TypeId × Array Value)} {t : TypeId} {cs : Array Value}
/-- a whole struct is written: what else is there stays -/
theorem mem_storeF {b i : Nat} {ty : TypeId} {vs : Array Value} {x y : Operand} (H : Mem w0 w l) (hw : Region.wanted o (yielded ops a.tmps) = true) (ho : o.op = .store ty x y) (hx : opnd a x = some (.pointer (some ⟨b, 0, none⟩))) (hm : l[i]? = some (b, t, cs)) (hy : opnd a y = some (.agg vs))
    (hi : (P.info? ty).map (·.size) = some vs.size) (hs : cs.size = vs.size) (h1' : vs.toList.all (·.oneCell') = true)
    (h : ∀ w', Mem w0 w' (l.set i (b, t, vs)) → Foot (· = b) w w' → wpList P ops Q rest (a.put o.dst undef) w') : wpList P ops Q (o :: rest) a w :=
  store_held (H.at i hm) hw ho hx hy hi hs h1' fun w' g F => h w' (H.set i hm F g) F
end
/-- something is appended to a row, inside a fence, as an operation alone -/
theorem wpIn_append_own {F : Fence} {n : Nat} {P : Program} {w : World} {o : Oper} {a : Act} {Q : Exit → Act → World → Prop} {K : Act → World → Prop}
    (s x : Operand) (t : TypeId) (hop : o.op = Op.call { callee := Callee.builtin Builtin.append, args := #[s, x], argTypes := #[t, t] })
    (base : Nat) (e : TypeId) (i : TypeInfo) (z : Value) (size bytes : Nat) (h1 : P.underlying t = some (.slice e)) (h2 : P.info? e = some i) (h3 : i.zero = some z) (h4 : i.size = size) (h5 : i.bytes = bytes) (h6 : z.cells.size = size) (h7 : 0 < size)
    (v : Value) (k : Nat) (xs : List Value) (hs : opnd a s = some v) (hown : w.ownsRow base e size v k xs) (ad : Addr) (m c : Nat) (news : List Value) (hx : opnd a x = some (.slice (some ad) m c)) (hn : news.length = m * size)
    (hc : ∀ j u, news[j]? = some u → w.cell? (ad.add j) = some u) (h1c : ∀ u ∈ news, u.oneCell' = true) (b1 : k + m ≤ maxLen) (b2 : (k + m) * bytes ≤ 140737488355328) (b3 : base ≤ w.heap.size)
    (hK : ∀ v' w', w'.ownsRow base e size v' (k + m) (xs ++ news) → w.grownBy w' v.ownBlock → K (a.put o.dst v') w') : o.wpIn F n P a w K Q := by
  obtain ⟨v', w', hrun, r1, r2, r3⟩ := run_append_own (P := P) w base t o.type e i z size bytes h1 h2 h3 h4 h5 h6 h7 v k xs hown ad m c news hn hc h1c b1 b2 b3
  have hs' := opnd_eval hs
  have hx' := opnd_eval hx
  unfold Oper.wpIn
  refine ⟨?_, ?_⟩
  · simp [Oper.about, hop, resolve, Target.leads, Sem.run_pure]
  · rw [Oper.semAt_plain F _ _ (by rw [hop]; intro c hc'; cases hc')]
    simp [execOp, hop, resolve, invoke, builtin, hs', hx', hrun, Result.andThen]
    exact hK v' w' r1 r2
theorem below_drew1 (w : World) : Below w.heap.size w w.drew := ⟨rfl, rfl, rfl, Nat.le_refl _, fun _ _ => rfl⟩
theorem row_ge {w : World} {base : Nat} {ty : TypeId} {sz : Nat} {v : Value} {n : Nat} {xs : List Value} (h : w.ownsRow base ty sz v n xs) : ∀ i, v.ownBlock = some i → base ≤ i := fun i hi => by
  rcases h.2 with ⟨h1, -⟩ | ⟨g, cap, cur, rfl, h1, h2, h3⟩
  · subst h1
    cases hi
  · cases hi
    exact h1
set_option maxRecDepth 100000 in
set_option maxHeartbeats 2000000 in
theorem even_fresh (Q C : Nat) (hQ : 1 ≤ Q ∧ Q ≤ 64) (hC : 1 ≤ C ∧ C ≤ 16 ∧ C ≤ Q) (w : World) : Calls Try.prog 29 #[.int .i64 (Q : Int), .int .i64 (C : Int)] w fun e w' =>
    ∃ A1 A2 c1 c2, e = .returned (.tuple #[.agg (tbC A1 A2 c1 c2 (evenT Q C)), .int .i64 0]) ∧ TbAt w'.heap.size w' A1 A2 c1 c2 (evenT Q C) ∧ Below w.heap.size w w' ∧ (∀ i o m, A1 = some ⟨i, o, m⟩ → w.heap.size ≤ i) ∧ (∀ i o m, A2 = some ⟨i, o, m⟩ → w.heap.size ≤ i) := by
  have H := Mem.start w
  have t0 : decide ((Q : Int) < 1) = false := decide_eq_false (by omega)
  have t1 : decide (64 < (Q : Int)) = false := decide_eq_false (by omega)
  have t2 : decide ((C : Int) < 1) = false := decide_eq_false (by omega)
  have t3 : decide (16 < (C : Int)) = false := decide_eq_false (by omega)
  have t4 : decide ((Q : Int) < (C : Int)) = false := decide_eq_false (by omega)
  obtain ⟨i0, hi, hz0, hz1, hz2⟩ := infoSp_parts
  obtain ⟨i1, gi, gz0, gz1, gz2⟩ := infoInt_parts
  go_enter Try.func29, Try.ntmps29
  go_upto_region 1 with (first
    | ((with_reducible show wpList _ _ _ _ _ (World.alloc _ (.cells _ _))); refine mem_newb H ?_; intro br w3 hbk H2; try rw [← hbk]; clear hbk H; have H := H2; clear H2; simp only [List.cons_append, List.nil_append, List.set_cons_zero, List.set_cons_succ, List.setIfInBounds_toArray] at H))
  go_upto_region 4 with (first
    | ((with_reducible show wpList _ _ _ _ _ (World.alloc _ (.cells _ _))); refine mem_newb (l := [_]) H ?_; intro bt w3 hbk H2; try rw [← hbk]; clear hbk H; have H := H2; clear H2; simp only [List.cons_append, List.nil_append, List.set_cons_zero, List.set_cons_succ, List.setIfInBounds_toArray] at H)
    | ((with_reducible show wpList _ _ _ (⟨_, .store 32 _ _, _, _, _, _⟩ :: _) _ _); refine mem_store (i := 1) H (by first | exact wanted_none rfl | exact wanted_some rfl rfl rfl rfl) (by exact rfl) (by exact rfl) (by exact rfl) (by exact rfl) (by exact tbInfo) (by exact rfl) (by exact rfl) ?_; intro w2 H2; clear H; have H := H2; clear H2; simp only [List.cons_append, List.nil_append, List.set_cons_zero, List.set_cons_succ, List.setIfInBounds_toArray] at H))
  clear t0 t1 t2 t3 t4
  go_wp2_with fail
  have hr0 := (H.at 0 rfl).lt
  have hr1 := (H.at 1 rfl).lt
  have hsz := H.below.size
  obtain ⟨B, hBq⟩ : ∃ B, w2.heap.size = B := ⟨_, rfl⟩
  have R : w2.ownsRow B 59 2 (.slice none 0 0) 0 (spCs (evenS Q C 0)) := World.ownsRow_nil w2 B 59 2
  have hB2 : B ≤ w2.heap.size := by omega
  have hbB : br < B ∧ bt < B ∧ w.heap.size ≤ B := by omega
  have hinB : ∀ (a c d : Array Value) (p : Nat × TypeId × Array Value), p ∈ [(br, 32, a), (bt, 32, c)] → p.1 < B := fun a c d p hp => by
    simp only [List.mem_cons, List.not_mem_nil, or_false] at hp
    rcases hp with rfl | rfl
    · exact hbB.1
    · exact hbB.2.1
  have HI := Lib.hid hinB
  clear hBq hr0 hr1 hsz hinB
  obtain ⟨D, hD⟩ : ∃ D, Q / C = D := ⟨_, rfl⟩
  obtain ⟨M, hM⟩ : ∃ M, Q % C = M := ⟨_, rfl⟩
  have d1 : (Q : Int).tdiv (C : Int) = D := by rw [Int.tdiv_eq_ediv_of_nonneg (by omega), ← hD, Int.natCast_ediv]
  have d2 : (Q : Int).tmod (C : Int) = M := by rw [Int.tmod_eq_emod_of_nonneg (by omega), ← hM, Int.natCast_emod]
  have hD64 : D ≤ 64 := by rw [← hD]; exact Nat.le_trans (Nat.div_le_self _ _) hQ.2
  have HC := Lib.hid (show ∀ k, cntN Q C k = D + (if k < M then 1 else 0) from fun k => by rw [cntN, hD, hM])
  clear hD hM
  go_loopw [7, 8] (fun off i wr => ∃ k : Nat, k ≤ C ∧ i = .int .i64 k ∧ off = .int .i64 (offN Q C k : Int) ∧ ∃ A c, wr.ownsRow B 59 2 (.slice A k c) k (spCs (evenS Q C k)) ∧ B ≤ wr.heap.size ∧ Mem w wr [(br, 32, noT), (bt, 32, #[.int .i64 (Q : Int), .slice none 0 0, .slice A k c])]) (fun _ i _ => C - (intOf i).toNat)
  case atStart => exact ⟨0, Nat.zero_le _, rfl, by rw [offN_zero]; rfl, none, 0, R, hB2, H⟩
  case round =>
    clear H R hB2
    obtain ⟨k, hk, rfl, rfl, A, c, R, hB2, H⟩ := hrel
    by_cases hlt : k < C
    · have ho := offN_le (Q := Q) hC.1 hlt
      obtain ⟨O, hO⟩ : ∃ O, offN Q C k = O := ⟨_, rfl⟩
      have hcn := HC.out k
      by_cases hkM : k < M
      · have t1 : decide ((k : Int) < (M : Int)) = true := decide_eq_true (by omega)
        rw [if_pos hkM] at hcn
        have HS := Lib.hid (And.intro (evenS_succ Q C k) (And.intro (offN_succ Q C k) (And.intro hcn hO)))
        rw [hcn, hO] at ho
        simp only [hO]
        clear hcn hO
        go_wp2_with (first
          | ((with_reducible show wpList _ _ _ (⟨_, .load _ _, _, _, _, _⟩ :: _) _ _); refine mem_loadf (i := 1) H (by first | exact wanted_none rfl | exact wanted_some rfl rfl rfl rfl) (by exact rfl) (by exact rfl) (by exact rfl) (by first | exact Try.underlying3 | exact Try.underlying29 | exact Try.underlying30) rfl (by exact rfl) ?_)
          | (at_builtin; refine wpList_append_own _ rfl _ _ 30 rfl B 59 i0 _ 2 16 Try.underlying30 hi hz0 hz1 hz2 rfl (by decide) _ _ _ rfl (R.alloc _) ⟨wr.heap.size, 0, none⟩ 1 1 [.int .i64 (O : Int), .int .i64 ((D : Int) + 1)] rfl rfl (fun j u hu => by rw [addr_add0]; exact ((Held.new wr 59 #[.int .i64 (O : Int), .int .i64 ((D : Int) + 1)]).cell j).trans (by simpa using hu)) (by simp [Value.oneCell']) (by simp [maxLen]; omega) (by omega) (by simp; omega) ?_; intro v' w1 hown' hgrow _; have hrl := row_lt R; have H4 := (H.skip _).grown hgrow (fun r hr => (hrl r hr).1) (HI.out _ _ #[]) hbB.2.2; obtain ⟨A', c', rfl⟩ := ownsRow_len hown'; have hB4 : B ≤ w1.heap.size := (by have := hgrow.size; simp at this; omega); clear H hrl; have H := H4; clear H4)
          | ((with_reducible show wpList _ _ _ (⟨_, .store _ _ _, _, _, _, _⟩ :: _) _ _); refine mem_storefF (i := 1) H (by first | exact wanted_none rfl | exact wanted_some rfl rfl rfl rfl) (by exact rfl) (by exact rfl) (by exact rfl) (by exact rfl) (by first | exact clInfo | exact ssInfo) (by exact rfl) (by exact rfl) ?_; intro w7 H7 F7; have R7 := ownsRow_foot hown' F7 (fun j hj e => by have := hbB.2.1; omega); have hB7 : B ≤ w7.heap.size := (by have := F7.size; omega); clear H; have H := H7; clear H7; simp only [List.cons_append, List.nil_append, List.set_cons_zero, List.set_cons_succ, List.setIfInBounds_toArray] at H))
        go_roundw
        case rel =>
          obtain ⟨s1, s2, s3, s4⟩ := HS.out
          refine ⟨k + 1, by omega, by go_num, by rw [s2, s3, s4]; go_num, _, _, ?_, hB7, H⟩
          rw [s1, s3, s4, spCs_append]
          exact R7
        case measure => simp [intOf]; omega
      · have t1 : decide ((k : Int) < (M : Int)) = false := decide_eq_false (by omega)
        rw [if_neg hkM] at hcn
        have HS := Lib.hid (And.intro (evenS_succ Q C k) (And.intro (offN_succ Q C k) (And.intro hcn hO)))
        rw [hcn, hO] at ho
        simp only [hO]
        clear hcn hO
        go_wp2_with (first
          | ((with_reducible show wpList _ _ _ (⟨_, .load _ _, _, _, _, _⟩ :: _) _ _); refine mem_loadf (i := 1) H (by first | exact wanted_none rfl | exact wanted_some rfl rfl rfl rfl) (by exact rfl) (by exact rfl) (by exact rfl) (by first | exact Try.underlying3 | exact Try.underlying29 | exact Try.underlying30) rfl (by exact rfl) ?_)
          | (at_builtin; refine wpList_append_own _ rfl _ _ 30 rfl B 59 i0 _ 2 16 Try.underlying30 hi hz0 hz1 hz2 rfl (by decide) _ _ _ rfl (R.alloc _) ⟨wr.heap.size, 0, none⟩ 1 1 [.int .i64 (O : Int), .int .i64 ((D : Int))] rfl rfl (fun j u hu => by rw [addr_add0]; exact ((Held.new wr 59 #[.int .i64 (O : Int), .int .i64 ((D : Int))]).cell j).trans (by simpa using hu)) (by simp [Value.oneCell']) (by simp [maxLen]; omega) (by omega) (by simp; omega) ?_; intro v' w1 hown' hgrow _; have hrl := row_lt R; have H4 := (H.skip _).grown hgrow (fun r hr => (hrl r hr).1) (HI.out _ _ #[]) hbB.2.2; obtain ⟨A', c', rfl⟩ := ownsRow_len hown'; have hB4 : B ≤ w1.heap.size := (by have := hgrow.size; simp at this; omega); clear H hrl; have H := H4; clear H4)
          | ((with_reducible show wpList _ _ _ (⟨_, .store _ _ _, _, _, _, _⟩ :: _) _ _); refine mem_storefF (i := 1) H (by first | exact wanted_none rfl | exact wanted_some rfl rfl rfl rfl) (by exact rfl) (by exact rfl) (by exact rfl) (by exact rfl) (by first | exact clInfo | exact ssInfo) (by exact rfl) (by exact rfl) ?_; intro w7 H7 F7; have R7 := ownsRow_foot hown' F7 (fun j hj e => by have := hbB.2.1; omega); have hB7 : B ≤ w7.heap.size := (by have := F7.size; omega); clear H; have H := H7; clear H7; simp only [List.cons_append, List.nil_append, List.set_cons_zero, List.set_cons_succ, List.setIfInBounds_toArray] at H))
        go_roundw
        case rel =>
          obtain ⟨s1, s2, s3, s4⟩ := HS.out
          refine ⟨k + 1, by omega, by go_num, by rw [s2, s3, s4]; go_num, _, _, ?_, hB7, H⟩
          rw [s1, s3, s4, spCs_append]
          exact R7
        case measure => simp [intOf]; omega
    · obtain rfl : k = C := by omega
      go_wp2
      obtain ⟨B2, hBq⟩ : ∃ B, wr.heap.size = B := ⟨_, rfl⟩
      have hrl := row_lt R
      have hrl2 : ∀ r, (Value.slice A k c).ownBlock = some r → r < B2 := fun r hr => by have := (hrl r hr).2; omega
      have R1 : wr.ownsRow B2 3 1 (.slice none 0 0) 0 (ints (evenC k 0)) := World.ownsRow_nil wr B2 3 1
      have hB3 : B2 ≤ wr.heap.size := by omega
      have hb2 : B ≤ B2 := by omega
      have HR := Lib.hid hrl2
      clear hBq hrl hrl2 hB2
      go_loopw [10] (fun i wr => ∃ j : Nat, j ≤ 16 ∧ i = .int .i64 j ∧ ∃ A1 c1, wr.ownsRow B2 3 1 (.slice A1 j c1) j (ints (evenC k j)) ∧ wr.ownsRow B 59 2 (.slice A k c) k (spCs (evenS Q k k)) ∧ B2 ≤ wr.heap.size ∧ Mem w wr [(br, 32, noT), (bt, 32, #[.int .i64 (Q : Int), .slice A1 j c1, .slice A k c])]) (fun i _ => 16 - (intOf i).toNat)
      case atStart => exact ⟨0, Nat.zero_le _, rfl, none, 0, R1, R, hB3, H⟩
      case round =>
        clear H R R1 hB3
        obtain ⟨j, hj, rfl, A1, c1, R1, R, hB3, H⟩ := hrel
        by_cases hlt : j < 16
        · have d3 : (j : Int).tmod (k : Int) = ((j % k : Nat) : Int) := by rw [Int.tmod_eq_emod_of_nonneg (by omega), Int.natCast_emod]
          have HE := Lib.hid (evenC_succ k j)
          have hx : ((j % k : Nat) : Int) = (j % k : Nat) := rfl
          obtain ⟨X, hX⟩ : ∃ X, j % k = X := ⟨_, rfl⟩
          rw [hX] at d3
          have HX := Lib.hid hX
          clear hx hX d1 d2
          have hk0 : ¬ ((k : Int) = 0) := by omega
          go_wp2
          refine (wpIn_wide (n := 6)).1 (wpIn_region_G (fun wx => Mem w wx [(br, 32, noT), (bt, 32, #[.int .i64 (Q : Int), .slice A1 j c1, .slice A k c])]) 8 9 rfl (by kernel_rfl) fun hcl => ?_)
          have hS := H.drew
          clear H
          refine wpAnyG_pure (i := 0) (v := .pointer (some ⟨bt, 1, none⟩)) rfl rfl (by kernel_rfl) (by kernel_rfl) (by kernel_rfl) (fun _ _ _ h => h) (by decide) ⟨by rfl, fun w _ => (by go_simp; try (first | (simp only [IntKind.wrap_u32]; done) | rfl)), fun _ => rfl⟩ (.inr hS) ?_
          have hc1 := hcl.step (i := 0) (by kernel_rfl)
          clear hcl; have hcl := hc1; clear hc1; simp only [List.getElem_toArray, List.getElem_cons_zero, List.getElem_cons_succ, Act.put, List.setIfInBounds_toArray, List.set_cons_zero, List.set_cons_succ]
          refine wpAnyG_take (i := 1) 1 (v := .slice A1 j c1) rfl rfl (by kernel_rfl) (by kernel_rfl) (by kernel_rfl) (fun _ _ _ h => h) (by kernel_rfl) (by decide) hcl (yields_fld (fun w h => h.at 1 rfl) (by exact rfl) (by exact rfl) (by exact rfl) (by first | exact Try.underlying3 | exact Try.underlying29 | exact Try.underlying30) rfl (by exact rfl)) hS (fun hc1 => ?_)
          clear hcl; have hcl := hc1; clear hc1; simp only [List.getElem_toArray, List.getElem_cons_zero, List.getElem_cons_succ, Act.put, List.setIfInBounds_toArray, List.set_cons_zero, List.set_cons_succ]
          refine wpAnyG_pure (i := 2) (v := .int .i64 (j : Int)) rfl rfl (by kernel_rfl) (by kernel_rfl) (by kernel_rfl) (fun _ _ _ h => h) (by decide) ⟨by rfl, fun w _ => (by go_simp; try (first | (simp only [IntKind.wrap_u32]; done) | rfl)), fun _ => rfl⟩ (.inr hS) ?_
          have hc1 := hcl.step (i := 2) (by kernel_rfl)
          clear hcl; have hcl := hc1; clear hc1; simp only [List.getElem_toArray, List.getElem_cons_zero, List.getElem_cons_succ, Act.put, List.setIfInBounds_toArray, List.set_cons_zero, List.set_cons_succ]
          refine wpAnyG_pure (i := 3) (v := .int .i64 (k : Int)) rfl rfl (by kernel_rfl) (by kernel_rfl) (by kernel_rfl) (fun _ _ _ h => h) (by decide) ⟨by rfl, fun w _ => (by go_simp; try (first | (simp only [IntKind.wrap_u32]; done) | rfl)), fun _ => rfl⟩ (.inr hS) ?_
          have hc1 := hcl.step (i := 3) (by kernel_rfl)
          clear hcl; have hcl := hc1; clear hc1; simp only [List.getElem_toArray, List.getElem_cons_zero, List.getElem_cons_succ, Act.put, List.setIfInBounds_toArray, List.set_cons_zero, List.set_cons_succ]
          refine wpAnyG_pure (i := 4) (v := .int .i64 (X : Int)) rfl rfl (by kernel_rfl) (by kernel_rfl) (by kernel_rfl) (fun _ _ _ h => h) (by decide) ⟨by rfl, fun w _ => (by go_simp; try (first | (simp only [IntKind.wrap_u32]; done) | rfl | omega)), fun _ => rfl⟩ (.inr hS) ?_
          have hc1 := hcl.step (i := 4) (by kernel_rfl)
          clear hcl; have hcl := hc1; clear hc1; simp only [List.getElem_toArray, List.getElem_cons_zero, List.getElem_cons_succ, Act.put, List.setIfInBounds_toArray, List.set_cons_zero, List.set_cons_succ]
          refine wpAnyG_one (i := 5) (by kernel_rfl) rfl (fun K hK => ?_)
          go_simp
          refine hK _ _ (.inr (hS.skip _)) ?_
          clear hK K
          have hc1 := hcl.step (i := 5) (by kernel_rfl)
          clear hcl
          have hcl := hc1
          clear hc1
          have hrow := (row_call R1 (below_drew1 wr)).alloc (.cells #[.int .i64 (X : Int)] 3)
          have hrl := row_lt hrow
          refine wpAnyG_one (i := 6) (by kernel_rfl) rfl (fun K hK => ?_)
          rw [if_pos (by exact rfl)]
          refine wpIn_append_own (.tmp 64) (.tmp 68) 29 rfl B2 3 i1 (.int .i64 0) 1 8 Try.underlying29 gi gz0 gz1 gz2 rfl (by decide) (.slice A1 j c1) j (ints (evenC k j)) (by exact rfl) hrow ⟨wr.drew.heap.size, 0, none⟩ 1 1 [.int .i64 (X : Int)] (by exact rfl) rfl (cell_one_new _ _ _) (by simp [Value.oneCell']) (by simp [maxLen]; omega) (by omega) (by simp; omega) ?_
          intro v' w1 hown' hgrow
          have H4 : Mem w w1 _ := (hS.skip _).grown hgrow (fun r hr => (hrl r hr).1) (fun p hp => Nat.lt_of_lt_of_le (HI.out _ _ #[] p hp) hb2) (by omega)
          have hB4 : B2 ≤ w1.heap.size := by have := hgrow.size; simp at this; omega
          obtain ⟨A', c', rfl⟩ := ownsRow_len hown'
          have R4 : w1.ownsRow B 59 2 (.slice A k c) k (spCs (evenS Q k k)) := ((row_call R (below_drew1 wr)).alloc _).kept hgrow (by
            rcases hv : (Value.slice A k c).ownBlock with _ | r
            · exact .inl rfl
            · exact .inr (fun e => by
                have h1 := HR.out r hv
                have h2 := (hrl r e.symm).1
                omega))
          refine hK _ _ (.inr H4) ?_
          clear hK K
          have hc1 := hcl.step (i := 6) (by kernel_rfl)
          clear hcl
          have hcl := hc1
          clear hc1
          simp only [List.getElem_toArray, List.getElem_cons_zero, List.getElem_cons_succ, Act.put, List.setIfInBounds_toArray, List.set_cons_zero, List.set_cons_succ]
          refine wpAnyG_one (i := 7) (by kernel_rfl) rfl (fun K hK => ?_)
          go_simp
          refine hK _ _ (.inr H4) ?_
          clear hK K
          have hc1 := hcl.step (i := 7) (by kernel_rfl)
          clear hcl
          have hcl := hc1
          clear hc1
          refine wpAnyG_one (i := 8) (by kernel_rfl) rfl (fun K hK => ?_)
          rw [if_pos (by exact rfl)]
          refine wpIn_storef_mem (i := 1) H4 (by exact rfl) (by exact rfl) (by exact rfl) (by exact rfl) clInfo (by exact rfl) (by exact rfl) ?_
          intro w7 H7 F7
          refine hK _ _ (.inl (by kernel_rfl)) ?_
          clear hK K
          refine wpAnyG_done (by kernel_rfl) ?_ _
          have R7 := ownsRow_foot hown' F7 (fun i hi e => by have := hbB.2.1; omega)
          have R8 := ownsRow_foot R4 F7 (fun i hi e => by have := hbB.2.1; omega)
          have hB7 : B2 ≤ w7.heap.size := by have := F7.size; omega
          clear hS H4 hcl hown' hgrow R R1 R4 hrow hrl
          have H := H7
          clear H7 F7
          simp only [List.cons_append, List.nil_append, List.set_cons_zero, List.set_cons_succ, List.setIfInBounds_toArray] at H
          go_wp2
          go_roundw
          case rel =>
            refine ⟨j + 1, by omega, by go_num, _, _, ?_, R8, hB7, H⟩
            rw [HE.out, HX.out]
            simpa [ints] using R7
          case measure => simp [intOf]; omega
        · obtain rfl : j = 16 := by omega
          go_wp2_with (first
            | ((with_reducible show wpList _ _ _ (⟨_, .load 32 _, _, _, _, _⟩ :: _) _ _); refine mem_load (i := 1) H (by first | exact wanted_none rfl | exact wanted_some rfl rfl rfl rfl) (by exact rfl) (by exact rfl) (by exact rfl) Try.underlying32 rfl (by exact tbInfo) ?_)
            | ((with_reducible show wpList _ _ _ (⟨_, .store 32 _ _, _, _, _, _⟩ :: _) _ _); refine mem_storeF (i := 0) H (by first | exact wanted_none rfl | exact wanted_some rfl rfl rfl rfl) (by exact rfl) (by exact rfl) (by exact rfl) (by exact rfl) (by exact tbInfo) (by exact rfl) (by exact rfl) ?_; intro w7 H7 F7; clear H; have H := H7; clear H7; simp only [List.cons_append, List.nil_append, List.set_cons_zero, List.set_cons_succ, List.setIfInBounds_toArray] at H))
          refine ret_held2 (H.at 0 rfl) rfl rfl Try.underlying32 rfl tbInfo ?_
          have S1 := ownsRow_foot R1 F7 (fun i hi e => by have := hbB.1; omega)
          have S2 := ownsRow_foot R F7 (fun i hi e => by have := hbB.1; omega)
          obtain ⟨r1, r2, r3⟩ := rowI_own S1
          obtain ⟨q1, q2, q3⟩ := rowS_own S2
          refine ⟨A1, A, c1, c, by simp [tbC, evenT, evenC_len, evenS_len], ⟨r1, q1, by simpa [evenT, evenC_len] using r2, by simpa [evenT, evenS_len] using q2, r3, q3, ⟨by simp only [evenT]; omega, by simp only [evenT]; omega⟩, fun x hx => ?_, fun s hs => ?_⟩, H.below, (fun i o m e => Nat.le_trans hbB.2.2 (Nat.le_trans hb2 (row_ge S1 i (by rw [e]; rfl)))), (fun i o m e => Nat.le_trans hbB.2.2 (row_ge S2 i (by rw [e]; rfl)))⟩
          · simp only [evenT, evenC, List.mem_map, List.mem_range] at hx
            obtain ⟨i, hi', rfl⟩ := hx
            have := Nat.mod_lt i (show 0 < k by omega)
            constructor <;> omega
          · simp only [evenT, evenS, List.mem_map, List.mem_range] at hs
            obtain ⟨i, hi', rfl⟩ := hs
            have := offN_le (Q := Q) (C := k) hC.1 hi'
            refine ⟨⟨?_, ?_⟩, ?_, ?_⟩ <;> simp only <;> omega
theorem even_yes (Q C : Nat) (hQ : 1 ≤ Q ∧ Q ≤ 64) (hC : 1 ≤ C ∧ C ≤ 16 ∧ C ≤ Q) (w : World) : Calls Try.prog 29 #[.int .i64 (Q : Int), .int .i64 (C : Int)] w fun e w' =>
    ∃ A1 A2 c1 c2, e = .returned (.tuple #[.agg (tbC A1 A2 c1 c2 (evenT Q C)), .int .i64 0]) ∧ TbAt w'.heap.size w' A1 A2 c1 c2 (evenT Q C) ∧ Below w.heap.size w w' :=
  (even_fresh Q C hQ hC w).mono fun e w' ⟨A1, A2, c1, c2, h1, h2, h3, _⟩ => ⟨A1, A2, c1, c2, h1, h2, h3⟩
end Go.Proofs.Ytaoaapbbadipfaa
end
/- Even tables may be, and leave no queue idle; owners of queues. Mathematics alone. -/
section
namespace Go.Proofs.Ytaoaapbbadipfaa
set_option linter.unusedSimpArgs false
set_option linter.unusedVariables false
set_option maxRecDepth 100000

/-- no queue in two spans -/
theorem onceB_of {l : List (Int × Int)} {q : Int} (h : ∀ (i j : Nat) (s s' : Int × Int), i < j → l[i]? = some s → l[j]? = some s' → inB q s = true → inB q s' = true → False) : onceB l q = true := by
  rcases ownAt_spec l q 0 with ⟨i, s, _, hi, hs, he, _⟩ | ⟨he, _⟩
  · rcases ownAt_spec l q (i + 1) with ⟨j, s', hj, hj', hs', _, _⟩ | ⟨he', _⟩
    · exact (h i j s s' (by omega) hi hj' hs hs').elim
    · rw [onceB, he, Int.toNat_natCast, he']
      rfl
  · rw [onceB, he]
    rfl
/-- a queue of two spans is found -/
theorem onceB_two {l : List (Int × Int)} {q : Int} (h : onceB l q = true) {i j : Nat} {s s' : Int × Int} (hij : i < j) (hi : l[i]? = some s) (hj : l[j]? = some s') (hs : inB q s = true) (hs' : inB q s' = true) : False := by
  rcases ownAt_spec l q 0 with ⟨a, t, _, ha, ht, he, hn⟩ | ⟨he, hn⟩
  · have hai : a ≤ i := by
      by_cases e : a ≤ i
      · exact e
      · have := hn i s (Nat.zero_le _) (by omega) hi
        rw [hs] at this
        cases this
    rcases ownAt_spec l q (a + 1) with ⟨c, u, _, _, _, he', _⟩ | ⟨he', hn'⟩
    · rw [onceB, he, Int.toNat_natCast, he'] at h
      simp at h
    · have := hn' j s' (by omega) hj
      rw [hs'] at this
      cases this
  · have := hn i s (Nat.zero_le _) hi
    rw [hs] at this
    cases this
/-- the owner of a queue that is in a span -/
theorem own_of_in {l : List (Int × Int)} {q : Int} (h : onceB l q = true) {i : Nat} {s : Int × Int} (hi : l[i]? = some s) (hs : inB q s = true) : ownAt l q 0 = i := by
  rcases ownAt_spec l q 0 with ⟨a, t, _, ha, ht, he, hn⟩ | ⟨he, hn⟩
  · rw [he]
    have : a = i := by
      rcases Nat.lt_trichotomy a i with e | e | e
      · exact (onceB_two h e ha hi ht hs).elim
      · exact e
      · exact (onceB_two h e hi ha hs ht).elim
    rw [this]
  · have := hn i s (Nat.zero_le _) hi
    rw [hs] at this
    cases this
theorem evenS_get {Q C n k : Nat} (h : k < n) : (evenS Q C n)[k]? = some ((offN Q C k : Int), (cntN Q C k : Int)) := by simp [evenS, h]
theorem evenS_lt {Q C n k : Nat} {s : Int × Int} (h : (evenS Q C n)[k]? = some s) : k < n ∧ s = ((offN Q C k : Int), (cntN Q C k : Int)) := by
  have hk : k < n := by
    have := (List.getElem?_eq_some_iff.1 h).1
    rwa [evenS_len] at this
  rw [evenS_get hk] at h
  exact ⟨hk, (Option.some.inj h).symm⟩
theorem offN_mono (Q C : Nat) {i j : Nat} (h : i ≤ j) : offN Q C i ≤ offN Q C j := by
  unfold offN
  have := Nat.mul_le_mul_right (Q / C) h
  omega
theorem inB_even {Q C k : Nat} {q : Int} : inB q ((offN Q C k : Int), (cntN Q C k : Int)) = true ↔ (offN Q C k : Int) ≤ q ∧ q < (offN Q C (k + 1) : Int) := by
  rw [offN_succ]
  simp only [inB, Bool.and_eq_true, decide_eq_true_eq]
  omega
theorem offN_le' {Q C k : Nat} (h : 1 ≤ C) (hk : k < C) : offN Q C k + cntN Q C k ≤ Q := by
  have e := offN_all (Q := Q) h
  rw [← offN_succ]
  have := offN_mono Q C (show k + 1 ≤ C by omega)
  omega
theorem evenT_ok {Q C : Nat} (hQ : 1 ≤ Q ∧ Q ≤ 64) (hC : 1 ≤ C ∧ C ≤ 16 ∧ C ≤ Q) : (evenT Q C).Ok := by
  refine ⟨⟨?_, ?_⟩, ⟨?_, ?_⟩, ?_, fun s hs => ?_, fun k _ => ?_, fun x hx => ?_⟩
  · simp only [evenT]; omega
  · simp only [evenT]; omega
  · simp only [evenT, evenS_len]; omega
  · simp only [evenT, evenS_len]; omega
  · simp only [evenT, evenC_len]
  · obtain ⟨i, hi⟩ := List.mem_iff_getElem?.1 hs
    obtain ⟨hk, rfl⟩ := evenS_lt hi
    have h1 := offN_le' (Q := Q) hC.1 hk
    have h2 : 1 ≤ cntN Q C i := by
      have : 1 ≤ Q / C := (Nat.le_div_iff_mul_le (by omega)).2 (by omega)
      unfold cntN
      omega
    simp only [evenT]
    omega
  · refine onceB_of fun i j s s' hij hi hj h1 h2 => ?_
    obtain ⟨_, rfl⟩ := evenS_lt hi
    obtain ⟨_, rfl⟩ := evenS_lt hj
    rw [inB_even] at h1 h2
    have := offN_mono Q C (show i + 1 ≤ j by omega)
    omega
  · simp only [evenT, evenC, List.mem_map, List.mem_range] at hx
    obtain ⟨i, hi', rfl⟩ := hx
    have := Nat.mod_lt i (show 0 < C by omega)
    simp only [evenT, evenS_len]
    omega
theorem evenT_right {Q C : Nat} (hQ : 1 ≤ Q ∧ Q ≤ 64) (hC : 1 ≤ C ∧ C ≤ 16 ∧ C ≤ Q) : (evenT Q C).right = true := (TB.right_iff _).2 (evenT_ok hQ hC)
/-- every queue is in a span -/
theorem even_in (Q C : Nat) {q n : Nat} (h : q < offN Q C n) : ∃ k, k < n ∧ offN Q C k ≤ q ∧ q < offN Q C (k + 1) := by
  induction n with
  | zero => rw [offN_zero] at h; omega
  | succ n ih =>
    by_cases e : q < offN Q C n
    · obtain ⟨k, hk, h1⟩ := ih e
      exact ⟨k, by omega, h1⟩
    · exact ⟨n, by omega, by omega, h⟩
theorem even_idle {Q C : Nat} (hQ : 1 ≤ Q ∧ Q ≤ 64) (hC : 1 ≤ C ∧ C ≤ 16 ∧ C ≤ Q) : (evenT Q C).idle = [] := by
  have hk := evenT_ok hQ hC
  rw [TB.idle, if_pos (evenT_right hQ hC)]
  unfold idleTo
  rw [List.map_eq_nil_iff, List.filter_eq_nil_iff]
  intro q hq
  have hq' : q < Q := by
    have := List.mem_range.1 hq
    simp only [evenT] at this
    omega
  obtain ⟨k, h1, h2, h3⟩ := even_in Q C (q := q) (n := C) (by rw [offN_all hC.1]; exact hq')
  have ho := hk.o q (by simp only [evenT]; omega)
  have := own_of_in ho (i := k) (s := ((offN Q C k : Int), (cntN Q C k : Int))) (evenS_get h1) (inB_even.2 ⟨by omega, by omega⟩)
  rw [this]
  simp
end Go.Proofs.Ytaoaapbbadipfaa
end
