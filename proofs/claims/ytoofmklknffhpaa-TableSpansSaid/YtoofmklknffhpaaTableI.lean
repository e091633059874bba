/-
  Even tables; the document's Even where its numbers may not be. Conditions: those that each theorem names.
-/
import Derived.Test.YtoofmklknffhpaaTableH
namespace Go.Proofs.Ytoofmklknffhpaa
set_option linter.unusedSimpArgs false
set_option linter.unusedVariables false
open Go.ChangeShapes Go.WideShapes Go.ChangeAt Go.RowKit

/-- how long the k-th span of an even table is, where it begins -/
def cntN (Q C k : Nat) : Nat := Q / C + (if k < Q % C then 1 else 0)
def offN (Q C k : Nat) : Nat := k * (Q / C) + min k (Q % C)
theorem offN_succ (Q C k : Nat) : offN Q C (k + 1) = offN Q C k + cntN Q C k := by
  unfold offN cntN
  rw [Nat.succ_mul]
  split <;> omega
theorem offN_zero (Q C : Nat) : offN Q C 0 = 0 := by simp [offN]
theorem offN_all {Q C : Nat} (h : 1 ≤ C) : offN Q C C = Q := by
  unfold offN
  have h1 := Nat.div_add_mod Q C
  have h2 := Nat.mod_lt Q (show 0 < C by omega)
  rw [Nat.min_eq_right (by omega)]
  exact h1
def evenS (Q C k : Nat) : List (Int × Int) := (List.range k).map fun i => ((offN Q C i : Int), (cntN Q C i : Int))
theorem evenS_succ (Q C k : Nat) : evenS Q C (k + 1) = evenS Q C k ++ [((offN Q C k : Int), (cntN Q C k : Int))] := by simp [evenS, List.range_succ]
theorem evenS_len (Q C k : Nat) : (evenS Q C k).length = k := by simp [evenS]
def evenC (C k : Nat) : List Int := (List.range k).map fun i => ((i % C : Nat) : Int)
theorem evenC_succ (C k : Nat) : evenC C (k + 1) = evenC C k ++ [((k % C : Nat) : Int)] := by simp [evenC, List.range_succ]
theorem evenC_len (C k : Nat) : (evenC C k).length = k := by simp [evenC]
/-- the even table -/
def evenT (Q C : Nat) : TB := ⟨Q, evenC C 16, evenS Q C C⟩
/-- the cells of spans -/
def spCs (l : List (Int × Int)) : List Value := l.flatMap fun s => [Value.int .i64 s.1, .int .i64 s.2]
theorem spCs_length (l : List (Int × Int)) : (spCs l).length = l.length * 2 := by
  induction l with
  | nil => rfl
  | cons a l ih => simp [spCs] at ih ⊢; omega
theorem spCs_append (a b : List (Int × Int)) : spCs (a ++ b) = spCs a ++ spCs b := by simp [spCs]
theorem spCs_get {l : List (Int × Int)} {k : Nat} {s : Int × Int} (h : l[k]? = some s) : (spCs l)[k * 2]? = some (.int .i64 s.1) ∧ (spCs l)[k * 2 + 1]? = some (.int .i64 s.2) := by
  induction l generalizing k with
  | nil => cases h
  | cons a l ih =>
    cases k with
    | zero =>
      simp at h
      subst h
      exact ⟨rfl, rfl⟩
    | succ k =>
      obtain ⟨h1, h2⟩ := ih (k := k) (by simpa using h)
      have e : spCs (a :: l) = Value.int .i64 a.1 :: Value.int .i64 a.2 :: spCs l := rfl
      rw [e, show (k + 1) * 2 = k * 2 + 1 + 1 by omega]
      exact ⟨by simpa using h1, by simpa using h2⟩
theorem ownsRow_len {W : World} {base : Nat} {e : TypeId} {size : Nat} {v : Value} {n : Nat} {xs : List Value} (h : W.ownsRow base e size v n xs) : ∃ a c, v = .slice a n c := by
  rcases h.2 with ⟨rfl, rfl⟩ | ⟨g, cap, cur, rfl, _⟩
  · exact ⟨none, 0, rfl⟩
  · exact ⟨_, _, rfl⟩
/-- a row of numbers, as a slice of a table -/
theorem rowI_own {W : World} {base : Nat} {e : TypeId} {A : Option Addr} {c n : Nat} {L : List Int} (h : W.ownsRow base e 1 (.slice A n c) n (ints L)) : RowI W.heap.size W A L ∧ n ≤ c ∧ c ≤ maxLen := by
  rcases h.2 with ⟨hv, h0⟩ | ⟨g, cap, cur, hv, hb, hh, h1, h2, h3, h4⟩
  · cases hv
    refine ⟨fun k x hx => ?_, Nat.le_refl _, Nat.zero_le _⟩
    have hl := h.1
    simp [ints] at hl
    subst hl
    cases hx
  · cases hv
    refine ⟨fun k x hx => ⟨g, 0, rfl, (Array.getElem?_eq_some_iff.1 hh).1, ?_⟩, h1, h2⟩
    have hk : k < L.length := (List.getElem?_eq_some_iff.1 hx).1
    have hl := h.1
    simp [ints] at hl
    rw [Nat.zero_add]
    refine (World.ownsRow.cellAt h k (by omega)).trans ?_
    simp [ints, hx]
theorem rowS_own {W : World} {base : Nat} {e : TypeId} {A : Option Addr} {c n : Nat} {L : List (Int × Int)} (h : W.ownsRow base e 2 (.slice A n c) n (spCs L)) : RowS W.heap.size W A L ∧ n ≤ c ∧ c ≤ maxLen := by
  rcases h.2 with ⟨hv, h0⟩ | ⟨g, cap, cur, hv, hb, hh, h1, h2, h3, h4⟩
  · cases hv
    refine ⟨fun k x hx => ?_, Nat.le_refl _, Nat.zero_le _⟩
    have hl := h.1
    rw [spCs_length] at hl
    have : L.length = 0 := by omega
    rw [List.eq_nil_of_length_eq_zero this] at hx
    cases hx
  · cases hv
    refine ⟨fun k x hx => ?_, h1, h2⟩
    have hk : k < L.length := (List.getElem?_eq_some_iff.1 hx).1
    have hl := h.1
    rw [spCs_length] at hl
    obtain ⟨q1, q2⟩ := spCs_get hx
    have hc := h.cells (g := g) rfl
    refine ⟨g, 0, rfl, (Array.getElem?_eq_some_iff.1 hh).1, ?_, ?_⟩
    · have := hc _ _ q1
      rwa [Addr.add_mid] at this
    · have := hc _ _ q2
      rwa [Addr.add_mid] at this
theorem ownsRow_foot {W W' : World} {B : Nat → Prop} {base : Nat} {e : TypeId} {size : Nat} {v : Value} {n : Nat} {xs : List Value} (h : W.ownsRow base e size v n xs) (hf : Foot B W W') (hn : ∀ k, base ≤ k → ¬ B k) : W'.ownsRow base e size v n xs := by
  refine ⟨h.1, ?_⟩
  rcases h.2 with h0 | ⟨g, cap, cur, h1, h2, h3, h4⟩
  · exact .inl h0
  · exact .inr ⟨g, cap, cur, h1, h2, (hf.block g (Array.getElem?_eq_some_iff.1 h3).1 (hn g h2)).trans h3, h4⟩
section
variable {P : Program} {ops : Array Oper} {rest : List Oper} {o : Oper} {a : Act} {w0 w : World} {Q : Exit → Act → World → Prop} {l : List (Nat × TypeId × Array Value)} {t : TypeId} {cs : Array Value}
/-- one cell of a box is written: what else is there stays -/
theorem mem_storefF {b i j : Nat} {ty : TypeId} {x y : Operand} {v : Value} (H : Mem w0 w l) (hw : Region.wanted o (yielded ops a.tmps) = true) (ho : o.op = .store ty x y) (hx : opnd a x = some (.pointer (some ⟨b, j, none⟩))) (hm : l[i]? = some (b, t, cs)) (hy : opnd a y = some v)
    (hi : (P.info? ty).map (·.size) = some 1) (hj' : decide (j < cs.size) = true) (h1 : v.oneCell' = true)
    (h : ∀ w', Mem w0 w' (l.set i (b, t, cs.setIfInBounds j v)) → Foot (· = b) w w' → wpList P ops Q rest (a.put o.dst undef) w') : wpList P ops Q (o :: rest) a w :=
  store_fld (H.at i hm) hw ho hx hy hi hj' h1 fun w' g F => h w' (H.set i hm F g) F
end
/-- no table -/
abbrev noT : Array Value := #[.int .i64 0, .slice none 0 0, .slice none 0 0]
theorem even_no0 (q c : Int)  (h0 : q < 1) (w : World) : Calls Try.prog 25 #[.int .i64 q, .int .i64 c] w fun e w' => e = .returned (.tuple #[.agg noT, .int .i64 2]) ∧ Below w.heap.size w w' := by
  have H := Mem.start w
  have t0 : decide (q < 1) = true := decide_eq_true h0
  go_enter Try.func25, Try.ntmps25
  go_upto_region 1 with (first
    | ((with_reducible show wpList _ _ _ _ _ (World.alloc _ (.cells _ _))); refine mem_newb H ?_; intro b w3 hbk H2; try rw [← hbk]; clear hbk H; have H := H2; clear H2; simp only [List.cons_append, List.nil_append, List.set_cons_zero, List.set_cons_succ, List.setIfInBounds_toArray] at H))
  go_wp2_with (first
    | go_skip
    | ((with_reducible show wpList _ _ _ (⟨_, .store 25 _ _, _, _, _, _⟩ :: _) _ _); refine mem_store (i := 0) H (by first | exact wanted_none rfl | exact wanted_some rfl rfl rfl rfl) (by exact rfl) (by exact rfl) (by exact rfl) (by exact rfl) (by exact tbInfo) (by exact rfl) (by exact rfl) ?_; intro w2 H2; clear H; have H := H2; clear H2; simp only [List.cons_append, List.nil_append, List.set_cons_zero, List.set_cons_succ, List.setIfInBounds_toArray] at H))
  refine ret_held2 (H.at 0 rfl) rfl rfl Try.underlying25 rfl tbInfo ?_
  exact ⟨rfl, H.below⟩
theorem even_no1 (q c : Int) (h0 : ¬ q < 1) (h1 : 64 < q) (w : World) : Calls Try.prog 25 #[.int .i64 q, .int .i64 c] w fun e w' => e = .returned (.tuple #[.agg noT, .int .i64 2]) ∧ Below w.heap.size w w' := by
  have H := Mem.start w
  have t0 : decide (q < 1) = false := decide_eq_false h0
  have t1 : decide (64 < q) = true := decide_eq_true h1
  go_enter Try.func25, Try.ntmps25
  go_upto_region 1 with (first
    | ((with_reducible show wpList _ _ _ _ _ (World.alloc _ (.cells _ _))); refine mem_newb H ?_; intro b w3 hbk H2; try rw [← hbk]; clear hbk H; have H := H2; clear H2; simp only [List.cons_append, List.nil_append, List.set_cons_zero, List.set_cons_succ, List.setIfInBounds_toArray] at H))
  go_wp2_with (first
    | go_skip
    | ((with_reducible show wpList _ _ _ (⟨_, .store 25 _ _, _, _, _, _⟩ :: _) _ _); refine mem_store (i := 0) H (by first | exact wanted_none rfl | exact wanted_some rfl rfl rfl rfl) (by exact rfl) (by exact rfl) (by exact rfl) (by exact rfl) (by exact tbInfo) (by exact rfl) (by exact rfl) ?_; intro w2 H2; clear H; have H := H2; clear H2; simp only [List.cons_append, List.nil_append, List.set_cons_zero, List.set_cons_succ, List.setIfInBounds_toArray] at H))
  refine ret_held2 (H.at 0 rfl) rfl rfl Try.underlying25 rfl tbInfo ?_
  exact ⟨rfl, H.below⟩
theorem even_no2 (q c : Int) (h0 : ¬ q < 1) (h1 : ¬ 64 < q) (h2 : c < 1) (w : World) : Calls Try.prog 25 #[.int .i64 q, .int .i64 c] w fun e w' => e = .returned (.tuple #[.agg noT, .int .i64 2]) ∧ Below w.heap.size w w' := by
  have H := Mem.start w
  have t0 : decide (q < 1) = false := decide_eq_false h0
  have t1 : decide (64 < q) = false := decide_eq_false h1
  have t2 : decide (c < 1) = true := decide_eq_true h2
  go_enter Try.func25, Try.ntmps25
  go_upto_region 1 with (first
    | ((with_reducible show wpList _ _ _ _ _ (World.alloc _ (.cells _ _))); refine mem_newb H ?_; intro b w3 hbk H2; try rw [← hbk]; clear hbk H; have H := H2; clear H2; simp only [List.cons_append, List.nil_append, List.set_cons_zero, List.set_cons_succ, List.setIfInBounds_toArray] at H))
  go_wp2_with (first
    | go_skip
    | ((with_reducible show wpList _ _ _ (⟨_, .store 25 _ _, _, _, _, _⟩ :: _) _ _); refine mem_store (i := 0) H (by first | exact wanted_none rfl | exact wanted_some rfl rfl rfl rfl) (by exact rfl) (by exact rfl) (by exact rfl) (by exact rfl) (by exact tbInfo) (by exact rfl) (by exact rfl) ?_; intro w2 H2; clear H; have H := H2; clear H2; simp only [List.cons_append, List.nil_append, List.set_cons_zero, List.set_cons_succ, List.setIfInBounds_toArray] at H))
  refine ret_held2 (H.at 0 rfl) rfl rfl Try.underlying25 rfl tbInfo ?_
  exact ⟨rfl, H.below⟩
theorem even_no3 (q c : Int) (h0 : ¬ q < 1) (h1 : ¬ 64 < q) (h2 : ¬ c < 1) (h3 : 16 < c) (w : World) : Calls Try.prog 25 #[.int .i64 q, .int .i64 c] w fun e w' => e = .returned (.tuple #[.agg noT, .int .i64 2]) ∧ Below w.heap.size w w' := by
  have H := Mem.start w
  have t0 : decide (q < 1) = false := decide_eq_false h0
  have t1 : decide (64 < q) = false := decide_eq_false h1
  have t2 : decide (c < 1) = false := decide_eq_false h2
  have t3 : decide (16 < c) = true := decide_eq_true h3
  go_enter Try.func25, Try.ntmps25
  go_upto_region 1 with (first
    | ((with_reducible show wpList _ _ _ _ _ (World.alloc _ (.cells _ _))); refine mem_newb H ?_; intro b w3 hbk H2; try rw [← hbk]; clear hbk H; have H := H2; clear H2; simp only [List.cons_append, List.nil_append, List.set_cons_zero, List.set_cons_succ, List.setIfInBounds_toArray] at H))
  go_wp2_with (first
    | go_skip
    | ((with_reducible show wpList _ _ _ (⟨_, .store 25 _ _, _, _, _, _⟩ :: _) _ _); refine mem_store (i := 0) H (by first | exact wanted_none rfl | exact wanted_some rfl rfl rfl rfl) (by exact rfl) (by exact rfl) (by exact rfl) (by exact rfl) (by exact tbInfo) (by exact rfl) (by exact rfl) ?_; intro w2 H2; clear H; have H := H2; clear H2; simp only [List.cons_append, List.nil_append, List.set_cons_zero, List.set_cons_succ, List.setIfInBounds_toArray] at H))
  refine ret_held2 (H.at 0 rfl) rfl rfl Try.underlying25 rfl tbInfo ?_
  exact ⟨rfl, H.below⟩
theorem even_no4 (q c : Int) (h0 : ¬ q < 1) (h1 : ¬ 64 < q) (h2 : ¬ c < 1) (h3 : ¬ 16 < c) (h4 : q < c) (w : World) : Calls Try.prog 25 #[.int .i64 q, .int .i64 c] w fun e w' => e = .returned (.tuple #[.agg noT, .int .i64 2]) ∧ Below w.heap.size w w' := by
  have H := Mem.start w
  have t0 : decide (q < 1) = false := decide_eq_false h0
  have t1 : decide (64 < q) = false := decide_eq_false h1
  have t2 : decide (c < 1) = false := decide_eq_false h2
  have t3 : decide (16 < c) = false := decide_eq_false h3
  have t4 : decide (q < c) = true := decide_eq_true h4
  go_enter Try.func25, Try.ntmps25
  go_upto_region 1 with (first
    | ((with_reducible show wpList _ _ _ _ _ (World.alloc _ (.cells _ _))); refine mem_newb H ?_; intro b w3 hbk H2; try rw [← hbk]; clear hbk H; have H := H2; clear H2; simp only [List.cons_append, List.nil_append, List.set_cons_zero, List.set_cons_succ, List.setIfInBounds_toArray] at H))
  go_wp2_with (first
    | go_skip
    | ((with_reducible show wpList _ _ _ (⟨_, .store 25 _ _, _, _, _, _⟩ :: _) _ _); refine mem_store (i := 0) H (by first | exact wanted_none rfl | exact wanted_some rfl rfl rfl rfl) (by exact rfl) (by exact rfl) (by exact rfl) (by exact rfl) (by exact tbInfo) (by exact rfl) (by exact rfl) ?_; intro w2 H2; clear H; have H := H2; clear H2; simp only [List.cons_append, List.nil_append, List.set_cons_zero, List.set_cons_succ, List.setIfInBounds_toArray] at H))
  refine ret_held2 (H.at 0 rfl) rfl rfl Try.underlying25 rfl tbInfo ?_
  exact ⟨rfl, H.below⟩
theorem even_no (q c : Int) (h : ¬ (1 ≤ q ∧ q ≤ 64 ∧ 1 ≤ c ∧ c ≤ 16 ∧ c ≤ q)) (w : World) : Calls Try.prog 25 #[.int .i64 q, .int .i64 c] w fun e w' => e = .returned (.tuple #[.agg noT, .int .i64 2]) ∧ Below w.heap.size w w' := by
  by_cases h0 : q < 1
  · exact even_no0 q c h0 w
  by_cases h1 : 64 < q
  · exact even_no1 q c h0 h1 w
  by_cases h2 : c < 1
  · exact even_no2 q c h0 h1 h2 w
  by_cases h3 : 16 < c
  · exact even_no3 q c h0 h1 h2 h3 w
  exact even_no4 q c h0 h1 h2 h3 (by omega) w
end Go.Proofs.Ytoofmklknffhpaa
