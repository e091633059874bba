/-
  The program's classesOf. Conditions: the table lies where its value says.
-/
import Derived.Test.YtaoaapbbadipfaaMGv
/- The program's classesOf. Conditions: the table lies where its value says. -/
section
namespace Go.Proofs.Ytaoaapbbadipfaa
set_option linter.unusedSimpArgs false
set_option linter.unusedVariables false
set_option maxRecDepth 100000
open Go.ChangeShapes Go.WideShapes Go.ChangeAt Go.RowKit Go.Maps

abbrev z16 : Nat → Int × Int := fun _ => (0, 0)
/-- the spans of the first k priorities -/
def upK (t : TB) (k : Nat) : Nat → Int × Int := fun j => if j < k then t.spAt j else (0, 0)
theorem upK_next (t : TB) (k : Nat) : (fun j => if j = k then t.spAt k else upK t k j) = upK t (k + 1) := by
  funext j
  unfold upK
  by_cases e : j = k
  · rw [if_pos e, if_pos (by omega), e]
  · rw [if_neg e]
    by_cases h : j < k
    · rw [if_pos h, if_pos (by omega)]
    · rw [if_neg h, if_neg (by omega)]
theorem pclInfo : (Try.prog.info? 71).map (·.size) = some 33 := by kernel_rfl
theorem pclInfo' (q : Int) (sp : Nat → Int × Int) : (Try.prog.info? 71).map (·.size) = some (clC q sp).size := by
  rw [clC_size]
  exact pclInfo
theorem cl_zero (q : Int) : clC q z16 = #[.int .i64 q, .int .i64 0, .int .i64 0, .int .i64 0, .int .i64 0, .int .i64 0, .int .i64 0, .int .i64 0, .int .i64 0, .int .i64 0, .int .i64 0, .int .i64 0, .int .i64 0, .int .i64 0, .int .i64 0, .int .i64 0, .int .i64 0, .int .i64 0, .int .i64 0, .int .i64 0, .int .i64 0, .int .i64 0, .int .i64 0, .int .i64 0, .int .i64 0, .int .i64 0, .int .i64 0, .int .i64 0, .int .i64 0, .int .i64 0, .int .i64 0, .int .i64 0, .int .i64 0] := rfl
theorem prL_one (f : Nat → Value × Value) (n : Nat) (h : ∀ k, k < n → (f k).1.oneCell' = true ∧ (f k).2.oneCell' = true) : (prL f n).all (·.oneCell') = true := by
  induction n with
  | zero => rfl
  | succ n ih =>
    rw [prL_succ, List.all_append, ih (fun k hk => h k (by omega))]
    simp [h n (by omega)]
theorem clC_one (q : Int) (sp : Nat → Int × Int) : (clC q sp).toList.all (·.oneCell') = true := by
  unfold clC clL
  simp only [List.all_cons, prL_one (prC sp) 16 (fun k _ => ⟨rfl, rfl⟩)]
  rfl
/-- the span of a priority, by a table that may be -/
theorem spK_ok {t : TB} (hr : t.right = true) {k : Nat} (hk : k < 16) : t.spnV (k : Int) = t.spAt k ∧ t.clsE (k : Int) = 0 := by
  obtain ⟨h1, h2, _⟩ := spn_ok (s := SS.new t 0) hr (p := (k : Int)) (by omega)
  exact ⟨h1.trans (by show t.spAt (k : Int).toNat = _; rw [Int.toNat_natCast]), h2⟩
theorem few_right {t : TB} (hr : t.right = true) : Few t := by
  have hk := (TB.right_iff t).1 hr
  exact ⟨by have := hk.m; omega, by have := hk.n; omega⟩
/-- a struct is stored into a greater box -/
theorem mem_store_mid {P : Program} {ops : Array Oper} {Q : Exit → Act → World → Prop} {rest : List Oper} {o : Oper} {a : Act} {w0 w : World} {l : List (Nat × TypeId × Array Value)} {t : TypeId} {cs : Array Value}
    {b i j : Nat} {ty : TypeId} {vs : Array Value} {x y : Operand} (H : Mem w0 w l) (hgd : o.guard = none) (ho : o.op = .store ty x y) (hx : a.eval x = .pointer (some ⟨b, j, none⟩)) (hm : l[i]? = some (b, t, cs)) (hy : a.eval y = .agg vs)
    (hi : (P.info? ty).map (·.size) = some vs.size) (hs : j + vs.size ≤ cs.size) (h1 : vs.toList.all (·.oneCell') = true)
    (h : ∀ w', Mem w0 w' (l.set i (b, t, setL cs j vs.toList)) → wpList P ops Q rest (a.put o.dst undef) w') : wpList P ops Q (o :: rest) a w :=
  wpList_store_mid hgd ty x y ho b j vs hx hy (held_there (H.at i hm) hs) hi (by rw [← Array.all_toList]; exact h1) (h _ (H.set i hm (Foot.setCells b _ j w) (Held.setCells _ j (H.at i hm))))
set_option maxHeartbeats 2000000 in
theorem classesOf_no (A1 A2 : Option Addr) (c1 c2 : Nat) (t : TB) (W : World) (ht : TbAt W.heap.size W A1 A2 c1 c2 t) (hf : Few t) (hr : t.right = false) : Calls Try.prog 28 #[.agg (tbC A1 A2 c1 c2 t)] W fun e w' => e = .returned (.tuple #[.agg (clC 0 z16), .int .i64 80]) ∧ Below W.heap.size W w' := by
  have H := Mem.start W
  have T := Lib.hid ht
  have cc := fun w h => spanOf_p A1 A2 c1 c2 t 0 w h hf
  have e0 : t.spnV 0 = (0, 0) := if_neg (by simp [hr])
  have e2 : t.clsE 0 = 80 := by rw [TB.clsE, if_neg (by simp [hr])]
  obtain ⟨Q, hQ⟩ : ∃ Q, t.q = Q := ⟨_, rfl⟩
  have q0 : (tbC A1 A2 c1 c2 t)[0]? = some (.int .i64 Q) := by rw [← hQ]; rfl
  rw [e0, e2] at cc
  clear ht hr e0 e2 hf hQ
  have hzv : ∀ w, (zeroValue 71).run Try.prog w = .ok (.agg #[.int .i64 0, .int .i64 0, .int .i64 0, .int .i64 0, .int .i64 0, .int .i64 0, .int .i64 0, .int .i64 0, .int .i64 0, .int .i64 0, .int .i64 0, .int .i64 0, .int .i64 0, .int .i64 0, .int .i64 0, .int .i64 0, .int .i64 0, .int .i64 0, .int .i64 0, .int .i64 0, .int .i64 0, .int .i64 0, .int .i64 0, .int .i64 0, .int .i64 0, .int .i64 0, .int .i64 0, .int .i64 0, .int .i64 0, .int .i64 0, .int .i64 0, .int .i64 0, .int .i64 0]) w := fun w => by kernel_rfl
  go_enter Try.func28, Try.ntmps28
  go_upto_region 1 with (first
    | ((with_reducible show wpList _ _ _ _ _ (World.alloc _ (.cells _ _))); refine mem_newb (l := []) H ?_; intro bt w3 hbk H2; try rw [← hbk]; clear hbk H; have H := H2; clear H2; simp only [List.cons_append, List.nil_append, List.set_cons_zero, List.set_cons_succ, List.setIfInBounds_toArray] at H)
    | ((with_reducible show wpList _ _ _ _ _ (World.alloc _ (.cells _ _))); refine mem_newb (l := [_]) H ?_; intro br w3 hbk H2; try rw [← hbk]; clear hbk H; have H := H2; clear H2; simp only [List.cons_append, List.nil_append, List.set_cons_zero, List.set_cons_succ, List.setIfInBounds_toArray] at H))
  go_upto_region 2 with (first
    | ((with_reducible show wpList _ _ _ _ _ (World.alloc _ (.cells _ _))); refine mem_newb (l := [_, _]) H ?_; intro bc w3 hbk H2; try rw [← hbk]; clear hbk H; have H := H2; clear H2; simp only [List.cons_append, List.nil_append, List.set_cons_zero, List.set_cons_succ, List.setIfInBounds_toArray] at H)
    | ((with_reducible show wpList _ _ _ (⟨_, .load _ _, _, _, _, _⟩ :: _) _ _); refine mem_loadf (i := 0) H (by first | exact wanted_none rfl | exact wanted_some rfl rfl rfl rfl) (by exact rfl) (by exact rfl) (by exact rfl) (by first | exact Try.underlying3 | exact Try.underlying22 | exact Try.underlying29 | exact Try.underlying74) rfl (by exact q0) ?_)
    | ((with_reducible show wpList _ _ _ (⟨_, .store 71 _ _, _, _, _, _⟩ :: _) _ _); refine mem_store (i := 2) H (by first | exact wanted_none rfl | exact wanted_some rfl rfl rfl rfl) (by exact rfl) (by exact rfl) (by exact rfl) (by exact rfl) (by exact pclInfo) (by exact rfl) (by exact rfl) ?_; intro w2 H2; clear H; have H := H2; clear H2; simp only [List.cons_append, List.nil_append, List.set_cons_zero, List.set_cons_succ, List.setIfInBounds_toArray] at H))
  go_wp2
  go_loopw [11] (fun i wr => i = .int .i64 0 ∧ Mem W wr [(bt, 32, tbC A1 A2 c1 c2 t), (br, 71, #[.int .i64 0, .int .i64 0, .int .i64 0, .int .i64 0, .int .i64 0, .int .i64 0, .int .i64 0, .int .i64 0, .int .i64 0, .int .i64 0, .int .i64 0, .int .i64 0, .int .i64 0, .int .i64 0, .int .i64 0, .int .i64 0, .int .i64 0, .int .i64 0, .int .i64 0, .int .i64 0, .int .i64 0, .int .i64 0, .int .i64 0, .int .i64 0, .int .i64 0, .int .i64 0, .int .i64 0, .int .i64 0, .int .i64 0, .int .i64 0, .int .i64 0, .int .i64 0, .int .i64 0]), (bc, 71, #[.int .i64 Q, .int .i64 0, .int .i64 0, .int .i64 0, .int .i64 0, .int .i64 0, .int .i64 0, .int .i64 0, .int .i64 0, .int .i64 0, .int .i64 0, .int .i64 0, .int .i64 0, .int .i64 0, .int .i64 0, .int .i64 0, .int .i64 0, .int .i64 0, .int .i64 0, .int .i64 0, .int .i64 0, .int .i64 0, .int .i64 0, .int .i64 0, .int .i64 0, .int .i64 0, .int .i64 0, .int .i64 0, .int .i64 0, .int .i64 0, .int .i64 0, .int .i64 0, .int .i64 0])]) (fun i _ => 0)
  case atStart => exact ⟨rfl, H⟩
  case round =>
    clear H
    obtain ⟨rfl, H⟩ := hrel
    go_upto_region 7 with (first
    | ((with_reducible show wpList _ _ _ (⟨_, .load 32 _, _, _, _, _⟩ :: _) _ _); refine mem_load (i := 0) H (by first | exact wanted_none rfl | exact wanted_some rfl rfl rfl rfl) (by exact rfl) (by exact rfl) (by exact rfl) Try.underlying32 rfl (by exact tbInfo) ?_)
    | first | (go_at_call 47; with_reducible refine (ck _ (T.out.mem H)).mono ?_; rintro e w2 ⟨rfl, hb⟩; have H2 := H.call hb; clear H hb; have H := H2; clear H2) | (go_at_call 47; with_reducible refine (cc _ (T.out.mem H)).mono ?_; rintro e w2 ⟨rfl, hb⟩; have H2 := H.call hb; clear H hb; have H := H2; clear H2)
    | ((with_reducible show wpList _ _ _ _ _ (World.alloc _ (.cells _ _))); refine mem_newb (l := [_, _, _]) H ?_; intro bs w3 hbk H2; try rw [← hbk]; clear hbk H; have H := H2; clear H2; simp only [List.cons_append, List.nil_append, List.set_cons_zero, List.set_cons_succ, List.setIfInBounds_toArray] at H)
    | ((with_reducible show wpList _ _ _ (⟨_, .store 59 _ _, _, _, _, _⟩ :: _) _ _); refine mem_store (i := 3) H (by first | exact wanted_none rfl | exact wanted_some rfl rfl rfl rfl) (by exact rfl) (by exact rfl) (by exact rfl) (by exact rfl) (by exact spInfo) (by exact rfl) (by exact rfl) ?_; intro w2 H2; clear H; have H := H2; clear H2; simp only [List.cons_append, List.nil_append, List.set_cons_zero, List.set_cons_succ, List.setIfInBounds_toArray] at H))
    go_wp2_with (first
    | go_skip
    | ((with_reducible show wpList _ _ _ (⟨_, .store 71 _ _, _, _, _, _⟩ :: _) _ _); refine mem_store (i := 1) H (by first | exact wanted_none rfl | exact wanted_some rfl rfl rfl rfl) (by exact rfl) (by exact rfl) (by exact rfl) (by exact rfl) (by exact pclInfo) (by exact rfl) (by exact rfl) ?_; intro w2 H2; clear H; have H := H2; clear H2; simp only [List.cons_append, List.nil_append, List.set_cons_zero, List.set_cons_succ, List.setIfInBounds_toArray] at H))
    refine ret_held2 (H.at 1 rfl) rfl rfl Try.underlying71 rfl pclInfo ?_
    exact ⟨rfl, H.below⟩
set_option maxHeartbeats 2000000 in
theorem classesOf_yes (A1 A2 : Option Addr) (c1 c2 : Nat) (t : TB) (W : World) (ht : TbAt W.heap.size W A1 A2 c1 c2 t) (hr : t.right = true) : Calls Try.prog 28 #[.agg (tbC A1 A2 c1 c2 t)] W fun e w' => e = .returned (.tuple #[.agg (clC t.q t.spAt), .int .i64 0]) ∧ Below W.heap.size W w' := by
  have H := Mem.start W
  have T := Lib.hid ht
  have HR := Lib.hid hr
  have cc := fun p w h => spanOf_p A1 A2 c1 c2 t p w h (few_right hr)
  obtain ⟨Q, hQ⟩ : ∃ Q, t.q = Q := ⟨_, rfl⟩
  rw [hQ]
  have q0 : (tbC A1 A2 c1 c2 t)[0]? = some (.int .i64 Q) := by rw [← hQ]; rfl
  have hone := fun k => clC_one Q (upK t k)
  clear ht hr hQ
  have hzv : ∀ w, (zeroValue 71).run Try.prog w = .ok (.agg #[.int .i64 0, .int .i64 0, .int .i64 0, .int .i64 0, .int .i64 0, .int .i64 0, .int .i64 0, .int .i64 0, .int .i64 0, .int .i64 0, .int .i64 0, .int .i64 0, .int .i64 0, .int .i64 0, .int .i64 0, .int .i64 0, .int .i64 0, .int .i64 0, .int .i64 0, .int .i64 0, .int .i64 0, .int .i64 0, .int .i64 0, .int .i64 0, .int .i64 0, .int .i64 0, .int .i64 0, .int .i64 0, .int .i64 0, .int .i64 0, .int .i64 0, .int .i64 0, .int .i64 0]) w := fun w => by kernel_rfl
  go_enter Try.func28, Try.ntmps28
  go_upto_region 1 with (first
    | ((with_reducible show wpList _ _ _ _ _ (World.alloc _ (.cells _ _))); refine mem_newb (l := []) H ?_; intro bt w3 hbk H2; try rw [← hbk]; clear hbk H; have H := H2; clear H2; simp only [List.cons_append, List.nil_append, List.set_cons_zero, List.set_cons_succ, List.setIfInBounds_toArray] at H)
    | ((with_reducible show wpList _ _ _ _ _ (World.alloc _ (.cells _ _))); refine mem_newb (l := [_]) H ?_; intro br w3 hbk H2; try rw [← hbk]; clear hbk H; have H := H2; clear H2; simp only [List.cons_append, List.nil_append, List.set_cons_zero, List.set_cons_succ, List.setIfInBounds_toArray] at H))
  go_upto_region 2 with (first
    | ((with_reducible show wpList _ _ _ _ _ (World.alloc _ (.cells _ _))); refine mem_newb (l := [_, _]) H ?_; intro bc w3 hbk H2; try rw [← hbk]; clear hbk H; have H := H2; clear H2; simp only [List.cons_append, List.nil_append, List.set_cons_zero, List.set_cons_succ, List.setIfInBounds_toArray] at H)
    | ((with_reducible show wpList _ _ _ (⟨_, .load _ _, _, _, _, _⟩ :: _) _ _); refine mem_loadf (i := 0) H (by first | exact wanted_none rfl | exact wanted_some rfl rfl rfl rfl) (by exact rfl) (by exact rfl) (by exact rfl) (by first | exact Try.underlying3 | exact Try.underlying22 | exact Try.underlying29 | exact Try.underlying74) rfl (by exact q0) ?_)
    | ((with_reducible show wpList _ _ _ (⟨_, .store 71 _ _, _, _, _, _⟩ :: _) _ _); refine mem_store (i := 2) H (by first | exact wanted_none rfl | exact wanted_some rfl rfl rfl rfl) (by exact rfl) (by exact rfl) (by exact rfl) (by exact rfl) (by exact pclInfo) (by exact rfl) (by exact rfl) ?_; intro w2 H2; clear H; have H := H2; clear H2; simp only [List.cons_append, List.nil_append, List.set_cons_zero, List.set_cons_succ, List.setIfInBounds_toArray] at H))
  go_wp2
  go_loopw [11] (fun i wr => ∃ k : Nat, k ≤ 16 ∧ i = .int .i64 k ∧ Mem W wr [(bt, 32, tbC A1 A2 c1 c2 t), (br, 71, clC 0 z16), (bc, 71, clC Q (upK t k))]) (fun i _ => 16 - (intOf i).toNat)
  case atStart => exact ⟨0, Nat.zero_le _, rfl, H⟩
  case round =>
    clear H
    obtain ⟨k, hk, rfl, H⟩ := hrel
    by_cases hlt : k < 16
    · obtain ⟨e1, e2⟩ := spK_ok HR.out hlt
      have ck := fun w h => cc (k : Int) w h
      rw [e1, e2] at ck
      obtain ⟨⟨x, y⟩, hxy⟩ : ∃ X, t.spAt k = X := ⟨_, rfl⟩
      rw [hxy] at ck
      have HX := Lib.hid hxy
      clear e1 e2 hxy
      go_upto_region 8 with (first
    | ((with_reducible show wpList _ _ _ (⟨_, .load 32 _, _, _, _, _⟩ :: _) _ _); refine mem_load (i := 0) H (by first | exact wanted_none rfl | exact wanted_some rfl rfl rfl rfl) (by exact rfl) (by exact rfl) (by exact rfl) Try.underlying32 rfl (by exact tbInfo) ?_)
    | first | (go_at_call 47; with_reducible refine (ck _ (T.out.mem H)).mono ?_; rintro e w2 ⟨rfl, hb⟩; have H2 := H.call hb; clear H hb; have H := H2; clear H2) | (go_at_call 47; with_reducible refine (cc _ (T.out.mem H)).mono ?_; rintro e w2 ⟨rfl, hb⟩; have H2 := H.call hb; clear H hb; have H := H2; clear H2)
    | ((with_reducible show wpList _ _ _ _ _ (World.alloc _ (.cells _ _))); refine mem_newb (l := [_, _, _]) H ?_; intro bs w3 hbk H2; try rw [← hbk]; clear hbk H; have H := H2; clear H2; simp only [List.cons_append, List.nil_append, List.set_cons_zero, List.set_cons_succ, List.setIfInBounds_toArray] at H)
    | ((with_reducible show wpList _ _ _ (⟨_, .store 59 _ _, _, _, _, _⟩ :: _) _ _); refine mem_store (i := 3) H (by first | exact wanted_none rfl | exact wanted_some rfl rfl rfl rfl) (by exact rfl) (by exact rfl) (by exact rfl) (by exact rfl) (by exact spInfo) (by exact rfl) (by exact rfl) ?_; intro w2 H2; clear H; have H := H2; clear H2; simp only [List.cons_append, List.nil_append, List.set_cons_zero, List.set_cons_succ, List.setIfInBounds_toArray] at H))
      go_wp2_with (first
    | ((with_reducible show wpList _ _ _ (⟨_, .load 59 _, _, _, _, _⟩ :: _) _ _); refine mem_load (i := 3) H (by first | exact wanted_none rfl | exact wanted_some rfl rfl rfl rfl) (by exact rfl) (by exact rfl) (by exact rfl) Try.underlying59 rfl (by exact spInfo) ?_)
    | ((with_reducible show wpList _ _ _ (⟨_, .store 59 _ _, _, _, _, _⟩ :: _) _ _); refine mem_store_mid (i := 2) (vs := #[.int .i64 x, .int .i64 y]) H rfl rfl (by exact rfl) (by exact rfl) (by exact rfl) spInfo (by rw [clC_size]; simp only [List.size_toArray, List.length_cons, List.length_nil]; omega) (by exact rfl) ?_; intro w2 H2; clear H; have H := H2; clear H2; simp only [List.cons_append, List.nil_append, List.set_cons_zero, List.set_cons_succ, List.setIfInBounds_toArray] at H))
      have H5 := H.drop 3
      have hset : setL (clC Q (upK t k)) (1 + k * 2) [.int .i64 x, .int .i64 y] = clC Q (upK t (k + 1)) := by
        have h := clC_set Q (upK t k) hlt (x, y)
        rw [← upK_next, HX.out, show 1 + k * 2 = 1 + 2 * k by omega]
        exact h
      simp only [List.take_succ_cons, List.take_zero, hset] at H5
      go_roundw
      case rel => exact ⟨k + 1, by omega, by go_num, H5⟩
      case measure => simp [intOf]; omega
    · obtain rfl : k = 16 := by omega
      go_wp2_with (first
    | go_skip
    | ((with_reducible show wpList _ _ _ (⟨_, .load 71 _, _, _, _, _⟩ :: _) _ _); refine mem_load (i := 2) H (by first | exact wanted_none rfl | exact wanted_some rfl rfl rfl rfl) (by exact rfl) (by exact rfl) (by exact rfl) Try.underlying71 rfl (by exact pclInfo' _ _) ?_)
    | ((with_reducible show wpList _ _ _ (⟨_, .store 71 _ _, _, _, _, _⟩ :: _) _ _); refine mem_store (i := 1) H (by first | exact wanted_none rfl | exact wanted_some rfl rfl rfl rfl) (by exact rfl) (by exact rfl) (by exact rfl) (by exact rfl) (by exact pclInfo' _ _) (by exact (clC_size _ _).trans (clC_size _ _).symm) (by exact hone _) ?_; intro w2 H2; clear H; have H := H2; clear H2; simp only [List.cons_append, List.nil_append, List.set_cons_zero, List.set_cons_succ, List.setIfInBounds_toArray] at H))
      refine ret_held2 (H.at 1 rfl) rfl rfl Try.underlying71 rfl (pclInfo' _ _) ?_
      exact ⟨by rw [clC_congr (f := t.spAt) (g := upK t 16) (fun k hk => by rw [upK, if_pos hk])]; rfl, H.below⟩
end Go.Proofs.Ytaoaapbbadipfaa
end
