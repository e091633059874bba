/-
  The document's Right. Conditions: the table lies where its value says, and has at most twenty spans and priorities.
-/
import Derived.Test.YtoofmklknffhpaaTableA
namespace Go.Proofs.Ytoofmklknffhpaa
set_option linter.unusedSimpArgs false
set_option linter.unusedVariables false
open Go.ChangeShapes Go.WideShapes Go.ChangeAt Go.RowKit

abbrev RightR (A1 A2 : Option Addr) (c1 c2 : Nat) (t : TB) (w : World) (v : Bool) : Prop := Calls Try.prog 16 #[.agg (tbC A1 A2 c1 c2 t)] w fun e w' => e = .returned (.bool v) ∧ Below w.heap.size w w'
theorem right_no0 (A1 A2 : Option Addr) (c1 c2 : Nat) (q : Int) (cl : List Int) (sp : List (Int × Int))  (h0 : q < 1) (w : World) : RightR A1 A2 c1 c2 ⟨q, cl, sp⟩ w false := by
  have H := Mem.start w
  obtain ⟨m, hm⟩ : ∃ m, cl.length = m := ⟨_, rfl⟩
  obtain ⟨n, hn⟩ : ∃ n, sp.length = n := ⟨_, rfl⟩
  unfold RightR tbC
  simp only [hm, hn] at *
  clear hm hn
  have t0 : decide (q < 1) = true := decide_eq_true (by omega)
  go_enter Try.func16, Try.ntmps16
  go_upto_region 1 with (first
    | ((with_reducible show wpList _ _ _ _ _ (World.alloc _ (.cells _ _))); refine mem_newb H ?_; intro b w3 hbk H2; try rw [← hbk]; clear hbk H; have H := H2; clear H2; simp only [List.cons_append, List.nil_append, List.set_cons_zero, List.set_cons_succ, List.setIfInBounds_toArray] at H))
  go_wp2_with (first
    | go_skip
    | ((with_reducible show wpList _ _ _ (⟨_, .load _ _, _, _, _, _⟩ :: _) _ _); refine mem_loadf (i := 0) H (by first | exact wanted_none rfl | exact wanted_some rfl rfl rfl rfl) (by exact rfl) (by exact rfl) (by exact rfl) (by first | exact Try.underlying3 | exact Try.underlying22 | exact Try.underlying23) rfl (by exact rfl) ?_))
  go_ret
  exact ⟨rfl, H.below⟩
theorem right_no1 (A1 A2 : Option Addr) (c1 c2 : Nat) (q : Int) (cl : List Int) (sp : List (Int × Int)) (h0 : ¬ q < 1) (h1 : 64 < q) (w : World) : RightR A1 A2 c1 c2 ⟨q, cl, sp⟩ w false := by
  have H := Mem.start w
  obtain ⟨m, hm⟩ : ∃ m, cl.length = m := ⟨_, rfl⟩
  obtain ⟨n, hn⟩ : ∃ n, sp.length = n := ⟨_, rfl⟩
  unfold RightR tbC
  simp only [hm, hn] at *
  clear hm hn
  have t0 : decide (q < 1) = false := decide_eq_false (by omega)
  have t1 : decide (64 < q) = true := decide_eq_true (by omega)
  go_enter Try.func16, Try.ntmps16
  go_upto_region 1 with (first
    | ((with_reducible show wpList _ _ _ _ _ (World.alloc _ (.cells _ _))); refine mem_newb H ?_; intro b w3 hbk H2; try rw [← hbk]; clear hbk H; have H := H2; clear H2; simp only [List.cons_append, List.nil_append, List.set_cons_zero, List.set_cons_succ, List.setIfInBounds_toArray] at H))
  go_wp2_with (first
    | go_skip
    | ((with_reducible show wpList _ _ _ (⟨_, .load _ _, _, _, _, _⟩ :: _) _ _); refine mem_loadf (i := 0) H (by first | exact wanted_none rfl | exact wanted_some rfl rfl rfl rfl) (by exact rfl) (by exact rfl) (by exact rfl) (by first | exact Try.underlying3 | exact Try.underlying22 | exact Try.underlying23) rfl (by exact rfl) ?_))
  go_ret
  exact ⟨rfl, H.below⟩
theorem right_no2 (A1 A2 : Option Addr) (c1 c2 : Nat) (q : Int) (cl : List Int) (sp : List (Int × Int)) (h0 : ¬ q < 1) (h1 : ¬ 64 < q) (h2 : sp.length < 1) (w : World) : RightR A1 A2 c1 c2 ⟨q, cl, sp⟩ w false := by
  have H := Mem.start w
  obtain ⟨m, hm⟩ : ∃ m, cl.length = m := ⟨_, rfl⟩
  obtain ⟨n, hn⟩ : ∃ n, sp.length = n := ⟨_, rfl⟩
  unfold RightR tbC
  simp only [hm, hn] at *
  clear hm hn
  have t0 : decide (q < 1) = false := decide_eq_false (by omega)
  have t1 : decide (64 < q) = false := decide_eq_false (by omega)
  have t2 : decide ((n : Int) < 1) = true := decide_eq_true (by omega)
  go_enter Try.func16, Try.ntmps16
  go_upto_region 1 with (first
    | ((with_reducible show wpList _ _ _ _ _ (World.alloc _ (.cells _ _))); refine mem_newb H ?_; intro b w3 hbk H2; try rw [← hbk]; clear hbk H; have H := H2; clear H2; simp only [List.cons_append, List.nil_append, List.set_cons_zero, List.set_cons_succ, List.setIfInBounds_toArray] at H))
  go_wp2_with (first
    | go_skip
    | ((with_reducible show wpList _ _ _ (⟨_, .load _ _, _, _, _, _⟩ :: _) _ _); refine mem_loadf (i := 0) H (by first | exact wanted_none rfl | exact wanted_some rfl rfl rfl rfl) (by exact rfl) (by exact rfl) (by exact rfl) (by first | exact Try.underlying3 | exact Try.underlying22 | exact Try.underlying23) rfl (by exact rfl) ?_))
  go_ret
  exact ⟨rfl, H.below⟩
theorem right_no3 (A1 A2 : Option Addr) (c1 c2 : Nat) (q : Int) (cl : List Int) (sp : List (Int × Int)) (h0 : ¬ q < 1) (h1 : ¬ 64 < q) (h2 : ¬ sp.length < 1) (h3 : 16 < sp.length) (w : World) : RightR A1 A2 c1 c2 ⟨q, cl, sp⟩ w false := by
  have H := Mem.start w
  obtain ⟨m, hm⟩ : ∃ m, cl.length = m := ⟨_, rfl⟩
  obtain ⟨n, hn⟩ : ∃ n, sp.length = n := ⟨_, rfl⟩
  unfold RightR tbC
  simp only [hm, hn] at *
  clear hm hn
  have t0 : decide (q < 1) = false := decide_eq_false (by omega)
  have t1 : decide (64 < q) = false := decide_eq_false (by omega)
  have t2 : decide ((n : Int) < 1) = false := decide_eq_false (by omega)
  have t3 : decide (16 < (n : Int)) = true := decide_eq_true (by omega)
  go_enter Try.func16, Try.ntmps16
  go_upto_region 1 with (first
    | ((with_reducible show wpList _ _ _ _ _ (World.alloc _ (.cells _ _))); refine mem_newb H ?_; intro b w3 hbk H2; try rw [← hbk]; clear hbk H; have H := H2; clear H2; simp only [List.cons_append, List.nil_append, List.set_cons_zero, List.set_cons_succ, List.setIfInBounds_toArray] at H))
  go_wp2_with (first
    | go_skip
    | ((with_reducible show wpList _ _ _ (⟨_, .load _ _, _, _, _, _⟩ :: _) _ _); refine mem_loadf (i := 0) H (by first | exact wanted_none rfl | exact wanted_some rfl rfl rfl rfl) (by exact rfl) (by exact rfl) (by exact rfl) (by first | exact Try.underlying3 | exact Try.underlying22 | exact Try.underlying23) rfl (by exact rfl) ?_))
  go_ret
  exact ⟨rfl, H.below⟩
theorem right_no4 (A1 A2 : Option Addr) (c1 c2 : Nat) (q : Int) (cl : List Int) (sp : List (Int × Int)) (h0 : ¬ q < 1) (h1 : ¬ 64 < q) (h2 : ¬ sp.length < 1) (h3 : ¬ 16 < sp.length) (h4 : cl.length ≠ 16) (w : World) : RightR A1 A2 c1 c2 ⟨q, cl, sp⟩ w false := by
  have H := Mem.start w
  obtain ⟨m, hm⟩ : ∃ m, cl.length = m := ⟨_, rfl⟩
  obtain ⟨n, hn⟩ : ∃ n, sp.length = n := ⟨_, rfl⟩
  unfold RightR tbC
  simp only [hm, hn] at *
  clear hm hn
  have t0 : decide (q < 1) = false := decide_eq_false (by omega)
  have t1 : decide (64 < q) = false := decide_eq_false (by omega)
  have t2 : decide ((n : Int) < 1) = false := decide_eq_false (by omega)
  have t3 : decide (16 < (n : Int)) = false := decide_eq_false (by omega)
  have t4 : ((m : Int) == 16) = false := by rw [beq_eq_false_iff_ne]; omega
  go_enter Try.func16, Try.ntmps16
  go_upto_region 1 with (first
    | ((with_reducible show wpList _ _ _ _ _ (World.alloc _ (.cells _ _))); refine mem_newb H ?_; intro b w3 hbk H2; try rw [← hbk]; clear hbk H; have H := H2; clear H2; simp only [List.cons_append, List.nil_append, List.set_cons_zero, List.set_cons_succ, List.setIfInBounds_toArray] at H))
  go_wp2_with (first
    | go_skip
    | ((with_reducible show wpList _ _ _ (⟨_, .load _ _, _, _, _, _⟩ :: _) _ _); refine mem_loadf (i := 0) H (by first | exact wanted_none rfl | exact wanted_some rfl rfl rfl rfl) (by exact rfl) (by exact rfl) (by exact rfl) (by first | exact Try.underlying3 | exact Try.underlying22 | exact Try.underlying23) rfl (by exact rfl) ?_))
  go_ret
  exact ⟨rfl, H.below⟩
end Go.Proofs.Ytoofmklknffhpaa
