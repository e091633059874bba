/-
  The laws' own cut and has; the document's Same of tables. Conditions: the tables lie where their values say.
-/
import Derived.Test.YtoofmklknffhpaaTableG
namespace Go.Proofs.Ytoofmklknffhpaa
set_option linter.unusedSimpArgs false
set_option linter.unusedVariables false
open Go.ChangeShapes Go.WideShapes Go.ChangeAt Go.RowKit

theorem clInfo : (Try.prog.info? 22).map (·.size) = some 1 := by kernel_rfl
theorem ssInfo : (Try.prog.info? 23).map (·.size) = some 1 := by kernel_rfl
/-- a table of at most twenty classes and priorities -/
def TB.cut (t : TB) : TB := ⟨t.q, t.cl.take 20, t.sp.take 20⟩
theorem take_get {α : Type} {l : List α} {n k : Nat} {x : α} (h : (l.take n)[k]? = some x) : l[k]? = some x := by
  rw [List.getElem?_take] at h
  split at h
  · exact h
  · cases h
theorem TbAt.cut {B : Nat} {w : World} {A1 A2 : Option Addr} {c1 c2 : Nat} {t : TB} (h : TbAt B w A1 A2 c1 c2 t) : TbAt B w A1 A2 c1 c2 t.cut :=
  ⟨fun k x hx => h.cl k x (take_get hx), fun k x hx => h.sp k x (take_get hx), by have := h.l1; simp [TB.cut]; omega, by have := h.l2; simp [TB.cut]; omega, h.m1, h.m2, h.fq, fun x hx => h.fc x (List.mem_of_mem_take hx), fun x hx => h.fs x (List.mem_of_mem_take hx)⟩
theorem cut_len (t : TB) : t.cut.cl.length ≤ 20 ∧ t.cut.sp.length ≤ 20 := by simp [TB.cut]; omega
set_option maxRecDepth 100000 in
set_option maxHeartbeats 1000000 in
theorem cut_p (A1 A2 : Option Addr) (c1 c2 : Nat) (t : TB) (w : World) (ht : TbAt w.heap.size w A1 A2 c1 c2 t) : Calls Try.prog 12 #[.agg (tbC A1 A2 c1 c2 t)] w fun e w' => e = .returned (.agg (tbC A1 A2 c1 c2 t.cut)) ∧ Below w.heap.size w w' := by
  have H := Mem.start w
  have l1 := ht.l1
  have l2 := ht.l2
  have m1 := ht.m1
  have m2 := ht.m2
  clear ht
  have hmx : maxLen ≤ 9223372036854775807 := by decide
  have e0 : tbC A1 A2 c1 c2 t.cut = #[.int .i64 t.q, .slice A1 (min 20 t.cl.length) c1, .slice A2 (min 20 t.sp.length) c2] := by simp [tbC, TB.cut]
  rw [e0]
  clear e0
  unfold tbC
  obtain ⟨n1, h1⟩ : ∃ n, t.cl.length = n := ⟨_, rfl⟩
  obtain ⟨n2, h2⟩ : ∃ n, t.sp.length = n := ⟨_, rfl⟩
  rw [h1] at l1
  rw [h2] at l2
  rw [h1, h2]
  clear h1 h2
  obtain ⟨k1, hk1⟩ : ∃ k, min 20 n1 = k := ⟨_, rfl⟩
  obtain ⟨k2, hk2⟩ : ∃ k, min 20 n2 = k := ⟨_, rfl⟩
  rw [hk1, hk2]
  have b1 : k1 ≤ n1 := by omega
  have b2 : k2 ≤ n2 := by omega
  have HM := Lib.hid (show (if (20 : Int) < (n1 : Int) then (20 : Int) else (n1 : Int)) = k1 by split <;> omega)
  have HN := Lib.hid (show (if (20 : Int) < (n2 : Int) then (20 : Int) else (n2 : Int)) = k2 by split <;> omega)
  clear hk1 hk2
  go_enter Try.func12, Try.ntmps12
  go_upto_region 1 with (first
    | ((with_reducible show wpList _ _ _ _ _ (World.alloc _ (.cells _ _))); refine mem_newb (l := []) H ?_; intro ba w3 hbk H2; try rw [← hbk]; clear hbk H; have H := H2; clear H2; simp only [List.cons_append, List.nil_append, List.set_cons_zero, List.set_cons_succ, List.setIfInBounds_toArray] at H)
    | ((with_reducible show wpList _ _ _ _ _ (World.alloc _ (.cells _ _))); refine mem_newb (l := [_]) H ?_; intro bb w3 hbk H2; try rw [← hbk]; clear hbk H; have H := H2; clear H2; simp only [List.cons_append, List.nil_append, List.set_cons_zero, List.set_cons_succ, List.setIfInBounds_toArray] at H))
  go_upto_region 2 with (first
    | ((with_reducible show wpList _ _ _ (⟨_, .load _ _, _, _, _, _⟩ :: _) _ _); refine mem_loadf (i := 0) H (by first | exact wanted_none rfl | exact wanted_some rfl rfl rfl rfl) (by exact rfl) (by exact rfl) (by exact rfl) (by first | exact Try.underlying3 | exact Try.underlying22 | exact Try.underlying23) rfl (by exact rfl) ?_)
    | ((with_reducible show wpList _ _ _ (⟨_, .store _ _ _, _, _, _, _⟩ :: _) _ _); refine mem_storef (i := 0) H (by first | exact wanted_none rfl | exact wanted_some rfl rfl rfl rfl) (by exact rfl) (by exact rfl) (by exact rfl) (by exact rfl) (by first | exact clInfo | exact ssInfo) (by exact rfl) (by exact rfl) ?_; intro w2 H2; clear H; have H := H2; clear H2; simp only [List.cons_append, List.nil_append, List.set_cons_zero, List.set_cons_succ, List.setIfInBounds_toArray] at H))
  simp only [HM.out, Int.toNat_natCast] at H ⊢
  go_upto_region 3 with (first
    | ((with_reducible show wpList _ _ _ (⟨_, .load _ _, _, _, _, _⟩ :: _) _ _); refine mem_loadf (i := 0) H (by first | exact wanted_none rfl | exact wanted_some rfl rfl rfl rfl) (by exact rfl) (by exact rfl) (by exact rfl) (by first | exact Try.underlying3 | exact Try.underlying22 | exact Try.underlying23) rfl (by exact rfl) ?_)
    | ((with_reducible show wpList _ _ _ (⟨_, .store _ _ _, _, _, _, _⟩ :: _) _ _); refine mem_storef (i := 0) H (by first | exact wanted_none rfl | exact wanted_some rfl rfl rfl rfl) (by exact rfl) (by exact rfl) (by exact rfl) (by exact rfl) (by first | exact clInfo | exact ssInfo) (by exact rfl) (by exact rfl) ?_; intro w2 H2; clear H; have H := H2; clear H2; simp only [List.cons_append, List.nil_append, List.set_cons_zero, List.set_cons_succ, List.setIfInBounds_toArray] at H))
  simp only [HN.out, Int.toNat_natCast] at H ⊢
  go_wp2_with (first
    | ((with_reducible show wpList _ _ _ (⟨_, .load 25 _, _, _, _, _⟩ :: _) _ _); refine mem_load (i := 0) H (by first | exact wanted_none rfl | exact wanted_some rfl rfl rfl rfl) (by exact rfl) (by exact rfl) (by exact rfl) Try.underlying25 rfl (by exact tbInfo) ?_)
    | ((with_reducible show wpList _ _ _ (⟨_, .store 25 _ _, _, _, _, _⟩ :: _) _ _); refine mem_store (i := 1) H (by first | exact wanted_none rfl | exact wanted_some rfl rfl rfl rfl) (by exact rfl) (by exact rfl) (by exact rfl) (by exact rfl) (by exact tbInfo) (by exact rfl) (by exact rfl) ?_; intro w2 H2; clear H; have H := H2; clear H2; simp only [List.cons_append, List.nil_append, List.set_cons_zero, List.set_cons_succ, List.setIfInBounds_toArray] at H))
  refine ret_held (H.at 1 rfl) rfl rfl Try.underlying25 rfl tbInfo ?_
  exact ⟨rfl, H.below⟩
set_option maxRecDepth 100000 in
set_option maxHeartbeats 1000000 in
theorem has_p (A : Option Addr) (n c : Nat) (xs : List Int) (x : Int) (w : World) (hn : n ≤ 4096) (hA : Lies w A n (ints xs)) (hc : n ≤ c) :
    Calls Try.prog 29 #[.slice A n c, .int .i64 x] w fun e w' => e = .returned (.bool (decide (x ∈ xs))) ∧ w = w' := by
  have HA := Lib.hid hA
  have hl0 : xs.length = n := by have := hA.1; simpa [ints] using this
  have HL := Lib.hid hl0
  clear hA hl0
  go_enter Try.func29, Try.ntmps29
  go_wp2
  go_loopw [5] (fun i wr => ∃ k : Nat, k ≤ n ∧ i = .int .i64 k ∧ (∀ y, y ∈ xs.take k → y ≠ x) ∧ wr = w) (fun i _ => n - (intOf i).toNat)
  case atStart => exact ⟨0, Nat.zero_le _, rfl, (fun y hy => by simp at hy), rfl⟩
  case round =>
    obtain ⟨k, hk, rfl, ha, rfl⟩ := hrel
    have HE := Lib.hid ha
    clear ha
    by_cases hlt : k < n
    · obtain ⟨g, rfl, _, hg⟩ := HA.out.2 (by omega)
      have hl : k < xs.length := by have := HL.out; omega
      obtain ⟨y, hy⟩ : ∃ y, xs[k]? = some y := ⟨xs[k], List.getElem?_eq_getElem hl⟩
      have h1 : wr.cell? ⟨g, k, none⟩ = some (.int .i64 y) := by rw [hg k hlt]; simp [ints, hy]
      have HK := Lib.hid hy
      clear hg hl hy
      by_cases hx : y = x
      · have t1 : (y == x) = true := by simpa using hx
        have hm : decide (x ∈ xs) = true := decide_eq_true (by rw [← hx]; exact List.mem_of_getElem? HK.out)
        have HM := Lib.hid hm
        clear hm hx
        go_wp2
        go_ret
        exact ⟨by rw [HM.out]; rfl, rfl⟩
      · have t1 : (y == x) = false := by simpa using hx
        have HX := Lib.hid hx
        clear hx
        go_wp2
        go_roundw
        case rel =>
          refine ⟨k + 1, by omega, by go_num, fun z hz => ?_, by first | rfl | trivial⟩
          rw [List.take_add_one, HK.out] at hz
          rcases List.mem_append.1 hz with h | h
          · exact HE.out z h
          · simp at h
            rw [h]
            exact HX.out
        case measure => simp [intOf]; omega
    · have hm : decide (x ∈ xs) = false := decide_eq_false (fun h => HE.out x (by rw [List.take_of_length_le (by have := HL.out; omega)]; exact h) rfl)
      have HM := Lib.hid hm
      clear hm
      go_wp2
      go_ret
      exact ⟨by rw [HM.out]; rfl, rfl⟩
set_option maxRecDepth 100000 in
set_option maxHeartbeats 2000000 in
theorem same_t (A1 A2 A3 A4 : Option Addr) (c1 c2 c3 c4 : Nat) (t : TB) (h20 : t.cl.length ≤ 100 ∧ t.sp.length ≤ 100) (w : World) (ht : TbAt w.heap.size w A1 A2 c1 c2 t) (hs : TbAt w.heap.size w A3 A4 c3 c4 t) : Calls Try.prog 26 #[.agg (tbC A1 A2 c1 c2 t), .agg (tbC A3 A4 c3 c4 t)] w fun e w' => e = .returned (.bool true) ∧ Below w.heap.size w w' := by
  have H := Mem.start w
  have T := Lib.hid ht
  have S := Lib.hid hs
  have l1 := ht.l1
  have l2 := ht.l2
  have l3 := hs.l1
  have l4 := hs.l2
  clear ht hs
  unfold tbC
  obtain ⟨n1, h1⟩ : ∃ n, t.cl.length = n := ⟨_, rfl⟩
  obtain ⟨n2, h2⟩ : ∃ n, t.sp.length = n := ⟨_, rfl⟩
  rw [h1] at l1 l3
  rw [h2] at l2 l4
  rw [h1, h2] at h20
  rw [h1, h2]
  have HL := Lib.hid (And.intro h1 h2)
  clear h1 h2
  go_enter Try.func26, Try.ntmps26
  go_upto_region 1 with (first
    | ((with_reducible show wpList _ _ _ _ _ (World.alloc _ (.cells _ _))); refine mem_newb (l := []) H ?_; intro ba w3 hbk H2; try rw [← hbk]; clear hbk H; have H := H2; clear H2; simp only [List.cons_append, List.nil_append, List.set_cons_zero, List.set_cons_succ, List.setIfInBounds_toArray] at H)
    | ((with_reducible show wpList _ _ _ _ _ (World.alloc _ (.cells _ _))); refine mem_newb (l := [_]) H ?_; intro bb w3 hbk H2; try rw [← hbk]; clear hbk H; have H := H2; clear H2; simp only [List.cons_append, List.nil_append, List.set_cons_zero, List.set_cons_succ, List.setIfInBounds_toArray] at H))
  go_wp2_with (first
    | ((with_reducible show wpList _ _ _ (⟨_, .load _ _, _, _, _, _⟩ :: _) _ _); refine mem_loadf (i := 0) H (by first | exact wanted_none rfl | exact wanted_some rfl rfl rfl rfl) (by exact rfl) (by exact rfl) (by exact rfl) (by first | exact Try.underlying3 | exact Try.underlying22 | exact Try.underlying23) rfl (by exact rfl) ?_)
    | ((with_reducible show wpList _ _ _ (⟨_, .load _ _, _, _, _, _⟩ :: _) _ _); refine mem_loadf (i := 1) H (by first | exact wanted_none rfl | exact wanted_some rfl rfl rfl rfl) (by exact rfl) (by exact rfl) (by exact rfl) (by first | exact Try.underlying3 | exact Try.underlying22 | exact Try.underlying23) rfl (by exact rfl) ?_))
  go_loopw [5] (fun i wr => ∃ k : Nat, k ≤ n1 ∧ i = .int .i64 k ∧ Mem w wr [(ba, 25, #[.int .i64 t.q, .slice A1 n1 c1, .slice A2 n2 c2]), (bb, 25, #[.int .i64 t.q, .slice A3 n1 c3, .slice A4 n2 c4])]) (fun i _ => n1 - (intOf i).toNat)
  case atStart => exact ⟨0, Nat.zero_le _, rfl, H⟩
  case round =>
    clear H
    obtain ⟨k, hk, rfl, H⟩ := hrel
    by_cases hlt : k < n1
    · obtain ⟨x, hx⟩ : ∃ x, t.cl[k]? = some x := ⟨t.cl[k]'(by have := HL.out.1; omega), List.getElem?_eq_getElem _⟩
      obtain ⟨g1, o1, rfl, hg1, p1⟩ := (T.out.mem H).cl k _ hx
      obtain ⟨g3, o3, rfl, hg3, p3⟩ := (S.out.mem H).cl k _ hx
      have q1 : wr.cell? ⟨ba, 1, none⟩ = some (.slice (some ⟨g1, o1, none⟩) n1 c1) := (H.at 0 rfl).cell 1
      have q3 : wr.cell? ⟨bb, 1, none⟩ = some (.slice (some ⟨g3, o3, none⟩) n1 c3) := (H.at 1 rfl).cell 1
      clear hx
      go_wp2
      go_quiet (fail)
      go_wp2
      go_roundw
      case rel => exact ⟨k + 1, by omega, by go_num, H.drewN _⟩
      case measure => simp [intOf]; omega
    · go_wp2_with (first
        | ((with_reducible show wpList _ _ _ (⟨_, .load _ _, _, _, _, _⟩ :: _) _ _); refine mem_loadf (i := 0) H (by first | exact wanted_none rfl | exact wanted_some rfl rfl rfl rfl) (by exact rfl) (by exact rfl) (by exact rfl) (by first | exact Try.underlying3 | exact Try.underlying22 | exact Try.underlying23) rfl (by exact rfl) ?_)
        | ((with_reducible show wpList _ _ _ (⟨_, .load _ _, _, _, _, _⟩ :: _) _ _); refine mem_loadf (i := 1) H (by first | exact wanted_none rfl | exact wanted_some rfl rfl rfl rfl) (by exact rfl) (by exact rfl) (by exact rfl) (by first | exact Try.underlying3 | exact Try.underlying22 | exact Try.underlying23) rfl (by exact rfl) ?_))
      go_loopw [6] (fun i wr => ∃ k : Nat, k ≤ n2 ∧ i = .int .i64 k ∧ Mem w wr [(ba, 25, #[.int .i64 t.q, .slice A1 n1 c1, .slice A2 n2 c2]), (bb, 25, #[.int .i64 t.q, .slice A3 n1 c3, .slice A4 n2 c4])]) (fun i _ => n2 - (intOf i).toNat)
      case atStart => exact ⟨0, Nat.zero_le _, rfl, H⟩
      case round =>
        clear H
        obtain ⟨k, hk, rfl, H⟩ := hrel
        by_cases hlt : k < n2
        · obtain ⟨s, hx⟩ : ∃ x, t.sp[k]? = some x := ⟨t.sp[k]'(by have := HL.out.2; omega), List.getElem?_eq_getElem _⟩
          obtain ⟨g2, o2, rfl, hg2, p2, p2'⟩ := (T.out.mem H).sp k _ hx
          obtain ⟨g4, o4, rfl, hg4, p4, p4'⟩ := (S.out.mem H).sp k _ hx
          have q2 : wr.cell? ⟨ba, 2, none⟩ = some (.slice (some ⟨g2, o2, none⟩) n2 c2) := (H.at 0 rfl).cell 2
          have q4 : wr.cell? ⟨bb, 2, none⟩ = some (.slice (some ⟨g4, o4, none⟩) n2 c4) := (H.at 1 rfl).cell 2
          have hEq := fun w => sp_eq s s w
          rw [decide_eq_true rfl] at hEq
          clear hx
          go_wp2
          go_quiet (fail)
          go_wp2
          go_roundw
          case rel => exact ⟨k + 1, by omega, by go_num, H.drewN _⟩
          case measure => simp [intOf]; omega
        · go_wp2_with (first
            | ((with_reducible show wpList _ _ _ (⟨_, .load _ _, _, _, _, _⟩ :: _) _ _); refine mem_loadf (i := 0) H (by first | exact wanted_none rfl | exact wanted_some rfl rfl rfl rfl) (by exact rfl) (by exact rfl) (by exact rfl) (by first | exact Try.underlying3 | exact Try.underlying22 | exact Try.underlying23) rfl (by exact rfl) ?_)
            | ((with_reducible show wpList _ _ _ (⟨_, .load _ _, _, _, _, _⟩ :: _) _ _); refine mem_loadf (i := 1) H (by first | exact wanted_none rfl | exact wanted_some rfl rfl rfl rfl) (by exact rfl) (by exact rfl) (by exact rfl) (by first | exact Try.underlying3 | exact Try.underlying22 | exact Try.underlying23) rfl (by exact rfl) ?_))
          go_ret
          exact ⟨rfl, H.below⟩
end Go.Proofs.Ytoofmklknffhpaa
