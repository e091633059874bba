/-
  The program's Moved. Conditions: the tables lie where their values say.
-/
import Derived.Test.YtoofmklknffhpaaTablePF
namespace Go.Proofs.Ytoofmklknffhpaa
set_option linter.unusedSimpArgs false
set_option linter.unusedVariables false
open Go.ChangeShapes Go.WideShapes Go.ChangeAt Go.RowKit Go.Shelf

set_option maxRecDepth 100000 in
set_option maxHeartbeats 2000000 in
theorem allTab_p (bs : Nat) (A1 A2 A3 A4 : Option Addr) (c1 c2 c3 c4 : Nat) (a b : TB) (hf : Few a) (hg : Few b) (w : World) (gx : Held w bs 25 #[.int .i64 a.q, .slice A1 a.cl.length c1, .slice A2 a.sp.length c2, .int .i64 b.q, .slice A3 b.cl.length c3, .slice A4 b.sp.length c4]) (ht : TbAt w.heap.size w A1 A2 c1 c2 a) (hs : TbAt w.heap.size w A3 A4 c3 c4 b) :
    Calls Try.prog 37 #[.func (.func 15) #[] #[], .slice (some ⟨bs, 0, none⟩) 2 2] w fun e w' => e = .returned (.bool (a.right && b.right)) ∧ Below w.heap.size w w' := by
  have H := Mem.start w
  have T := Lib.hid ht
  have S := Lib.hid hs
  have hbs := gx.lt
  clear ht hs
  go_enter Try.func37, Try.ntmps37
  go_wp2
  go_loopw [9] (fun i wr => ∃ k : Nat, k ≤ 2 ∧ i = .int .i64 k ∧ (1 ≤ k → a.right = true) ∧ (2 ≤ k → b.right = true) ∧ Mem w wr []) (fun i _ => 2 - (intOf i).toNat)
  case atStart => exact ⟨0, Nat.zero_le _, rfl, (fun h => absurd h (by omega)), (fun h => absurd h (by omega)), H⟩
  case round =>
    clear H
    obtain ⟨k, hk, rfl, ha, hb, H⟩ := hrel
    by_cases e0 : k = 0
    · subst e0
      have q0 : wr.cell? ⟨bs, 0, none⟩ = some (.int .i64 a.q) := (H.old hbs).trans (gx.cell 0)
      have q1 : wr.cell? ⟨bs, 1, none⟩ = some (.slice A1 a.cl.length c1) := (H.old hbs).trans (gx.cell 1)
      have q2 : wr.cell? ⟨bs, 2, none⟩ = some (.slice A2 a.sp.length c2) := (H.old hbs).trans (gx.cell 2)
      have cr := fun w h => right_p A1 A2 c1 c2 a w h hf
      rcases hr : a.right with _ | _
      all_goals rw [hr] at cr
      · have HR := Lib.hid hr
        have HA := Lib.hid ha
        clear hr gx hbs ha
        unfold RightP at cr
        go_wp2_with (first
          | ((with_reducible show wpList _ _ _ _ _ (World.alloc _ (.cells _ _))); refine mem_new H ?_; intro w2 H2; clear H; have H := H2; clear H2; simp only [List.cons_append, List.nil_append, List.set_cons_zero, List.set_cons_succ, List.setIfInBounds_toArray] at H)
          | ((with_reducible show wpList _ _ _ (⟨_, .store 25 _ _, _, _, _, _⟩ :: _) _ _); refine mem_store (i := 0) H (by first | exact wanted_none rfl | exact wanted_some rfl rfl rfl rfl) (by exact rfl) (by exact rfl) (by exact rfl) (by exact rfl) (by exact tbInfo) (by exact rfl) (by exact rfl) ?_; intro w2 H2; clear H; have H := H2; clear H2; simp only [List.cons_append, List.nil_append, List.set_cons_zero, List.set_cons_succ, List.setIfInBounds_toArray] at H)
          | ((with_reducible show wpList _ _ _ (⟨_, .load 25 _, _, _, _, _⟩ :: _) _ _); refine mem_load (i := 0) H (by first | exact wanted_none rfl | exact wanted_some rfl rfl rfl rfl) (by exact rfl) (by exact rfl) (by exact rfl) Try.underlying25 rfl (by exact tbInfo) ?_)
          | (go_at_call 15; with_reducible refine (cr _ (T.out.mem H)).mono ?_; rintro e w2 ⟨rfl, hb⟩; have H2 := H.call hb; clear H hb; have H := H2; clear H2))
        go_ret
        exact ⟨by first | (rw [HR.out, HA.out (by omega)]; rfl) | (rw [HR.out]; rfl), H.below⟩
      · have HR := Lib.hid hr
        have HA := Lib.hid ha
        clear hr gx hbs ha
        unfold RightP at cr
        go_wp2_with (first
          | ((with_reducible show wpList _ _ _ _ _ (World.alloc _ (.cells _ _))); refine mem_new H ?_; intro w2 H2; clear H; have H := H2; clear H2; simp only [List.cons_append, List.nil_append, List.set_cons_zero, List.set_cons_succ, List.setIfInBounds_toArray] at H)
          | ((with_reducible show wpList _ _ _ (⟨_, .store 25 _ _, _, _, _, _⟩ :: _) _ _); refine mem_store (i := 0) H (by first | exact wanted_none rfl | exact wanted_some rfl rfl rfl rfl) (by exact rfl) (by exact rfl) (by exact rfl) (by exact rfl) (by exact tbInfo) (by exact rfl) (by exact rfl) ?_; intro w2 H2; clear H; have H := H2; clear H2; simp only [List.cons_append, List.nil_append, List.set_cons_zero, List.set_cons_succ, List.setIfInBounds_toArray] at H)
          | ((with_reducible show wpList _ _ _ (⟨_, .load 25 _, _, _, _, _⟩ :: _) _ _); refine mem_load (i := 0) H (by first | exact wanted_none rfl | exact wanted_some rfl rfl rfl rfl) (by exact rfl) (by exact rfl) (by exact rfl) Try.underlying25 rfl (by exact tbInfo) ?_)
          | (go_at_call 15; with_reducible refine (cr _ (T.out.mem H)).mono ?_; rintro e w2 ⟨rfl, hb⟩; have H2 := H.call hb; clear H hb; have H := H2; clear H2))
        go_roundw
        case rel => exact ⟨1, by omega, by go_num, (fun _ => by first | trivial | exact HR.out), (fun h => absurd h (by omega)), H.drop 0⟩
        case measure => simp [intOf]
    by_cases e1 : k = 1
    · subst e1
      have q0 : wr.cell? ⟨bs, 3, none⟩ = some (.int .i64 b.q) := (H.old hbs).trans (gx.cell 3)
      have q1 : wr.cell? ⟨bs, 4, none⟩ = some (.slice A3 b.cl.length c3) := (H.old hbs).trans (gx.cell 4)
      have q2 : wr.cell? ⟨bs, 5, none⟩ = some (.slice A4 b.sp.length c4) := (H.old hbs).trans (gx.cell 5)
      have cr := fun w h => right_p A3 A4 c3 c4 b w h hg
      rcases hr : b.right with _ | _
      all_goals rw [hr] at cr
      · have HR := Lib.hid hr
        have HA := Lib.hid ha
        clear hr gx hbs ha
        unfold RightP at cr
        go_wp2_with (first
          | ((with_reducible show wpList _ _ _ _ _ (World.alloc _ (.cells _ _))); refine mem_new H ?_; intro w2 H2; clear H; have H := H2; clear H2; simp only [List.cons_append, List.nil_append, List.set_cons_zero, List.set_cons_succ, List.setIfInBounds_toArray] at H)
          | ((with_reducible show wpList _ _ _ (⟨_, .store 25 _ _, _, _, _, _⟩ :: _) _ _); refine mem_store (i := 0) H (by first | exact wanted_none rfl | exact wanted_some rfl rfl rfl rfl) (by exact rfl) (by exact rfl) (by exact rfl) (by exact rfl) (by exact tbInfo) (by exact rfl) (by exact rfl) ?_; intro w2 H2; clear H; have H := H2; clear H2; simp only [List.cons_append, List.nil_append, List.set_cons_zero, List.set_cons_succ, List.setIfInBounds_toArray] at H)
          | ((with_reducible show wpList _ _ _ (⟨_, .load 25 _, _, _, _, _⟩ :: _) _ _); refine mem_load (i := 0) H (by first | exact wanted_none rfl | exact wanted_some rfl rfl rfl rfl) (by exact rfl) (by exact rfl) (by exact rfl) Try.underlying25 rfl (by exact tbInfo) ?_)
          | (go_at_call 15; with_reducible refine (cr _ (S.out.mem H)).mono ?_; rintro e w2 ⟨rfl, hb⟩; have H2 := H.call hb; clear H hb; have H := H2; clear H2))
        go_ret
        exact ⟨by first | (rw [HR.out, HA.out (by omega)]; rfl) | (rw [HR.out]; rfl), H.below⟩
      · have HR := Lib.hid hr
        have HA := Lib.hid ha
        clear hr gx hbs ha
        unfold RightP at cr
        go_wp2_with (first
          | ((with_reducible show wpList _ _ _ _ _ (World.alloc _ (.cells _ _))); refine mem_new H ?_; intro w2 H2; clear H; have H := H2; clear H2; simp only [List.cons_append, List.nil_append, List.set_cons_zero, List.set_cons_succ, List.setIfInBounds_toArray] at H)
          | ((with_reducible show wpList _ _ _ (⟨_, .store 25 _ _, _, _, _, _⟩ :: _) _ _); refine mem_store (i := 0) H (by first | exact wanted_none rfl | exact wanted_some rfl rfl rfl rfl) (by exact rfl) (by exact rfl) (by exact rfl) (by exact rfl) (by exact tbInfo) (by exact rfl) (by exact rfl) ?_; intro w2 H2; clear H; have H := H2; clear H2; simp only [List.cons_append, List.nil_append, List.set_cons_zero, List.set_cons_succ, List.setIfInBounds_toArray] at H)
          | ((with_reducible show wpList _ _ _ (⟨_, .load 25 _, _, _, _, _⟩ :: _) _ _); refine mem_load (i := 0) H (by first | exact wanted_none rfl | exact wanted_some rfl rfl rfl rfl) (by exact rfl) (by exact rfl) (by exact rfl) Try.underlying25 rfl (by exact tbInfo) ?_)
          | (go_at_call 15; with_reducible refine (cr _ (S.out.mem H)).mono ?_; rintro e w2 ⟨rfl, hb⟩; have H2 := H.call hb; clear H hb; have H := H2; clear H2))
        go_roundw
        case rel => exact ⟨2, by omega, by go_num, (fun _ => HA.out (by omega)), (fun _ => by first | trivial | exact HR.out), H.drop 0⟩
        case measure => simp [intOf]
    obtain rfl : k = 2 := by omega
    have HA := Lib.hid (And.intro (ha (by omega)) (hb (by omega)))
    clear gx hbs ha hb
    go_wp2
    go_ret
    exact ⟨by rw [HA.out.1, HA.out.2]; rfl, H.below⟩
set_option maxRecDepth 100000 in
set_option maxHeartbeats 2000000 in
theorem moved_p (A1 A2 A3 A4 : Option Addr) (c1 c2 c3 c4 : Nat) (a b : TB) (w : World) (ht : TbAt w.heap.size w A1 A2 c1 c2 a) (hs : TbAt w.heap.size w A3 A4 c3 c4 b) (hf : Few a) (hg : Few b) : Calls Try.prog 27 #[.agg (tbC A1 A2 c1 c2 a), .agg (tbC A3 A4 c3 c4 b)] w (GivesInts w (movedL a b) (movedE a b)) := by
  have H := Mem.start w
  have T := Lib.hid ht
  have S := Lib.hid hs
  have ca := fun bs w gx h h' => allTab_p bs A1 A2 A3 A4 c1 c2 c3 c4 a b hf hg w gx h h'
  have l1 := ht.l1
  have l2 := ht.l2
  have l3 := hs.l1
  have l4 := hs.l2
  clear ht hs hf hg
  rcases hr : (a.right && b.right) with _ | _
  · rw [hr] at ca
    have hn : ¬ (a.right = true ∧ b.right = true) := fun h => by
      rw [h.1, h.2] at hr
      cases hr
    have e1 : movedL a b = [] := if_neg hn
    have e2 : movedE a b = 80 := if_neg hn
    rw [e1, e2]
    clear hr e1 e2 hn
    unfold tbC at *
    go_enter Try.func27, Try.ntmps27
    go_upto_region 1 with (first
    | ((with_reducible show wpList _ _ _ _ _ (World.alloc _ (.cells _ _))); refine mem_newb (l := []) H ?_; intro ba w3 hbk H2; try rw [← hbk]; clear hbk H; have H := H2; clear H2; simp only [List.cons_append, List.nil_append, List.set_cons_zero, List.set_cons_succ, List.setIfInBounds_toArray] at H)
    | ((with_reducible show wpList _ _ _ _ _ (World.alloc _ (.cells _ _))); refine mem_newb (l := [_]) H ?_; intro bb w3 hbk H2; try rw [← hbk]; clear hbk H; have H := H2; clear H2; simp only [List.cons_append, List.nil_append, List.set_cons_zero, List.set_cons_succ, List.setIfInBounds_toArray] at H))
    go_wp2_with (first
    | go_skip
    | ((with_reducible show wpList _ _ _ (⟨_, .load 25 _, _, _, _, _⟩ :: _) _ _); refine mem_load (i := 0) H (by first | exact wanted_none rfl | exact wanted_some rfl rfl rfl rfl) (by exact rfl) (by exact rfl) (by exact rfl) Try.underlying25 rfl (by exact tbInfo) ?_)
    | ((with_reducible show wpList _ _ _ (⟨_, .load 25 _, _, _, _, _⟩ :: _) _ _); refine mem_load (i := 1) H (by first | exact wanted_none rfl | exact wanted_some rfl rfl rfl rfl) (by exact rfl) (by exact rfl) (by exact rfl) Try.underlying25 rfl (by exact tbInfo) ?_)
    | ((with_reducible show wpList _ _ _ _ _ (World.alloc _ (.cells _ _))); refine mem_new H ?_; intro w2 H2; clear H; have H := H2; clear H2; simp only [List.cons_append, List.nil_append, List.set_cons_zero, List.set_cons_succ, List.setIfInBounds_toArray] at H)
    | (go_at_call 37; with_reducible refine (ca _ _ (H.at 2 rfl) (T.out.mem H) (S.out.mem H)).mono ?_; rintro e w2 ⟨rfl, hb⟩; have H2 := H.call hb; clear H hb; have H := H2; clear H2))
    refine bodyPost_ret (results_two rfl _ _ _) rfl ?_
    exact ⟨_, rfl, World.ownsRow_nil _ _ _ _, H.below⟩
  rw [hr] at ca
  have hr2 : a.right = true ∧ b.right = true := by simpa using hr
  have HK := Lib.hid (And.intro ((TB.right_iff a).1 hr2.1) ((TB.right_iff b).1 hr2.2))
  have e1 : movedL a b = movedTo a b 16 := if_pos hr2
  have e2 : movedE a b = 0 := if_pos hr2
  rw [e1, e2]
  obtain ⟨i0, hi, hz0, hz1, hz2⟩ := infoInt_parts
  clear hr hr2 e1 e2
  unfold tbC at *
  go_enter Try.func27, Try.ntmps27
  go_upto_region 1 with (first
    | ((with_reducible show wpList _ _ _ _ _ (World.alloc _ (.cells _ _))); refine mem_newb (l := []) H ?_; intro ba w3 hbk H2; try rw [← hbk]; clear hbk H; have H := H2; clear H2; simp only [List.cons_append, List.nil_append, List.set_cons_zero, List.set_cons_succ, List.setIfInBounds_toArray] at H)
    | ((with_reducible show wpList _ _ _ _ _ (World.alloc _ (.cells _ _))); refine mem_newb (l := [_]) H ?_; intro bb w3 hbk H2; try rw [← hbk]; clear hbk H; have H := H2; clear H2; simp only [List.cons_append, List.nil_append, List.set_cons_zero, List.set_cons_succ, List.setIfInBounds_toArray] at H))
  go_wp2_with (first
    | go_skip
    | ((with_reducible show wpList _ _ _ (⟨_, .load 25 _, _, _, _, _⟩ :: _) _ _); refine mem_load (i := 0) H (by first | exact wanted_none rfl | exact wanted_some rfl rfl rfl rfl) (by exact rfl) (by exact rfl) (by exact rfl) Try.underlying25 rfl (by exact tbInfo) ?_)
    | ((with_reducible show wpList _ _ _ (⟨_, .load 25 _, _, _, _, _⟩ :: _) _ _); refine mem_load (i := 1) H (by first | exact wanted_none rfl | exact wanted_some rfl rfl rfl rfl) (by exact rfl) (by exact rfl) (by exact rfl) Try.underlying25 rfl (by exact tbInfo) ?_)
    | ((with_reducible show wpList _ _ _ _ _ (World.alloc _ (.cells _ _))); refine mem_new H ?_; intro w2 H2; clear H; have H := H2; clear H2; simp only [List.cons_append, List.nil_append, List.set_cons_zero, List.set_cons_succ, List.setIfInBounds_toArray] at H)
    | (go_at_call 37; with_reducible refine (ca _ _ (H.at 2 rfl) (T.out.mem H) (S.out.mem H)).mono ?_; rintro e w2 ⟨rfl, hb⟩; have H2 := H.call hb; clear H hb; have H := H2; clear H2))
  have H3 := H.drop 2
  clear H
  have H := H3
  clear H3
  simp only [List.take_succ_cons, List.take_zero] at H
  have hba := (H.at 0 rfl).lt
  have hbb := (H.at 1 rfl).lt
  have hsz := H.below.size
  obtain ⟨B, hBq⟩ : ∃ B, w2.heap.size = B := ⟨_, rfl⟩
  have R : w2.ownsRow B 3 1 (.slice none 0 0) (movedTo a b 0).length (ints (movedTo a b 0)) := World.ownsRow_nil w2 B 3 1
  have hB2 : B ≤ w2.heap.size := by omega
  have hbB : ba < B ∧ bb < B ∧ w.heap.size ≤ B := by omega
  clear hBq hba hbb hsz ca
  go_loopw [6, 13] (fun v i wr => ∃ k : Nat, k ≤ 16 ∧ i = .int .i64 k ∧ wr.ownsRow B 3 1 v (movedTo a b k).length (ints (movedTo a b k)) ∧ B ≤ wr.heap.size ∧ Mem w wr [(ba, 25, #[.int .i64 a.q, .slice A1 a.cl.length c1, .slice A2 a.sp.length c2]), (bb, 25, #[.int .i64 b.q, .slice A3 b.cl.length c3, .slice A4 b.sp.length c4])]) (fun _ i _ => 16 - (intOf i).toNat)
  case atStart => exact ⟨0, Nat.zero_le _, rfl, R, hB2, H⟩
  case round =>
    clear H R hB2
    obtain ⟨k, hk, rfl, R, hB2, H⟩ := hrel
    by_cases hlt : k < 16
    · have hLk := movedTo_len a b k
      obtain ⟨ia, xa, na, sa⟩ := HK.out.1.spanAt hlt
      obtain ⟨ib, xb, nb, sb⟩ := HK.out.2.spanAt hlt
      have ma := HK.out.1.m
      have mb := HK.out.2.m
      obtain ⟨g1, o1, rfl, hg1, p1⟩ := (T.out.mem H).cl k _ xa
      obtain ⟨g2, o2, rfl, hg2, p2, p2'⟩ := (T.out.mem H).sp ia _ sa
      obtain ⟨g3, o3, rfl, hg3, p3⟩ := (S.out.mem H).cl k _ xb
      obtain ⟨g4, o4, rfl, hg4, p4, p4'⟩ := (S.out.mem H).sp ib _ sb
      have q1 : wr.cell? ⟨ba, 1, none⟩ = some (.slice (some ⟨g1, o1, none⟩) a.cl.length c1) := (H.at 0 rfl).cell 1
      have q2 : wr.cell? ⟨ba, 2, none⟩ = some (.slice (some ⟨g2, o2, none⟩) a.sp.length c2) := (H.at 0 rfl).cell 2
      have q3 : wr.cell? ⟨bb, 1, none⟩ = some (.slice (some ⟨g3, o3, none⟩) b.cl.length c3) := (H.at 1 rfl).cell 1
      have q4 : wr.cell? ⟨bb, 2, none⟩ = some (.slice (some ⟨g4, o4, none⟩) b.sp.length c4) := (H.at 1 rfl).cell 2
      have hka : (k : Int) < (a.cl.length : Int) := by omega
      have hkb : (k : Int) < (b.cl.length : Int) := by omega
      have hEq := fun w => sp_eq (a.spAt k) (b.spAt k) w
      have HD := Lib.hid (And.intro (movedTo_yes (a := a) (b := b) (k := k)) (movedTo_no (a := a) (b := b) (k := k)))
      clear xa xb sa sb ma mb
      obtain ⟨y, hy⟩ : ∃ y, decide (a.spAt k = b.spAt k) = y := ⟨_, rfl⟩
      rw [hy] at hEq
      have HY := Lib.hid hy
      clear hy
      cases y
      · have HI := Lib.hid (HD.out.1 HY.out)
        go_wp2
        go_quiet (fail)
        go_wp2_with (first
          | (at_builtin; refine wpList_append_own _ rfl _ _ 22 rfl B 3 i0 (.int .i64 0) 1 8 Try.underlying22 hi hz0 hz1 hz2 rfl (by decide) _ _ _ rfl ((row_call R (below_draws wr nq)).alloc _) ⟨wr.heap.size, 0, none⟩ 1 1 [.int .i64 (k : Int)] rfl rfl (cell_one_new _ _ _) (by simp [Value.oneCell']) (by simp [maxLen]; omega) (by omega) (by simp; omega) ?_; intro v' w1 hown' hgrow _))
        have hrl := row_lt R
        have H4 : Mem w w1 _ := ((H.drewN _).skip _).grown hgrow (fun r hr => (hrl r hr).1) (fun p hp => by
          simp only [List.mem_cons, List.not_mem_nil, or_false] at hp
          rcases hp with rfl | rfl
          · exact hbB.1
          · exact hbB.2.1) hbB.2.2
        have hB3 : B ≤ w1.heap.size := by have := hgrow.size; simp at this; omega
        go_roundw
        case rel => exact ⟨k + 1, by omega, by go_num, by rw [HI.out, List.length_append]; simpa [ints] using hown', hB3, H4⟩
        case measure => simp [intOf]; omega
      · have HI := Lib.hid (HD.out.2 HY.out)
        go_wp2
        go_quiet (fail)
        go_wp2
        go_roundw
        case rel => exact ⟨k + 1, by omega, by go_num, by rw [HI.out]; exact row_call R (below_draws wr _), hB2, H.drewN _⟩
        case measure => simp [intOf]; omega
    · obtain rfl : k = 16 := by omega
      go_wp2
      refine bodyPost_ret (results_two rfl _ _ _) rfl ?_
      exact ⟨_, rfl, row_base R hbB.2.2, H.below⟩
end Go.Proofs.Ytoofmklknffhpaa
