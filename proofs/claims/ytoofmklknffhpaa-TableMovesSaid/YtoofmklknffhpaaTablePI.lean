/-
  The program's Even, of numbers that may be. Conditions: up to 64 queues, up to 16 classes, and no more of them than queues.
-/
import Derived.Test.YtoofmklknffhpaaTablePH
namespace Go.Proofs.Ytoofmklknffhpaa
set_option linter.unusedSimpArgs false
set_option linter.unusedVariables false
open Go.ChangeShapes Go.WideShapes Go.ChangeAt Go.RowKit Go.Shelf

set_option maxRecDepth 100000 in
set_option maxHeartbeats 2000000 in
theorem evenP_yesA (Q C : Nat) (hQ : 1 ≤ Q ∧ Q ≤ 64) (hC : 1 ≤ C ∧ C ≤ 16 ∧ C ≤ Q) (hm : (Q : Int) < 16) (w : World) : Calls Try.prog 24 #[.int .i64 (Q : Int), .int .i64 (C : Int)] w fun e w' =>
    ∃ A1 A2 c1 c2, e = .returned (.tuple #[.agg (tbC A1 A2 c1 c2 (evenT Q C)), .int .i64 0]) ∧ TbAt w'.heap.size w' A1 A2 c1 c2 (evenT Q C) ∧ Below w.heap.size w w' := by
  have H := Mem.start w
  have k1 := fun w => between_v 1 64 (Q : Int) _ (two_yes (by omega) (by omega)) w
  have k2 := fun w => between_v 1 (Q : Int) (C : Int) _ (two_yes (by omega) (by omega)) w
  obtain ⟨i0, hi, hz0, hz1, hz2⟩ := infoSp_parts
  obtain ⟨i1, gi, gz0, gz1, gz2⟩ := infoInt_parts
  go_enter Try.func24, Try.ntmps24
  go_upto_region 1 with (first
    | ((with_reducible show wpList _ _ _ _ _ (World.alloc _ (.cells _ _))); refine mem_newb H ?_; intro br w3 hbk H2; try rw [← hbk]; clear hbk H; have H := H2; clear H2; simp only [List.cons_append, List.nil_append, List.set_cons_zero, List.set_cons_succ, List.setIfInBounds_toArray] at H))
  go_upto_region 4 with (first
    | (go_at_call 32; with_reducible refine (k1 _).mono ?_; rintro e w2 ⟨rfl, hb⟩; have H2 := H.call hb; clear H hb; have H := H2; clear H2)
    | (go_at_call 32; with_reducible refine (k2 _).mono ?_; rintro e w2 ⟨rfl, hb⟩; have H2 := H.call hb; clear H hb; have H := H2; clear H2)
    | ((with_reducible show wpList _ _ _ _ _ (World.alloc _ (.cells _ _))); refine mem_newb (l := [_]) H ?_; intro bt w3 hbk H2; try rw [← hbk]; clear hbk H; have H := H2; clear H2; simp only [List.cons_append, List.nil_append, List.set_cons_zero, List.set_cons_succ, List.setIfInBounds_toArray] at H)
    | ((with_reducible show wpList _ _ _ (⟨_, .store 25 _ _, _, _, _, _⟩ :: _) _ _); refine mem_store (i := 1) H (by first | exact wanted_none rfl | exact wanted_some rfl rfl rfl rfl) (by exact rfl) (by exact rfl) (by exact rfl) (by exact rfl) (by exact tbInfo) (by exact rfl) (by exact rfl) ?_; intro w2 H2; clear H; have H := H2; clear H2; simp only [List.cons_append, List.nil_append, List.set_cons_zero, List.set_cons_succ, List.setIfInBounds_toArray] at H))
  clear k1 k2
  go_wp2_with fail
  have hr0 := (H.at 0 rfl).lt
  have hr1 := (H.at 1 rfl).lt
  have hsz := H.below.size
  obtain ⟨B, hBq⟩ : ∃ B, w2.heap.size = B := ⟨_, rfl⟩
  have R : w2.ownsRow B 36 2 (.slice none 0 0) 0 (spCs (evenS Q C 0)) := World.ownsRow_nil w2 B 36 2
  have hB2 : B ≤ w2.heap.size := by omega
  have hbB : br < B ∧ bt < B ∧ w.heap.size ≤ B := by omega
  have hinB : ∀ (a c d : Array Value) (p : Nat × TypeId × Array Value), p ∈ [(br, 25, a), (bt, 25, c)] → p.1 < B := fun a c d p hp => by
    simp only [List.mem_cons, List.not_mem_nil, or_false] at hp
    rcases hp with rfl | rfl
    · exact hbB.1
    · exact hbB.2.1
  have HI := Lib.hid hinB
  clear hBq hr0 hr1 hsz hinB
  obtain ⟨D, hD⟩ : ∃ D, Q / C = D := ⟨_, rfl⟩
  obtain ⟨M, hM⟩ : ∃ M, Q % C = M := ⟨_, rfl⟩
  have d1 : (Q : Int).tdiv (C : Int) = D := by rw [Int.tdiv_eq_ediv_of_nonneg (by omega), ← hD, Int.natCast_ediv]
  have d2 : (Q : Int).tmod (C : Int) = M := by rw [Int.tmod_eq_emod_of_nonneg (by omega), ← hM, Int.natCast_emod]
  have hD64 : D ≤ 64 := by rw [← hD]; exact Nat.le_trans (Nat.div_le_self _ _) hQ.2
  have HC := Lib.hid (show ∀ k, cntN Q C k = D + (if k < M then 1 else 0) from fun k => by rw [cntN, hD, hM])
  clear hD hM
  go_loopw [7, 25] (fun off i wr => ∃ k : Nat, k ≤ C ∧ i = .int .i64 k ∧ off = .int .i64 (offN Q C k : Int) ∧ ∃ A c, wr.ownsRow B 36 2 (.slice A k c) k (spCs (evenS Q C k)) ∧ B ≤ wr.heap.size ∧ Mem w wr [(br, 25, noT), (bt, 25, #[.int .i64 (Q : Int), .slice none 0 0, .slice A k c])]) (fun _ i _ => C - (intOf i).toNat)
  case atStart => exact ⟨0, Nat.zero_le _, rfl, by rw [offN_zero]; rfl, none, 0, R, hB2, H⟩
  case round =>
    clear H R hB2
    obtain ⟨k, hk, rfl, rfl, A, c, R, hB2, H⟩ := hrel
    by_cases hlt : k < C
    · have ho := offN_le (Q := Q) hC.1 hlt
      obtain ⟨O, hO⟩ : ∃ O, offN Q C k = O := ⟨_, rfl⟩
      have hcn := HC.out k
      by_cases hkM : k < M
      · have t1 : decide ((k : Int) < (M : Int)) = true := decide_eq_true (by omega)
        rw [if_pos hkM] at hcn
        have HS := Lib.hid (And.intro (evenS_succ Q C k) (And.intro (offN_succ Q C k) (And.intro hcn hO)))
        rw [hcn, hO] at ho
        simp only [hO]
        clear hcn hO
        go_wp2_with (first
          | ((with_reducible show wpList _ _ _ (⟨_, .load _ _, _, _, _, _⟩ :: _) _ _); refine mem_loadf (i := 1) H (by first | exact wanted_none rfl | exact wanted_some rfl rfl rfl rfl) (by exact rfl) (by exact rfl) (by exact rfl) (by first | exact Try.underlying3 | exact Try.underlying22 | exact Try.underlying23) rfl (by exact rfl) ?_)
          | (at_builtin; refine wpList_append_own _ rfl _ _ 23 rfl B 36 i0 _ 2 16 Try.underlying23 hi hz0 hz1 hz2 rfl (by decide) _ _ _ rfl (R.alloc _) ⟨wr.heap.size, 0, none⟩ 1 1 [.int .i64 (O : Int), .int .i64 ((D : Int) + 1)] rfl rfl (fun j u hu => by rw [addr_add0]; exact ((Held.new wr 36 #[.int .i64 (O : Int), .int .i64 ((D : Int) + 1)]).cell j).trans (by simpa using hu)) (by simp [Value.oneCell']) (by simp [maxLen]; omega) (by omega) (by simp; omega) ?_; intro v' w1 hown' hgrow _; have hrl := row_lt R; have H4 := (H.skip _).grown hgrow (fun r hr => (hrl r hr).1) (HI.out _ _ #[]) hbB.2.2; obtain ⟨A', c', rfl⟩ := ownsRow_len hown'; have hB4 : B ≤ w1.heap.size := (by have := hgrow.size; simp at this; omega); clear H hrl; have H := H4; clear H4)
          | ((with_reducible show wpList _ _ _ (⟨_, .store _ _ _, _, _, _, _⟩ :: _) _ _); refine mem_storefF (i := 1) H (by first | exact wanted_none rfl | exact wanted_some rfl rfl rfl rfl) (by exact rfl) (by exact rfl) (by exact rfl) (by exact rfl) (by first | exact clInfo | exact ssInfo) (by exact rfl) (by exact rfl) ?_; intro w7 H7 F7; have R7 := ownsRow_foot hown' F7 (fun j hj e => by have := hbB.2.1; omega); have hB7 : B ≤ w7.heap.size := (by have := F7.size; omega); clear H; have H := H7; clear H7; simp only [List.cons_append, List.nil_append, List.set_cons_zero, List.set_cons_succ, List.setIfInBounds_toArray] at H))
        go_roundw
        case rel =>
          obtain ⟨s1, s2, s3, s4⟩ := HS.out
          refine ⟨k + 1, by omega, by go_num, by rw [s2, s3, s4]; go_num, _, _, ?_, hB7, H⟩
          rw [s1, s3, s4, spCs_append]
          exact R7
        case measure => simp [intOf]; omega
      · have t1 : decide ((k : Int) < (M : Int)) = false := decide_eq_false (by omega)
        rw [if_neg hkM] at hcn
        have HS := Lib.hid (And.intro (evenS_succ Q C k) (And.intro (offN_succ Q C k) (And.intro hcn hO)))
        rw [hcn, hO] at ho
        simp only [hO]
        clear hcn hO
        go_wp2_with (first
          | ((with_reducible show wpList _ _ _ (⟨_, .load _ _, _, _, _, _⟩ :: _) _ _); refine mem_loadf (i := 1) H (by first | exact wanted_none rfl | exact wanted_some rfl rfl rfl rfl) (by exact rfl) (by exact rfl) (by exact rfl) (by first | exact Try.underlying3 | exact Try.underlying22 | exact Try.underlying23) rfl (by exact rfl) ?_)
          | (at_builtin; refine wpList_append_own _ rfl _ _ 23 rfl B 36 i0 _ 2 16 Try.underlying23 hi hz0 hz1 hz2 rfl (by decide) _ _ _ rfl (R.alloc _) ⟨wr.heap.size, 0, none⟩ 1 1 [.int .i64 (O : Int), .int .i64 ((D : Int))] rfl rfl (fun j u hu => by rw [addr_add0]; exact ((Held.new wr 36 #[.int .i64 (O : Int), .int .i64 ((D : Int))]).cell j).trans (by simpa using hu)) (by simp [Value.oneCell']) (by simp [maxLen]; omega) (by omega) (by simp; omega) ?_; intro v' w1 hown' hgrow _; have hrl := row_lt R; have H4 := (H.skip _).grown hgrow (fun r hr => (hrl r hr).1) (HI.out _ _ #[]) hbB.2.2; obtain ⟨A', c', rfl⟩ := ownsRow_len hown'; have hB4 : B ≤ w1.heap.size := (by have := hgrow.size; simp at this; omega); clear H hrl; have H := H4; clear H4)
          | ((with_reducible show wpList _ _ _ (⟨_, .store _ _ _, _, _, _, _⟩ :: _) _ _); refine mem_storefF (i := 1) H (by first | exact wanted_none rfl | exact wanted_some rfl rfl rfl rfl) (by exact rfl) (by exact rfl) (by exact rfl) (by exact rfl) (by first | exact clInfo | exact ssInfo) (by exact rfl) (by exact rfl) ?_; intro w7 H7 F7; have R7 := ownsRow_foot hown' F7 (fun j hj e => by have := hbB.2.1; omega); have hB7 : B ≤ w7.heap.size := (by have := F7.size; omega); clear H; have H := H7; clear H7; simp only [List.cons_append, List.nil_append, List.set_cons_zero, List.set_cons_succ, List.setIfInBounds_toArray] at H))
        go_roundw
        case rel =>
          obtain ⟨s1, s2, s3, s4⟩ := HS.out
          refine ⟨k + 1, by omega, by go_num, by rw [s2, s3, s4]; go_num, _, _, ?_, hB7, H⟩
          rw [s1, s3, s4, spCs_append]
          exact R7
        case measure => simp [intOf]; omega
    · obtain rfl : k = C := by omega
      go_wp2
      obtain ⟨B2, hBq⟩ : ∃ B, wr.heap.size = B := ⟨_, rfl⟩
      have hrl := row_lt R
      have hrl2 : ∀ r, (Value.slice A k c).ownBlock = some r → r < B2 := fun r hr => by have := (hrl r hr).2; omega
      have R1 : wr.ownsRow B2 3 1 (.slice none 0 0) 0 (ints (evenC k 0)) := World.ownsRow_nil wr B2 3 1
      have hB3 : B2 ≤ wr.heap.size := by omega
      have hb2 : B ≤ B2 := by omega
      have HR := Lib.hid hrl2
      clear hBq hrl hrl2 hB2
      go_loopw [50] (fun i wr => ∃ j : Nat, j ≤ 16 ∧ i = .int .i64 j ∧ ∃ A1 c1, wr.ownsRow B2 3 1 (.slice A1 j c1) j (ints (evenC k j)) ∧ wr.ownsRow B 36 2 (.slice A k c) k (spCs (evenS Q k k)) ∧ B2 ≤ wr.heap.size ∧ Mem w wr [(br, 25, noT), (bt, 25, #[.int .i64 (Q : Int), .slice A1 j c1, .slice A k c])]) (fun i _ => 16 - (intOf i).toNat)
      case atStart => exact ⟨0, Nat.zero_le _, rfl, none, 0, R1, R, hB3, H⟩
      case round =>
        clear H R R1 hB3
        obtain ⟨j, hj, rfl, A1, c1, R1, R, hB3, H⟩ := hrel
        by_cases hlt : j < 16
        · have d3 : (j : Int).tmod (k : Int) = ((j % k : Nat) : Int) := by rw [Int.tmod_eq_emod_of_nonneg (by omega), Int.natCast_emod]
          have HE := Lib.hid (evenC_succ k j)
          have hx : ((j % k : Nat) : Int) = (j % k : Nat) := rfl
          obtain ⟨X, hX⟩ : ∃ X, j % k = X := ⟨_, rfl⟩
          rw [hX] at d3
          have HX := Lib.hid hX
          clear hx hX d1 d2
          have hk0 : ¬ ((k : Int) = 0) := by omega
          go_wp2
          refine (wpIn_wide (n := 6)).1 (wpIn_region_G (fun wx => Mem w wx [(br, 25, noT), (bt, 25, #[.int .i64 (Q : Int), .slice A1 j c1, .slice A k c])]) 8 9 rfl (by kernel_rfl) fun hcl => ?_)
          have hS := H.drew
          clear H
          refine wpAnyG_pure (i := 0) (v := .pointer (some ⟨bt, 1, none⟩)) rfl rfl (by kernel_rfl) (by kernel_rfl) (by kernel_rfl) (fun _ _ _ h => h) (by decide) ⟨by rfl, fun w _ => (by go_simp; try (first | (simp only [IntKind.wrap_u32]; done) | rfl)), fun _ => rfl⟩ (.inr hS) ?_
          have hc1 := hcl.step (i := 0) (by kernel_rfl)
          clear hcl; have hcl := hc1; clear hc1; simp only [List.getElem_toArray, List.getElem_cons_zero, List.getElem_cons_succ, Act.put, List.setIfInBounds_toArray, List.set_cons_zero, List.set_cons_succ]
          refine wpAnyG_take (i := 1) 1 (v := .slice A1 j c1) rfl rfl (by kernel_rfl) (by kernel_rfl) (by kernel_rfl) (fun _ _ _ h => h) (by kernel_rfl) (by decide) hcl (yields_fld (fun w h => h.at 1 rfl) (by exact rfl) (by exact rfl) (by exact rfl) (by first | exact Try.underlying3 | exact Try.underlying22 | exact Try.underlying23) rfl (by exact rfl)) hS (fun hc1 => ?_)
          clear hcl; have hcl := hc1; clear hc1; simp only [List.getElem_toArray, List.getElem_cons_zero, List.getElem_cons_succ, Act.put, List.setIfInBounds_toArray, List.set_cons_zero, List.set_cons_succ]
          refine wpAnyG_pure (i := 2) (v := .int .i64 (j : Int)) rfl rfl (by kernel_rfl) (by kernel_rfl) (by kernel_rfl) (fun _ _ _ h => h) (by decide) ⟨by rfl, fun w _ => (by go_simp; try (first | (simp only [IntKind.wrap_u32]; done) | rfl)), fun _ => rfl⟩ (.inr hS) ?_
          have hc1 := hcl.step (i := 2) (by kernel_rfl)
          clear hcl; have hcl := hc1; clear hc1; simp only [List.getElem_toArray, List.getElem_cons_zero, List.getElem_cons_succ, Act.put, List.setIfInBounds_toArray, List.set_cons_zero, List.set_cons_succ]
          refine wpAnyG_pure (i := 3) (v := .int .i64 (k : Int)) rfl rfl (by kernel_rfl) (by kernel_rfl) (by kernel_rfl) (fun _ _ _ h => h) (by decide) ⟨by rfl, fun w _ => (by go_simp; try (first | (simp only [IntKind.wrap_u32]; done) | rfl)), fun _ => rfl⟩ (.inr hS) ?_
          have hc1 := hcl.step (i := 3) (by kernel_rfl)
          clear hcl; have hcl := hc1; clear hc1; simp only [List.getElem_toArray, List.getElem_cons_zero, List.getElem_cons_succ, Act.put, List.setIfInBounds_toArray, List.set_cons_zero, List.set_cons_succ]
          refine wpAnyG_pure (i := 4) (v := .int .i64 (X : Int)) rfl rfl (by kernel_rfl) (by kernel_rfl) (by kernel_rfl) (fun _ _ _ h => h) (by decide) ⟨by rfl, fun w _ => (by go_simp; try (first | (simp only [IntKind.wrap_u32]; done) | rfl | omega)), fun _ => rfl⟩ (.inr hS) ?_
          have hc1 := hcl.step (i := 4) (by kernel_rfl)
          clear hcl; have hcl := hc1; clear hc1; simp only [List.getElem_toArray, List.getElem_cons_zero, List.getElem_cons_succ, Act.put, List.setIfInBounds_toArray, List.set_cons_zero, List.set_cons_succ]
          refine wpAnyG_one (i := 5) (by kernel_rfl) rfl (fun K hK => ?_)
          go_simp
          refine hK _ _ (.inr (hS.skip _)) ?_
          clear hK K
          have hc1 := hcl.step (i := 5) (by kernel_rfl)
          clear hcl
          have hcl := hc1
          clear hc1
          have hrow := (row_call R1 (below_drew1 wr)).alloc (.cells #[.int .i64 (X : Int)] 3)
          have hrl := row_lt hrow
          refine wpAnyG_one (i := 6) (by kernel_rfl) rfl (fun K hK => ?_)
          rw [if_pos (by exact rfl)]
          refine wpIn_append_own (.tmp 54) (.tmp 58) 22 rfl B2 3 i1 (.int .i64 0) 1 8 Try.underlying22 gi gz0 gz1 gz2 rfl (by decide) (.slice A1 j c1) j (ints (evenC k j)) (by exact rfl) hrow ⟨wr.drew.heap.size, 0, none⟩ 1 1 [.int .i64 (X : Int)] (by exact rfl) rfl (cell_one_new _ _ _) (by simp [Value.oneCell']) (by simp [maxLen]; omega) (by omega) (by simp; omega) ?_
          intro v' w1 hown' hgrow
          have H4 : Mem w w1 _ := (hS.skip _).grown hgrow (fun r hr => (hrl r hr).1) (fun p hp => Nat.lt_of_lt_of_le (HI.out _ _ #[] p hp) hb2) (by omega)
          have hB4 : B2 ≤ w1.heap.size := by have := hgrow.size; simp at this; omega
          obtain ⟨A', c', rfl⟩ := ownsRow_len hown'
          have R4 : w1.ownsRow B 36 2 (.slice A k c) k (spCs (evenS Q k k)) := ((row_call R (below_drew1 wr)).alloc _).kept hgrow (by
            rcases hv : (Value.slice A k c).ownBlock with _ | r
            · exact .inl rfl
            · exact .inr (fun e => by
                have h1 := HR.out r hv
                have h2 := (hrl r e.symm).1
                omega))
          refine hK _ _ (.inr H4) ?_
          clear hK K
          have hc1 := hcl.step (i := 6) (by kernel_rfl)
          clear hcl
          have hcl := hc1
          clear hc1
          simp only [List.getElem_toArray, List.getElem_cons_zero, List.getElem_cons_succ, Act.put, List.setIfInBounds_toArray, List.set_cons_zero, List.set_cons_succ]
          refine wpAnyG_one (i := 7) (by kernel_rfl) rfl (fun K hK => ?_)
          go_simp
          refine hK _ _ (.inr H4) ?_
          clear hK K
          have hc1 := hcl.step (i := 7) (by kernel_rfl)
          clear hcl
          have hcl := hc1
          clear hc1
          refine wpAnyG_one (i := 8) (by kernel_rfl) rfl (fun K hK => ?_)
          rw [if_pos (by exact rfl)]
          refine wpIn_storef_mem (i := 1) H4 (by exact rfl) (by exact rfl) (by exact rfl) (by exact rfl) clInfo (by exact rfl) (by exact rfl) ?_
          intro w7 H7 F7
          refine hK _ _ (.inl (by kernel_rfl)) ?_
          clear hK K
          refine wpAnyG_done (by kernel_rfl) ?_ _
          have R7 := ownsRow_foot hown' F7 (fun i hi e => by have := hbB.2.1; omega)
          have R8 := ownsRow_foot R4 F7 (fun i hi e => by have := hbB.2.1; omega)
          have hB7 : B2 ≤ w7.heap.size := by have := F7.size; omega
          clear hS H4 hcl hown' hgrow R R1 R4 hrow hrl
          have H := H7
          clear H7 F7
          simp only [List.cons_append, List.nil_append, List.set_cons_zero, List.set_cons_succ, List.setIfInBounds_toArray] at H
          go_wp2
          go_roundw
          case rel =>
            refine ⟨j + 1, by omega, by go_num, _, _, ?_, R8, hB7, H⟩
            rw [HE.out, HX.out]
            simpa [ints] using R7
          case measure => simp [intOf]; omega
        · obtain rfl : j = 16 := by omega
          go_wp2_with (first
            | ((with_reducible show wpList _ _ _ (⟨_, .load 25 _, _, _, _, _⟩ :: _) _ _); refine mem_load (i := 1) H (by first | exact wanted_none rfl | exact wanted_some rfl rfl rfl rfl) (by exact rfl) (by exact rfl) (by exact rfl) Try.underlying25 rfl (by exact tbInfo) ?_)
            | ((with_reducible show wpList _ _ _ (⟨_, .store 25 _ _, _, _, _, _⟩ :: _) _ _); refine mem_storeF (i := 0) H (by first | exact wanted_none rfl | exact wanted_some rfl rfl rfl rfl) (by exact rfl) (by exact rfl) (by exact rfl) (by exact rfl) (by exact tbInfo) (by exact rfl) (by exact rfl) ?_; intro w7 H7 F7; clear H; have H := H7; clear H7; simp only [List.cons_append, List.nil_append, List.set_cons_zero, List.set_cons_succ, List.setIfInBounds_toArray] at H))
          refine ret_held2 (H.at 0 rfl) rfl rfl Try.underlying25 rfl tbInfo ?_
          have S1 := ownsRow_foot R1 F7 (fun i hi e => by have := hbB.1; omega)
          have S2 := ownsRow_foot R F7 (fun i hi e => by have := hbB.1; omega)
          obtain ⟨r1, r2, r3⟩ := rowI_own S1
          obtain ⟨q1, q2, q3⟩ := rowS_own S2
          refine ⟨A1, A, c1, c, by simp [tbC, evenT, evenC_len, evenS_len], ⟨r1, q1, by simpa [evenT, evenC_len] using r2, by simpa [evenT, evenS_len] using q2, r3, q3, ⟨by simp only [evenT]; omega, by simp only [evenT]; omega⟩, fun x hx => ?_, fun s hs => ?_⟩, H.below⟩
          · simp only [evenT, evenC, List.mem_map, List.mem_range] at hx
            obtain ⟨i, hi', rfl⟩ := hx
            have := Nat.mod_lt i (show 0 < k by omega)
            constructor <;> omega
          · simp only [evenT, evenS, List.mem_map, List.mem_range] at hs
            obtain ⟨i, hi', rfl⟩ := hs
            have := offN_le (Q := Q) (C := k) hC.1 hi'
            refine ⟨⟨?_, ?_⟩, ?_, ?_⟩ <;> simp only <;> omega
set_option maxRecDepth 100000 in
set_option maxHeartbeats 2000000 in
theorem evenP_yesB (Q C : Nat) (hQ : 1 ≤ Q ∧ Q ≤ 64) (hC : 1 ≤ C ∧ C ≤ 16 ∧ C ≤ Q) (hm : ¬ (Q : Int) < 16) (w : World) : Calls Try.prog 24 #[.int .i64 (Q : Int), .int .i64 (C : Int)] w fun e w' =>
    ∃ A1 A2 c1 c2, e = .returned (.tuple #[.agg (tbC A1 A2 c1 c2 (evenT Q C)), .int .i64 0]) ∧ TbAt w'.heap.size w' A1 A2 c1 c2 (evenT Q C) ∧ Below w.heap.size w w' := by
  have H := Mem.start w
  have k1 := fun w => between_v 1 64 (Q : Int) _ (two_yes (by omega) (by omega)) w
  have k2 := fun w => between_v 1 16 (C : Int) _ (two_yes (by omega) (by omega)) w
  obtain ⟨i0, hi, hz0, hz1, hz2⟩ := infoSp_parts
  obtain ⟨i1, gi, gz0, gz1, gz2⟩ := infoInt_parts
  go_enter Try.func24, Try.ntmps24
  go_upto_region 1 with (first
    | ((with_reducible show wpList _ _ _ _ _ (World.alloc _ (.cells _ _))); refine mem_newb H ?_; intro br w3 hbk H2; try rw [← hbk]; clear hbk H; have H := H2; clear H2; simp only [List.cons_append, List.nil_append, List.set_cons_zero, List.set_cons_succ, List.setIfInBounds_toArray] at H))
  go_upto_region 4 with (first
    | (go_at_call 32; with_reducible refine (k1 _).mono ?_; rintro e w2 ⟨rfl, hb⟩; have H2 := H.call hb; clear H hb; have H := H2; clear H2)
    | (go_at_call 32; with_reducible refine (k2 _).mono ?_; rintro e w2 ⟨rfl, hb⟩; have H2 := H.call hb; clear H hb; have H := H2; clear H2)
    | ((with_reducible show wpList _ _ _ _ _ (World.alloc _ (.cells _ _))); refine mem_newb (l := [_]) H ?_; intro bt w3 hbk H2; try rw [← hbk]; clear hbk H; have H := H2; clear H2; simp only [List.cons_append, List.nil_append, List.set_cons_zero, List.set_cons_succ, List.setIfInBounds_toArray] at H)
    | ((with_reducible show wpList _ _ _ (⟨_, .store 25 _ _, _, _, _, _⟩ :: _) _ _); refine mem_store (i := 1) H (by first | exact wanted_none rfl | exact wanted_some rfl rfl rfl rfl) (by exact rfl) (by exact rfl) (by exact rfl) (by exact rfl) (by exact tbInfo) (by exact rfl) (by exact rfl) ?_; intro w2 H2; clear H; have H := H2; clear H2; simp only [List.cons_append, List.nil_append, List.set_cons_zero, List.set_cons_succ, List.setIfInBounds_toArray] at H))
  clear k1 k2
  go_wp2_with fail
  have hr0 := (H.at 0 rfl).lt
  have hr1 := (H.at 1 rfl).lt
  have hsz := H.below.size
  obtain ⟨B, hBq⟩ : ∃ B, w2.heap.size = B := ⟨_, rfl⟩
  have R : w2.ownsRow B 36 2 (.slice none 0 0) 0 (spCs (evenS Q C 0)) := World.ownsRow_nil w2 B 36 2
  have hB2 : B ≤ w2.heap.size := by omega
  have hbB : br < B ∧ bt < B ∧ w.heap.size ≤ B := by omega
  have hinB : ∀ (a c d : Array Value) (p : Nat × TypeId × Array Value), p ∈ [(br, 25, a), (bt, 25, c)] → p.1 < B := fun a c d p hp => by
    simp only [List.mem_cons, List.not_mem_nil, or_false] at hp
    rcases hp with rfl | rfl
    · exact hbB.1
    · exact hbB.2.1
  have HI := Lib.hid hinB
  clear hBq hr0 hr1 hsz hinB
  obtain ⟨D, hD⟩ : ∃ D, Q / C = D := ⟨_, rfl⟩
  obtain ⟨M, hM⟩ : ∃ M, Q % C = M := ⟨_, rfl⟩
  have d1 : (Q : Int).tdiv (C : Int) = D := by rw [Int.tdiv_eq_ediv_of_nonneg (by omega), ← hD, Int.natCast_ediv]
  have d2 : (Q : Int).tmod (C : Int) = M := by rw [Int.tmod_eq_emod_of_nonneg (by omega), ← hM, Int.natCast_emod]
  have hD64 : D ≤ 64 := by rw [← hD]; exact Nat.le_trans (Nat.div_le_self _ _) hQ.2
  have HC := Lib.hid (show ∀ k, cntN Q C k = D + (if k < M then 1 else 0) from fun k => by rw [cntN, hD, hM])
  clear hD hM
  go_loopw [7, 25] (fun off i wr => ∃ k : Nat, k ≤ C ∧ i = .int .i64 k ∧ off = .int .i64 (offN Q C k : Int) ∧ ∃ A c, wr.ownsRow B 36 2 (.slice A k c) k (spCs (evenS Q C k)) ∧ B ≤ wr.heap.size ∧ Mem w wr [(br, 25, noT), (bt, 25, #[.int .i64 (Q : Int), .slice none 0 0, .slice A k c])]) (fun _ i _ => C - (intOf i).toNat)
  case atStart => exact ⟨0, Nat.zero_le _, rfl, by rw [offN_zero]; rfl, none, 0, R, hB2, H⟩
  case round =>
    clear H R hB2
    obtain ⟨k, hk, rfl, rfl, A, c, R, hB2, H⟩ := hrel
    by_cases hlt : k < C
    · have ho := offN_le (Q := Q) hC.1 hlt
      obtain ⟨O, hO⟩ : ∃ O, offN Q C k = O := ⟨_, rfl⟩
      have hcn := HC.out k
      by_cases hkM : k < M
      · have t1 : decide ((k : Int) < (M : Int)) = true := decide_eq_true (by omega)
        rw [if_pos hkM] at hcn
        have HS := Lib.hid (And.intro (evenS_succ Q C k) (And.intro (offN_succ Q C k) (And.intro hcn hO)))
        rw [hcn, hO] at ho
        simp only [hO]
        clear hcn hO
        go_wp2_with (first
          | ((with_reducible show wpList _ _ _ (⟨_, .load _ _, _, _, _, _⟩ :: _) _ _); refine mem_loadf (i := 1) H (by first | exact wanted_none rfl | exact wanted_some rfl rfl rfl rfl) (by exact rfl) (by exact rfl) (by exact rfl) (by first | exact Try.underlying3 | exact Try.underlying22 | exact Try.underlying23) rfl (by exact rfl) ?_)
          | (at_builtin; refine wpList_append_own _ rfl _ _ 23 rfl B 36 i0 _ 2 16 Try.underlying23 hi hz0 hz1 hz2 rfl (by decide) _ _ _ rfl (R.alloc _) ⟨wr.heap.size, 0, none⟩ 1 1 [.int .i64 (O : Int), .int .i64 ((D : Int) + 1)] rfl rfl (fun j u hu => by rw [addr_add0]; exact ((Held.new wr 36 #[.int .i64 (O : Int), .int .i64 ((D : Int) + 1)]).cell j).trans (by simpa using hu)) (by simp [Value.oneCell']) (by simp [maxLen]; omega) (by omega) (by simp; omega) ?_; intro v' w1 hown' hgrow _; have hrl := row_lt R; have H4 := (H.skip _).grown hgrow (fun r hr => (hrl r hr).1) (HI.out _ _ #[]) hbB.2.2; obtain ⟨A', c', rfl⟩ := ownsRow_len hown'; have hB4 : B ≤ w1.heap.size := (by have := hgrow.size; simp at this; omega); clear H hrl; have H := H4; clear H4)
          | ((with_reducible show wpList _ _ _ (⟨_, .store _ _ _, _, _, _, _⟩ :: _) _ _); refine mem_storefF (i := 1) H (by first | exact wanted_none rfl | exact wanted_some rfl rfl rfl rfl) (by exact rfl) (by exact rfl) (by exact rfl) (by exact rfl) (by first | exact clInfo | exact ssInfo) (by exact rfl) (by exact rfl) ?_; intro w7 H7 F7; have R7 := ownsRow_foot hown' F7 (fun j hj e => by have := hbB.2.1; omega); have hB7 : B ≤ w7.heap.size := (by have := F7.size; omega); clear H; have H := H7; clear H7; simp only [List.cons_append, List.nil_append, List.set_cons_zero, List.set_cons_succ, List.setIfInBounds_toArray] at H))
        go_roundw
        case rel =>
          obtain ⟨s1, s2, s3, s4⟩ := HS.out
          refine ⟨k + 1, by omega, by go_num, by rw [s2, s3, s4]; go_num, _, _, ?_, hB7, H⟩
          rw [s1, s3, s4, spCs_append]
          exact R7
        case measure => simp [intOf]; omega
      · have t1 : decide ((k : Int) < (M : Int)) = false := decide_eq_false (by omega)
        rw [if_neg hkM] at hcn
        have HS := Lib.hid (And.intro (evenS_succ Q C k) (And.intro (offN_succ Q C k) (And.intro hcn hO)))
        rw [hcn, hO] at ho
        simp only [hO]
        clear hcn hO
        go_wp2_with (first
          | ((with_reducible show wpList _ _ _ (⟨_, .load _ _, _, _, _, _⟩ :: _) _ _); refine mem_loadf (i := 1) H (by first | exact wanted_none rfl | exact wanted_some rfl rfl rfl rfl) (by exact rfl) (by exact rfl) (by exact rfl) (by first | exact Try.underlying3 | exact Try.underlying22 | exact Try.underlying23) rfl (by exact rfl) ?_)
          | (at_builtin; refine wpList_append_own _ rfl _ _ 23 rfl B 36 i0 _ 2 16 Try.underlying23 hi hz0 hz1 hz2 rfl (by decide) _ _ _ rfl (R.alloc _) ⟨wr.heap.size, 0, none⟩ 1 1 [.int .i64 (O : Int), .int .i64 ((D : Int))] rfl rfl (fun j u hu => by rw [addr_add0]; exact ((Held.new wr 36 #[.int .i64 (O : Int), .int .i64 ((D : Int))]).cell j).trans (by simpa using hu)) (by simp [Value.oneCell']) (by simp [maxLen]; omega) (by omega) (by simp; omega) ?_; intro v' w1 hown' hgrow _; have hrl := row_lt R; have H4 := (H.skip _).grown hgrow (fun r hr => (hrl r hr).1) (HI.out _ _ #[]) hbB.2.2; obtain ⟨A', c', rfl⟩ := ownsRow_len hown'; have hB4 : B ≤ w1.heap.size := (by have := hgrow.size; simp at this; omega); clear H hrl; have H := H4; clear H4)
          | ((with_reducible show wpList _ _ _ (⟨_, .store _ _ _, _, _, _, _⟩ :: _) _ _); refine mem_storefF (i := 1) H (by first | exact wanted_none rfl | exact wanted_some rfl rfl rfl rfl) (by exact rfl) (by exact rfl) (by exact rfl) (by exact rfl) (by first | exact clInfo | exact ssInfo) (by exact rfl) (by exact rfl) ?_; intro w7 H7 F7; have R7 := ownsRow_foot hown' F7 (fun j hj e => by have := hbB.2.1; omega); have hB7 : B ≤ w7.heap.size := (by have := F7.size; omega); clear H; have H := H7; clear H7; simp only [List.cons_append, List.nil_append, List.set_cons_zero, List.set_cons_succ, List.setIfInBounds_toArray] at H))
        go_roundw
        case rel =>
          obtain ⟨s1, s2, s3, s4⟩ := HS.out
          refine ⟨k + 1, by omega, by go_num, by rw [s2, s3, s4]; go_num, _, _, ?_, hB7, H⟩
          rw [s1, s3, s4, spCs_append]
          exact R7
        case measure => simp [intOf]; omega
    · obtain rfl : k = C := by omega
      go_wp2
      obtain ⟨B2, hBq⟩ : ∃ B, wr.heap.size = B := ⟨_, rfl⟩
      have hrl := row_lt R
      have hrl2 : ∀ r, (Value.slice A k c).ownBlock = some r → r < B2 := fun r hr => by have := (hrl r hr).2; omega
      have R1 : wr.ownsRow B2 3 1 (.slice none 0 0) 0 (ints (evenC k 0)) := World.ownsRow_nil wr B2 3 1
      have hB3 : B2 ≤ wr.heap.size := by omega
      have hb2 : B ≤ B2 := by omega
      have HR := Lib.hid hrl2
      clear hBq hrl hrl2 hB2
      go_loopw [50] (fun i wr => ∃ j : Nat, j ≤ 16 ∧ i = .int .i64 j ∧ ∃ A1 c1, wr.ownsRow B2 3 1 (.slice A1 j c1) j (ints (evenC k j)) ∧ wr.ownsRow B 36 2 (.slice A k c) k (spCs (evenS Q k k)) ∧ B2 ≤ wr.heap.size ∧ Mem w wr [(br, 25, noT), (bt, 25, #[.int .i64 (Q : Int), .slice A1 j c1, .slice A k c])]) (fun i _ => 16 - (intOf i).toNat)
      case atStart => exact ⟨0, Nat.zero_le _, rfl, none, 0, R1, R, hB3, H⟩
      case round =>
        clear H R R1 hB3
        obtain ⟨j, hj, rfl, A1, c1, R1, R, hB3, H⟩ := hrel
        by_cases hlt : j < 16
        · have d3 : (j : Int).tmod (k : Int) = ((j % k : Nat) : Int) := by rw [Int.tmod_eq_emod_of_nonneg (by omega), Int.natCast_emod]
          have HE := Lib.hid (evenC_succ k j)
          have hx : ((j % k : Nat) : Int) = (j % k : Nat) := rfl
          obtain ⟨X, hX⟩ : ∃ X, j % k = X := ⟨_, rfl⟩
          rw [hX] at d3
          have HX := Lib.hid hX
          clear hx hX d1 d2
          have hk0 : ¬ ((k : Int) = 0) := by omega
          go_wp2
          refine (wpIn_wide (n := 6)).1 (wpIn_region_G (fun wx => Mem w wx [(br, 25, noT), (bt, 25, #[.int .i64 (Q : Int), .slice A1 j c1, .slice A k c])]) 8 9 rfl (by kernel_rfl) fun hcl => ?_)
          have hS := H.drew
          clear H
          refine wpAnyG_pure (i := 0) (v := .pointer (some ⟨bt, 1, none⟩)) rfl rfl (by kernel_rfl) (by kernel_rfl) (by kernel_rfl) (fun _ _ _ h => h) (by decide) ⟨by rfl, fun w _ => (by go_simp; try (first | (simp only [IntKind.wrap_u32]; done) | rfl)), fun _ => rfl⟩ (.inr hS) ?_
          have hc1 := hcl.step (i := 0) (by kernel_rfl)
          clear hcl; have hcl := hc1; clear hc1; simp only [List.getElem_toArray, List.getElem_cons_zero, List.getElem_cons_succ, Act.put, List.setIfInBounds_toArray, List.set_cons_zero, List.set_cons_succ]
          refine wpAnyG_take (i := 1) 1 (v := .slice A1 j c1) rfl rfl (by kernel_rfl) (by kernel_rfl) (by kernel_rfl) (fun _ _ _ h => h) (by kernel_rfl) (by decide) hcl (yields_fld (fun w h => h.at 1 rfl) (by exact rfl) (by exact rfl) (by exact rfl) (by first | exact Try.underlying3 | exact Try.underlying22 | exact Try.underlying23) rfl (by exact rfl)) hS (fun hc1 => ?_)
          clear hcl; have hcl := hc1; clear hc1; simp only [List.getElem_toArray, List.getElem_cons_zero, List.getElem_cons_succ, Act.put, List.setIfInBounds_toArray, List.set_cons_zero, List.set_cons_succ]
          refine wpAnyG_pure (i := 2) (v := .int .i64 (j : Int)) rfl rfl (by kernel_rfl) (by kernel_rfl) (by kernel_rfl) (fun _ _ _ h => h) (by decide) ⟨by rfl, fun w _ => (by go_simp; try (first | (simp only [IntKind.wrap_u32]; done) | rfl)), fun _ => rfl⟩ (.inr hS) ?_
          have hc1 := hcl.step (i := 2) (by kernel_rfl)
          clear hcl; have hcl := hc1; clear hc1; simp only [List.getElem_toArray, List.getElem_cons_zero, List.getElem_cons_succ, Act.put, List.setIfInBounds_toArray, List.set_cons_zero, List.set_cons_succ]
          refine wpAnyG_pure (i := 3) (v := .int .i64 (k : Int)) rfl rfl (by kernel_rfl) (by kernel_rfl) (by kernel_rfl) (fun _ _ _ h => h) (by decide) ⟨by rfl, fun w _ => (by go_simp; try (first | (simp only [IntKind.wrap_u32]; done) | rfl)), fun _ => rfl⟩ (.inr hS) ?_
          have hc1 := hcl.step (i := 3) (by kernel_rfl)
          clear hcl; have hcl := hc1; clear hc1; simp only [List.getElem_toArray, List.getElem_cons_zero, List.getElem_cons_succ, Act.put, List.setIfInBounds_toArray, List.set_cons_zero, List.set_cons_succ]
          refine wpAnyG_pure (i := 4) (v := .int .i64 (X : Int)) rfl rfl (by kernel_rfl) (by kernel_rfl) (by kernel_rfl) (fun _ _ _ h => h) (by decide) ⟨by rfl, fun w _ => (by go_simp; try (first | (simp only [IntKind.wrap_u32]; done) | rfl | omega)), fun _ => rfl⟩ (.inr hS) ?_
          have hc1 := hcl.step (i := 4) (by kernel_rfl)
          clear hcl; have hcl := hc1; clear hc1; simp only [List.getElem_toArray, List.getElem_cons_zero, List.getElem_cons_succ, Act.put, List.setIfInBounds_toArray, List.set_cons_zero, List.set_cons_succ]
          refine wpAnyG_one (i := 5) (by kernel_rfl) rfl (fun K hK => ?_)
          go_simp
          refine hK _ _ (.inr (hS.skip _)) ?_
          clear hK K
          have hc1 := hcl.step (i := 5) (by kernel_rfl)
          clear hcl
          have hcl := hc1
          clear hc1
          have hrow := (row_call R1 (below_drew1 wr)).alloc (.cells #[.int .i64 (X : Int)] 3)
          have hrl := row_lt hrow
          refine wpAnyG_one (i := 6) (by kernel_rfl) rfl (fun K hK => ?_)
          rw [if_pos (by exact rfl)]
          refine wpIn_append_own (.tmp 54) (.tmp 58) 22 rfl B2 3 i1 (.int .i64 0) 1 8 Try.underlying22 gi gz0 gz1 gz2 rfl (by decide) (.slice A1 j c1) j (ints (evenC k j)) (by exact rfl) hrow ⟨wr.drew.heap.size, 0, none⟩ 1 1 [.int .i64 (X : Int)] (by exact rfl) rfl (cell_one_new _ _ _) (by simp [Value.oneCell']) (by simp [maxLen]; omega) (by omega) (by simp; omega) ?_
          intro v' w1 hown' hgrow
          have H4 : Mem w w1 _ := (hS.skip _).grown hgrow (fun r hr => (hrl r hr).1) (fun p hp => Nat.lt_of_lt_of_le (HI.out _ _ #[] p hp) hb2) (by omega)
          have hB4 : B2 ≤ w1.heap.size := by have := hgrow.size; simp at this; omega
          obtain ⟨A', c', rfl⟩ := ownsRow_len hown'
          have R4 : w1.ownsRow B 36 2 (.slice A k c) k (spCs (evenS Q k k)) := ((row_call R (below_drew1 wr)).alloc _).kept hgrow (by
            rcases hv : (Value.slice A k c).ownBlock with _ | r
            · exact .inl rfl
            · exact .inr (fun e => by
                have h1 := HR.out r hv
                have h2 := (hrl r e.symm).1
                omega))
          refine hK _ _ (.inr H4) ?_
          clear hK K
          have hc1 := hcl.step (i := 6) (by kernel_rfl)
          clear hcl
          have hcl := hc1
          clear hc1
          simp only [List.getElem_toArray, List.getElem_cons_zero, List.getElem_cons_succ, Act.put, List.setIfInBounds_toArray, List.set_cons_zero, List.set_cons_succ]
          refine wpAnyG_one (i := 7) (by kernel_rfl) rfl (fun K hK => ?_)
          go_simp
          refine hK _ _ (.inr H4) ?_
          clear hK K
          have hc1 := hcl.step (i := 7) (by kernel_rfl)
          clear hcl
          have hcl := hc1
          clear hc1
          refine wpAnyG_one (i := 8) (by kernel_rfl) rfl (fun K hK => ?_)
          rw [if_pos (by exact rfl)]
          refine wpIn_storef_mem (i := 1) H4 (by exact rfl) (by exact rfl) (by exact rfl) (by exact rfl) clInfo (by exact rfl) (by exact rfl) ?_
          intro w7 H7 F7
          refine hK _ _ (.inl (by kernel_rfl)) ?_
          clear hK K
          refine wpAnyG_done (by kernel_rfl) ?_ _
          have R7 := ownsRow_foot hown' F7 (fun i hi e => by have := hbB.2.1; omega)
          have R8 := ownsRow_foot R4 F7 (fun i hi e => by have := hbB.2.1; omega)
          have hB7 : B2 ≤ w7.heap.size := by have := F7.size; omega
          clear hS H4 hcl hown' hgrow R R1 R4 hrow hrl
          have H := H7
          clear H7 F7
          simp only [List.cons_append, List.nil_append, List.set_cons_zero, List.set_cons_succ, List.setIfInBounds_toArray] at H
          go_wp2
          go_roundw
          case rel =>
            refine ⟨j + 1, by omega, by go_num, _, _, ?_, R8, hB7, H⟩
            rw [HE.out, HX.out]
            simpa [ints] using R7
          case measure => simp [intOf]; omega
        · obtain rfl : j = 16 := by omega
          go_wp2_with (first
            | ((with_reducible show wpList _ _ _ (⟨_, .load 25 _, _, _, _, _⟩ :: _) _ _); refine mem_load (i := 1) H (by first | exact wanted_none rfl | exact wanted_some rfl rfl rfl rfl) (by exact rfl) (by exact rfl) (by exact rfl) Try.underlying25 rfl (by exact tbInfo) ?_)
            | ((with_reducible show wpList _ _ _ (⟨_, .store 25 _ _, _, _, _, _⟩ :: _) _ _); refine mem_storeF (i := 0) H (by first | exact wanted_none rfl | exact wanted_some rfl rfl rfl rfl) (by exact rfl) (by exact rfl) (by exact rfl) (by exact rfl) (by exact tbInfo) (by exact rfl) (by exact rfl) ?_; intro w7 H7 F7; clear H; have H := H7; clear H7; simp only [List.cons_append, List.nil_append, List.set_cons_zero, List.set_cons_succ, List.setIfInBounds_toArray] at H))
          refine ret_held2 (H.at 0 rfl) rfl rfl Try.underlying25 rfl tbInfo ?_
          have S1 := ownsRow_foot R1 F7 (fun i hi e => by have := hbB.1; omega)
          have S2 := ownsRow_foot R F7 (fun i hi e => by have := hbB.1; omega)
          obtain ⟨r1, r2, r3⟩ := rowI_own S1
          obtain ⟨q1, q2, q3⟩ := rowS_own S2
          refine ⟨A1, A, c1, c, by simp [tbC, evenT, evenC_len, evenS_len], ⟨r1, q1, by simpa [evenT, evenC_len] using r2, by simpa [evenT, evenS_len] using q2, r3, q3, ⟨by simp only [evenT]; omega, by simp only [evenT]; omega⟩, fun x hx => ?_, fun s hs => ?_⟩, H.below⟩
          · simp only [evenT, evenC, List.mem_map, List.mem_range] at hx
            obtain ⟨i, hi', rfl⟩ := hx
            have := Nat.mod_lt i (show 0 < k by omega)
            constructor <;> omega
          · simp only [evenT, evenS, List.mem_map, List.mem_range] at hs
            obtain ⟨i, hi', rfl⟩ := hs
            have := offN_le (Q := Q) (C := k) hC.1 hi'
            refine ⟨⟨?_, ?_⟩, ?_, ?_⟩ <;> simp only <;> omega
theorem evenP_yes (Q C : Nat) (hQ : 1 ≤ Q ∧ Q ≤ 64) (hC : 1 ≤ C ∧ C ≤ 16 ∧ C ≤ Q) (w : World) : Calls Try.prog 24 #[.int .i64 (Q : Int), .int .i64 (C : Int)] w fun e w' =>
    ∃ A1 A2 c1 c2, e = .returned (.tuple #[.agg (tbC A1 A2 c1 c2 (evenT Q C)), .int .i64 0]) ∧ TbAt w'.heap.size w' A1 A2 c1 c2 (evenT Q C) ∧ Below w.heap.size w w' := by
  by_cases hm : (Q : Int) < 16
  · exact evenP_yesA Q C hQ hC hm w
  · exact evenP_yesB Q C hQ hC hm w
end Go.Proofs.Ytoofmklknffhpaa
