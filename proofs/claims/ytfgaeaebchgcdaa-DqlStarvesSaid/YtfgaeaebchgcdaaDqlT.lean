/-
  DqlStarves, walked. Conditions: the numbers fit their kinds.
-/
import Derived.Test.YtfgaeaebchgcdaaDqlR
namespace Go.Proofs.Ytfgaeaebchgcdaa
set_option linter.unusedSimpArgs false
set_option linter.unusedVariables false
open Go.ChangeShapes Go.WideShapes Go.ChangeAt Go.RowKit

/-- a number's cell, and that it fits -/
abbrev u32C (x : Int) : List Value := [.int .u32 x]
abbrev u32F (x : Int) : Prop := (Lit.int .u32 x).wf = true
/-- the numbers where they lie -/
structure Nums4 (w : World) (b o len : Nat) (xs : Nat → Int) : Prop where
  lt : b < w.heap.size
  fits : ∀ k, k < len → 0 ≤ xs k ∧ xs k ≤ 4294967295
  cell : ∀ k, k < len → w.cell? ⟨b, o + k, none⟩ = some (.int .u32 (xs k))
theorem nums4_in {w : World} {A : Option Addr} {len : Nat} {xs : Nat → Int} (h : SliceAt w A len 1 u32C u32F xs) : ∃ b o, (0 < len → A = some ⟨b, o, none⟩) ∧ (0 < len → Nums4 w b o len xs) := by
  by_cases h0 : 0 < len
  · obtain ⟨b, o, h1, h2, h3⟩ := h.plain (fun _ => rfl) (by decide) h0
    refine ⟨b, o, fun _ => h1, fun _ => ⟨h2, fun k hk => bd_u32 (h3 k hk).1, fun k hk => ?_⟩⟩
    have := (h3 k hk).2 0 _ rfl
    simpa using this
  · exact ⟨0, 0, fun h => absurd h h0, fun h => absurd h h0⟩
theorem starved_queue {d : DQ} (h : d.Starved) {n : Int} (hn : 1 ≤ n ∧ n ≤ 65535) (hl : 0 < d.left) : queueE d n = 0 ∧ (queueV d n).Starved := by
  obtain ⟨h1, h2⟩ := h.queue hn hl
  exact ⟨by simp only [queueE, h.right, h1, cond_true], by simp only [queueV, h.right, h1, Bool.and_true, cond_true]; exact h2⟩
theorem starved_complete {d : DQ} (h : d.Starved) (hl : d.left ≤ 0) {t : Int} (ht : 0 ≤ t ∧ t ≤ 18446744073709551615) : completeE d d.flight = 0 ∧ d.lim ≤ (completeV d d.flight t).lim ∧ (completeV d d.flight t).Starved := by
  obtain ⟨h1, h2⟩ := h.complete hl ht
  have e : decide (d.flight ≤ d.flight) = true := decide_eq_true (Int.le_refl _)
  refine ⟨by simp only [completeE, h.right, e, cond_true], ?_, ?_⟩
  · simp only [completeV, h.right, e, Bool.and_true, cond_true]
    exact h1
  · simp only [completeV, h.right, e, Bool.and_true, cond_true]
    exact h2
set_option maxRecDepth 100000 in
set_option maxHeartbeats 4000000 in
theorem starves_w (a b h : Int) (hh : 0 ≤ h ∧ h ≤ 18446744073709551615) (A : Option Addr) (len cap : Nat) (xs : Nat → Int) (hl : len ≤ cap) (hc : cap ≤ maxLen) (w : World) (hA : SliceAt w A len 1 u32C u32F xs) : Calls Try.prog 10 #[.int .u32 a, .int .u32 b, .int .u64 h, .slice A len cap] w fun e w' => e = .returned (.bool true) ∧ Below w.heap.size w w' := by
  unfold maxLen at hc
  obtain ⟨ba, oa, hAb, hin⟩ := nums4_in hA
  have HAb := Lib.hid hAb
  clear hAb hA
  have h0 := fun w => new_p a b h 0 w
  have H := Mem.start w
  rcases hb : DQ.newB a b
  · rw [show newE a b = 2 by simp only [newE, hb, cond_false]] at h0
    clear hb hin HAb
    go_enter Try.func10, Try.ntmps10
    go_wp2_with (first
    | go_skip
    | ((with_reducible show wpList _ _ _ _ _ (World.alloc _ (.cells _ _))); refine mem_new H ?_; intro w2 H2; clear H; have H := H2; clear H2; simp only [List.cons_append, List.nil_append, List.set_cons_zero, List.set_cons_succ, List.setIfInBounds_toArray] at H)
    | ((with_reducible show wpList _ _ _ (⟨_, .load 26 _, _, _, _, _⟩ :: _) _ _); refine mem_load (i := 0) H (by first | exact wanted_none rfl | exact wanted_some rfl rfl rfl rfl) (by exact rfl) (by exact rfl) (by exact rfl) Try.underlying26 rfl (by exact dqlInfo) ?_)
    | ((with_reducible show wpList _ _ _ (⟨_, .load _ _, _, _, _, _⟩ :: _) _ _); refine mem_loadf (i := 0) H (by first | exact wanted_none rfl | exact wanted_some rfl rfl rfl rfl) (by exact rfl) (by exact rfl) (by exact rfl) (by first | exact Try.underlying22 | exact Try.underlying23) rfl (by exact rfl) ?_)
    | ((with_reducible show wpList _ _ _ (⟨_, .store 26 _ _, _, _, _, _⟩ :: _) _ _); refine mem_store (i := 0) H (by first | exact wanted_none rfl | exact wanted_some rfl rfl rfl rfl) (by exact rfl) (by exact rfl) (by exact rfl) (by exact rfl) (by exact dqlInfo) (by exact rfl) (by exact rfl) ?_; intro w2 H2; clear H; have H := H2; clear H2; simp only [List.cons_append, List.nil_append, List.set_cons_zero, List.set_cons_succ, List.setIfInBounds_toArray] at H)
    | (go_at_call 11; refine (shown_p _).mono ?_; rintro e w2 ⟨rfl, hb⟩; have H2 := H.call hb; clear H hb; have H := H2; clear H2)
    | (go_at_call 12; refine (h0 _).mono ?_; rintro e w2 ⟨rfl, hb⟩; have H2 := H.call hb; clear H hb; have H := H2; clear H2))
    go_ret
    exact ⟨rfl, H.below⟩
  · rw [show newE a b = 0 by simp only [newE, hb, cond_true], show newV a b h 0 = DQ.first a b h 0 by simp only [newV, hb, cond_true]] at h0
    have hst := DQ.Starved.first (h := h) (t := 0) hb hh (by omega)
    simp only [DQ.newB, decide_eq_true_eq] at hb
    obtain ⟨D0, hD0⟩ : ∃ D, DQ.first a b h 0 = D := ⟨_, rfl⟩
    rw [hD0] at h0 hst
    clear hD0 hb
    go_enter Try.func10, Try.ntmps10
    go_upto_region 3 with (first
    | ((with_reducible show wpList _ _ _ _ _ (World.alloc _ (.cells _ _))); refine mem_newb H ?_; intro bA w3 hbk H2; try rw [← hbk]; clear hbk H; have H := H2; clear H2; simp only [List.cons_append, List.nil_append, List.set_cons_zero, List.set_cons_succ, List.setIfInBounds_toArray] at H)
    | ((with_reducible show wpList _ _ _ _ _ (World.alloc _ (.cells _ _))); refine mem_new H ?_; intro w2 H2; clear H; have H := H2; clear H2; simp only [List.cons_append, List.nil_append, List.set_cons_zero, List.set_cons_succ, List.setIfInBounds_toArray] at H)
    | ((with_reducible show wpList _ _ _ (⟨_, .load 26 _, _, _, _, _⟩ :: _) _ _); refine mem_load (i := 0) H (by first | exact wanted_none rfl | exact wanted_some rfl rfl rfl rfl) (by exact rfl) (by exact rfl) (by exact rfl) Try.underlying26 rfl (by exact dqlInfo) ?_)
    | ((with_reducible show wpList _ _ _ (⟨_, .load _ _, _, _, _, _⟩ :: _) _ _); refine mem_loadf (i := 0) H (by first | exact wanted_none rfl | exact wanted_some rfl rfl rfl rfl) (by exact rfl) (by exact rfl) (by exact rfl) (by first | exact Try.underlying22 | exact Try.underlying23) rfl (by exact rfl) ?_)
    | ((with_reducible show wpList _ _ _ (⟨_, .store 26 _ _, _, _, _, _⟩ :: _) _ _); refine mem_store (i := 0) H (by first | exact wanted_none rfl | exact wanted_some rfl rfl rfl rfl) (by exact rfl) (by exact rfl) (by exact rfl) (by exact rfl) (by exact dqlInfo) (by exact rfl) (by exact rfl) ?_; intro w2 H2; clear H; have H := H2; clear H2; simp only [List.cons_append, List.nil_append, List.set_cons_zero, List.set_cons_succ, List.setIfInBounds_toArray] at H)
    | (go_at_call 11; refine (shown_p _).mono ?_; rintro e w2 ⟨rfl, hb⟩; have H2 := H.call hb; clear H hb; have H := H2; clear H2)
    | (go_at_call 12; refine (h0 _).mono ?_; rintro e w2 ⟨rfl, hb⟩; have H2 := H.call hb; clear H hb; have H := H2; clear H2))
    clear h0
    go_wp2
    go_loopw [12] (fun i wr => ∃ (k : Nat) (D : DQ), k ≤ len ∧ k ≤ 40 ∧ i = .int .i64 k ∧ D.Starved ∧ Mem w wr [bx bA D]) (fun i _ => len - (intOf i).toNat)
    case atStart => exact ⟨0, D0, Nat.zero_le _, by omega, rfl, hst, H⟩
    case round =>
      clear H hst
      obtain ⟨k, D, hk, hk40, rfl, hs, H⟩ := hrel
      by_cases hlt : k < len ∧ k < 40
      · obtain ⟨hlt, h40⟩ := hlt
        obtain rfl := HAb.out (by omega)
        have hi := hin (by omega)
        have hbl := hi.lt
        have c0 := hi.cell k hlt
        have b0 := hi.fits k hlt
        generalize xs k = x at c0 b0
        clear hin HAb hi
        obtain ⟨n, hn⟩ : ∃ n, 1 + x % 65535 = n := ⟨_, rfl⟩
        have hn1 : 1 ≤ n ∧ n ≤ 65535 := by omega
        go_upto_region 10 with (first
    | ((with_reducible show wpList _ _ _ (⟨_, .load _ _, _, _, _, _⟩ :: _) _ _); refine mem_loado H c0 hbl (by first | exact wanted_none rfl | exact wanted_some rfl rfl rfl rfl) (by exact rfl) (by exact rfl) Try.underlying22 rfl ?_)
    | ((with_reducible show wpList _ _ _ _ _ (World.alloc _ (.cells _ _))); refine mem_new H ?_; intro w2 H2; clear H; have H := H2; clear H2; simp only [List.cons_append, List.nil_append, List.set_cons_zero, List.set_cons_succ, List.setIfInBounds_toArray] at H)
    | ((with_reducible show wpList _ _ _ (⟨_, .load 26 _, _, _, _, _⟩ :: _) _ _); refine mem_load (i := 0) H (by first | exact wanted_none rfl | exact wanted_some rfl rfl rfl rfl) (by exact rfl) (by exact rfl) (by exact rfl) Try.underlying26 rfl (by exact dqlInfo) ?_)
    | ((with_reducible show wpList _ _ _ (⟨_, .load _ _, _, _, _, _⟩ :: _) _ _); refine mem_loadf (i := 0) H (by first | exact wanted_none rfl | exact wanted_some rfl rfl rfl rfl) (by exact rfl) (by exact rfl) (by exact rfl) (by first | exact Try.underlying22 | exact Try.underlying23) rfl (by exact rfl) ?_)
    | ((with_reducible show wpList _ _ _ (⟨_, .store 26 _ _, _, _, _, _⟩ :: _) _ _); refine mem_store (i := 0) H (by first | exact wanted_none rfl | exact wanted_some rfl rfl rfl rfl) (by exact rfl) (by exact rfl) (by exact rfl) (by exact rfl) (by exact dqlInfo) (by exact rfl) (by exact rfl) ?_; intro w2 H2; clear H; have H := H2; clear H2; simp only [List.cons_append, List.nil_append, List.set_cons_zero, List.set_cons_succ, List.setIfInBounds_toArray] at H))
        go_loopw [14] (fun jv wq => ∃ (j : Nat) (D : DQ), j ≤ 200 ∧ jv = .int .i64 j ∧ D.Starved ∧ Mem w wq [bx bA D]) (fun jv _ => 200 - (intOf jv).toNat)
        case atStart => exact ⟨0, D, by omega, rfl, hs, H⟩
        case round =>
          clear H hs
          obtain ⟨j, D, hj, rfl, hs, H⟩ := hrel
          have hLf := fun w => left_p D w
          obtain ⟨L, hL⟩ : ∃ X, D.left = X := ⟨_, rfl⟩
          have HL := Lib.hid hL
          rw [hL] at hLf
          clear hL
          by_cases hL0 : 0 < L
          · by_cases hj2 : j < 200
            · have e200 : decide ((j : Int) < 200) = true := decide_eq_true (by omega)
              have hq := fun w => queue_p D n (by omega) (by omega) w
              obtain ⟨g1, g2⟩ := starved_queue hs hn1 (by rw [HL.out]; exact hL0)
              obtain ⟨D1, hD1⟩ : ∃ X, queueV D n = X := ⟨_, rfl⟩
              rw [g1, hD1] at hq
              rw [hD1] at g2
              clear g1 hD1 hs
              go_wp2_with (first
              | go_skip
              | ((with_reducible show wpList _ _ _ _ _ (World.alloc _ (.cells _ _))); refine mem_newb H ?_; intro bN w3 hbk H2; try rw [← hbk]; clear hbk H; have H := H2; clear H2; simp only [List.cons_append, List.nil_append, List.set_cons_zero, List.set_cons_succ, List.setIfInBounds_toArray] at H)
              | ((with_reducible show wpList _ _ _ (⟨_, .load 26 _, _, _, _, _⟩ :: _) _ _); refine mem_load (i := 0) H (by first | exact wanted_none rfl | exact wanted_some rfl rfl rfl rfl) (by exact rfl) (by exact rfl) (by exact rfl) Try.underlying26 rfl (by exact dqlInfo) ?_)
              | ((with_reducible show wpList _ _ _ (⟨_, .load 26 _, _, _, _, _⟩ :: _) _ _); refine mem_load (i := 1) H (by first | exact wanted_none rfl | exact wanted_some rfl rfl rfl rfl) (by exact rfl) (by exact rfl) (by exact rfl) Try.underlying26 rfl (by exact dqlInfo) ?_)
              | ((with_reducible show wpList _ _ _ (⟨_, .store 26 _ _, _, _, _, _⟩ :: _) _ _); refine mem_store (i := 0) H (by first | exact wanted_none rfl | exact wanted_some rfl rfl rfl rfl) (by exact rfl) (by exact rfl) (by exact rfl) (by exact rfl) (by exact dqlInfo) (by exact rfl) (by exact rfl) ?_; intro w2 H2; clear H; have H := H2; clear H2; simp only [List.cons_append, List.nil_append, List.set_cons_zero, List.set_cons_succ, List.setIfInBounds_toArray] at H)
              | ((with_reducible show wpList _ _ _ (⟨_, .store 26 _ _, _, _, _, _⟩ :: _) _ _); refine mem_store (i := 1) H (by first | exact wanted_none rfl | exact wanted_some rfl rfl rfl rfl) (by exact rfl) (by exact rfl) (by exact rfl) (by exact rfl) (by exact dqlInfo) (by exact rfl) (by exact rfl) ?_; intro w2 H2; clear H; have H := H2; clear H2; simp only [List.cons_append, List.nil_append, List.set_cons_zero, List.set_cons_succ, List.setIfInBounds_toArray] at H)
              | (go_at_call 15; refine (hLf _).mono ?_; rintro e w2 ⟨rfl, hb⟩; have H2 := H.call hb; clear H hb; have H := H2; clear H2)
              | (go_at_call 20; refine (hq _).mono ?_; rintro e w2 ⟨rfl, hb⟩; have H2 := H.call hb; clear H hb; have H := H2; clear H2))
              go_roundw
              case rel => exact ⟨j + 1, D1, by omega, by go_num, g2, H.drop 1⟩
              case measure => simp [intOf]; omega
            · have e200 : decide ((j : Int) < 200) = false := decide_eq_false (by omega)
              clear hs
              go_wp2_with (first
              | go_skip
              | ((with_reducible show wpList _ _ _ (⟨_, .load 26 _, _, _, _, _⟩ :: _) _ _); refine mem_load (i := 0) H (by first | exact wanted_none rfl | exact wanted_some rfl rfl rfl rfl) (by exact rfl) (by exact rfl) (by exact rfl) Try.underlying26 rfl (by exact dqlInfo) ?_)
              | ((with_reducible show wpList _ _ _ (⟨_, .load 26 _, _, _, _, _⟩ :: _) _ _); refine mem_load (i := 1) H (by first | exact wanted_none rfl | exact wanted_some rfl rfl rfl rfl) (by exact rfl) (by exact rfl) (by exact rfl) Try.underlying26 rfl (by exact dqlInfo) ?_)
              | ((with_reducible show wpList _ _ _ (⟨_, .store 26 _ _, _, _, _, _⟩ :: _) _ _); refine mem_store (i := 0) H (by first | exact wanted_none rfl | exact wanted_some rfl rfl rfl rfl) (by exact rfl) (by exact rfl) (by exact rfl) (by exact rfl) (by exact dqlInfo) (by exact rfl) (by exact rfl) ?_; intro w2 H2; clear H; have H := H2; clear H2; simp only [List.cons_append, List.nil_append, List.set_cons_zero, List.set_cons_succ, List.setIfInBounds_toArray] at H)
              | ((with_reducible show wpList _ _ _ (⟨_, .store 26 _ _, _, _, _, _⟩ :: _) _ _); refine mem_store (i := 1) H (by first | exact wanted_none rfl | exact wanted_some rfl rfl rfl rfl) (by exact rfl) (by exact rfl) (by exact rfl) (by exact rfl) (by exact dqlInfo) (by exact rfl) (by exact rfl) ?_; intro w2 H2; clear H; have H := H2; clear H2; simp only [List.cons_append, List.nil_append, List.set_cons_zero, List.set_cons_succ, List.setIfInBounds_toArray] at H)
              | (go_at_call 15; refine (hLf _).mono ?_; rintro e w2 ⟨rfl, hb⟩; have H2 := H.call hb; clear H hb; have H := H2; clear H2))
              go_ret
              exact ⟨rfl, H.below⟩
          · have hFD := fun w => flight_p D w
            have hm := fun w => complete_p D D.flight k hs.fits (by omega) w
            obtain ⟨g1, g2, g3⟩ := starved_complete hs (by rw [HL.out]; omega) (t := k) (by omega)
            rw [g1] at hm
            obtain ⟨D2, hD2⟩ : ∃ X, completeV D D.flight k = X := ⟨_, rfl⟩
            rw [hD2] at hm g2 g3
            obtain ⟨Fl, hFl⟩ : ∃ X, D.flight = X := ⟨_, rfl⟩
            rw [hFl] at hm hFD
            clear hFl hD2 g1 hs
            have q1 : decide (D2.lim < D.lim) = false := decide_eq_false (by omega)
            obtain ⟨v200, e200⟩ : ∃ v, decide ((j : Int) < 200) = v := ⟨_, rfl⟩
            cases v200
            all_goals
              go_upto_region 19 with (first
              | ((with_reducible show wpList _ _ _ (⟨_, .load 26 _, _, _, _, _⟩ :: _) _ _); refine mem_load (i := 0) H (by first | exact wanted_none rfl | exact wanted_some rfl rfl rfl rfl) (by exact rfl) (by exact rfl) (by exact rfl) Try.underlying26 rfl (by exact dqlInfo) ?_)
              | ((with_reducible show wpList _ _ _ (⟨_, .load 26 _, _, _, _, _⟩ :: _) _ _); refine mem_load (i := 1) H (by first | exact wanted_none rfl | exact wanted_some rfl rfl rfl rfl) (by exact rfl) (by exact rfl) (by exact rfl) Try.underlying26 rfl (by exact dqlInfo) ?_)
              | ((with_reducible show wpList _ _ _ (⟨_, .store 26 _ _, _, _, _, _⟩ :: _) _ _); refine mem_store (i := 0) H (by first | exact wanted_none rfl | exact wanted_some rfl rfl rfl rfl) (by exact rfl) (by exact rfl) (by exact rfl) (by exact rfl) (by exact dqlInfo) (by exact rfl) (by exact rfl) ?_; intro w2 H2; clear H; have H := H2; clear H2; simp only [List.cons_append, List.nil_append, List.set_cons_zero, List.set_cons_succ, List.setIfInBounds_toArray] at H)
              | ((with_reducible show wpList _ _ _ (⟨_, .store 26 _ _, _, _, _, _⟩ :: _) _ _); refine mem_store (i := 1) H (by first | exact wanted_none rfl | exact wanted_some rfl rfl rfl rfl) (by exact rfl) (by exact rfl) (by exact rfl) (by exact rfl) (by exact dqlInfo) (by exact rfl) (by exact rfl) ?_; intro w2 H2; clear H; have H := H2; clear H2; simp only [List.cons_append, List.nil_append, List.set_cons_zero, List.set_cons_succ, List.setIfInBounds_toArray] at H)
              | ((with_reducible show wpList _ _ _ (⟨_, .load _ _, _, _, _, _⟩ :: _) _ _); refine mem_loadf (i := 0) H (by first | exact wanted_none rfl | exact wanted_some rfl rfl rfl rfl) (by exact rfl) (by exact rfl) (by exact rfl) (by first | exact Try.underlying22 | exact Try.underlying23) rfl (by exact rfl) ?_)
              | ((with_reducible show wpList _ _ _ (⟨_, .load _ _, _, _, _, _⟩ :: _) _ _); refine mem_loadf (i := 1) H (by first | exact wanted_none rfl | exact wanted_some rfl rfl rfl rfl) (by exact rfl) (by exact rfl) (by exact rfl) (by first | exact Try.underlying22 | exact Try.underlying23) rfl (by exact rfl) ?_)
              | (go_at_call 15; refine (hLf _).mono ?_; rintro e w2 ⟨rfl, hb⟩; have H2 := H.call hb; clear H hb; have H := H2; clear H2))
              refine region_memk H 10 12 rfl (by kernel_rfl) (fun wr0 hcl hS => ?_)
              clear H
              refine wpAnyG_take (i := 0) 1 (v := dq D) rfl rfl (by kernel_rfl) (by kernel_rfl) (by kernel_rfl) (fun _ _ _ h => h) (by kernel_rfl) (by decide) hcl (yields_held (fun w h => h.at 0 rfl) (by exact rfl) (by exact rfl) (by exact rfl) Try.underlying26 rfl dqlInfo) hS (fun hc1 => ?_)
              clear hcl; have hcl := hc1; clear hc1; simp only [List.getElem_toArray, List.getElem_cons_zero, List.getElem_cons_succ, Act.put, List.setIfInBounds_toArray, List.set_cons_zero, List.set_cons_succ]
              refine wpAnyG_take (i := 1) 1 (v := dq D) rfl rfl (by kernel_rfl) (by kernel_rfl) (by kernel_rfl) (fun _ _ _ h => h) (by kernel_rfl) (by decide) hcl (yields_held (fun w h => h.at 0 rfl) (by exact rfl) (by exact rfl) (by exact rfl) Try.underlying26 rfl dqlInfo) hS (fun hc1 => ?_)
              clear hcl; have hcl := hc1; clear hc1; simp only [List.getElem_toArray, List.getElem_cons_zero, List.getElem_cons_succ, Act.put, List.setIfInBounds_toArray, List.set_cons_zero, List.set_cons_succ]
              refine wpAnyG_pure (i := 3) (v := .int .i64 k) rfl rfl (by kernel_rfl) (by kernel_rfl) (by kernel_rfl) (fun _ _ _ h => h) (by decide) ⟨by rfl, fun w _ => (by go_simp; try (first | (simp only [IntKind.wrap_u32]; done) | rfl)), fun _ => rfl⟩ (.inr hS) ?_
              have hc1 := hcl.step (i := 3) (by kernel_rfl)
              clear hcl; have hcl := hc1; clear hc1; simp only [List.getElem_toArray, List.getElem_cons_zero, List.getElem_cons_succ, Act.put, List.setIfInBounds_toArray, List.set_cons_zero, List.set_cons_succ]
              refine wpAnyG_pure (i := 4) (v := .int .u64 k) rfl rfl (by kernel_rfl) (by kernel_rfl) (by kernel_rfl) (fun _ _ _ h => h) (by decide) ⟨by rfl, fun w _ => (by go_simp; try (first | (simp only [IntKind.wrap_u32]; done) | rfl | (rw [IntKind.wrap_u64]; omega))), fun _ => rfl⟩ (.inr hS) ?_
              have hc1 := hcl.step (i := 4) (by kernel_rfl)
              clear hcl; have hcl := hc1; clear hc1; simp only [List.getElem_toArray, List.getElem_cons_zero, List.getElem_cons_succ, Act.put, List.setIfInBounds_toArray, List.set_cons_zero, List.set_cons_succ]
              refine wpAnyG_two (i := 2) (j := 9) (by kernel_rfl) rfl rfl (fun K hK => ?_) (fun K hK => ?_)
              go_simp
              refine ⟨trivial, (callsIn_wide.2 (hFD _)).mono ?_⟩
              rintro e w5 ⟨rfl, hb⟩
              have hS5 := hS.call hb
              clear hb hS
              have hS := hS5
              clear hS5
              refine hK _ _ (.inr hS) ?_
              clear hK K
              have hc1 := hcl.step (i := 2) (by kernel_rfl)
              clear hcl; have hcl := hc1; clear hc1
              refine wpAnyG_two (i := 5) (j := 9) (by kernel_rfl) rfl rfl (fun K hK => ?_) (fun K hK => ?_)
              go_simp
              refine ⟨trivial, (callsIn_wide.2 (hm _)).mono ?_⟩
              rintro e w5 ⟨rfl, hb⟩
              have hS5 := hS.call hb
              clear hb hS
              have hS := hS5
              clear hS5
              refine hK _ _ (.inr hS) ?_
              clear hK K
              have hc1 := hcl.step (i := 5) (by kernel_rfl)
              clear hcl; have hcl := hc1; clear hc1
              refine wpAnyG_pure (i := 6) (v := .tuple #[dq D2, .int .i64 0]) rfl rfl (by kernel_rfl) (by kernel_rfl) (by kernel_rfl) (fun _ _ _ h => h) (by decide) ⟨by rfl, fun w _ => (by go_simp; try (first | (simp only [IntKind.wrap_u32]; done) | rfl)), fun _ => rfl⟩ (.inr hS) ?_
              have hc1 := hcl.step (i := 6) (by kernel_rfl)
              clear hcl; have hcl := hc1; clear hc1; simp only [List.getElem_toArray, List.getElem_cons_zero, List.getElem_cons_succ, Act.put, List.setIfInBounds_toArray, List.set_cons_zero, List.set_cons_succ]
              refine wpAnyG_pure (i := 7) (v := dq D2) rfl rfl (by kernel_rfl) (by kernel_rfl) (by kernel_rfl) (fun _ _ _ h => h) (by decide) ⟨by rfl, fun w _ => (by go_simp; try (first | (simp only [IntKind.wrap_u32]; done) | rfl)), fun _ => rfl⟩ (.inr hS) ?_
              have hc1 := hcl.step (i := 7) (by kernel_rfl)
              clear hcl; have hcl := hc1; clear hc1; simp only [List.getElem_toArray, List.getElem_cons_zero, List.getElem_cons_succ, Act.put, List.setIfInBounds_toArray, List.set_cons_zero, List.set_cons_succ]
              refine wpAnyG_pure (i := 8) (v := .int .i64 0) rfl rfl (by kernel_rfl) (by kernel_rfl) (by kernel_rfl) (fun _ _ _ h => h) (by decide) ⟨by rfl, fun w _ => (by go_simp; try (first | (simp only [IntKind.wrap_u32]; done) | rfl)), fun _ => rfl⟩ (.inr hS) ?_
              have hc1 := hcl.step (i := 8) (by kernel_rfl)
              clear hcl; have hcl := hc1; clear hc1; simp only [List.getElem_toArray, List.getElem_cons_zero, List.getElem_cons_succ, Act.put, List.setIfInBounds_toArray, List.set_cons_zero, List.set_cons_succ]
              refine wpAnyG_one (i := 9) (by kernel_rfl) rfl (fun K hK => ?_)
              go_simp
              refine hK _ _ (.inr (hS.skip _)) ?_
              clear hK K
              have hc1 := hcl.step (i := 9) (by kernel_rfl)
              clear hcl; have hcl := hc1; clear hc1
              have hN := hS.alloc 26 #[.int .u32 0, .int .u32 0, .int .u32 0, .int .u32 0, .int .u32 0, .int .u32 0, .int .u32 0, .int .u32 0, .int .u32 0, .int .u64 0, .int .u64 0, .int .u32 0, .int .u32 0]
              have hS5 := hS.skip (.cells #[.int .u32 0, .int .u32 0, .int .u32 0, .int .u32 0, .int .u32 0, .int .u32 0, .int .u32 0, .int .u32 0, .int .u32 0, .int .u64 0, .int .u64 0, .int .u32 0, .int .u32 0] 26)
              clear hS
              generalize hbN : w5.heap.size = bN at hN ⊢
              clear hbN
              generalize w5.alloc (.cells #[.int .u32 0, .int .u32 0, .int .u32 0, .int .u32 0, .int .u32 0, .int .u32 0, .int .u32 0, .int .u32 0, .int .u32 0, .int .u64 0, .int .u64 0, .int .u32 0, .int .u32 0] 26) = w6 at hN hS5 ⊢
              have hS := hS5
              clear hS5
              simp only [List.cons_append, List.nil_append] at hN
              refine wpAnyG_one (i := 10) (by kernel_rfl) rfl (fun K hK => ?_)
              rw [if_pos (by exact rfl)]
              refine wpIn_store_mem (i := 1) hN (by exact rfl) (by exact rfl) (by exact rfl) (by exact rfl) (by exact dqlInfo) (by exact rfl) (by exact rfl) ?_
              intro w7 H
              simp only [List.cons_append, List.nil_append, List.set_cons_zero, List.set_cons_succ, List.setIfInBounds_toArray] at H
              refine hK _ _ (.inl (by kernel_rfl)) ?_
              clear hK K hS hN hcl
              simp only [List.getElem_toArray, List.getElem_cons_zero, List.getElem_cons_succ, Act.put, List.setIfInBounds_toArray, List.set_cons_zero, List.set_cons_succ]
              refine wpAnyG_one (i := 11) (by kernel_rfl) rfl (fun K hK => ?_)
              go_simp
              refine hK _ _ (.inl (by kernel_rfl)) ?_
              clear hK K
              refine wpAnyG_done (by kernel_rfl) ?_ _
              rotate_left 1
              go_simp
              refine hK _ _ (.inr (hS.skip _)) ?_
              clear hK K
              have hc1 := hcl.step (i := 9) (by kernel_rfl)
              clear hcl; have hcl := hc1; clear hc1
              have hN := hS.alloc 26 #[.int .u32 0, .int .u32 0, .int .u32 0, .int .u32 0, .int .u32 0, .int .u32 0, .int .u32 0, .int .u32 0, .int .u32 0, .int .u64 0, .int .u64 0, .int .u32 0, .int .u32 0]
              have hS5 := hS.skip (.cells #[.int .u32 0, .int .u32 0, .int .u32 0, .int .u32 0, .int .u32 0, .int .u32 0, .int .u32 0, .int .u32 0, .int .u32 0, .int .u64 0, .int .u64 0, .int .u32 0, .int .u32 0] 26)
              clear hS
              generalize hbN : w5.heap.size = bN at hN ⊢
              clear hbN
              generalize w5.alloc (.cells #[.int .u32 0, .int .u32 0, .int .u32 0, .int .u32 0, .int .u32 0, .int .u32 0, .int .u32 0, .int .u32 0, .int .u32 0, .int .u64 0, .int .u64 0, .int .u32 0, .int .u32 0] 26) = w6 at hN hS5 ⊢
              have hS := hS5
              clear hS5
              simp only [List.cons_append, List.nil_append] at hN
              refine wpAnyG_one (i := 5) (by kernel_rfl) rfl (fun K hK => ?_)
              go_simp
              refine ⟨trivial, (callsIn_wide.2 (hm _)).mono ?_⟩
              rintro e w5 ⟨rfl, hb⟩
              have hS5 := hS.call hb
              have hN5 := hN.call hb
              clear hb hS hN
              have hS := hS5
              clear hS5
              have hN := hN5
              clear hN5
              refine hK _ _ (.inr hS) ?_
              clear hK K
              have hc1 := hcl.step (i := 5) (by kernel_rfl)
              clear hcl; have hcl := hc1; clear hc1
              refine wpAnyG_pure (i := 6) (v := .tuple #[dq D2, .int .i64 0]) rfl rfl (by kernel_rfl) (by kernel_rfl) (by kernel_rfl) (fun _ _ _ h => h) (by decide) ⟨by rfl, fun w _ => (by go_simp; try (first | (simp only [IntKind.wrap_u32]; done) | rfl)), fun _ => rfl⟩ (.inr hS) ?_
              have hc1 := hcl.step (i := 6) (by kernel_rfl)
              clear hcl; have hcl := hc1; clear hc1; simp only [List.getElem_toArray, List.getElem_cons_zero, List.getElem_cons_succ, Act.put, List.setIfInBounds_toArray, List.set_cons_zero, List.set_cons_succ]
              refine wpAnyG_pure (i := 7) (v := dq D2) rfl rfl (by kernel_rfl) (by kernel_rfl) (by kernel_rfl) (fun _ _ _ h => h) (by decide) ⟨by rfl, fun w _ => (by go_simp; try (first | (simp only [IntKind.wrap_u32]; done) | rfl)), fun _ => rfl⟩ (.inr hS) ?_
              have hc1 := hcl.step (i := 7) (by kernel_rfl)
              clear hcl; have hcl := hc1; clear hc1; simp only [List.getElem_toArray, List.getElem_cons_zero, List.getElem_cons_succ, Act.put, List.setIfInBounds_toArray, List.set_cons_zero, List.set_cons_succ]
              refine wpAnyG_pure (i := 8) (v := .int .i64 0) rfl rfl (by kernel_rfl) (by kernel_rfl) (by kernel_rfl) (fun _ _ _ h => h) (by decide) ⟨by rfl, fun w _ => (by go_simp; try (first | (simp only [IntKind.wrap_u32]; done) | rfl)), fun _ => rfl⟩ (.inr hS) ?_
              have hc1 := hcl.step (i := 8) (by kernel_rfl)
              clear hcl; have hcl := hc1; clear hc1; simp only [List.getElem_toArray, List.getElem_cons_zero, List.getElem_cons_succ, Act.put, List.setIfInBounds_toArray, List.set_cons_zero, List.set_cons_succ]
              refine wpAnyG_one (i := 10) (by kernel_rfl) rfl (fun K hK => ?_)
              rw [if_pos (by exact rfl)]
              refine wpIn_store_mem (i := 1) hN (by exact rfl) (by exact rfl) (by exact rfl) (by exact rfl) (by exact dqlInfo) (by exact rfl) (by exact rfl) ?_
              intro w7 H
              simp only [List.cons_append, List.nil_append, List.set_cons_zero, List.set_cons_succ, List.setIfInBounds_toArray] at H
              refine hK _ _ (.inl (by kernel_rfl)) ?_
              clear hK K hS hN hcl
              simp only [List.getElem_toArray, List.getElem_cons_zero, List.getElem_cons_succ, Act.put, List.setIfInBounds_toArray, List.set_cons_zero, List.set_cons_succ]
              refine wpAnyG_one (i := 11) (by kernel_rfl) rfl (fun K hK => ?_)
              go_simp
              refine hK _ _ (.inl (by kernel_rfl)) ?_
              clear hK K
              refine wpAnyG_done (by kernel_rfl) ?_ _
              rotate_left 1
              go_simp
              refine hK _ _ (.inr (hS.skip _)) ?_
              clear hK K
              have hc1 := hcl.step (i := 9) (by kernel_rfl)
              clear hcl; have hcl := hc1; clear hc1
              have hN := hS.alloc 26 #[.int .u32 0, .int .u32 0, .int .u32 0, .int .u32 0, .int .u32 0, .int .u32 0, .int .u32 0, .int .u32 0, .int .u32 0, .int .u64 0, .int .u64 0, .int .u32 0, .int .u32 0]
              have hS5 := hS.skip (.cells #[.int .u32 0, .int .u32 0, .int .u32 0, .int .u32 0, .int .u32 0, .int .u32 0, .int .u32 0, .int .u32 0, .int .u32 0, .int .u64 0, .int .u64 0, .int .u32 0, .int .u32 0] 26)
              clear hS
              generalize hbN : wr0.heap.size = bN at hN ⊢
              clear hbN
              generalize wr0.alloc (.cells #[.int .u32 0, .int .u32 0, .int .u32 0, .int .u32 0, .int .u32 0, .int .u32 0, .int .u32 0, .int .u32 0, .int .u32 0, .int .u64 0, .int .u64 0, .int .u32 0, .int .u32 0] 26) = w6 at hN hS5 ⊢
              have hS := hS5
              clear hS5
              simp only [List.cons_append, List.nil_append] at hN
              refine wpAnyG_one (i := 2) (by kernel_rfl) rfl (fun K hK => ?_)
              go_simp
              refine ⟨trivial, (callsIn_wide.2 (hFD _)).mono ?_⟩
              rintro e w5 ⟨rfl, hb⟩
              have hS5 := hS.call hb
              have hN5 := hN.call hb
              clear hb hS hN
              have hS := hS5
              clear hS5
              have hN := hN5
              clear hN5
              refine hK _ _ (.inr hS) ?_
              clear hK K
              have hc1 := hcl.step (i := 2) (by kernel_rfl)
              clear hcl; have hcl := hc1; clear hc1
              refine wpAnyG_one (i := 5) (by kernel_rfl) rfl (fun K hK => ?_)
              go_simp
              refine ⟨trivial, (callsIn_wide.2 (hm _)).mono ?_⟩
              rintro e w5 ⟨rfl, hb⟩
              have hS5 := hS.call hb
              have hN5 := hN.call hb
              clear hb hS hN
              have hS := hS5
              clear hS5
              have hN := hN5
              clear hN5
              refine hK _ _ (.inr hS) ?_
              clear hK K
              have hc1 := hcl.step (i := 5) (by kernel_rfl)
              clear hcl; have hcl := hc1; clear hc1
              refine wpAnyG_pure (i := 6) (v := .tuple #[dq D2, .int .i64 0]) rfl rfl (by kernel_rfl) (by kernel_rfl) (by kernel_rfl) (fun _ _ _ h => h) (by decide) ⟨by rfl, fun w _ => (by go_simp; try (first | (simp only [IntKind.wrap_u32]; done) | rfl)), fun _ => rfl⟩ (.inr hS) ?_
              have hc1 := hcl.step (i := 6) (by kernel_rfl)
              clear hcl; have hcl := hc1; clear hc1; simp only [List.getElem_toArray, List.getElem_cons_zero, List.getElem_cons_succ, Act.put, List.setIfInBounds_toArray, List.set_cons_zero, List.set_cons_succ]
              refine wpAnyG_pure (i := 7) (v := dq D2) rfl rfl (by kernel_rfl) (by kernel_rfl) (by kernel_rfl) (fun _ _ _ h => h) (by decide) ⟨by rfl, fun w _ => (by go_simp; try (first | (simp only [IntKind.wrap_u32]; done) | rfl)), fun _ => rfl⟩ (.inr hS) ?_
              have hc1 := hcl.step (i := 7) (by kernel_rfl)
              clear hcl; have hcl := hc1; clear hc1; simp only [List.getElem_toArray, List.getElem_cons_zero, List.getElem_cons_succ, Act.put, List.setIfInBounds_toArray, List.set_cons_zero, List.set_cons_succ]
              refine wpAnyG_pure (i := 8) (v := .int .i64 0) rfl rfl (by kernel_rfl) (by kernel_rfl) (by kernel_rfl) (fun _ _ _ h => h) (by decide) ⟨by rfl, fun w _ => (by go_simp; try (first | (simp only [IntKind.wrap_u32]; done) | rfl)), fun _ => rfl⟩ (.inr hS) ?_
              have hc1 := hcl.step (i := 8) (by kernel_rfl)
              clear hcl; have hcl := hc1; clear hc1; simp only [List.getElem_toArray, List.getElem_cons_zero, List.getElem_cons_succ, Act.put, List.setIfInBounds_toArray, List.set_cons_zero, List.set_cons_succ]
              refine wpAnyG_one (i := 10) (by kernel_rfl) rfl (fun K hK => ?_)
              rw [if_pos (by exact rfl)]
              refine wpIn_store_mem (i := 1) hN (by exact rfl) (by exact rfl) (by exact rfl) (by exact rfl) (by exact dqlInfo) (by exact rfl) (by exact rfl) ?_
              intro w7 H
              simp only [List.cons_append, List.nil_append, List.set_cons_zero, List.set_cons_succ, List.setIfInBounds_toArray] at H
              refine hK _ _ (.inl (by kernel_rfl)) ?_
              clear hK K hS hN hcl
              simp only [List.getElem_toArray, List.getElem_cons_zero, List.getElem_cons_succ, Act.put, List.setIfInBounds_toArray, List.set_cons_zero, List.set_cons_succ]
              refine wpAnyG_one (i := 11) (by kernel_rfl) rfl (fun K hK => ?_)
              go_simp
              refine hK _ _ (.inl (by kernel_rfl)) ?_
              clear hK K
              refine wpAnyG_done (by kernel_rfl) ?_ _
              all_goals
                go_wp2_with (first
                | go_skip
                | ((with_reducible show wpList _ _ _ (⟨_, .load 26 _, _, _, _, _⟩ :: _) _ _); refine mem_load (i := 0) H (by first | exact wanted_none rfl | exact wanted_some rfl rfl rfl rfl) (by exact rfl) (by exact rfl) (by exact rfl) Try.underlying26 rfl (by exact dqlInfo) ?_)
                | ((with_reducible show wpList _ _ _ (⟨_, .load 26 _, _, _, _, _⟩ :: _) _ _); refine mem_load (i := 1) H (by first | exact wanted_none rfl | exact wanted_some rfl rfl rfl rfl) (by exact rfl) (by exact rfl) (by exact rfl) Try.underlying26 rfl (by exact dqlInfo) ?_)
                | ((with_reducible show wpList _ _ _ (⟨_, .store 26 _ _, _, _, _, _⟩ :: _) _ _); refine mem_store (i := 0) H (by first | exact wanted_none rfl | exact wanted_some rfl rfl rfl rfl) (by exact rfl) (by exact rfl) (by exact rfl) (by exact rfl) (by exact dqlInfo) (by exact rfl) (by exact rfl) ?_; intro w2 H2; clear H; have H := H2; clear H2; simp only [List.cons_append, List.nil_append, List.set_cons_zero, List.set_cons_succ, List.setIfInBounds_toArray] at H)
                | ((with_reducible show wpList _ _ _ (⟨_, .store 26 _ _, _, _, _, _⟩ :: _) _ _); refine mem_store (i := 1) H (by first | exact wanted_none rfl | exact wanted_some rfl rfl rfl rfl) (by exact rfl) (by exact rfl) (by exact rfl) (by exact rfl) (by exact dqlInfo) (by exact rfl) (by exact rfl) ?_; intro w2 H2; clear H; have H := H2; clear H2; simp only [List.cons_append, List.nil_append, List.set_cons_zero, List.set_cons_succ, List.setIfInBounds_toArray] at H)
                | ((with_reducible show wpList _ _ _ (⟨_, .load _ _, _, _, _, _⟩ :: _) _ _); refine mem_loadf (i := 0) H (by first | exact wanted_none rfl | exact wanted_some rfl rfl rfl rfl) (by exact rfl) (by exact rfl) (by exact rfl) (by first | exact Try.underlying22 | exact Try.underlying23) rfl (by exact rfl) ?_)
                | ((with_reducible show wpList _ _ _ (⟨_, .load _ _, _, _, _, _⟩ :: _) _ _); refine mem_loadf (i := 1) H (by first | exact wanted_none rfl | exact wanted_some rfl rfl rfl rfl) (by exact rfl) (by exact rfl) (by exact rfl) (by first | exact Try.underlying22 | exact Try.underlying23) rfl (by exact rfl) ?_))
                go_roundw
                case rel => exact ⟨k + 1, D2, by omega, by omega, by go_num, g3, H.drop 1⟩
                case measure => simp [intOf]; omega
      · clear hin HAb
        go_wp2
        all_goals
          go_ret
          exact ⟨rfl, H.below⟩
end Go.Proofs.Ytfgaeaebchgcdaa
