/-
  DqlRuns, walked. Conditions: the numbers fit their kinds.
-/
import Derived.Test.YtfgaeaebchgcdaaDqlO
import Derived.Test.YtfgaeaebchgcdaaMemP
import Derived.Test.YtfgaeaebchgcdaaSlice
namespace Go.Proofs.Ytfgaeaebchgcdaa
set_option linter.unusedSimpArgs false
set_option linter.unusedVariables false
open Go.ChangeShapes Go.WideShapes Go.ChangeAt Go.RowKit

/-- an act's cells, and that its numbers fit -/
abbrev act4C (x : Int × Int × Int) : List Value := [.int .i64 x.1, .int .u32 x.2.1, .int .u64 x.2.2]
abbrev act4F (x : Int × Int × Int) : Prop := (Lit.int .i64 x.1).wf = true ∧ (Lit.int .u32 x.2.1).wf = true ∧ (Lit.int .u64 x.2.2).wf = true
/-- the acts where they lie -/
structure Acts4 (w : World) (b o len : Nat) (acts : Nat → Int × Int × Int) : Prop where
  lt : b < w.heap.size
  fits : ∀ k, k < len → act4F (acts k)
  cell : ∀ k, k < len → w.cell? ⟨b, o + k * 3, none⟩ = some (.int .i64 (acts k).1) ∧ w.cell? ⟨b, o + k * 3 + 1, none⟩ = some (.int .u32 (acts k).2.1) ∧ w.cell? ⟨b, o + k * 3 + 2, none⟩ = some (.int .u64 (acts k).2.2)
theorem acts4_in {w : World} {A : Option Addr} {len : Nat} {acts : Nat → Int × Int × Int} (h : SliceAt w A len 3 act4C act4F acts) : ∃ b o, (0 < len → A = some ⟨b, o, none⟩) ∧ (0 < len → Acts4 w b o len acts) := by
  by_cases h0 : 0 < len
  · obtain ⟨b, o, h1, h2, h3⟩ := h.plain (fun _ => rfl) (by decide) h0
    exact ⟨b, o, fun _ => h1, fun _ => ⟨h2, fun k hk => (h3 k hk).1, fun k hk => ⟨(h3 k hk).2 0 _ rfl, (h3 k hk).2 1 _ rfl, (h3 k hk).2 2 _ rfl⟩⟩⟩
  · exact ⟨0, 0, fun h => absurd h h0, fun h => absurd h h0⟩
theorem queue_good {d : DQ} {n : Int} (hr : d.rightB = true) (hf : d.Fits) (hn : 0 ≤ n ∧ n ≤ 4294967295) (h : queueE d n = 0) : (queueV d n).rightB = true ∧ (queueV d n).Fits := by
  rcases hq : d.queueB n
  · simp only [queueE, hr, hq, cond_true, cond_false] at h
    cases h
  · simp only [queueV, hr, hq, Bool.and_true, cond_true]
    exact ⟨DQ.queued_right hr hq, hf.queued hn⟩
theorem complete_good {d : DQ} {n t : Int} (hr : d.rightB = true) (hf : d.Fits) (hn : 0 ≤ n ∧ n ≤ 4294967295) (ht : 0 ≤ t ∧ t ≤ 18446744073709551615) (h : completeE d n = 0) : (completeV d n t).rightB = true ∧ (completeV d n t).Fits := by
  rcases hq : decide (n ≤ d.flight)
  · simp only [completeE, hr, hq, cond_true, cond_false] at h
    cases h
  · simp only [completeV, hr, hq, Bool.and_true, cond_true]
    exact ⟨DQ.completed_right hr hn.1 (of_decide_eq_true hq), hf.completed hr ht⟩
theorem queue_bound {d : DQ} {n : Int} (hr : d.rightB = true) (hl : 0 < d.left) (h : queueE d n = 0) : (1 ≤ n ∧ n ≤ 65535) ∧ (queueV d n).flight ≤ d.lim + n - 1 := by
  rcases hq : d.queueB n
  · simp only [queueE, hr, hq, cond_true, cond_false] at h
    cases h
  · have hb := DQ.queued_bound hr hl hq
    simp only [queueV, hr, hq, Bool.and_true, cond_true]
    simp only [DQ.queueB, decide_eq_true_eq] at hq
    exact ⟨⟨hq.1, hq.2.1⟩, hb⟩
theorem complete_bound {d : DQ} {n t : Int} (hr : d.rightB = true) (hn : 0 ≤ n ∧ n ≤ 4294967295) (h : completeE d n = 0) : (completeV d n t).flight ≤ d.flight := by
  rcases hq : decide (n ≤ d.flight)
  · simp only [completeE, hr, hq, cond_true, cond_false] at h
    cases h
  · simp only [completeV, hr, hq, Bool.and_true, cond_true]
    rw [DQ.completed_flight hn.1 (of_decide_eq_true hq)]
    omega
/-- a box of a state -/
abbrev bx (b : Nat) (d : DQ) : Nat × TypeId × Array Value := (b, 26, #[.int .u32 d.q, .int .u32 d.adj, .int .u32 d.last, .int .u32 d.lim, .int .u32 d.comp, .int .u32 d.pov, .int .u32 d.plast, .int .u32 d.pq, .int .u32 d.slack, .int .u64 d.start, .int .u64 d.hold, .int .u32 d.mn, .int .u32 d.mx])
set_option maxRecDepth 100000 in
set_option maxHeartbeats 4000000 in
theorem runs_w (a b h : Int) (hh : 0 ≤ h ∧ h ≤ 18446744073709551615) (A : Option Addr) (len cap : Nat) (acts : Nat → Int × Int × Int) (hl : len ≤ cap) (hc : cap ≤ maxLen) (w : World) (hA : SliceAt w A len 3 act4C act4F acts) : Calls Try.prog 6 #[.int .u32 a, .int .u32 b, .int .u64 h, .slice A len cap] w fun e w' => e = .returned (.bool true) ∧ Below w.heap.size w w' := by
  unfold maxLen at hc
  obtain ⟨ba, oa, hAb, hin⟩ := acts4_in hA
  have HAb := Lib.hid hAb
  clear hAb hA
  have h0 := fun w => new_p a b h 0 w
  have H := Mem.start w
  rcases hb : DQ.newB a b
  · rw [show newE a b = 2 by simp only [newE, hb, cond_false]] at h0
    clear hb hin HAb
    go_enter Try.func6, Try.ntmps6
    go_wp2_with (first
    | go_skip
    | ((with_reducible show wpList _ _ _ _ _ (World.alloc _ (.cells _ _))); refine mem_new H ?_; intro w2 H2; clear H; have H := H2; clear H2; simp only [List.cons_append, List.nil_append, List.set_cons_zero, List.set_cons_succ, List.setIfInBounds_toArray] at H)
    | ((with_reducible show wpList _ _ _ (⟨_, .load 26 _, _, _, _, _⟩ :: _) _ _); refine mem_load (i := 0) H (by first | exact wanted_none rfl | exact wanted_some rfl rfl rfl rfl) (by exact rfl) (by exact rfl) (by exact rfl) Try.underlying26 rfl (by exact dqlInfo) ?_)
    | ((with_reducible show wpList _ _ _ (⟨_, .load _ _, _, _, _, _⟩ :: _) _ _); refine mem_loadf (i := 0) H (by first | exact wanted_none rfl | exact wanted_some rfl rfl rfl rfl) (by exact rfl) (by exact rfl) (by exact rfl) (by first | exact Try.underlying22 | exact Try.underlying23) rfl (by exact rfl) ?_)
    | ((with_reducible show wpList _ _ _ (⟨_, .store 26 _ _, _, _, _, _⟩ :: _) _ _); refine mem_store (i := 0) H (by first | exact wanted_none rfl | exact wanted_some rfl rfl rfl rfl) (by exact rfl) (by exact rfl) (by exact rfl) (by exact rfl) (by exact dqlInfo) (by exact rfl) (by exact rfl) ?_; intro w2 H2; clear H; have H := H2; clear H2; simp only [List.cons_append, List.nil_append, List.set_cons_zero, List.set_cons_succ, List.setIfInBounds_toArray] at H)
    | (go_at_call 11; refine (shown_p _).mono ?_; rintro e w2 ⟨rfl, hb⟩; have H2 := H.call hb; clear H hb; have H := H2; clear H2)
    | (go_at_call 12; refine (h0 _).mono ?_; rintro e w2 ⟨rfl, hb⟩; have H2 := H.call hb; clear H hb; have H := H2; clear H2))
    go_ret
    exact ⟨rfl, H.below⟩
  · rw [show newE a b = 0 by simp only [newE, hb, cond_true], show newV a b h 0 = DQ.first a b h 0 by simp only [newV, hb, cond_true]] at h0
    have hfr := DQ.first_right (h := h) (t := 0) hb
    simp only [DQ.newB, decide_eq_true_eq] at hb
    have hfit : (DQ.first a b h 0).Fits := DQ.Fits.first (by omega) (by omega) hh (by omega)
    obtain ⟨D0, hD0⟩ : ∃ D, DQ.first a b h 0 = D := ⟨_, rfl⟩
    rw [hD0] at h0 hfr hfit
    clear hD0 hb
    go_enter Try.func6, Try.ntmps6
    go_upto_region 5 with (first
    | ((with_reducible show wpList _ _ _ _ _ (World.alloc _ (.cells _ _))); refine mem_newb H ?_; intro bA w3 hbk H2; try rw [← hbk]; clear hbk H; have H := H2; clear H2; simp only [List.cons_append, List.nil_append, List.set_cons_zero, List.set_cons_succ, List.setIfInBounds_toArray] at H)
    | ((with_reducible show wpList _ _ _ _ _ (World.alloc _ (.cells _ _))); refine mem_new H ?_; intro w2 H2; clear H; have H := H2; clear H2; simp only [List.cons_append, List.nil_append, List.set_cons_zero, List.set_cons_succ, List.setIfInBounds_toArray] at H)
    | ((with_reducible show wpList _ _ _ (⟨_, .load 26 _, _, _, _, _⟩ :: _) _ _); refine mem_load (i := 0) H (by first | exact wanted_none rfl | exact wanted_some rfl rfl rfl rfl) (by exact rfl) (by exact rfl) (by exact rfl) Try.underlying26 rfl (by exact dqlInfo) ?_)
    | ((with_reducible show wpList _ _ _ (⟨_, .load _ _, _, _, _, _⟩ :: _) _ _); refine mem_loadf (i := 0) H (by first | exact wanted_none rfl | exact wanted_some rfl rfl rfl rfl) (by exact rfl) (by exact rfl) (by exact rfl) (by first | exact Try.underlying22 | exact Try.underlying23) rfl (by exact rfl) ?_)
    | ((with_reducible show wpList _ _ _ (⟨_, .store 26 _ _, _, _, _, _⟩ :: _) _ _); refine mem_store (i := 0) H (by first | exact wanted_none rfl | exact wanted_some rfl rfl rfl rfl) (by exact rfl) (by exact rfl) (by exact rfl) (by exact rfl) (by exact dqlInfo) (by exact rfl) (by exact rfl) ?_; intro w2 H2; clear H; have H := H2; clear H2; simp only [List.cons_append, List.nil_append, List.set_cons_zero, List.set_cons_succ, List.setIfInBounds_toArray] at H)
    | (go_at_call 11; refine (shown_p _).mono ?_; rintro e w2 ⟨rfl, hb⟩; have H2 := H.call hb; clear H hb; have H := H2; clear H2)
    | (go_at_call 12; refine (h0 _).mono ?_; rintro e w2 ⟨rfl, hb⟩; have H2 := H.call hb; clear H hb; have H := H2; clear H2))
    go_upto_region 6 with (first
    | ((with_reducible show wpList _ _ _ _ _ (World.alloc _ (.cells _ _))); refine mem_newb H ?_; intro bB w3 hbk H2; try rw [← hbk]; clear hbk H; have H := H2; clear H2; simp only [List.cons_append, List.nil_append, List.set_cons_zero, List.set_cons_succ, List.setIfInBounds_toArray] at H)
    | ((with_reducible show wpList _ _ _ _ _ (World.alloc _ (.cells _ _))); refine mem_new H ?_; intro w2 H2; clear H; have H := H2; clear H2; simp only [List.cons_append, List.nil_append, List.set_cons_zero, List.set_cons_succ, List.setIfInBounds_toArray] at H)
    | ((with_reducible show wpList _ _ _ (⟨_, .load 26 _, _, _, _, _⟩ :: _) _ _); refine mem_load (i := 0) H (by first | exact wanted_none rfl | exact wanted_some rfl rfl rfl rfl) (by exact rfl) (by exact rfl) (by exact rfl) Try.underlying26 rfl (by exact dqlInfo) ?_)
    | ((with_reducible show wpList _ _ _ (⟨_, .load 26 _, _, _, _, _⟩ :: _) _ _); refine mem_load (i := 1) H (by first | exact wanted_none rfl | exact wanted_some rfl rfl rfl rfl) (by exact rfl) (by exact rfl) (by exact rfl) Try.underlying26 rfl (by exact dqlInfo) ?_)
    | ((with_reducible show wpList _ _ _ (⟨_, .load _ _, _, _, _, _⟩ :: _) _ _); refine mem_loadf (i := 0) H (by first | exact wanted_none rfl | exact wanted_some rfl rfl rfl rfl) (by exact rfl) (by exact rfl) (by exact rfl) (by first | exact Try.underlying22 | exact Try.underlying23) rfl (by exact rfl) ?_)
    | ((with_reducible show wpList _ _ _ (⟨_, .load _ _, _, _, _, _⟩ :: _) _ _); refine mem_loadf (i := 1) H (by first | exact wanted_none rfl | exact wanted_some rfl rfl rfl rfl) (by exact rfl) (by exact rfl) (by exact rfl) (by first | exact Try.underlying22 | exact Try.underlying23) rfl (by exact rfl) ?_)
    | ((with_reducible show wpList _ _ _ (⟨_, .store 26 _ _, _, _, _, _⟩ :: _) _ _); refine mem_store (i := 0) H (by first | exact wanted_none rfl | exact wanted_some rfl rfl rfl rfl) (by exact rfl) (by exact rfl) (by exact rfl) (by exact rfl) (by exact dqlInfo) (by exact rfl) (by exact rfl) ?_; intro w2 H2; clear H; have H := H2; clear H2; simp only [List.cons_append, List.nil_append, List.set_cons_zero, List.set_cons_succ, List.setIfInBounds_toArray] at H)
    | ((with_reducible show wpList _ _ _ (⟨_, .store 26 _ _, _, _, _, _⟩ :: _) _ _); refine mem_store (i := 1) H (by first | exact wanted_none rfl | exact wanted_some rfl rfl rfl rfl) (by exact rfl) (by exact rfl) (by exact rfl) (by exact rfl) (by exact dqlInfo) (by exact rfl) (by exact rfl) ?_; intro w2 H2; clear H; have H := H2; clear H2; simp only [List.cons_append, List.nil_append, List.set_cons_zero, List.set_cons_succ, List.setIfInBounds_toArray] at H))
    clear h0
    go_wp2
    go_loopw [13, 14] (fun nw i wr => ∃ (k : Nat) (T : Int) (D : DQ), k ≤ len ∧ k ≤ 80 ∧ i = .int .i64 k ∧ nw = .int .u64 T ∧ 0 ≤ T ∧ T ≤ 1000 * k ∧ D.rightB = true ∧ D.Fits ∧ Mem w wr [bx bA D, bx bB D]) (fun nw i _ => len - (intOf i).toNat)
    case atStart => exact ⟨0, 0, D0, Nat.zero_le _, by omega, rfl, rfl, by omega, by omega, hfr.1, hfit, H⟩
    case round =>
      clear H hfr hfit
      obtain ⟨k, T, D, hk, hk80, rfl, rfl, hT0, hT1, hr, hf, H⟩ := hrel
      by_cases hlt : k < len ∧ k < 80
      · obtain ⟨hlt, h80⟩ := hlt
        obtain rfl := HAb.out (by omega)
        have hi := hin (by omega)
        have hbl := hi.lt
        obtain ⟨c0, c1, c2⟩ := hi.cell k hlt
        obtain ⟨f0, f1, f2⟩ := hi.fits k hlt
        have b1 := bd_u32 f1
        have b2 := bd_u64 f2
        generalize (acts k).1 = x0 at c0 f0
        generalize (acts k).2.1 = x1 at c1 f1 b1
        generalize (acts k).2.2 = x2 at c2 f2 b2
        clear hin HAb hi f1 f2
        obtain ⟨t1, ht1⟩ : ∃ t, T + x2 % 1000 = t := ⟨_, rfl⟩
        have ht : 0 ≤ t1 ∧ t1 ≤ 18446744073709551615 := by omega
        have hq := fun w => queue_p D x1 b1.1 b1.2 w
        have hq2 := fun w => queue_r D x1 b1.1 b1.2 w
        have gq := queue_good hr hf b1
        have hm := fun w => complete_p D x1 t1 hf ht w
        have hm2 := fun w => complete_r D x1 t1 hf.start ht w
        have gm := complete_good (n := x1) hr hf b1 ht
        obtain ⟨D1, hD1⟩ : ∃ X, queueV D x1 = X := ⟨_, rfl⟩
        obtain ⟨e1, he1⟩ : ∃ X, queueE D x1 = X := ⟨_, rfl⟩
        obtain ⟨D2, hD2⟩ : ∃ X, completeV D x1 t1 = X := ⟨_, rfl⟩
        obtain ⟨e2, he2⟩ : ∃ X, completeE D x1 = X := ⟨_, rfl⟩
        rw [hD1, he1] at hq hq2 gq
        rw [hD2, he2] at hm hm2 gm
        have hE1 := fun w => dq_self D1 w
        have hE2 := fun w => dq_self D2 w
        have HR := Lib.hid hr
        clear hD1 he1 hD2 he2 hr
        go_upto_region 11 with (first
    | ((with_reducible show wpList _ _ _ (⟨_, .load _ _, _, _, _, _⟩ :: _) _ _); refine mem_loado H c0 hbl (by first | exact wanted_none rfl | exact wanted_some rfl rfl rfl rfl) (by exact rfl) (by exact rfl) Try.underlying3 rfl ?_)
    | ((with_reducible show wpList _ _ _ (⟨_, .load _ _, _, _, _, _⟩ :: _) _ _); refine mem_loado H c1 hbl (by first | exact wanted_none rfl | exact wanted_some rfl rfl rfl rfl) (by exact rfl) (by exact rfl) Try.underlying22 rfl ?_)
    | ((with_reducible show wpList _ _ _ (⟨_, .load _ _, _, _, _, _⟩ :: _) _ _); refine mem_loado H c2 hbl (by first | exact wanted_none rfl | exact wanted_some rfl rfl rfl rfl) (by exact rfl) (by exact rfl) Try.underlying23 rfl ?_)
    | ((with_reducible show wpList _ _ _ _ _ (World.alloc _ (.cells _ _))); refine mem_new H ?_; intro w2 H2; clear H; have H := H2; clear H2; simp only [List.cons_append, List.nil_append, List.set_cons_zero, List.set_cons_succ, List.setIfInBounds_toArray] at H)
    | ((with_reducible show wpList _ _ _ (⟨_, .load 26 _, _, _, _, _⟩ :: _) _ _); refine mem_load (i := 0) H (by first | exact wanted_none rfl | exact wanted_some rfl rfl rfl rfl) (by exact rfl) (by exact rfl) (by exact rfl) Try.underlying26 rfl (by exact dqlInfo) ?_)
    | ((with_reducible show wpList _ _ _ (⟨_, .load 26 _, _, _, _, _⟩ :: _) _ _); refine mem_load (i := 1) H (by first | exact wanted_none rfl | exact wanted_some rfl rfl rfl rfl) (by exact rfl) (by exact rfl) (by exact rfl) Try.underlying26 rfl (by exact dqlInfo) ?_)
    | ((with_reducible show wpList _ _ _ (⟨_, .load _ _, _, _, _, _⟩ :: _) _ _); refine mem_loadf (i := 0) H (by first | exact wanted_none rfl | exact wanted_some rfl rfl rfl rfl) (by exact rfl) (by exact rfl) (by exact rfl) (by first | exact Try.underlying22 | exact Try.underlying23) rfl (by exact rfl) ?_)
    | ((with_reducible show wpList _ _ _ (⟨_, .load _ _, _, _, _, _⟩ :: _) _ _); refine mem_loadf (i := 1) H (by first | exact wanted_none rfl | exact wanted_some rfl rfl rfl rfl) (by exact rfl) (by exact rfl) (by exact rfl) (by first | exact Try.underlying22 | exact Try.underlying23) rfl (by exact rfl) ?_)
    | ((with_reducible show wpList _ _ _ (⟨_, .store 26 _ _, _, _, _, _⟩ :: _) _ _); refine mem_store (i := 0) H (by first | exact wanted_none rfl | exact wanted_some rfl rfl rfl rfl) (by exact rfl) (by exact rfl) (by exact rfl) (by exact rfl) (by exact dqlInfo) (by exact rfl) (by exact rfl) ?_; intro w2 H2; clear H; have H := H2; clear H2; simp only [List.cons_append, List.nil_append, List.set_cons_zero, List.set_cons_succ, List.setIfInBounds_toArray] at H)
    | ((with_reducible show wpList _ _ _ (⟨_, .store 26 _ _, _, _, _, _⟩ :: _) _ _); refine mem_store (i := 1) H (by first | exact wanted_none rfl | exact wanted_some rfl rfl rfl rfl) (by exact rfl) (by exact rfl) (by exact rfl) (by exact rfl) (by exact dqlInfo) (by exact rfl) (by exact rfl) ?_; intro w2 H2; clear H; have H := H2; clear H2; simp only [List.cons_append, List.nil_append, List.set_cons_zero, List.set_cons_succ, List.setIfInBounds_toArray] at H))
        try rw [ht1]
        go_upto_region 14 with (first
    | ((with_reducible show wpList _ _ _ _ _ (World.alloc _ (.cells _ _))); refine mem_newb (l := [_, _]) H ?_; intro bC w3 hbk H2; try rw [← hbk]; clear hbk H; have H := H2; clear H2; simp only [List.cons_append, List.nil_append, List.set_cons_zero, List.set_cons_succ, List.setIfInBounds_toArray] at H)
    | ((with_reducible show wpList _ _ _ _ _ (World.alloc _ (.cells _ _))); refine mem_newb (l := [_, _, _]) H ?_; intro bD w3 hbk H2; try rw [← hbk]; clear hbk H; have H := H2; clear H2; simp only [List.cons_append, List.nil_append, List.set_cons_zero, List.set_cons_succ, List.setIfInBounds_toArray] at H)
    | ((with_reducible show wpList _ _ _ (⟨_, .load _ _, _, _, _, _⟩ :: _) _ _); refine mem_loado H c0 hbl (by first | exact wanted_none rfl | exact wanted_some rfl rfl rfl rfl) (by exact rfl) (by exact rfl) Try.underlying3 rfl ?_)
    | ((with_reducible show wpList _ _ _ (⟨_, .load _ _, _, _, _, _⟩ :: _) _ _); refine mem_loado H c1 hbl (by first | exact wanted_none rfl | exact wanted_some rfl rfl rfl rfl) (by exact rfl) (by exact rfl) Try.underlying22 rfl ?_)
    | ((with_reducible show wpList _ _ _ (⟨_, .load _ _, _, _, _, _⟩ :: _) _ _); refine mem_loado H c2 hbl (by first | exact wanted_none rfl | exact wanted_some rfl rfl rfl rfl) (by exact rfl) (by exact rfl) Try.underlying23 rfl ?_)
    | ((with_reducible show wpList _ _ _ _ _ (World.alloc _ (.cells _ _))); refine mem_new H ?_; intro w2 H2; clear H; have H := H2; clear H2; simp only [List.cons_append, List.nil_append, List.set_cons_zero, List.set_cons_succ, List.setIfInBounds_toArray] at H)
    | ((with_reducible show wpList _ _ _ (⟨_, .load 26 _, _, _, _, _⟩ :: _) _ _); refine mem_load (i := 0) H (by first | exact wanted_none rfl | exact wanted_some rfl rfl rfl rfl) (by exact rfl) (by exact rfl) (by exact rfl) Try.underlying26 rfl (by exact dqlInfo) ?_)
    | ((with_reducible show wpList _ _ _ (⟨_, .load 26 _, _, _, _, _⟩ :: _) _ _); refine mem_load (i := 1) H (by first | exact wanted_none rfl | exact wanted_some rfl rfl rfl rfl) (by exact rfl) (by exact rfl) (by exact rfl) Try.underlying26 rfl (by exact dqlInfo) ?_)
    | ((with_reducible show wpList _ _ _ (⟨_, .load 26 _, _, _, _, _⟩ :: _) _ _); refine mem_load (i := 2) H (by first | exact wanted_none rfl | exact wanted_some rfl rfl rfl rfl) (by exact rfl) (by exact rfl) (by exact rfl) Try.underlying26 rfl (by exact dqlInfo) ?_)
    | ((with_reducible show wpList _ _ _ (⟨_, .load 26 _, _, _, _, _⟩ :: _) _ _); refine mem_load (i := 3) H (by first | exact wanted_none rfl | exact wanted_some rfl rfl rfl rfl) (by exact rfl) (by exact rfl) (by exact rfl) Try.underlying26 rfl (by exact dqlInfo) ?_)
    | ((with_reducible show wpList _ _ _ (⟨_, .load _ _, _, _, _, _⟩ :: _) _ _); refine mem_loadf (i := 0) H (by first | exact wanted_none rfl | exact wanted_some rfl rfl rfl rfl) (by exact rfl) (by exact rfl) (by exact rfl) (by first | exact Try.underlying22 | exact Try.underlying23) rfl (by exact rfl) ?_)
    | ((with_reducible show wpList _ _ _ (⟨_, .load _ _, _, _, _, _⟩ :: _) _ _); refine mem_loadf (i := 1) H (by first | exact wanted_none rfl | exact wanted_some rfl rfl rfl rfl) (by exact rfl) (by exact rfl) (by exact rfl) (by first | exact Try.underlying22 | exact Try.underlying23) rfl (by exact rfl) ?_)
    | ((with_reducible show wpList _ _ _ (⟨_, .load _ _, _, _, _, _⟩ :: _) _ _); refine mem_loadf (i := 2) H (by first | exact wanted_none rfl | exact wanted_some rfl rfl rfl rfl) (by exact rfl) (by exact rfl) (by exact rfl) (by first | exact Try.underlying22 | exact Try.underlying23) rfl (by exact rfl) ?_)
    | ((with_reducible show wpList _ _ _ (⟨_, .load _ _, _, _, _, _⟩ :: _) _ _); refine mem_loadf (i := 3) H (by first | exact wanted_none rfl | exact wanted_some rfl rfl rfl rfl) (by exact rfl) (by exact rfl) (by exact rfl) (by first | exact Try.underlying22 | exact Try.underlying23) rfl (by exact rfl) ?_)
    | ((with_reducible show wpList _ _ _ (⟨_, .store 26 _ _, _, _, _, _⟩ :: _) _ _); refine mem_store (i := 0) H (by first | exact wanted_none rfl | exact wanted_some rfl rfl rfl rfl) (by exact rfl) (by exact rfl) (by exact rfl) (by exact rfl) (by exact dqlInfo) (by exact rfl) (by exact rfl) ?_; intro w2 H2; clear H; have H := H2; clear H2; simp only [List.cons_append, List.nil_append, List.set_cons_zero, List.set_cons_succ, List.setIfInBounds_toArray] at H)
    | ((with_reducible show wpList _ _ _ (⟨_, .store 26 _ _, _, _, _, _⟩ :: _) _ _); refine mem_store (i := 1) H (by first | exact wanted_none rfl | exact wanted_some rfl rfl rfl rfl) (by exact rfl) (by exact rfl) (by exact rfl) (by exact rfl) (by exact dqlInfo) (by exact rfl) (by exact rfl) ?_; intro w2 H2; clear H; have H := H2; clear H2; simp only [List.cons_append, List.nil_append, List.set_cons_zero, List.set_cons_succ, List.setIfInBounds_toArray] at H)
    | ((with_reducible show wpList _ _ _ (⟨_, .store 26 _ _, _, _, _, _⟩ :: _) _ _); refine mem_store (i := 2) H (by first | exact wanted_none rfl | exact wanted_some rfl rfl rfl rfl) (by exact rfl) (by exact rfl) (by exact rfl) (by exact rfl) (by exact dqlInfo) (by exact rfl) (by exact rfl) ?_; intro w2 H2; clear H; have H := H2; clear H2; simp only [List.cons_append, List.nil_append, List.set_cons_zero, List.set_cons_succ, List.setIfInBounds_toArray] at H)
    | ((with_reducible show wpList _ _ _ (⟨_, .store 26 _ _, _, _, _, _⟩ :: _) _ _); refine mem_store (i := 3) H (by first | exact wanted_none rfl | exact wanted_some rfl rfl rfl rfl) (by exact rfl) (by exact rfl) (by exact rfl) (by exact rfl) (by exact dqlInfo) (by exact rfl) (by exact rfl) ?_; intro w2 H2; clear H; have H := H2; clear H2; simp only [List.cons_append, List.nil_append, List.set_cons_zero, List.set_cons_succ, List.setIfInBounds_toArray] at H))
        · skip
          refine region_memk H 10 12 rfl (by kernel_rfl) (fun wr0 hcl hS => ?_)
          clear H
          refine wpAnyG_take (i := 0) 1 (v := dq D) rfl rfl (by kernel_rfl) (by kernel_rfl) (by kernel_rfl) (fun _ _ _ h => h) (by kernel_rfl) (by decide) hcl (yields_held (fun w h => h.at 0 rfl) (by exact rfl) (by exact rfl) (by exact rfl) Try.underlying26 rfl dqlInfo) hS (fun hc1 => ?rest_1)
          clear hcl; have hcl := hc1; clear hc1; simp only [List.getElem_toArray, List.getElem_cons_zero, List.getElem_cons_succ, Act.put, List.setIfInBounds_toArray, List.set_cons_zero, List.set_cons_succ]
          refine wpAnyG_pure (i := 1) (v := .slice (some ⟨ba, oa, none⟩) len cap) rfl rfl (by kernel_rfl) (by kernel_rfl) (by kernel_rfl) (fun _ _ _ h => h) (by decide) ⟨by rfl, fun w _ => ?hy_2, fun _ => rfl⟩ (.inr hS) ?rest_2
          case hy_2 => go_simp; try (first | (simp only [IntKind.wrap_u32]; done) | rfl)
          have hc1 := hcl.step (i := 1) (by kernel_rfl)
          clear hcl; have hcl := hc1; clear hc1; simp only [List.getElem_toArray, List.getElem_cons_zero, List.getElem_cons_succ, Act.put, List.setIfInBounds_toArray, List.set_cons_zero, List.set_cons_succ]
          refine wpAnyG_pure (i := 2) (v := .int .i64 k) rfl rfl (by kernel_rfl) (by kernel_rfl) (by kernel_rfl) (fun _ _ _ h => h) (by decide) ⟨by rfl, fun w _ => ?hy_3, fun _ => rfl⟩ (.inr hS) ?rest_3
          case hy_3 => go_simp; try (first | (simp only [IntKind.wrap_u32]; done) | rfl)
          have hc1 := hcl.step (i := 2) (by kernel_rfl)
          clear hcl; have hcl := hc1; clear hc1; simp only [List.getElem_toArray, List.getElem_cons_zero, List.getElem_cons_succ, Act.put, List.setIfInBounds_toArray, List.set_cons_zero, List.set_cons_succ]
          refine wpAnyG_pure (i := 3) (v := .pointer (some ⟨ba, oa + k * 3, none⟩)) rfl rfl (by kernel_rfl) (by kernel_rfl) (by kernel_rfl) (fun _ _ _ h => h) (by decide) ⟨by rfl, fun w _ => ?hy_4, fun _ => rfl⟩ (.inr hS) ?rest_4
          case hy_4 => go_simp; try (first | (simp only [IntKind.wrap_u32]; done) | rfl)
          have hc1 := hcl.step (i := 3) (by kernel_rfl)
          clear hcl; have hcl := hc1; clear hc1; simp only [List.getElem_toArray, List.getElem_cons_zero, List.getElem_cons_succ, Act.put, List.setIfInBounds_toArray, List.set_cons_zero, List.set_cons_succ]
          refine wpAnyG_pure (i := 4) (v := .pointer (some ⟨ba, oa + k * 3 + 1, none⟩)) rfl rfl (by kernel_rfl) (by kernel_rfl) (by kernel_rfl) (fun _ _ _ h => h) (by decide) ⟨by rfl, fun w _ => ?hy_5, fun _ => rfl⟩ (.inr hS) ?rest_5
          case hy_5 => go_simp; try (first | (simp only [IntKind.wrap_u32]; done) | rfl)
          have hc1 := hcl.step (i := 4) (by kernel_rfl)
          clear hcl; have hcl := hc1; clear hc1; simp only [List.getElem_toArray, List.getElem_cons_zero, List.getElem_cons_succ, Act.put, List.setIfInBounds_toArray, List.set_cons_zero, List.set_cons_succ]
          refine wpAnyG_take (i := 5) 1 (v := .int .u32 x1) rfl rfl (by kernel_rfl) (by kernel_rfl) (by kernel_rfl) (fun _ _ _ h => h) (by kernel_rfl) (by decide) hcl (yields_old c1 hbl (by exact rfl) (by exact rfl) (by exact rfl) Try.underlying22 rfl) hS (fun hc1 => ?rest_6)
          clear hcl; have hcl := hc1; clear hc1; simp only [List.getElem_toArray, List.getElem_cons_zero, List.getElem_cons_succ, Act.put, List.setIfInBounds_toArray, List.set_cons_zero, List.set_cons_succ]
          refine wpAnyG_one (i := 6) (by kernel_rfl) rfl (fun K hK => ?_)
          go_simp
          refine ⟨trivial, (callsIn_wide.2 (hq _)).mono ?_⟩
          rintro e w5 ⟨rfl, hb⟩
          have hS5 := hS.call hb
          clear hb hS
          have hS := hS5
          clear hS5
          refine hK _ _ (.inr hS) ?_
          clear hK K
          have hc1 := hcl.step (i := 6) (by kernel_rfl)
          clear hcl; have hcl := hc1; clear hc1
          refine wpAnyG_pure (i := 7) (v := .tuple #[dq D1, .int .i64 e1]) rfl rfl (by kernel_rfl) (by kernel_rfl) (by kernel_rfl) (fun _ _ _ h => h) (by decide) ⟨by rfl, fun w _ => ?hy_8, fun _ => rfl⟩ (.inr hS) ?rest_8
          case hy_8 => go_simp; try (first | (simp only [IntKind.wrap_u32]; done) | rfl)
          have hc1 := hcl.step (i := 7) (by kernel_rfl)
          clear hcl; have hcl := hc1; clear hc1; simp only [List.getElem_toArray, List.getElem_cons_zero, List.getElem_cons_succ, Act.put, List.setIfInBounds_toArray, List.set_cons_zero, List.set_cons_succ]
          refine wpAnyG_pure (i := 8) (v := dq D1) rfl rfl (by kernel_rfl) (by kernel_rfl) (by kernel_rfl) (fun _ _ _ h => h) (by decide) ⟨by rfl, fun w _ => ?hy_9, fun _ => rfl⟩ (.inr hS) ?rest_9
          case hy_9 => go_simp; try (first | (simp only [IntKind.wrap_u32]; done) | rfl)
          have hc1 := hcl.step (i := 8) (by kernel_rfl)
          clear hcl; have hcl := hc1; clear hc1; simp only [List.getElem_toArray, List.getElem_cons_zero, List.getElem_cons_succ, Act.put, List.setIfInBounds_toArray, List.set_cons_zero, List.set_cons_succ]
          refine wpAnyG_pure (i := 9) (v := .int .i64 e1) rfl rfl (by kernel_rfl) (by kernel_rfl) (by kernel_rfl) (fun _ _ _ h => h) (by decide) ⟨by rfl, fun w _ => ?hy_10, fun _ => rfl⟩ (.inr hS) ?rest_10
          case hy_10 => go_simp; try (first | (simp only [IntKind.wrap_u32]; done) | rfl)
          have hc1 := hcl.step (i := 9) (by kernel_rfl)
          clear hcl; have hcl := hc1; clear hc1; simp only [List.getElem_toArray, List.getElem_cons_zero, List.getElem_cons_succ, Act.put, List.setIfInBounds_toArray, List.set_cons_zero, List.set_cons_succ]
          refine wpAnyG_one (i := 10) (by kernel_rfl) rfl (fun K hK => ?_)
          rw [if_pos (by exact rfl)]
          refine wpIn_store_mem (i := 2) hS (by exact rfl) (by exact rfl) (by exact rfl) (by exact rfl) (by exact dqlInfo) (by exact rfl) (by exact rfl) ?_
          intro w7 H
          simp only [List.cons_append, List.nil_append, List.set_cons_zero, List.set_cons_succ, List.setIfInBounds_toArray] at H
          refine hK _ _ (.inl (by kernel_rfl)) ?_
          clear hK K hS hcl
          simp only [List.getElem_toArray, List.getElem_cons_zero, List.getElem_cons_succ, Act.put, List.setIfInBounds_toArray, List.set_cons_zero, List.set_cons_succ]
          refine wpAnyG_one (i := 11) (by kernel_rfl) rfl (fun K hK => ?_)
          go_simp
          refine hK _ _ (.inl (by kernel_rfl)) ?_
          clear hK K
          refine wpAnyG_done (by kernel_rfl) ?_ _
          go_upto_region 15 with (first
    | fail)
          refine region_memk H 10 12 rfl (by kernel_rfl) (fun wr0 hcl hS => ?_)
          clear H
          refine wpAnyG_take (i := 0) 1 (v := dq D) rfl rfl (by kernel_rfl) (by kernel_rfl) (by kernel_rfl) (fun _ _ _ h => h) (by kernel_rfl) (by decide) hcl (yields_held (fun w h => h.at 1 rfl) (by exact rfl) (by exact rfl) (by exact rfl) Try.underlying26 rfl dqlInfo) hS (fun hc1 => ?rest_13)
          clear hcl; have hcl := hc1; clear hc1; simp only [List.getElem_toArray, List.getElem_cons_zero, List.getElem_cons_succ, Act.put, List.setIfInBounds_toArray, List.set_cons_zero, List.set_cons_succ]
          refine wpAnyG_pure (i := 1) (v := .slice (some ⟨ba, oa, none⟩) len cap) rfl rfl (by kernel_rfl) (by kernel_rfl) (by kernel_rfl) (fun _ _ _ h => h) (by decide) ⟨by rfl, fun w _ => ?hy_14, fun _ => rfl⟩ (.inr hS) ?rest_14
          case hy_14 => go_simp; try (first | (simp only [IntKind.wrap_u32]; done) | rfl)
          have hc1 := hcl.step (i := 1) (by kernel_rfl)
          clear hcl; have hcl := hc1; clear hc1; simp only [List.getElem_toArray, List.getElem_cons_zero, List.getElem_cons_succ, Act.put, List.setIfInBounds_toArray, List.set_cons_zero, List.set_cons_succ]
          refine wpAnyG_pure (i := 2) (v := .int .i64 k) rfl rfl (by kernel_rfl) (by kernel_rfl) (by kernel_rfl) (fun _ _ _ h => h) (by decide) ⟨by rfl, fun w _ => ?hy_15, fun _ => rfl⟩ (.inr hS) ?rest_15
          case hy_15 => go_simp; try (first | (simp only [IntKind.wrap_u32]; done) | rfl)
          have hc1 := hcl.step (i := 2) (by kernel_rfl)
          clear hcl; have hcl := hc1; clear hc1; simp only [List.getElem_toArray, List.getElem_cons_zero, List.getElem_cons_succ, Act.put, List.setIfInBounds_toArray, List.set_cons_zero, List.set_cons_succ]
          refine wpAnyG_pure (i := 3) (v := .pointer (some ⟨ba, oa + k * 3, none⟩)) rfl rfl (by kernel_rfl) (by kernel_rfl) (by kernel_rfl) (fun _ _ _ h => h) (by decide) ⟨by rfl, fun w _ => ?hy_16, fun _ => rfl⟩ (.inr hS) ?rest_16
          case hy_16 => go_simp; try (first | (simp only [IntKind.wrap_u32]; done) | rfl)
          have hc1 := hcl.step (i := 3) (by kernel_rfl)
          clear hcl; have hcl := hc1; clear hc1; simp only [List.getElem_toArray, List.getElem_cons_zero, List.getElem_cons_succ, Act.put, List.setIfInBounds_toArray, List.set_cons_zero, List.set_cons_succ]
          refine wpAnyG_pure (i := 4) (v := .pointer (some ⟨ba, oa + k * 3 + 1, none⟩)) rfl rfl (by kernel_rfl) (by kernel_rfl) (by kernel_rfl) (fun _ _ _ h => h) (by decide) ⟨by rfl, fun w _ => ?hy_17, fun _ => rfl⟩ (.inr hS) ?rest_17
          case hy_17 => go_simp; try (first | (simp only [IntKind.wrap_u32]; done) | rfl)
          have hc1 := hcl.step (i := 4) (by kernel_rfl)
          clear hcl; have hcl := hc1; clear hc1; simp only [List.getElem_toArray, List.getElem_cons_zero, List.getElem_cons_succ, Act.put, List.setIfInBounds_toArray, List.set_cons_zero, List.set_cons_succ]
          refine wpAnyG_take (i := 5) 1 (v := .int .u32 x1) rfl rfl (by kernel_rfl) (by kernel_rfl) (by kernel_rfl) (fun _ _ _ h => h) (by kernel_rfl) (by decide) hcl (yields_old c1 hbl (by exact rfl) (by exact rfl) (by exact rfl) Try.underlying22 rfl) hS (fun hc1 => ?rest_18)
          clear hcl; have hcl := hc1; clear hc1; simp only [List.getElem_toArray, List.getElem_cons_zero, List.getElem_cons_succ, Act.put, List.setIfInBounds_toArray, List.set_cons_zero, List.set_cons_succ]
          refine wpAnyG_one (i := 6) (by kernel_rfl) rfl (fun K hK => ?_)
          go_simp
          refine ⟨trivial, (callsIn_wide.2 (hq2 _)).mono ?_⟩
          rintro e w5 ⟨rfl, hb⟩
          have hS5 := hS.call hb
          clear hb hS
          have hS := hS5
          clear hS5
          refine hK _ _ (.inr hS) ?_
          clear hK K
          have hc1 := hcl.step (i := 6) (by kernel_rfl)
          clear hcl; have hcl := hc1; clear hc1
          refine wpAnyG_pure (i := 7) (v := .tuple #[dq D1, .int .i64 e1]) rfl rfl (by kernel_rfl) (by kernel_rfl) (by kernel_rfl) (fun _ _ _ h => h) (by decide) ⟨by rfl, fun w _ => ?hy_20, fun _ => rfl⟩ (.inr hS) ?rest_20
          case hy_20 => go_simp; try (first | (simp only [IntKind.wrap_u32]; done) | rfl)
          have hc1 := hcl.step (i := 7) (by kernel_rfl)
          clear hcl; have hcl := hc1; clear hc1; simp only [List.getElem_toArray, List.getElem_cons_zero, List.getElem_cons_succ, Act.put, List.setIfInBounds_toArray, List.set_cons_zero, List.set_cons_succ]
          refine wpAnyG_pure (i := 8) (v := dq D1) rfl rfl (by kernel_rfl) (by kernel_rfl) (by kernel_rfl) (fun _ _ _ h => h) (by decide) ⟨by rfl, fun w _ => ?hy_21, fun _ => rfl⟩ (.inr hS) ?rest_21
          case hy_21 => go_simp; try (first | (simp only [IntKind.wrap_u32]; done) | rfl)
          have hc1 := hcl.step (i := 8) (by kernel_rfl)
          clear hcl; have hcl := hc1; clear hc1; simp only [List.getElem_toArray, List.getElem_cons_zero, List.getElem_cons_succ, Act.put, List.setIfInBounds_toArray, List.set_cons_zero, List.set_cons_succ]
          refine wpAnyG_pure (i := 9) (v := .int .i64 e1) rfl rfl (by kernel_rfl) (by kernel_rfl) (by kernel_rfl) (fun _ _ _ h => h) (by decide) ⟨by rfl, fun w _ => ?hy_22, fun _ => rfl⟩ (.inr hS) ?rest_22
          case hy_22 => go_simp; try (first | (simp only [IntKind.wrap_u32]; done) | rfl)
          have hc1 := hcl.step (i := 9) (by kernel_rfl)
          clear hcl; have hcl := hc1; clear hc1; simp only [List.getElem_toArray, List.getElem_cons_zero, List.getElem_cons_succ, Act.put, List.setIfInBounds_toArray, List.set_cons_zero, List.set_cons_succ]
          refine wpAnyG_one (i := 10) (by kernel_rfl) rfl (fun K hK => ?_)
          rw [if_pos (by exact rfl)]
          refine wpIn_store_mem (i := 3) hS (by exact rfl) (by exact rfl) (by exact rfl) (by exact rfl) (by exact dqlInfo) (by exact rfl) (by exact rfl) ?_
          intro w7 H
          simp only [List.cons_append, List.nil_append, List.set_cons_zero, List.set_cons_succ, List.setIfInBounds_toArray] at H
          refine hK _ _ (.inl (by kernel_rfl)) ?_
          clear hK K hS hcl
          simp only [List.getElem_toArray, List.getElem_cons_zero, List.getElem_cons_succ, Act.put, List.setIfInBounds_toArray, List.set_cons_zero, List.set_cons_succ]
          refine wpAnyG_one (i := 11) (by kernel_rfl) rfl (fun K hK => ?_)
          go_simp
          refine hK _ _ (.inl (by kernel_rfl)) ?_
          clear hK K
          refine wpAnyG_done (by kernel_rfl) ?_ _
          by_cases hz : e1 = 0
          · have e0 : (e1 == 0) = true := by simpa using hz
            have HZ := Lib.hid hz
            clear hz
            go_wp2_with (first
            | go_skip
            | ((with_reducible show wpList _ _ _ (⟨_, .load 26 _, _, _, _, _⟩ :: _) _ _); refine mem_load (i := 0) H (by first | exact wanted_none rfl | exact wanted_some rfl rfl rfl rfl) (by exact rfl) (by exact rfl) (by exact rfl) Try.underlying26 rfl (by exact dqlInfo) ?_)
            | ((with_reducible show wpList _ _ _ (⟨_, .load 26 _, _, _, _, _⟩ :: _) _ _); refine mem_load (i := 1) H (by first | exact wanted_none rfl | exact wanted_some rfl rfl rfl rfl) (by exact rfl) (by exact rfl) (by exact rfl) Try.underlying26 rfl (by exact dqlInfo) ?_)
            | ((with_reducible show wpList _ _ _ (⟨_, .load 26 _, _, _, _, _⟩ :: _) _ _); refine mem_load (i := 2) H (by first | exact wanted_none rfl | exact wanted_some rfl rfl rfl rfl) (by exact rfl) (by exact rfl) (by exact rfl) Try.underlying26 rfl (by exact dqlInfo) ?_)
            | ((with_reducible show wpList _ _ _ (⟨_, .load 26 _, _, _, _, _⟩ :: _) _ _); refine mem_load (i := 3) H (by first | exact wanted_none rfl | exact wanted_some rfl rfl rfl rfl) (by exact rfl) (by exact rfl) (by exact rfl) Try.underlying26 rfl (by exact dqlInfo) ?_)
            | ((with_reducible show wpList _ _ _ (⟨_, .store 26 _ _, _, _, _, _⟩ :: _) _ _); refine mem_store (i := 0) H (by first | exact wanted_none rfl | exact wanted_some rfl rfl rfl rfl) (by exact rfl) (by exact rfl) (by exact rfl) (by exact rfl) (by exact dqlInfo) (by exact rfl) (by exact rfl) ?_; intro w2 H2; clear H; have H := H2; clear H2; simp only [List.cons_append, List.nil_append, List.set_cons_zero, List.set_cons_succ, List.setIfInBounds_toArray] at H)
            | ((with_reducible show wpList _ _ _ (⟨_, .store 26 _ _, _, _, _, _⟩ :: _) _ _); refine mem_store (i := 1) H (by first | exact wanted_none rfl | exact wanted_some rfl rfl rfl rfl) (by exact rfl) (by exact rfl) (by exact rfl) (by exact rfl) (by exact dqlInfo) (by exact rfl) (by exact rfl) ?_; intro w2 H2; clear H; have H := H2; clear H2; simp only [List.cons_append, List.nil_append, List.set_cons_zero, List.set_cons_succ, List.setIfInBounds_toArray] at H)
            | ((with_reducible show wpList _ _ _ (⟨_, .store 26 _ _, _, _, _, _⟩ :: _) _ _); refine mem_store (i := 2) H (by first | exact wanted_none rfl | exact wanted_some rfl rfl rfl rfl) (by exact rfl) (by exact rfl) (by exact rfl) (by exact rfl) (by exact dqlInfo) (by exact rfl) (by exact rfl) ?_; intro w2 H2; clear H; have H := H2; clear H2; simp only [List.cons_append, List.nil_append, List.set_cons_zero, List.set_cons_succ, List.setIfInBounds_toArray] at H)
            | ((with_reducible show wpList _ _ _ (⟨_, .store 26 _ _, _, _, _, _⟩ :: _) _ _); refine mem_store (i := 3) H (by first | exact wanted_none rfl | exact wanted_some rfl rfl rfl rfl) (by exact rfl) (by exact rfl) (by exact rfl) (by exact rfl) (by exact dqlInfo) (by exact rfl) (by exact rfl) ?_; intro w2 H2; clear H; have H := H2; clear H2; simp only [List.cons_append, List.nil_append, List.set_cons_zero, List.set_cons_succ, List.setIfInBounds_toArray] at H))
            go_roundw
            case rel => exact ⟨k + 1, t1, D1, by omega, by omega, by go_num, rfl, ht.1, by omega, (gq HZ.out).1, (gq HZ.out).2, H.drop 2⟩
            case measure => simp [intOf]; omega
          · have e0 : (e1 == 0) = false := by simpa using hz
            clear hz
            go_wp2_with (first
            | go_skip
            | ((with_reducible show wpList _ _ _ (⟨_, .load 26 _, _, _, _, _⟩ :: _) _ _); refine mem_load (i := 0) H (by first | exact wanted_none rfl | exact wanted_some rfl rfl rfl rfl) (by exact rfl) (by exact rfl) (by exact rfl) Try.underlying26 rfl (by exact dqlInfo) ?_)
            | ((with_reducible show wpList _ _ _ (⟨_, .load 26 _, _, _, _, _⟩ :: _) _ _); refine mem_load (i := 1) H (by first | exact wanted_none rfl | exact wanted_some rfl rfl rfl rfl) (by exact rfl) (by exact rfl) (by exact rfl) Try.underlying26 rfl (by exact dqlInfo) ?_)
            | ((with_reducible show wpList _ _ _ (⟨_, .load 26 _, _, _, _, _⟩ :: _) _ _); refine mem_load (i := 2) H (by first | exact wanted_none rfl | exact wanted_some rfl rfl rfl rfl) (by exact rfl) (by exact rfl) (by exact rfl) Try.underlying26 rfl (by exact dqlInfo) ?_)
            | ((with_reducible show wpList _ _ _ (⟨_, .load 26 _, _, _, _, _⟩ :: _) _ _); refine mem_load (i := 3) H (by first | exact wanted_none rfl | exact wanted_some rfl rfl rfl rfl) (by exact rfl) (by exact rfl) (by exact rfl) Try.underlying26 rfl (by exact dqlInfo) ?_)
            | ((with_reducible show wpList _ _ _ (⟨_, .store 26 _ _, _, _, _, _⟩ :: _) _ _); refine mem_store (i := 0) H (by first | exact wanted_none rfl | exact wanted_some rfl rfl rfl rfl) (by exact rfl) (by exact rfl) (by exact rfl) (by exact rfl) (by exact dqlInfo) (by exact rfl) (by exact rfl) ?_; intro w2 H2; clear H; have H := H2; clear H2; simp only [List.cons_append, List.nil_append, List.set_cons_zero, List.set_cons_succ, List.setIfInBounds_toArray] at H)
            | ((with_reducible show wpList _ _ _ (⟨_, .store 26 _ _, _, _, _, _⟩ :: _) _ _); refine mem_store (i := 1) H (by first | exact wanted_none rfl | exact wanted_some rfl rfl rfl rfl) (by exact rfl) (by exact rfl) (by exact rfl) (by exact rfl) (by exact dqlInfo) (by exact rfl) (by exact rfl) ?_; intro w2 H2; clear H; have H := H2; clear H2; simp only [List.cons_append, List.nil_append, List.set_cons_zero, List.set_cons_succ, List.setIfInBounds_toArray] at H)
            | ((with_reducible show wpList _ _ _ (⟨_, .store 26 _ _, _, _, _, _⟩ :: _) _ _); refine mem_store (i := 2) H (by first | exact wanted_none rfl | exact wanted_some rfl rfl rfl rfl) (by exact rfl) (by exact rfl) (by exact rfl) (by exact rfl) (by exact dqlInfo) (by exact rfl) (by exact rfl) ?_; intro w2 H2; clear H; have H := H2; clear H2; simp only [List.cons_append, List.nil_append, List.set_cons_zero, List.set_cons_succ, List.setIfInBounds_toArray] at H)
            | ((with_reducible show wpList _ _ _ (⟨_, .store 26 _ _, _, _, _, _⟩ :: _) _ _); refine mem_store (i := 3) H (by first | exact wanted_none rfl | exact wanted_some rfl rfl rfl rfl) (by exact rfl) (by exact rfl) (by exact rfl) (by exact rfl) (by exact dqlInfo) (by exact rfl) (by exact rfl) ?_; intro w2 H2; clear H; have H := H2; clear H2; simp only [List.cons_append, List.nil_append, List.set_cons_zero, List.set_cons_succ, List.setIfInBounds_toArray] at H))
            go_roundw
            case rel => exact ⟨k + 1, t1, D, by omega, by omega, by go_num, rfl, ht.1, by omega, HR.out, hf, H.drop 2⟩
            case measure => simp [intOf]; omega

        · skip
          refine region_memk H 11 13 rfl (by kernel_rfl) (fun wr0 hcl hS => ?_)
          clear H
          refine wpAnyG_take (i := 0) 1 (v := dq D) rfl rfl (by kernel_rfl) (by kernel_rfl) (by kernel_rfl) (fun _ _ _ h => h) (by kernel_rfl) (by decide) hcl (yields_held (fun w h => h.at 0 rfl) (by exact rfl) (by exact rfl) (by exact rfl) Try.underlying26 rfl dqlInfo) hS (fun hc1 => ?rest_25)
          clear hcl; have hcl := hc1; clear hc1; simp only [List.getElem_toArray, List.getElem_cons_zero, List.getElem_cons_succ, Act.put, List.setIfInBounds_toArray, List.set_cons_zero, List.set_cons_succ]
          refine wpAnyG_pure (i := 1) (v := .slice (some ⟨ba, oa, none⟩) len cap) rfl rfl (by kernel_rfl) (by kernel_rfl) (by kernel_rfl) (fun _ _ _ h => h) (by decide) ⟨by rfl, fun w _ => ?hy_26, fun _ => rfl⟩ (.inr hS) ?rest_26
          case hy_26 => go_simp; try (first | (simp only [IntKind.wrap_u32]; done) | rfl)
          have hc1 := hcl.step (i := 1) (by kernel_rfl)
          clear hcl; have hcl := hc1; clear hc1; simp only [List.getElem_toArray, List.getElem_cons_zero, List.getElem_cons_succ, Act.put, List.setIfInBounds_toArray, List.set_cons_zero, List.set_cons_succ]
          refine wpAnyG_pure (i := 2) (v := .int .i64 k) rfl rfl (by kernel_rfl) (by kernel_rfl) (by kernel_rfl) (fun _ _ _ h => h) (by decide) ⟨by rfl, fun w _ => ?hy_27, fun _ => rfl⟩ (.inr hS) ?rest_27
          case hy_27 => go_simp; try (first | (simp only [IntKind.wrap_u32]; done) | rfl)
          have hc1 := hcl.step (i := 2) (by kernel_rfl)
          clear hcl; have hcl := hc1; clear hc1; simp only [List.getElem_toArray, List.getElem_cons_zero, List.getElem_cons_succ, Act.put, List.setIfInBounds_toArray, List.set_cons_zero, List.set_cons_succ]
          refine wpAnyG_pure (i := 3) (v := .pointer (some ⟨ba, oa + k * 3, none⟩)) rfl rfl (by kernel_rfl) (by kernel_rfl) (by kernel_rfl) (fun _ _ _ h => h) (by decide) ⟨by rfl, fun w _ => ?hy_28, fun _ => rfl⟩ (.inr hS) ?rest_28
          case hy_28 => go_simp; try (first | (simp only [IntKind.wrap_u32]; done) | rfl)
          have hc1 := hcl.step (i := 3) (by kernel_rfl)
          clear hcl; have hcl := hc1; clear hc1; simp only [List.getElem_toArray, List.getElem_cons_zero, List.getElem_cons_succ, Act.put, List.setIfInBounds_toArray, List.set_cons_zero, List.set_cons_succ]
          refine wpAnyG_pure (i := 4) (v := .pointer (some ⟨ba, oa + k * 3 + 1, none⟩)) rfl rfl (by kernel_rfl) (by kernel_rfl) (by kernel_rfl) (fun _ _ _ h => h) (by decide) ⟨by rfl, fun w _ => ?hy_29, fun _ => rfl⟩ (.inr hS) ?rest_29
          case hy_29 => go_simp; try (first | (simp only [IntKind.wrap_u32]; done) | rfl)
          have hc1 := hcl.step (i := 4) (by kernel_rfl)
          clear hcl; have hcl := hc1; clear hc1; simp only [List.getElem_toArray, List.getElem_cons_zero, List.getElem_cons_succ, Act.put, List.setIfInBounds_toArray, List.set_cons_zero, List.set_cons_succ]
          refine wpAnyG_take (i := 5) 1 (v := .int .u32 x1) rfl rfl (by kernel_rfl) (by kernel_rfl) (by kernel_rfl) (fun _ _ _ h => h) (by kernel_rfl) (by decide) hcl (yields_old c1 hbl (by exact rfl) (by exact rfl) (by exact rfl) Try.underlying22 rfl) hS (fun hc1 => ?rest_30)
          clear hcl; have hcl := hc1; clear hc1; simp only [List.getElem_toArray, List.getElem_cons_zero, List.getElem_cons_succ, Act.put, List.setIfInBounds_toArray, List.set_cons_zero, List.set_cons_succ]
          refine wpAnyG_pure (i := 6) (v := .int .u64 t1) rfl rfl (by kernel_rfl) (by kernel_rfl) (by kernel_rfl) (fun _ _ _ h => h) (by decide) ⟨by rfl, fun w _ => ?hy_31, fun _ => rfl⟩ (.inr hS) ?rest_31
          case hy_31 => go_simp; try (first | (simp only [IntKind.wrap_u32]; done) | rfl)
          have hc1 := hcl.step (i := 6) (by kernel_rfl)
          clear hcl; have hcl := hc1; clear hc1; simp only [List.getElem_toArray, List.getElem_cons_zero, List.getElem_cons_succ, Act.put, List.setIfInBounds_toArray, List.set_cons_zero, List.set_cons_succ]
          refine wpAnyG_one (i := 7) (by kernel_rfl) rfl (fun K hK => ?_)
          go_simp
          refine ⟨trivial, (callsIn_wide.2 (hm _)).mono ?_⟩
          rintro e w5 ⟨rfl, hb⟩
          have hS5 := hS.call hb
          clear hb hS
          have hS := hS5
          clear hS5
          refine hK _ _ (.inr hS) ?_
          clear hK K
          have hc1 := hcl.step (i := 7) (by kernel_rfl)
          clear hcl; have hcl := hc1; clear hc1
          refine wpAnyG_pure (i := 8) (v := .tuple #[dq D2, .int .i64 e2]) rfl rfl (by kernel_rfl) (by kernel_rfl) (by kernel_rfl) (fun _ _ _ h => h) (by decide) ⟨by rfl, fun w _ => ?hy_33, fun _ => rfl⟩ (.inr hS) ?rest_33
          case hy_33 => go_simp; try (first | (simp only [IntKind.wrap_u32]; done) | rfl)
          have hc1 := hcl.step (i := 8) (by kernel_rfl)
          clear hcl; have hcl := hc1; clear hc1; simp only [List.getElem_toArray, List.getElem_cons_zero, List.getElem_cons_succ, Act.put, List.setIfInBounds_toArray, List.set_cons_zero, List.set_cons_succ]
          refine wpAnyG_pure (i := 9) (v := dq D2) rfl rfl (by kernel_rfl) (by kernel_rfl) (by kernel_rfl) (fun _ _ _ h => h) (by decide) ⟨by rfl, fun w _ => ?hy_34, fun _ => rfl⟩ (.inr hS) ?rest_34
          case hy_34 => go_simp; try (first | (simp only [IntKind.wrap_u32]; done) | rfl)
          have hc1 := hcl.step (i := 9) (by kernel_rfl)
          clear hcl; have hcl := hc1; clear hc1; simp only [List.getElem_toArray, List.getElem_cons_zero, List.getElem_cons_succ, Act.put, List.setIfInBounds_toArray, List.set_cons_zero, List.set_cons_succ]
          refine wpAnyG_pure (i := 10) (v := .int .i64 e2) rfl rfl (by kernel_rfl) (by kernel_rfl) (by kernel_rfl) (fun _ _ _ h => h) (by decide) ⟨by rfl, fun w _ => ?hy_35, fun _ => rfl⟩ (.inr hS) ?rest_35
          case hy_35 => go_simp; try (first | (simp only [IntKind.wrap_u32]; done) | rfl)
          have hc1 := hcl.step (i := 10) (by kernel_rfl)
          clear hcl; have hcl := hc1; clear hc1; simp only [List.getElem_toArray, List.getElem_cons_zero, List.getElem_cons_succ, Act.put, List.setIfInBounds_toArray, List.set_cons_zero, List.set_cons_succ]
          refine wpAnyG_one (i := 11) (by kernel_rfl) rfl (fun K hK => ?_)
          rw [if_pos (by exact rfl)]
          refine wpIn_store_mem (i := 2) hS (by exact rfl) (by exact rfl) (by exact rfl) (by exact rfl) (by exact dqlInfo) (by exact rfl) (by exact rfl) ?_
          intro w7 H
          simp only [List.cons_append, List.nil_append, List.set_cons_zero, List.set_cons_succ, List.setIfInBounds_toArray] at H
          refine hK _ _ (.inl (by kernel_rfl)) ?_
          clear hK K hS hcl
          simp only [List.getElem_toArray, List.getElem_cons_zero, List.getElem_cons_succ, Act.put, List.setIfInBounds_toArray, List.set_cons_zero, List.set_cons_succ]
          refine wpAnyG_one (i := 12) (by kernel_rfl) rfl (fun K hK => ?_)
          go_simp
          refine hK _ _ (.inl (by kernel_rfl)) ?_
          clear hK K
          refine wpAnyG_done (by kernel_rfl) ?_ _
          go_upto_region 17 with (first
    | fail)
          refine region_memk H 11 13 rfl (by kernel_rfl) (fun wr0 hcl hS => ?_)
          clear H
          refine wpAnyG_take (i := 0) 1 (v := dq D) rfl rfl (by kernel_rfl) (by kernel_rfl) (by kernel_rfl) (fun _ _ _ h => h) (by kernel_rfl) (by decide) hcl (yields_held (fun w h => h.at 1 rfl) (by exact rfl) (by exact rfl) (by exact rfl) Try.underlying26 rfl dqlInfo) hS (fun hc1 => ?rest_38)
          clear hcl; have hcl := hc1; clear hc1; simp only [List.getElem_toArray, List.getElem_cons_zero, List.getElem_cons_succ, Act.put, List.setIfInBounds_toArray, List.set_cons_zero, List.set_cons_succ]
          refine wpAnyG_pure (i := 1) (v := .slice (some ⟨ba, oa, none⟩) len cap) rfl rfl (by kernel_rfl) (by kernel_rfl) (by kernel_rfl) (fun _ _ _ h => h) (by decide) ⟨by rfl, fun w _ => ?hy_39, fun _ => rfl⟩ (.inr hS) ?rest_39
          case hy_39 => go_simp; try (first | (simp only [IntKind.wrap_u32]; done) | rfl)
          have hc1 := hcl.step (i := 1) (by kernel_rfl)
          clear hcl; have hcl := hc1; clear hc1; simp only [List.getElem_toArray, List.getElem_cons_zero, List.getElem_cons_succ, Act.put, List.setIfInBounds_toArray, List.set_cons_zero, List.set_cons_succ]
          refine wpAnyG_pure (i := 2) (v := .int .i64 k) rfl rfl (by kernel_rfl) (by kernel_rfl) (by kernel_rfl) (fun _ _ _ h => h) (by decide) ⟨by rfl, fun w _ => ?hy_40, fun _ => rfl⟩ (.inr hS) ?rest_40
          case hy_40 => go_simp; try (first | (simp only [IntKind.wrap_u32]; done) | rfl)
          have hc1 := hcl.step (i := 2) (by kernel_rfl)
          clear hcl; have hcl := hc1; clear hc1; simp only [List.getElem_toArray, List.getElem_cons_zero, List.getElem_cons_succ, Act.put, List.setIfInBounds_toArray, List.set_cons_zero, List.set_cons_succ]
          refine wpAnyG_pure (i := 3) (v := .pointer (some ⟨ba, oa + k * 3, none⟩)) rfl rfl (by kernel_rfl) (by kernel_rfl) (by kernel_rfl) (fun _ _ _ h => h) (by decide) ⟨by rfl, fun w _ => ?hy_41, fun _ => rfl⟩ (.inr hS) ?rest_41
          case hy_41 => go_simp; try (first | (simp only [IntKind.wrap_u32]; done) | rfl)
          have hc1 := hcl.step (i := 3) (by kernel_rfl)
          clear hcl; have hcl := hc1; clear hc1; simp only [List.getElem_toArray, List.getElem_cons_zero, List.getElem_cons_succ, Act.put, List.setIfInBounds_toArray, List.set_cons_zero, List.set_cons_succ]
          refine wpAnyG_pure (i := 4) (v := .pointer (some ⟨ba, oa + k * 3 + 1, none⟩)) rfl rfl (by kernel_rfl) (by kernel_rfl) (by kernel_rfl) (fun _ _ _ h => h) (by decide) ⟨by rfl, fun w _ => ?hy_42, fun _ => rfl⟩ (.inr hS) ?rest_42
          case hy_42 => go_simp; try (first | (simp only [IntKind.wrap_u32]; done) | rfl)
          have hc1 := hcl.step (i := 4) (by kernel_rfl)
          clear hcl; have hcl := hc1; clear hc1; simp only [List.getElem_toArray, List.getElem_cons_zero, List.getElem_cons_succ, Act.put, List.setIfInBounds_toArray, List.set_cons_zero, List.set_cons_succ]
          refine wpAnyG_take (i := 5) 1 (v := .int .u32 x1) rfl rfl (by kernel_rfl) (by kernel_rfl) (by kernel_rfl) (fun _ _ _ h => h) (by kernel_rfl) (by decide) hcl (yields_old c1 hbl (by exact rfl) (by exact rfl) (by exact rfl) Try.underlying22 rfl) hS (fun hc1 => ?rest_43)
          clear hcl; have hcl := hc1; clear hc1; simp only [List.getElem_toArray, List.getElem_cons_zero, List.getElem_cons_succ, Act.put, List.setIfInBounds_toArray, List.set_cons_zero, List.set_cons_succ]
          refine wpAnyG_pure (i := 6) (v := .int .u64 t1) rfl rfl (by kernel_rfl) (by kernel_rfl) (by kernel_rfl) (fun _ _ _ h => h) (by decide) ⟨by rfl, fun w _ => ?hy_44, fun _ => rfl⟩ (.inr hS) ?rest_44
          case hy_44 => go_simp; try (first | (simp only [IntKind.wrap_u32]; done) | rfl)
          have hc1 := hcl.step (i := 6) (by kernel_rfl)
          clear hcl; have hcl := hc1; clear hc1; simp only [List.getElem_toArray, List.getElem_cons_zero, List.getElem_cons_succ, Act.put, List.setIfInBounds_toArray, List.set_cons_zero, List.set_cons_succ]
          refine wpAnyG_one (i := 7) (by kernel_rfl) rfl (fun K hK => ?_)
          go_simp
          refine ⟨trivial, (callsIn_wide.2 (hm2 _)).mono ?_⟩
          rintro e w5 ⟨rfl, hb⟩
          have hS5 := hS.call hb
          clear hb hS
          have hS := hS5
          clear hS5
          refine hK _ _ (.inr hS) ?_
          clear hK K
          have hc1 := hcl.step (i := 7) (by kernel_rfl)
          clear hcl; have hcl := hc1; clear hc1
          refine wpAnyG_pure (i := 8) (v := .tuple #[dq D2, .int .i64 e2]) rfl rfl (by kernel_rfl) (by kernel_rfl) (by kernel_rfl) (fun _ _ _ h => h) (by decide) ⟨by rfl, fun w _ => ?hy_46, fun _ => rfl⟩ (.inr hS) ?rest_46
          case hy_46 => go_simp; try (first | (simp only [IntKind.wrap_u32]; done) | rfl)
          have hc1 := hcl.step (i := 8) (by kernel_rfl)
          clear hcl; have hcl := hc1; clear hc1; simp only [List.getElem_toArray, List.getElem_cons_zero, List.getElem_cons_succ, Act.put, List.setIfInBounds_toArray, List.set_cons_zero, List.set_cons_succ]
          refine wpAnyG_pure (i := 9) (v := dq D2) rfl rfl (by kernel_rfl) (by kernel_rfl) (by kernel_rfl) (fun _ _ _ h => h) (by decide) ⟨by rfl, fun w _ => ?hy_47, fun _ => rfl⟩ (.inr hS) ?rest_47
          case hy_47 => go_simp; try (first | (simp only [IntKind.wrap_u32]; done) | rfl)
          have hc1 := hcl.step (i := 9) (by kernel_rfl)
          clear hcl; have hcl := hc1; clear hc1; simp only [List.getElem_toArray, List.getElem_cons_zero, List.getElem_cons_succ, Act.put, List.setIfInBounds_toArray, List.set_cons_zero, List.set_cons_succ]
          refine wpAnyG_pure (i := 10) (v := .int .i64 e2) rfl rfl (by kernel_rfl) (by kernel_rfl) (by kernel_rfl) (fun _ _ _ h => h) (by decide) ⟨by rfl, fun w _ => ?hy_48, fun _ => rfl⟩ (.inr hS) ?rest_48
          case hy_48 => go_simp; try (first | (simp only [IntKind.wrap_u32]; done) | rfl)
          have hc1 := hcl.step (i := 10) (by kernel_rfl)
          clear hcl; have hcl := hc1; clear hc1; simp only [List.getElem_toArray, List.getElem_cons_zero, List.getElem_cons_succ, Act.put, List.setIfInBounds_toArray, List.set_cons_zero, List.set_cons_succ]
          refine wpAnyG_one (i := 11) (by kernel_rfl) rfl (fun K hK => ?_)
          rw [if_pos (by exact rfl)]
          refine wpIn_store_mem (i := 3) hS (by exact rfl) (by exact rfl) (by exact rfl) (by exact rfl) (by exact dqlInfo) (by exact rfl) (by exact rfl) ?_
          intro w7 H
          simp only [List.cons_append, List.nil_append, List.set_cons_zero, List.set_cons_succ, List.setIfInBounds_toArray] at H
          refine hK _ _ (.inl (by kernel_rfl)) ?_
          clear hK K hS hcl
          simp only [List.getElem_toArray, List.getElem_cons_zero, List.getElem_cons_succ, Act.put, List.setIfInBounds_toArray, List.set_cons_zero, List.set_cons_succ]
          refine wpAnyG_one (i := 12) (by kernel_rfl) rfl (fun K hK => ?_)
          go_simp
          refine hK _ _ (.inl (by kernel_rfl)) ?_
          clear hK K
          refine wpAnyG_done (by kernel_rfl) ?_ _
          by_cases hz : e2 = 0
          · have e0 : (e2 == 0) = true := by simpa using hz
            have HZ := Lib.hid hz
            clear hz
            go_wp2_with (first
            | go_skip
            | ((with_reducible show wpList _ _ _ (⟨_, .load 26 _, _, _, _, _⟩ :: _) _ _); refine mem_load (i := 0) H (by first | exact wanted_none rfl | exact wanted_some rfl rfl rfl rfl) (by exact rfl) (by exact rfl) (by exact rfl) Try.underlying26 rfl (by exact dqlInfo) ?_)
            | ((with_reducible show wpList _ _ _ (⟨_, .load 26 _, _, _, _, _⟩ :: _) _ _); refine mem_load (i := 1) H (by first | exact wanted_none rfl | exact wanted_some rfl rfl rfl rfl) (by exact rfl) (by exact rfl) (by exact rfl) Try.underlying26 rfl (by exact dqlInfo) ?_)
            | ((with_reducible show wpList _ _ _ (⟨_, .load 26 _, _, _, _, _⟩ :: _) _ _); refine mem_load (i := 2) H (by first | exact wanted_none rfl | exact wanted_some rfl rfl rfl rfl) (by exact rfl) (by exact rfl) (by exact rfl) Try.underlying26 rfl (by exact dqlInfo) ?_)
            | ((with_reducible show wpList _ _ _ (⟨_, .load 26 _, _, _, _, _⟩ :: _) _ _); refine mem_load (i := 3) H (by first | exact wanted_none rfl | exact wanted_some rfl rfl rfl rfl) (by exact rfl) (by exact rfl) (by exact rfl) Try.underlying26 rfl (by exact dqlInfo) ?_)
            | ((with_reducible show wpList _ _ _ (⟨_, .store 26 _ _, _, _, _, _⟩ :: _) _ _); refine mem_store (i := 0) H (by first | exact wanted_none rfl | exact wanted_some rfl rfl rfl rfl) (by exact rfl) (by exact rfl) (by exact rfl) (by exact rfl) (by exact dqlInfo) (by exact rfl) (by exact rfl) ?_; intro w2 H2; clear H; have H := H2; clear H2; simp only [List.cons_append, List.nil_append, List.set_cons_zero, List.set_cons_succ, List.setIfInBounds_toArray] at H)
            | ((with_reducible show wpList _ _ _ (⟨_, .store 26 _ _, _, _, _, _⟩ :: _) _ _); refine mem_store (i := 1) H (by first | exact wanted_none rfl | exact wanted_some rfl rfl rfl rfl) (by exact rfl) (by exact rfl) (by exact rfl) (by exact rfl) (by exact dqlInfo) (by exact rfl) (by exact rfl) ?_; intro w2 H2; clear H; have H := H2; clear H2; simp only [List.cons_append, List.nil_append, List.set_cons_zero, List.set_cons_succ, List.setIfInBounds_toArray] at H)
            | ((with_reducible show wpList _ _ _ (⟨_, .store 26 _ _, _, _, _, _⟩ :: _) _ _); refine mem_store (i := 2) H (by first | exact wanted_none rfl | exact wanted_some rfl rfl rfl rfl) (by exact rfl) (by exact rfl) (by exact rfl) (by exact rfl) (by exact dqlInfo) (by exact rfl) (by exact rfl) ?_; intro w2 H2; clear H; have H := H2; clear H2; simp only [List.cons_append, List.nil_append, List.set_cons_zero, List.set_cons_succ, List.setIfInBounds_toArray] at H)
            | ((with_reducible show wpList _ _ _ (⟨_, .store 26 _ _, _, _, _, _⟩ :: _) _ _); refine mem_store (i := 3) H (by first | exact wanted_none rfl | exact wanted_some rfl rfl rfl rfl) (by exact rfl) (by exact rfl) (by exact rfl) (by exact rfl) (by exact dqlInfo) (by exact rfl) (by exact rfl) ?_; intro w2 H2; clear H; have H := H2; clear H2; simp only [List.cons_append, List.nil_append, List.set_cons_zero, List.set_cons_succ, List.setIfInBounds_toArray] at H))
            go_roundw
            case rel => exact ⟨k + 1, t1, D2, by omega, by omega, by go_num, rfl, ht.1, by omega, (gm HZ.out).1, (gm HZ.out).2, H.drop 2⟩
            case measure => simp [intOf]; omega
          · have e0 : (e2 == 0) = false := by simpa using hz
            clear hz
            go_wp2_with (first
            | go_skip
            | ((with_reducible show wpList _ _ _ (⟨_, .load 26 _, _, _, _, _⟩ :: _) _ _); refine mem_load (i := 0) H (by first | exact wanted_none rfl | exact wanted_some rfl rfl rfl rfl) (by exact rfl) (by exact rfl) (by exact rfl) Try.underlying26 rfl (by exact dqlInfo) ?_)
            | ((with_reducible show wpList _ _ _ (⟨_, .load 26 _, _, _, _, _⟩ :: _) _ _); refine mem_load (i := 1) H (by first | exact wanted_none rfl | exact wanted_some rfl rfl rfl rfl) (by exact rfl) (by exact rfl) (by exact rfl) Try.underlying26 rfl (by exact dqlInfo) ?_)
            | ((with_reducible show wpList _ _ _ (⟨_, .load 26 _, _, _, _, _⟩ :: _) _ _); refine mem_load (i := 2) H (by first | exact wanted_none rfl | exact wanted_some rfl rfl rfl rfl) (by exact rfl) (by exact rfl) (by exact rfl) Try.underlying26 rfl (by exact dqlInfo) ?_)
            | ((with_reducible show wpList _ _ _ (⟨_, .load 26 _, _, _, _, _⟩ :: _) _ _); refine mem_load (i := 3) H (by first | exact wanted_none rfl | exact wanted_some rfl rfl rfl rfl) (by exact rfl) (by exact rfl) (by exact rfl) Try.underlying26 rfl (by exact dqlInfo) ?_)
            | ((with_reducible show wpList _ _ _ (⟨_, .store 26 _ _, _, _, _, _⟩ :: _) _ _); refine mem_store (i := 0) H (by first | exact wanted_none rfl | exact wanted_some rfl rfl rfl rfl) (by exact rfl) (by exact rfl) (by exact rfl) (by exact rfl) (by exact dqlInfo) (by exact rfl) (by exact rfl) ?_; intro w2 H2; clear H; have H := H2; clear H2; simp only [List.cons_append, List.nil_append, List.set_cons_zero, List.set_cons_succ, List.setIfInBounds_toArray] at H)
            | ((with_reducible show wpList _ _ _ (⟨_, .store 26 _ _, _, _, _, _⟩ :: _) _ _); refine mem_store (i := 1) H (by first | exact wanted_none rfl | exact wanted_some rfl rfl rfl rfl) (by exact rfl) (by exact rfl) (by exact rfl) (by exact rfl) (by exact dqlInfo) (by exact rfl) (by exact rfl) ?_; intro w2 H2; clear H; have H := H2; clear H2; simp only [List.cons_append, List.nil_append, List.set_cons_zero, List.set_cons_succ, List.setIfInBounds_toArray] at H)
            | ((with_reducible show wpList _ _ _ (⟨_, .store 26 _ _, _, _, _, _⟩ :: _) _ _); refine mem_store (i := 2) H (by first | exact wanted_none rfl | exact wanted_some rfl rfl rfl rfl) (by exact rfl) (by exact rfl) (by exact rfl) (by exact rfl) (by exact dqlInfo) (by exact rfl) (by exact rfl) ?_; intro w2 H2; clear H; have H := H2; clear H2; simp only [List.cons_append, List.nil_append, List.set_cons_zero, List.set_cons_succ, List.setIfInBounds_toArray] at H)
            | ((with_reducible show wpList _ _ _ (⟨_, .store 26 _ _, _, _, _, _⟩ :: _) _ _); refine mem_store (i := 3) H (by first | exact wanted_none rfl | exact wanted_some rfl rfl rfl rfl) (by exact rfl) (by exact rfl) (by exact rfl) (by exact rfl) (by exact dqlInfo) (by exact rfl) (by exact rfl) ?_; intro w2 H2; clear H; have H := H2; clear H2; simp only [List.cons_append, List.nil_append, List.set_cons_zero, List.set_cons_succ, List.setIfInBounds_toArray] at H))
            go_roundw
            case rel => exact ⟨k + 1, t1, D, by omega, by omega, by go_num, rfl, ht.1, by omega, HR.out, hf, H.drop 2⟩
            case measure => simp [intOf]; omega

      · have hR := fun w => right_p D w
        rw [hr] at hR
        clear hr hin HAb
        go_wp2_with (first
        | go_skip
        | ((with_reducible show wpList _ _ _ _ _ (World.alloc _ (.cells _ _))); refine mem_new H ?_; intro w2 H2; clear H; have H := H2; clear H2; simp only [List.cons_append, List.nil_append, List.set_cons_zero, List.set_cons_succ, List.setIfInBounds_toArray] at H)
        | ((with_reducible show wpList _ _ _ (⟨_, .load 26 _, _, _, _, _⟩ :: _) _ _); refine mem_load (i := 0) H (by first | exact wanted_none rfl | exact wanted_some rfl rfl rfl rfl) (by exact rfl) (by exact rfl) (by exact rfl) Try.underlying26 rfl (by exact dqlInfo) ?_)
        | ((with_reducible show wpList _ _ _ (⟨_, .load 26 _, _, _, _, _⟩ :: _) _ _); refine mem_load (i := 1) H (by first | exact wanted_none rfl | exact wanted_some rfl rfl rfl rfl) (by exact rfl) (by exact rfl) (by exact rfl) Try.underlying26 rfl (by exact dqlInfo) ?_)
        | ((with_reducible show wpList _ _ _ (⟨_, .load _ _, _, _, _, _⟩ :: _) _ _); refine mem_loadf (i := 0) H (by first | exact wanted_none rfl | exact wanted_some rfl rfl rfl rfl) (by exact rfl) (by exact rfl) (by exact rfl) (by first | exact Try.underlying22 | exact Try.underlying23) rfl (by exact rfl) ?_)
        | ((with_reducible show wpList _ _ _ (⟨_, .load _ _, _, _, _, _⟩ :: _) _ _); refine mem_loadf (i := 1) H (by first | exact wanted_none rfl | exact wanted_some rfl rfl rfl rfl) (by exact rfl) (by exact rfl) (by exact rfl) (by first | exact Try.underlying22 | exact Try.underlying23) rfl (by exact rfl) ?_)
        | ((with_reducible show wpList _ _ _ (⟨_, .store 26 _ _, _, _, _, _⟩ :: _) _ _); refine mem_store (i := 0) H (by first | exact wanted_none rfl | exact wanted_some rfl rfl rfl rfl) (by exact rfl) (by exact rfl) (by exact rfl) (by exact rfl) (by exact dqlInfo) (by exact rfl) (by exact rfl) ?_; intro w2 H2; clear H; have H := H2; clear H2; simp only [List.cons_append, List.nil_append, List.set_cons_zero, List.set_cons_succ, List.setIfInBounds_toArray] at H)
        | ((with_reducible show wpList _ _ _ (⟨_, .store 26 _ _, _, _, _, _⟩ :: _) _ _); refine mem_store (i := 1) H (by first | exact wanted_none rfl | exact wanted_some rfl rfl rfl rfl) (by exact rfl) (by exact rfl) (by exact rfl) (by exact rfl) (by exact dqlInfo) (by exact rfl) (by exact rfl) ?_; intro w2 H2; clear H; have H := H2; clear H2; simp only [List.cons_append, List.nil_append, List.set_cons_zero, List.set_cons_succ, List.setIfInBounds_toArray] at H)
        | (go_at_call 14; refine (hR _).mono ?_; rintro e w2 ⟨rfl, hb⟩; have H2 := H.call hb; clear H hb; have H := H2; clear H2))
        all_goals
          go_ret
          exact ⟨rfl, H.below⟩
end Go.Proofs.Ytfgaeaebchgcdaa
