/-
  BucketBound, walked over the contracts of the program's functions. Conditions: the numbers fit their kinds.
-/
import Derived.Test.YtmincladghbklaaBucketE
import Derived.Test.YtmincladghbklaaSlice
namespace Go.Proofs.Ytmincladghbklaa
set_option linter.unusedSimpArgs false
set_option linter.unusedVariables false
open Go.ChangeShapes Go.WideShapes Go.ChangeAt Go.RowKit Go.Deep

section
variable {H : Type} {enc : TypeId × Value → H} {P : Program} {w : World} {base : Nat} {spare : Nat → Bool} {held : Bool}
/-- an element of two whole numbers -/
theorem open_num2 {e : TypeId} {f0 f1 : Field} {k0 k1 : IntKind} (he : P.underlying e = some (.struct #[f0, f1])) (hone : oneCellFields P #[f0, f1] = true) (ce : P.cellsOf e = 2)
    (u0 : P.underlying f0.type = some (.int k0)) (u1 : P.underlying f1.type = some (.int k1)) (fuel : Nat) (cs : List Value) (x : DataW H × List MemPlace) (h : DataW.trod enc P w base spare held fuel e cs = some x) :
    ∃ y : Int × Int, cs = [.int k0 y.1, .int k1 y.2] ∧ ((Lit.int k0 y.1).wf = true ∧ (Lit.int k1 y.2).wf = true) := by
  obtain ⟨xs, m, _, hx, hlen, hxl, hg⟩ := DataW.trod_struct he h
  rw [ce] at hlen
  match cs, hlen with
  | [c0, c1], _ =>
    match xs, hxl with
    | [y0, y1], _ =>
      obtain ⟨o0, q0⟩ := hone_of hone 0 f0 rfl
      have g0 := hg 0 f0 rfl
      rw [o0, q0] at g0
      obtain ⟨n0, e0, _, w0⟩ := DataW.trod_int u0 (show DataW.trod enc P w base spare held m f0.type [c0] = some y0 from g0)
      obtain ⟨o1, q1⟩ := hone_of hone 1 f1 rfl
      have g1 := hg 1 f1 rfl
      rw [o1, q1] at g1
      obtain ⟨n1, e1, _, w1⟩ := DataW.trod_int u1 (show DataW.trod enc P w base spare held m f1.type [c1] = some y1 from g1)
      simp at e0 e1
      subst e0 e1
      exact ⟨(n0, n1), rfl, w0, w1⟩
end
/-- an asking's cells, and that its numbers fit -/
abbrev askC (x : Int × Int) : List Value := [.int .u64 x.1, .int .i64 x.2]
abbrev askF (x : Int × Int) : Prop := (Lit.int .u64 x.1).wf = true ∧ (Lit.int .i64 x.2).wf = true
/-- the askings where they lie -/
structure Asks (w : World) (b o len : Nat) (xs : Nat → Int × Int) : Prop where
  lt : b < w.heap.size
  fits : ∀ k, k < len → askF (xs k)
  cell : ∀ k, k < len → w.cell? ⟨b, o + k * 2, none⟩ = some (.int .u64 (xs k).1) ∧ w.cell? ⟨b, o + k * 2 + 1, none⟩ = some (.int .i64 (xs k).2)
theorem asks_in {w : World} {A : Option Addr} {len : Nat} {xs : Nat → Int × Int} (h : SliceAt w A len 2 askC askF xs) : ∃ b o, (0 < len → A = some ⟨b, o, none⟩) ∧ (0 < len → Asks w b o len xs) := by
  by_cases h0 : 0 < len
  · obtain ⟨b, o, h1, h2, h3⟩ := h.plain (fun _ => rfl) (by decide) h0
    exact ⟨b, o, fun _ => h1, fun _ => ⟨h2, fun k hk => (h3 k hk).1, fun k hk => ⟨(h3 k hk).2 0 _ rfl, (h3 k hk).2 1 _ rfl⟩⟩⟩
  · exact ⟨0, 0, fun h => absurd h h0, fun h => absurd h h0⟩
/-- a box of a bucket -/
abbrev bxb (b : Nat) (d : BK) : Nat × TypeId × Array Value := (b, 24, #[.int .u64 d.rate, .int .i64 d.burst, .int .i64 d.level, .int .u64 d.rem, .int .u64 d.at_])
/-- a bucket that was filled -/
theorem bound_fill {d : BK} {tk gr t : Int} (h : d.Acc tk gr) (hr : d.rate ≠ 0) (h1 : d.at_ ≤ t) (h2 : t ≤ 9223372036854775807) : fillE d t = 0 ∧ (fillV d t).Acc tk gr ∧ (fillV d t).rate = d.rate ∧ (fillV d t).burst = d.burst ∧ (fillV d t).at_ = t := by
  obtain ⟨e1, e2⟩ := fillE_1 (BK.right_of_ok h.ok) ((time_iff d t).2 ⟨h1, h2⟩)
  rw [e2]
  exact ⟨e1, BK.acc_fill h h1 h2 hr, BK.fill_rate _ _, BK.fill_burst _ _, BK.fill_at _ _⟩
/-- a bucket that gave -/
theorem bound_take {d : BK} {tk gr n : Int} (h : d.Acc tk gr) (hr : d.rate ≠ 0) (he : takeE d n = 0) (hk : takeK d n = true) : (1 ≤ n ∧ n ≤ 65535) ∧ (takeV d n).Acc (tk + n) (max gr n) ∧ (takeV d n).rate = d.rate ∧ (takeV d n).burst = d.burst ∧ (takeV d n).at_ = d.at_ := by
  have d1 : decide (d.rate = 0) = false := decide_eq_false hr
  simp only [takeK, d1, Bool.false_or, Bool.and_eq_true, decide_eq_true_eq] at hk
  have hn : 1 ≤ n ∧ n ≤ 65535 := by
    have := hk.1
    simp [takeB] at this
    omega
  have d2 : decide (d.level ≤ 0) = false := decide_eq_false (by omega)
  have e : takeV d n = d.taken n := by simp only [takeV, hk.1, d1, d2, Bool.false_or, cond_true, cond_false]
  rw [e]
  exact ⟨hn, BK.acc_take h hk.2 hn, rfl, rfl, rfl⟩
set_option maxRecDepth 100000 in
set_option maxHeartbeats 4000000 in
theorem bound_w (rate burst : Int) (hr0 : 0 ≤ rate ∧ rate ≤ 18446744073709551615) (hb0 : -9223372036854775808 ≤ burst ∧ burst ≤ 9223372036854775807) (A : Option Addr) (len cap : Nat) (xs : Nat → Int × Int) (hl : len ≤ cap) (hc : cap ≤ maxLen) (w : World) (hA : SliceAt w A len 2 askC askF xs) : Calls Try.prog 8 #[.int .u64 rate, .int .i64 burst, .slice A len cap] w fun e w' => e = .returned (.bool true) ∧ Below w.heap.size w w' := by
  unfold maxLen at hc
  obtain ⟨ba, oa, hAb, hin⟩ := asks_in hA
  have HAb := Lib.hid hAb
  clear hAb hA
  have h0 := fun w => new_p rate burst 0 w
  have H := Mem.start w
  rcases hb : (BK.new rate burst 0).right
  · rw [show newE rate burst 0 = 2 by simp only [newE, hb, cond_false]] at h0
    clear hb hin HAb
    go_enter Try.func8, Try.ntmps8
    go_wp2_with (first
    | go_skip
    | ((with_reducible show wpList _ _ _ _ _ (World.alloc _ (.cells _ _))); refine mem_new H ?_; intro w2 H2; clear H; have H := H2; clear H2; simp only [List.cons_append, List.nil_append, List.set_cons_zero, List.set_cons_succ, List.setIfInBounds_toArray] at H)
    | ((with_reducible show wpList _ _ _ (⟨_, .load 24 _, _, _, _, _⟩ :: _) _ _); refine mem_load (i := 0) H (by first | exact wanted_none rfl | exact wanted_some rfl rfl rfl rfl) (by exact rfl) (by exact rfl) (by exact rfl) Try.underlying24 rfl (by exact bkInfo) ?_)
    | ((with_reducible show wpList _ _ _ (⟨_, .load _ _, _, _, _, _⟩ :: _) _ _); refine mem_loadf (i := 0) H (by first | exact wanted_none rfl | exact wanted_some rfl rfl rfl rfl) (by exact rfl) (by exact rfl) (by exact rfl) (by first | exact Try.underlying22 | exact Try.underlying2) rfl (by exact rfl) ?_)
    | ((with_reducible show wpList _ _ _ (⟨_, .store 24 _ _, _, _, _, _⟩ :: _) _ _); refine mem_store (i := 0) H (by first | exact wanted_none rfl | exact wanted_some rfl rfl rfl rfl) (by exact rfl) (by exact rfl) (by exact rfl) (by exact rfl) (by exact bkInfo) (by exact rfl) (by exact rfl) ?_; intro w2 H2; clear H; have H := H2; clear H2; simp only [List.cons_append, List.nil_append, List.set_cons_zero, List.set_cons_succ, List.setIfInBounds_toArray] at H)
    | (go_at_call 10; refine (shown_p _).mono ?_; rintro e w2 ⟨rfl, hb⟩; have H2 := H.call hb; clear H hb; have H := H2; clear H2)
    | (go_at_call 11; refine (h0 _).mono ?_; rintro e w2 ⟨rfl, hb⟩; have H2 := H.call hb; clear H hb; have H := H2; clear H2))
    go_ret
    exact ⟨rfl, H.below⟩
  · rw [show newE rate burst 0 = 0 by simp only [newE, hb, cond_true], show newV rate burst 0 = BK.new rate burst 0 by simp only [newV, hb, cond_true]] at h0
    have hok := BK.new_ok hr0 hb0 (now := 0) (by omega) hb
    have hacc := BK.acc_new hok
    have hrt : rate ≤ 1099511627776 := hok.rate.2
    have hbu : 1 ≤ burst ∧ burst ≤ 1073741824 := hok.burst
    obtain ⟨D0, hD0⟩ : ∃ D, BK.new rate burst 0 = D := ⟨_, rfl⟩
    have q0 : D0.rate = rate ∧ D0.burst = burst ∧ D0.at_ = 0 := by rw [← hD0]; exact ⟨rfl, rfl, rfl⟩
    rw [hD0] at h0 hacc
    clear hD0 hb hok
    by_cases hr1 : rate < 1
    · have e1 : decide (rate < 1) = true := decide_eq_true hr1
      clear hin HAb hacc q0
      go_enter Try.func8, Try.ntmps8
      go_wp2_with (first
    | go_skip
    | ((with_reducible show wpList _ _ _ _ _ (World.alloc _ (.cells _ _))); refine mem_new H ?_; intro w2 H2; clear H; have H := H2; clear H2; simp only [List.cons_append, List.nil_append, List.set_cons_zero, List.set_cons_succ, List.setIfInBounds_toArray] at H)
    | ((with_reducible show wpList _ _ _ (⟨_, .load 24 _, _, _, _, _⟩ :: _) _ _); refine mem_load (i := 0) H (by first | exact wanted_none rfl | exact wanted_some rfl rfl rfl rfl) (by exact rfl) (by exact rfl) (by exact rfl) Try.underlying24 rfl (by exact bkInfo) ?_)
    | ((with_reducible show wpList _ _ _ (⟨_, .load _ _, _, _, _, _⟩ :: _) _ _); refine mem_loadf (i := 0) H (by first | exact wanted_none rfl | exact wanted_some rfl rfl rfl rfl) (by exact rfl) (by exact rfl) (by exact rfl) (by first | exact Try.underlying22 | exact Try.underlying2) rfl (by exact rfl) ?_)
    | ((with_reducible show wpList _ _ _ (⟨_, .store 24 _ _, _, _, _, _⟩ :: _) _ _); refine mem_store (i := 0) H (by first | exact wanted_none rfl | exact wanted_some rfl rfl rfl rfl) (by exact rfl) (by exact rfl) (by exact rfl) (by exact rfl) (by exact bkInfo) (by exact rfl) (by exact rfl) ?_; intro w2 H2; clear H; have H := H2; clear H2; simp only [List.cons_append, List.nil_append, List.set_cons_zero, List.set_cons_succ, List.setIfInBounds_toArray] at H)
    | (go_at_call 10; refine (shown_p _).mono ?_; rintro e w2 ⟨rfl, hb⟩; have H2 := H.call hb; clear H hb; have H := H2; clear H2)
    | (go_at_call 11; refine (h0 _).mono ?_; rintro e w2 ⟨rfl, hb⟩; have H2 := H.call hb; clear H hb; have H := H2; clear H2))
      go_ret
      exact ⟨rfl, H.below⟩
    · have e1 : decide (rate < 1) = false := decide_eq_false hr1
      by_cases hr2 : 1073741824 < rate
      · have e2 : decide (1073741824 < rate) = true := decide_eq_true hr2
        clear hin HAb hacc q0
        go_enter Try.func8, Try.ntmps8
        go_wp2_with (first
    | go_skip
    | ((with_reducible show wpList _ _ _ _ _ (World.alloc _ (.cells _ _))); refine mem_new H ?_; intro w2 H2; clear H; have H := H2; clear H2; simp only [List.cons_append, List.nil_append, List.set_cons_zero, List.set_cons_succ, List.setIfInBounds_toArray] at H)
    | ((with_reducible show wpList _ _ _ (⟨_, .load 24 _, _, _, _, _⟩ :: _) _ _); refine mem_load (i := 0) H (by first | exact wanted_none rfl | exact wanted_some rfl rfl rfl rfl) (by exact rfl) (by exact rfl) (by exact rfl) Try.underlying24 rfl (by exact bkInfo) ?_)
    | ((with_reducible show wpList _ _ _ (⟨_, .load _ _, _, _, _, _⟩ :: _) _ _); refine mem_loadf (i := 0) H (by first | exact wanted_none rfl | exact wanted_some rfl rfl rfl rfl) (by exact rfl) (by exact rfl) (by exact rfl) (by first | exact Try.underlying22 | exact Try.underlying2) rfl (by exact rfl) ?_)
    | ((with_reducible show wpList _ _ _ (⟨_, .store 24 _ _, _, _, _, _⟩ :: _) _ _); refine mem_store (i := 0) H (by first | exact wanted_none rfl | exact wanted_some rfl rfl rfl rfl) (by exact rfl) (by exact rfl) (by exact rfl) (by exact rfl) (by exact bkInfo) (by exact rfl) (by exact rfl) ?_; intro w2 H2; clear H; have H := H2; clear H2; simp only [List.cons_append, List.nil_append, List.set_cons_zero, List.set_cons_succ, List.setIfInBounds_toArray] at H)
    | (go_at_call 10; refine (shown_p _).mono ?_; rintro e w2 ⟨rfl, hb⟩; have H2 := H.call hb; clear H hb; have H := H2; clear H2)
    | (go_at_call 11; refine (h0 _).mono ?_; rintro e w2 ⟨rfl, hb⟩; have H2 := H.call hb; clear H hb; have H := H2; clear H2))
        go_ret
        exact ⟨rfl, H.below⟩
      · have e2 : decide (1073741824 < rate) = false := decide_eq_false hr2
        have Q0 := Lib.hid q0
        clear q0
        go_enter Try.func8, Try.ntmps8
        go_upto_region 3 with (first
    | ((with_reducible show wpList _ _ _ _ _ (World.alloc _ (.cells _ _))); refine mem_newb H ?_; intro bA w3 hbk H2; try rw [← hbk]; clear hbk H; have H := H2; clear H2; simp only [List.cons_append, List.nil_append, List.set_cons_zero, List.set_cons_succ, List.setIfInBounds_toArray] at H)
    | ((with_reducible show wpList _ _ _ _ _ (World.alloc _ (.cells _ _))); refine mem_new H ?_; intro w2 H2; clear H; have H := H2; clear H2; simp only [List.cons_append, List.nil_append, List.set_cons_zero, List.set_cons_succ, List.setIfInBounds_toArray] at H)
    | ((with_reducible show wpList _ _ _ (⟨_, .load 24 _, _, _, _, _⟩ :: _) _ _); refine mem_load (i := 0) H (by first | exact wanted_none rfl | exact wanted_some rfl rfl rfl rfl) (by exact rfl) (by exact rfl) (by exact rfl) Try.underlying24 rfl (by exact bkInfo) ?_)
    | ((with_reducible show wpList _ _ _ (⟨_, .load _ _, _, _, _, _⟩ :: _) _ _); refine mem_loadf (i := 0) H (by first | exact wanted_none rfl | exact wanted_some rfl rfl rfl rfl) (by exact rfl) (by exact rfl) (by exact rfl) (by first | exact Try.underlying22 | exact Try.underlying2) rfl (by exact rfl) ?_)
    | ((with_reducible show wpList _ _ _ (⟨_, .store 24 _ _, _, _, _, _⟩ :: _) _ _); refine mem_store (i := 0) H (by first | exact wanted_none rfl | exact wanted_some rfl rfl rfl rfl) (by exact rfl) (by exact rfl) (by exact rfl) (by exact rfl) (by exact bkInfo) (by exact rfl) (by exact rfl) ?_; intro w2 H2; clear H; have H := H2; clear H2; simp only [List.cons_append, List.nil_append, List.set_cons_zero, List.set_cons_succ, List.setIfInBounds_toArray] at H)
    | (go_at_call 10; refine (shown_p _).mono ?_; rintro e w2 ⟨rfl, hb⟩; have H2 := H.call hb; clear H hb; have H := H2; clear H2)
    | (go_at_call 11; refine (h0 _).mono ?_; rintro e w2 ⟨rfl, hb⟩; have H2 := H.call hb; clear H hb; have H := H2; clear H2))
        clear h0
        go_wp2
        go_loopw [10, 11, 12] (fun tv gv i wr => ∃ (k : Nat) (tk gr : Int) (D : BK), k ≤ len ∧ k ≤ 60 ∧ i = .int .i64 k ∧ tv = .int .i64 tk ∧ gv = .int .i64 gr ∧ tk ≤ 65535 * k ∧ D.at_ ≤ 1000000000 * k ∧ (D.Acc tk gr ∧ D.rate = rate ∧ D.burst = burst) ∧ Mem w wr [bxb bA D]) (fun _ _ i _ => len - (intOf i).toNat)
        case atStart => exact ⟨0, 0, 0, D0, Nat.zero_le _, by omega, rfl, rfl, rfl, by omega, by rw [Q0.out.2.2]; omega, ⟨hacc, Q0.out.1, Q0.out.2.1⟩, H⟩
        case round =>
          clear H hacc
          obtain ⟨k, tk, gr, D, hk, hk60, rfl, rfl, rfl, htk, hat, ⟨hacc, hDr, hDb⟩, H⟩ := hrel
          have a0 := hacc.ok.at_
          have g0 := hacc.great
          have k0 := hacc.took
          by_cases hlt : k < len ∧ k < 60
          · obtain ⟨hlt, h60⟩ := hlt
            obtain rfl := HAb.out (by omega)
            have hi := hin (by omega)
            have hbl := hi.lt
            obtain ⟨c0, c1⟩ := hi.cell k hlt
            obtain ⟨f0, f1⟩ := hi.fits k hlt
            have b0 := bd_u64 f0
            have b1 := bd_i64 f1
            generalize (xs k).1 = x0 at c0 f0 b0
            generalize (xs k).2 = x1 at c1 f1 b1
            clear hin HAb hi f0 f1
            obtain ⟨t1, ht1⟩ : ∃ t, D.at_ + x0 % 1000000000 = t := ⟨_, rfl⟩
            have htb : D.at_ ≤ t1 ∧ t1 ≤ 1000000000 * (k + 1) := by omega
            have hF := fun w => fill_p D t1 (BK.fits_of_ok hacc.ok) (by omega) w
            obtain ⟨j1, j2, j3, j4, j5⟩ := bound_fill (t := t1) hacc (by omega) htb.1 (by omega)
            rw [j1] at hF
            obtain ⟨D1, hD1⟩ : ∃ X, fillV D t1 = X := ⟨_, rfl⟩
            rw [hD1] at hF j2 j3 j4 j5
            clear hD1 j1
            have hT := fun w => take_p D1 x1 (BK.fits_of_ok j2.ok) w
            have hg := bound_take (n := x1) j2 (by omega)
            obtain ⟨D2, hD2⟩ : ∃ X, takeV D1 x1 = X := ⟨_, rfl⟩
            obtain ⟨ok, hok⟩ : ∃ X, takeK D1 x1 = X := ⟨_, rfl⟩
            obtain ⟨e3, he3⟩ : ∃ X, takeE D1 x1 = X := ⟨_, rfl⟩
            rw [hD2, hok, he3] at hT hg
            have J := Lib.hid (And.intro j2 (And.intro (j3.trans hDr) (And.intro (j4.trans hDb) j5)))
            have HT1 := Lib.hid ht1
            clear hD2 hok he3 hacc hDr hDb j2 j3 j4 j5
            go_upto_region 10 with (first
    | fail)
            refine region_memk H 15 17 rfl (by kernel_rfl) (fun wr0 hcl hS => ?_)
            clear H
            refine wpAnyG_take (i := 0) 1 (v := bk D) rfl rfl (by kernel_rfl) (by kernel_rfl) (by kernel_rfl) (fun _ _ _ h => h) (by kernel_rfl) (by decide) hcl (yields_held (fun w h => h.at 0 rfl) (by exact rfl) (by exact rfl) (by exact rfl) Try.underlying24 rfl bkInfo) hS (fun hc1 => ?_)
            clear hcl; have hcl := hc1; clear hc1; simp only [List.getElem_toArray, List.getElem_cons_zero, List.getElem_cons_succ, Act.put, List.setIfInBounds_toArray, List.set_cons_zero, List.set_cons_succ]
            refine wpAnyG_pure (i := 1) (v := .pointer (some ⟨bA, 4, none⟩)) rfl rfl (by kernel_rfl) (by kernel_rfl) (by kernel_rfl) (fun _ _ _ h => h) (by decide) ⟨by rfl, fun w _ => (by go_simp; try (first | (simp only [IntKind.wrap_u32]; done) | rfl)), fun _ => rfl⟩ (.inr hS) ?_
            have hc1 := hcl.step (i := 1) (by kernel_rfl)
            clear hcl; have hcl := hc1; clear hc1; simp only [List.getElem_toArray, List.getElem_cons_zero, List.getElem_cons_succ, Act.put, List.setIfInBounds_toArray, List.set_cons_zero, List.set_cons_succ]
            refine wpAnyG_take (i := 2) 1 (v := .int .u64 D.at_) rfl rfl (by kernel_rfl) (by kernel_rfl) (by kernel_rfl) (fun _ _ _ h => h) (by kernel_rfl) (by decide) hcl (yields_fld (fun w h => h.at 0 rfl) (by exact rfl) (by exact rfl) (by exact rfl) Try.underlying22 rfl (by exact rfl)) hS (fun hc1 => ?_)
            clear hcl; have hcl := hc1; clear hc1; simp only [List.getElem_toArray, List.getElem_cons_zero, List.getElem_cons_succ, Act.put, List.setIfInBounds_toArray, List.set_cons_zero, List.set_cons_succ]
            refine wpAnyG_pure (i := 3) (v := .slice (some ⟨ba, oa, none⟩) len cap) rfl rfl (by kernel_rfl) (by kernel_rfl) (by kernel_rfl) (fun _ _ _ h => h) (by decide) ⟨by rfl, fun w _ => (by go_simp; try (first | (simp only [IntKind.wrap_u32]; done) | rfl)), fun _ => rfl⟩ (.inr hS) ?_
            have hc1 := hcl.step (i := 3) (by kernel_rfl)
            clear hcl; have hcl := hc1; clear hc1; simp only [List.getElem_toArray, List.getElem_cons_zero, List.getElem_cons_succ, Act.put, List.setIfInBounds_toArray, List.set_cons_zero, List.set_cons_succ]
            refine wpAnyG_pure (i := 4) (v := .int .i64 k) rfl rfl (by kernel_rfl) (by kernel_rfl) (by kernel_rfl) (fun _ _ _ h => h) (by decide) ⟨by rfl, fun w _ => (by go_simp; try (first | (simp only [IntKind.wrap_u32]; done) | rfl)), fun _ => rfl⟩ (.inr hS) ?_
            have hc1 := hcl.step (i := 4) (by kernel_rfl)
            clear hcl; have hcl := hc1; clear hc1; simp only [List.getElem_toArray, List.getElem_cons_zero, List.getElem_cons_succ, Act.put, List.setIfInBounds_toArray, List.set_cons_zero, List.set_cons_succ]
            refine wpAnyG_pure (i := 5) (v := .pointer (some ⟨ba, oa + k * 2, none⟩)) rfl rfl (by kernel_rfl) (by kernel_rfl) (by kernel_rfl) (fun _ _ _ h => h) (by decide) ⟨by rfl, fun w _ => (by go_simp; try (first | (simp only [IntKind.wrap_u32]; done) | rfl)), fun _ => rfl⟩ (.inr hS) ?_
            have hc1 := hcl.step (i := 5) (by kernel_rfl)
            clear hcl; have hcl := hc1; clear hc1; simp only [List.getElem_toArray, List.getElem_cons_zero, List.getElem_cons_succ, Act.put, List.setIfInBounds_toArray, List.set_cons_zero, List.set_cons_succ]
            refine wpAnyG_pure (i := 6) (v := .pointer (some ⟨ba, oa + k * 2, none⟩)) rfl rfl (by kernel_rfl) (by kernel_rfl) (by kernel_rfl) (fun _ _ _ h => h) (by decide) ⟨by rfl, fun w _ => (by go_simp; try (first | (simp only [IntKind.wrap_u32]; done) | rfl)), fun _ => rfl⟩ (.inr hS) ?_
            have hc1 := hcl.step (i := 6) (by kernel_rfl)
            clear hcl; have hcl := hc1; clear hc1; simp only [List.getElem_toArray, List.getElem_cons_zero, List.getElem_cons_succ, Act.put, List.setIfInBounds_toArray, List.set_cons_zero, List.set_cons_succ]
            refine wpAnyG_take (i := 7) 1 (v := .int .u64 x0) rfl rfl (by kernel_rfl) (by kernel_rfl) (by kernel_rfl) (fun _ _ _ h => h) (by kernel_rfl) (by decide) hcl (yields_old c0 hbl (by exact rfl) (by exact rfl) (by exact rfl) Try.underlying22 rfl) hS (fun hc1 => ?_)
            clear hcl; have hcl := hc1; clear hc1; simp only [List.getElem_toArray, List.getElem_cons_zero, List.getElem_cons_succ, Act.put, List.setIfInBounds_toArray, List.set_cons_zero, List.set_cons_succ]
            refine wpAnyG_pure (i := 8) (v := .int .u64 (x0 % 1000000000)) rfl rfl (by kernel_rfl) (by kernel_rfl) (by kernel_rfl) (fun _ _ _ h => h) (by decide) ⟨by rfl, fun w _ => (by go_simp; try (first | (simp only [IntKind.wrap_u32]; done) | rfl | (rw [Int.tmod_eq_emod_of_nonneg b0.1]))), fun _ => rfl⟩ (.inr hS) ?_
            have hc1 := hcl.step (i := 8) (by kernel_rfl)
            clear hcl; have hcl := hc1; clear hc1; simp only [List.getElem_toArray, List.getElem_cons_zero, List.getElem_cons_succ, Act.put, List.setIfInBounds_toArray, List.set_cons_zero, List.set_cons_succ]
            refine wpAnyG_pure (i := 9) (v := .int .u64 t1) rfl rfl (by kernel_rfl) (by kernel_rfl) (by kernel_rfl) (fun _ _ _ h => h) (by decide) ⟨by rfl, fun w _ => (by go_simp; try (first | (simp only [IntKind.wrap_u32]; done) | rfl | (rw [IntKind.wrap_u64]; omega))), fun _ => rfl⟩ (.inr hS) ?_
            have hc1 := hcl.step (i := 9) (by kernel_rfl)
            clear hcl; have hcl := hc1; clear hc1; simp only [List.getElem_toArray, List.getElem_cons_zero, List.getElem_cons_succ, Act.put, List.setIfInBounds_toArray, List.set_cons_zero, List.set_cons_succ]
            refine wpAnyG_two (i := 10) (j := 14) (by kernel_rfl) rfl rfl (fun K hK => ?_) (fun K hK => ?_)
            go_simp
            refine ⟨trivial, (callsIn_wide.2 (hF _)).mono ?_⟩
            rintro e w5 ⟨rfl, hb⟩
            have hS5 := hS.call hb
            clear hb hS
            have hS := hS5
            clear hS5
            refine hK _ _ (.inr hS) ?_
            clear hK K
            have hc1 := hcl.step (i := 10) (by kernel_rfl)
            clear hcl; have hcl := hc1; clear hc1
            refine wpAnyG_pure (i := 11) (v := .tuple #[bk D1, .int .i64 0]) rfl rfl (by kernel_rfl) (by kernel_rfl) (by kernel_rfl) (fun _ _ _ h => h) (by decide) ⟨by rfl, fun w _ => (by go_simp; try (first | (simp only [IntKind.wrap_u32]; done) | rfl)), fun _ => rfl⟩ (.inr hS) ?_
            have hc1 := hcl.step (i := 11) (by kernel_rfl)
            clear hcl; have hcl := hc1; clear hc1; simp only [List.getElem_toArray, List.getElem_cons_zero, List.getElem_cons_succ, Act.put, List.setIfInBounds_toArray, List.set_cons_zero, List.set_cons_succ]
            refine wpAnyG_pure (i := 12) (v := bk D1) rfl rfl (by kernel_rfl) (by kernel_rfl) (by kernel_rfl) (fun _ _ _ h => h) (by decide) ⟨by rfl, fun w _ => (by go_simp; try (first | (simp only [IntKind.wrap_u32]; done) | rfl)), fun _ => rfl⟩ (.inr hS) ?_
            have hc1 := hcl.step (i := 12) (by kernel_rfl)
            clear hcl; have hcl := hc1; clear hc1; simp only [List.getElem_toArray, List.getElem_cons_zero, List.getElem_cons_succ, Act.put, List.setIfInBounds_toArray, List.set_cons_zero, List.set_cons_succ]
            refine wpAnyG_pure (i := 13) (v := .int .i64 0) rfl rfl (by kernel_rfl) (by kernel_rfl) (by kernel_rfl) (fun _ _ _ h => h) (by decide) ⟨by rfl, fun w _ => (by go_simp; try (first | (simp only [IntKind.wrap_u32]; done) | rfl)), fun _ => rfl⟩ (.inr hS) ?_
            have hc1 := hcl.step (i := 13) (by kernel_rfl)
            clear hcl; have hcl := hc1; clear hc1; simp only [List.getElem_toArray, List.getElem_cons_zero, List.getElem_cons_succ, Act.put, List.setIfInBounds_toArray, List.set_cons_zero, List.set_cons_succ]
            refine wpAnyG_one (i := 14) (by kernel_rfl) rfl (fun K hK => ?_)
            go_simp
            refine hK _ _ (.inr (hS.skip _)) ?_
            clear hK K
            have hc1 := hcl.step (i := 14) (by kernel_rfl)
            clear hcl; have hcl := hc1; clear hc1
            have hN := hS.alloc 24 #[.int .u64 0, .int .i64 0, .int .i64 0, .int .u64 0, .int .u64 0]
            have hS5 := hS.skip (.cells #[.int .u64 0, .int .i64 0, .int .i64 0, .int .u64 0, .int .u64 0] 24)
            clear hS
            generalize hbN : w5.heap.size = bN at hN ⊢
            clear hbN
            generalize w5.alloc (.cells #[.int .u64 0, .int .i64 0, .int .i64 0, .int .u64 0, .int .u64 0] 24) = w6 at hN hS5 ⊢
            have hS := hS5
            clear hS5
            simp only [List.cons_append, List.nil_append] at hN
            refine wpAnyG_one (i := 15) (by kernel_rfl) rfl (fun K hK => ?_)
            rw [if_pos (by exact rfl)]
            refine wpIn_store_mem (i := 1) hN (by exact rfl) (by exact rfl) (by exact rfl) (by exact rfl) (by exact bkInfo) (by exact rfl) (by exact rfl) ?_
            intro w7 H
            simp only [List.cons_append, List.nil_append, List.set_cons_zero, List.set_cons_succ, List.setIfInBounds_toArray] at H
            refine hK _ _ (.inl (by kernel_rfl)) ?_
            clear hK K hS hN hcl
            simp only [List.getElem_toArray, List.getElem_cons_zero, List.getElem_cons_succ, Act.put, List.setIfInBounds_toArray, List.set_cons_zero, List.set_cons_succ]
            refine wpAnyG_one (i := 16) (by kernel_rfl) rfl (fun K hK => ?_)
            go_simp
            refine hK _ _ (.inl (by kernel_rfl)) ?_
            clear hK K
            refine wpAnyG_done (by kernel_rfl) ?_ _
            rotate_left 1
            go_simp
            refine hK _ _ (.inr (hS.skip _)) ?_
            clear hK K
            have hc1 := hcl.step (i := 14) (by kernel_rfl)
            clear hcl; have hcl := hc1; clear hc1
            have hN := hS.alloc 24 #[.int .u64 0, .int .i64 0, .int .i64 0, .int .u64 0, .int .u64 0]
            have hS5 := hS.skip (.cells #[.int .u64 0, .int .i64 0, .int .i64 0, .int .u64 0, .int .u64 0] 24)
            clear hS
            generalize hbN : wr0.heap.size = bN at hN ⊢
            clear hbN
            generalize wr0.alloc (.cells #[.int .u64 0, .int .i64 0, .int .i64 0, .int .u64 0, .int .u64 0] 24) = w6 at hN hS5 ⊢
            have hS := hS5
            clear hS5
            simp only [List.cons_append, List.nil_append] at hN
            refine wpAnyG_one (i := 10) (by kernel_rfl) rfl (fun K hK => ?_)
            go_simp
            refine ⟨trivial, (callsIn_wide.2 (hF _)).mono ?_⟩
            rintro e w5 ⟨rfl, hb⟩
            have hS5 := hS.call hb
            have hN5 := hN.call hb
            clear hb hS hN
            have hS := hS5
            clear hS5
            have hN := hN5
            clear hN5
            refine hK _ _ (.inr hS) ?_
            clear hK K
            have hc1 := hcl.step (i := 10) (by kernel_rfl)
            clear hcl; have hcl := hc1; clear hc1
            refine wpAnyG_pure (i := 11) (v := .tuple #[bk D1, .int .i64 0]) rfl rfl (by kernel_rfl) (by kernel_rfl) (by kernel_rfl) (fun _ _ _ h => h) (by decide) ⟨by rfl, fun w _ => (by go_simp; try (first | (simp only [IntKind.wrap_u32]; done) | rfl)), fun _ => rfl⟩ (.inr hS) ?_
            have hc1 := hcl.step (i := 11) (by kernel_rfl)
            clear hcl; have hcl := hc1; clear hc1; simp only [List.getElem_toArray, List.getElem_cons_zero, List.getElem_cons_succ, Act.put, List.setIfInBounds_toArray, List.set_cons_zero, List.set_cons_succ]
            refine wpAnyG_pure (i := 12) (v := bk D1) rfl rfl (by kernel_rfl) (by kernel_rfl) (by kernel_rfl) (fun _ _ _ h => h) (by decide) ⟨by rfl, fun w _ => (by go_simp; try (first | (simp only [IntKind.wrap_u32]; done) | rfl)), fun _ => rfl⟩ (.inr hS) ?_
            have hc1 := hcl.step (i := 12) (by kernel_rfl)
            clear hcl; have hcl := hc1; clear hc1; simp only [List.getElem_toArray, List.getElem_cons_zero, List.getElem_cons_succ, Act.put, List.setIfInBounds_toArray, List.set_cons_zero, List.set_cons_succ]
            refine wpAnyG_pure (i := 13) (v := .int .i64 0) rfl rfl (by kernel_rfl) (by kernel_rfl) (by kernel_rfl) (fun _ _ _ h => h) (by decide) ⟨by rfl, fun w _ => (by go_simp; try (first | (simp only [IntKind.wrap_u32]; done) | rfl)), fun _ => rfl⟩ (.inr hS) ?_
            have hc1 := hcl.step (i := 13) (by kernel_rfl)
            clear hcl; have hcl := hc1; clear hc1; simp only [List.getElem_toArray, List.getElem_cons_zero, List.getElem_cons_succ, Act.put, List.setIfInBounds_toArray, List.set_cons_zero, List.set_cons_succ]
            refine wpAnyG_one (i := 15) (by kernel_rfl) rfl (fun K hK => ?_)
            rw [if_pos (by exact rfl)]
            refine wpIn_store_mem (i := 1) hN (by exact rfl) (by exact rfl) (by exact rfl) (by exact rfl) (by exact bkInfo) (by exact rfl) (by exact rfl) ?_
            intro w7 H
            simp only [List.cons_append, List.nil_append, List.set_cons_zero, List.set_cons_succ, List.setIfInBounds_toArray] at H
            refine hK _ _ (.inl (by kernel_rfl)) ?_
            clear hK K hS hN hcl
            simp only [List.getElem_toArray, List.getElem_cons_zero, List.getElem_cons_succ, Act.put, List.setIfInBounds_toArray, List.set_cons_zero, List.set_cons_succ]
            refine wpAnyG_one (i := 16) (by kernel_rfl) rfl (fun K hK => ?_)
            go_simp
            refine hK _ _ (.inl (by kernel_rfl)) ?_
            clear hK K
            refine wpAnyG_done (by kernel_rfl) ?_ _

            all_goals
              clear hF ht1
              go_upto_region 14 with (first
              | ((with_reducible show wpList _ _ _ (⟨_, .load 24 _, _, _, _, _⟩ :: _) _ _); refine mem_load (i := 0) H (by first | exact wanted_none rfl | exact wanted_some rfl rfl rfl rfl) (by exact rfl) (by exact rfl) (by exact rfl) Try.underlying24 rfl (by exact bkInfo) ?_)
              | ((with_reducible show wpList _ _ _ (⟨_, .load 24 _, _, _, _, _⟩ :: _) _ _); refine mem_load (i := 1) H (by first | exact wanted_none rfl | exact wanted_some rfl rfl rfl rfl) (by exact rfl) (by exact rfl) (by exact rfl) Try.underlying24 rfl (by exact bkInfo) ?_)
              | ((with_reducible show wpList _ _ _ (⟨_, .store 24 _ _, _, _, _, _⟩ :: _) _ _); refine mem_store (i := 0) H (by first | exact wanted_none rfl | exact wanted_some rfl rfl rfl rfl) (by exact rfl) (by exact rfl) (by exact rfl) (by exact rfl) (by exact bkInfo) (by exact rfl) (by exact rfl) ?_; intro w2 H2; clear H; have H := H2; clear H2; simp only [List.cons_append, List.nil_append, List.set_cons_zero, List.set_cons_succ, List.setIfInBounds_toArray] at H)
              | ((with_reducible show wpList _ _ _ (⟨_, .store 24 _ _, _, _, _, _⟩ :: _) _ _); refine mem_store (i := 1) H (by first | exact wanted_none rfl | exact wanted_some rfl rfl rfl rfl) (by exact rfl) (by exact rfl) (by exact rfl) (by exact rfl) (by exact bkInfo) (by exact rfl) (by exact rfl) ?_; intro w2 H2; clear H; have H := H2; clear H2; simp only [List.cons_append, List.nil_append, List.set_cons_zero, List.set_cons_succ, List.setIfInBounds_toArray] at H))
              refine region_memk H 12 15 rfl (by kernel_rfl) (fun wr0 hcl hS => ?_)
              clear H
              refine wpAnyG_take (i := 0) 1 (v := bk D1) rfl rfl (by kernel_rfl) (by kernel_rfl) (by kernel_rfl) (fun _ _ _ h => h) (by kernel_rfl) (by decide) hcl (yields_held (fun w h => h.at 0 rfl) (by exact rfl) (by exact rfl) (by exact rfl) Try.underlying24 rfl bkInfo) hS (fun hc1 => ?_)
              clear hcl; have hcl := hc1; clear hc1; simp only [List.getElem_toArray, List.getElem_cons_zero, List.getElem_cons_succ, Act.put, List.setIfInBounds_toArray, List.set_cons_zero, List.set_cons_succ]
              refine wpAnyG_pure (i := 1) (v := .slice (some ⟨ba, oa, none⟩) len cap) rfl rfl (by kernel_rfl) (by kernel_rfl) (by kernel_rfl) (fun _ _ _ h => h) (by decide) ⟨by rfl, fun w _ => (by go_simp; try (first | (simp only [IntKind.wrap_u32]; done) | rfl)), fun _ => rfl⟩ (.inr hS) ?_
              have hc1 := hcl.step (i := 1) (by kernel_rfl)
              clear hcl; have hcl := hc1; clear hc1; simp only [List.getElem_toArray, List.getElem_cons_zero, List.getElem_cons_succ, Act.put, List.setIfInBounds_toArray, List.set_cons_zero, List.set_cons_succ]
              refine wpAnyG_pure (i := 2) (v := .int .i64 k) rfl rfl (by kernel_rfl) (by kernel_rfl) (by kernel_rfl) (fun _ _ _ h => h) (by decide) ⟨by rfl, fun w _ => (by go_simp; try (first | (simp only [IntKind.wrap_u32]; done) | rfl)), fun _ => rfl⟩ (.inr hS) ?_
              have hc1 := hcl.step (i := 2) (by kernel_rfl)
              clear hcl; have hcl := hc1; clear hc1; simp only [List.getElem_toArray, List.getElem_cons_zero, List.getElem_cons_succ, Act.put, List.setIfInBounds_toArray, List.set_cons_zero, List.set_cons_succ]
              refine wpAnyG_pure (i := 3) (v := .pointer (some ⟨ba, oa + k * 2, none⟩)) rfl rfl (by kernel_rfl) (by kernel_rfl) (by kernel_rfl) (fun _ _ _ h => h) (by decide) ⟨by rfl, fun w _ => (by go_simp; try (first | (simp only [IntKind.wrap_u32]; done) | rfl)), fun _ => rfl⟩ (.inr hS) ?_
              have hc1 := hcl.step (i := 3) (by kernel_rfl)
              clear hcl; have hcl := hc1; clear hc1; simp only [List.getElem_toArray, List.getElem_cons_zero, List.getElem_cons_succ, Act.put, List.setIfInBounds_toArray, List.set_cons_zero, List.set_cons_succ]
              refine wpAnyG_pure (i := 4) (v := .pointer (some ⟨ba, oa + k * 2 + 1, none⟩)) rfl rfl (by kernel_rfl) (by kernel_rfl) (by kernel_rfl) (fun _ _ _ h => h) (by decide) ⟨by rfl, fun w _ => (by go_simp; try (first | (simp only [IntKind.wrap_u32]; done) | rfl)), fun _ => rfl⟩ (.inr hS) ?_
              have hc1 := hcl.step (i := 4) (by kernel_rfl)
              clear hcl; have hcl := hc1; clear hc1; simp only [List.getElem_toArray, List.getElem_cons_zero, List.getElem_cons_succ, Act.put, List.setIfInBounds_toArray, List.set_cons_zero, List.set_cons_succ]
              refine wpAnyG_take (i := 5) 1 (v := .int .i64 x1) rfl rfl (by kernel_rfl) (by kernel_rfl) (by kernel_rfl) (fun _ _ _ h => h) (by kernel_rfl) (by decide) hcl (yields_old c1 hbl (by exact rfl) (by exact rfl) (by exact rfl) Try.underlying2 rfl) hS (fun hc1 => ?_)
              clear hcl; have hcl := hc1; clear hc1; simp only [List.getElem_toArray, List.getElem_cons_zero, List.getElem_cons_succ, Act.put, List.setIfInBounds_toArray, List.set_cons_zero, List.set_cons_succ]
              refine wpAnyG_two (i := 6) (j := 11) (by kernel_rfl) rfl rfl (fun K hK => ?_) (fun K hK => ?_)
              go_simp
              refine ⟨trivial, (callsIn_wide.2 (hT _)).mono ?_⟩
              rintro e w5 ⟨rfl, hb⟩
              have hS5 := hS.call hb
              clear hb hS
              have hS := hS5
              clear hS5
              refine hK _ _ (.inr hS) ?_
              clear hK K
              have hc1 := hcl.step (i := 6) (by kernel_rfl)
              clear hcl; have hcl := hc1; clear hc1
              refine wpAnyG_pure (i := 7) (v := .tuple #[bk D2, .bool ok, .int .i64 e3]) rfl rfl (by kernel_rfl) (by kernel_rfl) (by kernel_rfl) (fun _ _ _ h => h) (by decide) ⟨by rfl, fun w _ => (by go_simp; try (first | (simp only [IntKind.wrap_u32]; done) | rfl)), fun _ => rfl⟩ (.inr hS) ?_
              have hc1 := hcl.step (i := 7) (by kernel_rfl)
              clear hcl; have hcl := hc1; clear hc1; simp only [List.getElem_toArray, List.getElem_cons_zero, List.getElem_cons_succ, Act.put, List.setIfInBounds_toArray, List.set_cons_zero, List.set_cons_succ]
              refine wpAnyG_pure (i := 8) (v := bk D2) rfl rfl (by kernel_rfl) (by kernel_rfl) (by kernel_rfl) (fun _ _ _ h => h) (by decide) ⟨by rfl, fun w _ => (by go_simp; try (first | (simp only [IntKind.wrap_u32]; done) | rfl)), fun _ => rfl⟩ (.inr hS) ?_
              have hc1 := hcl.step (i := 8) (by kernel_rfl)
              clear hcl; have hcl := hc1; clear hc1; simp only [List.getElem_toArray, List.getElem_cons_zero, List.getElem_cons_succ, Act.put, List.setIfInBounds_toArray, List.set_cons_zero, List.set_cons_succ]
              refine wpAnyG_pure (i := 9) (v := .bool ok) rfl rfl (by kernel_rfl) (by kernel_rfl) (by kernel_rfl) (fun _ _ _ h => h) (by decide) ⟨by rfl, fun w _ => (by go_simp; try (first | (simp only [IntKind.wrap_u32]; done) | rfl)), fun _ => rfl⟩ (.inr hS) ?_
              have hc1 := hcl.step (i := 9) (by kernel_rfl)
              clear hcl; have hcl := hc1; clear hc1; simp only [List.getElem_toArray, List.getElem_cons_zero, List.getElem_cons_succ, Act.put, List.setIfInBounds_toArray, List.set_cons_zero, List.set_cons_succ]
              refine wpAnyG_pure (i := 10) (v := .int .i64 e3) rfl rfl (by kernel_rfl) (by kernel_rfl) (by kernel_rfl) (fun _ _ _ h => h) (by decide) ⟨by rfl, fun w _ => (by go_simp; try (first | (simp only [IntKind.wrap_u32]; done) | rfl)), fun _ => rfl⟩ (.inr hS) ?_
              have hc1 := hcl.step (i := 10) (by kernel_rfl)
              clear hcl; have hcl := hc1; clear hc1; simp only [List.getElem_toArray, List.getElem_cons_zero, List.getElem_cons_succ, Act.put, List.setIfInBounds_toArray, List.set_cons_zero, List.set_cons_succ]
              refine wpAnyG_one (i := 11) (by kernel_rfl) rfl (fun K hK => ?_)
              go_simp
              refine hK _ _ (.inr (hS.skip _)) ?_
              clear hK K
              have hc1 := hcl.step (i := 11) (by kernel_rfl)
              clear hcl; have hcl := hc1; clear hc1
              have hN := hS.alloc 24 #[.int .u64 0, .int .i64 0, .int .i64 0, .int .u64 0, .int .u64 0]
              have hS5 := hS.skip (.cells #[.int .u64 0, .int .i64 0, .int .i64 0, .int .u64 0, .int .u64 0] 24)
              clear hS
              generalize hbN : w5.heap.size = bM at hN ⊢
              clear hbN
              generalize w5.alloc (.cells #[.int .u64 0, .int .i64 0, .int .i64 0, .int .u64 0, .int .u64 0] 24) = w6 at hN hS5 ⊢
              have hS := hS5
              clear hS5
              simp only [List.cons_append, List.nil_append] at hN
              refine wpAnyG_one (i := 12) (by kernel_rfl) rfl (fun K hK => ?_)
              rw [if_pos (by exact rfl)]
              refine wpIn_store_mem (i := 2) hN (by exact rfl) (by exact rfl) (by exact rfl) (by exact rfl) (by exact bkInfo) (by exact rfl) (by exact rfl) ?_
              intro w7 H
              simp only [List.cons_append, List.nil_append, List.set_cons_zero, List.set_cons_succ, List.setIfInBounds_toArray] at H
              refine hK _ _ (.inl (by kernel_rfl)) ?_
              clear hK K hS hN hcl
              simp only [List.getElem_toArray, List.getElem_cons_zero, List.getElem_cons_succ, Act.put, List.setIfInBounds_toArray, List.set_cons_zero, List.set_cons_succ]
              refine wpAnyG_one (i := 13) (by kernel_rfl) rfl (fun K hK => ?_)
              go_simp
              refine hK _ _ (.inl (by kernel_rfl)) ?_
              clear hK K
              try simp only [List.getElem_toArray, List.getElem_cons_zero, List.getElem_cons_succ, Act.put, List.setIfInBounds_toArray, List.set_cons_zero, List.set_cons_succ]
              refine wpAnyG_one (i := 14) (by kernel_rfl) rfl (fun K hK => ?_)
              go_simp
              refine hK _ _ (.inl (by kernel_rfl)) ?_
              clear hK K
              refine wpAnyG_done (by kernel_rfl) ?_ _
              rotate_left 1
              go_simp
              refine hK _ _ (.inr (hS.skip _)) ?_
              clear hK K
              have hc1 := hcl.step (i := 11) (by kernel_rfl)
              clear hcl; have hcl := hc1; clear hc1
              have hN := hS.alloc 24 #[.int .u64 0, .int .i64 0, .int .i64 0, .int .u64 0, .int .u64 0]
              have hS5 := hS.skip (.cells #[.int .u64 0, .int .i64 0, .int .i64 0, .int .u64 0, .int .u64 0] 24)
              clear hS
              generalize hbN : wr0.heap.size = bM at hN ⊢
              clear hbN
              generalize wr0.alloc (.cells #[.int .u64 0, .int .i64 0, .int .i64 0, .int .u64 0, .int .u64 0] 24) = w6 at hN hS5 ⊢
              have hS := hS5
              clear hS5
              simp only [List.cons_append, List.nil_append] at hN
              refine wpAnyG_one (i := 6) (by kernel_rfl) rfl (fun K hK => ?_)
              go_simp
              refine ⟨trivial, (callsIn_wide.2 (hT _)).mono ?_⟩
              rintro e w5 ⟨rfl, hb⟩
              have hS5 := hS.call hb
              have hN5 := hN.call hb
              clear hb hS hN
              have hS := hS5
              clear hS5
              have hN := hN5
              clear hN5
              refine hK _ _ (.inr hS) ?_
              clear hK K
              have hc1 := hcl.step (i := 6) (by kernel_rfl)
              clear hcl; have hcl := hc1; clear hc1
              refine wpAnyG_pure (i := 7) (v := .tuple #[bk D2, .bool ok, .int .i64 e3]) rfl rfl (by kernel_rfl) (by kernel_rfl) (by kernel_rfl) (fun _ _ _ h => h) (by decide) ⟨by rfl, fun w _ => (by go_simp; try (first | (simp only [IntKind.wrap_u32]; done) | rfl)), fun _ => rfl⟩ (.inr hS) ?_
              have hc1 := hcl.step (i := 7) (by kernel_rfl)
              clear hcl; have hcl := hc1; clear hc1; simp only [List.getElem_toArray, List.getElem_cons_zero, List.getElem_cons_succ, Act.put, List.setIfInBounds_toArray, List.set_cons_zero, List.set_cons_succ]
              refine wpAnyG_pure (i := 8) (v := bk D2) rfl rfl (by kernel_rfl) (by kernel_rfl) (by kernel_rfl) (fun _ _ _ h => h) (by decide) ⟨by rfl, fun w _ => (by go_simp; try (first | (simp only [IntKind.wrap_u32]; done) | rfl)), fun _ => rfl⟩ (.inr hS) ?_
              have hc1 := hcl.step (i := 8) (by kernel_rfl)
              clear hcl; have hcl := hc1; clear hc1; simp only [List.getElem_toArray, List.getElem_cons_zero, List.getElem_cons_succ, Act.put, List.setIfInBounds_toArray, List.set_cons_zero, List.set_cons_succ]
              refine wpAnyG_pure (i := 9) (v := .bool ok) rfl rfl (by kernel_rfl) (by kernel_rfl) (by kernel_rfl) (fun _ _ _ h => h) (by decide) ⟨by rfl, fun w _ => (by go_simp; try (first | (simp only [IntKind.wrap_u32]; done) | rfl)), fun _ => rfl⟩ (.inr hS) ?_
              have hc1 := hcl.step (i := 9) (by kernel_rfl)
              clear hcl; have hcl := hc1; clear hc1; simp only [List.getElem_toArray, List.getElem_cons_zero, List.getElem_cons_succ, Act.put, List.setIfInBounds_toArray, List.set_cons_zero, List.set_cons_succ]
              refine wpAnyG_pure (i := 10) (v := .int .i64 e3) rfl rfl (by kernel_rfl) (by kernel_rfl) (by kernel_rfl) (fun _ _ _ h => h) (by decide) ⟨by rfl, fun w _ => (by go_simp; try (first | (simp only [IntKind.wrap_u32]; done) | rfl)), fun _ => rfl⟩ (.inr hS) ?_
              have hc1 := hcl.step (i := 10) (by kernel_rfl)
              clear hcl; have hcl := hc1; clear hc1; simp only [List.getElem_toArray, List.getElem_cons_zero, List.getElem_cons_succ, Act.put, List.setIfInBounds_toArray, List.set_cons_zero, List.set_cons_succ]
              refine wpAnyG_one (i := 12) (by kernel_rfl) rfl (fun K hK => ?_)
              rw [if_pos (by exact rfl)]
              refine wpIn_store_mem (i := 2) hN (by exact rfl) (by exact rfl) (by exact rfl) (by exact rfl) (by exact bkInfo) (by exact rfl) (by exact rfl) ?_
              intro w7 H
              simp only [List.cons_append, List.nil_append, List.set_cons_zero, List.set_cons_succ, List.setIfInBounds_toArray] at H
              refine hK _ _ (.inl (by kernel_rfl)) ?_
              clear hK K hS hN hcl
              simp only [List.getElem_toArray, List.getElem_cons_zero, List.getElem_cons_succ, Act.put, List.setIfInBounds_toArray, List.set_cons_zero, List.set_cons_succ]
              refine wpAnyG_one (i := 13) (by kernel_rfl) rfl (fun K hK => ?_)
              go_simp
              refine hK _ _ (.inl (by kernel_rfl)) ?_
              clear hK K
              try simp only [List.getElem_toArray, List.getElem_cons_zero, List.getElem_cons_succ, Act.put, List.setIfInBounds_toArray, List.set_cons_zero, List.set_cons_succ]
              refine wpAnyG_one (i := 14) (by kernel_rfl) rfl (fun K hK => ?_)
              go_simp
              refine hK _ _ (.inl (by kernel_rfl)) ?_
              clear hK K
              refine wpAnyG_done (by kernel_rfl) ?_ _

              all_goals
                obtain ⟨J2, J3, J4, J5⟩ := J.out
                by_cases hz : e3 = 0 ∧ ok = true
                · obtain ⟨hz, rfl⟩ := hz
                  have z1 : (e3 == 0) = true := by simpa using hz
                  obtain ⟨n1, A2, r2, bu2, at2⟩ := hg hz rfl
                  have HA := Lib.hid (And.intro A2 (And.intro (r2.trans J3) (And.intro (bu2.trans J4) (at2.trans J5))))
                  clear hg hT hz A2 r2 bu2 at2 J2 J3 J4 J5
                  go_upto_region 19 with (first
                  | ((with_reducible show wpList _ _ _ (⟨_, .load _ _, _, _, _, _⟩ :: _) _ _); refine mem_loado H c0 hbl (by first | exact wanted_none rfl | exact wanted_some rfl rfl rfl rfl) (by exact rfl) (by exact rfl) Try.underlying22 rfl ?_)
                  | ((with_reducible show wpList _ _ _ (⟨_, .load _ _, _, _, _, _⟩ :: _) _ _); refine mem_loado H c1 hbl (by first | exact wanted_none rfl | exact wanted_some rfl rfl rfl rfl) (by exact rfl) (by exact rfl) Try.underlying2 rfl ?_)
                  | ((with_reducible show wpList _ _ _ (⟨_, .load 24 _, _, _, _, _⟩ :: _) _ _); refine mem_load (i := 0) H (by first | exact wanted_none rfl | exact wanted_some rfl rfl rfl rfl) (by exact rfl) (by exact rfl) (by exact rfl) Try.underlying24 rfl (by exact bkInfo) ?_)
                  | ((with_reducible show wpList _ _ _ (⟨_, .load 24 _, _, _, _, _⟩ :: _) _ _); refine mem_load (i := 1) H (by first | exact wanted_none rfl | exact wanted_some rfl rfl rfl rfl) (by exact rfl) (by exact rfl) (by exact rfl) Try.underlying24 rfl (by exact bkInfo) ?_)
                  | ((with_reducible show wpList _ _ _ (⟨_, .load 24 _, _, _, _, _⟩ :: _) _ _); refine mem_load (i := 2) H (by first | exact wanted_none rfl | exact wanted_some rfl rfl rfl rfl) (by exact rfl) (by exact rfl) (by exact rfl) Try.underlying24 rfl (by exact bkInfo) ?_)
                  | ((with_reducible show wpList _ _ _ (⟨_, .store 24 _ _, _, _, _, _⟩ :: _) _ _); refine mem_store (i := 0) H (by first | exact wanted_none rfl | exact wanted_some rfl rfl rfl rfl) (by exact rfl) (by exact rfl) (by exact rfl) (by exact rfl) (by exact bkInfo) (by exact rfl) (by exact rfl) ?_; intro w2 H2; clear H; have H := H2; clear H2; simp only [List.cons_append, List.nil_append, List.set_cons_zero, List.set_cons_succ, List.setIfInBounds_toArray] at H)
                  | ((with_reducible show wpList _ _ _ (⟨_, .store 24 _ _, _, _, _, _⟩ :: _) _ _); refine mem_store (i := 1) H (by first | exact wanted_none rfl | exact wanted_some rfl rfl rfl rfl) (by exact rfl) (by exact rfl) (by exact rfl) (by exact rfl) (by exact bkInfo) (by exact rfl) (by exact rfl) ?_; intro w2 H2; clear H; have H := H2; clear H2; simp only [List.cons_append, List.nil_append, List.set_cons_zero, List.set_cons_succ, List.setIfInBounds_toArray] at H)
                  | ((with_reducible show wpList _ _ _ (⟨_, .store 24 _ _, _, _, _, _⟩ :: _) _ _); refine mem_store (i := 2) H (by first | exact wanted_none rfl | exact wanted_some rfl rfl rfl rfl) (by exact rfl) (by exact rfl) (by exact rfl) (by exact rfl) (by exact bkInfo) (by exact rfl) (by exact rfl) ?_; intro w2 H2; clear H; have H := H2; clear H2; simp only [List.cons_append, List.nil_append, List.set_cons_zero, List.set_cons_succ, List.setIfInBounds_toArray] at H))
                  have eg : (if gr < x1 then x1 else gr) = max gr x1 := by split <;> omega
                  simp only [eg]
                  clear eg
                  obtain ⟨A2, r2, bu2, at2⟩ := HA.out
                  obtain ⟨gz, hgz⟩ : ∃ x, max gr x1 = x := ⟨_, rfl⟩
                  obtain ⟨tz, htz⟩ : ∃ x, tk + x1 = x := ⟨_, rfl⟩
                  rw [hgz, htz] at A2
                  simp only [hgz, htz]
                  have htz2 : tz ≤ 65535 * (k + 1) := by omega
                  clear hgz htz
                  have ga := A2.great
                  have ka := A2.took
                  have oa2 := A2.ok.at_
                  have hmost := BK.acc_most A2
                  rw [r2, bu2] at hmost
                  have hp0 : 0 ≤ rate * (D2.at_ / 1000) := Int.mul_nonneg hr0.1 (by omega)
                  have hp1 : rate * (D2.at_ / 1000) ≤ 1073741824 * 61000000 := Int.mul_le_mul (by omega) (by omega) (by omega) (by omega)
                  obtain ⟨P, hP⟩ : ∃ x, rate * (D2.at_ / 1000) = x := ⟨_, rfl⟩
                  rw [hP] at hmost hp0 hp1
                  have q1 : decide (burst + (P + 999999) / 1000000 + rate / 1000000 + 1 + gz < tz) = false := decide_eq_false (by omega)
                  have HA2 := Lib.hid A2
                  have hat2 : D2.at_ ≤ 1000000000 * (k + 1) := by omega
                  have HB2 := Lib.hid (And.intro r2 bu2)
                  clear A2 r2 bu2 at2 hmost J HT1
                  go_wp2_with (first
                  | go_skip
                  | ((with_reducible show wpList _ _ _ (⟨_, .load _ _, _, _, _, _⟩ :: _) _ _); refine mem_loadf (i := 0) H (by first | exact wanted_none rfl | exact wanted_some rfl rfl rfl rfl) (by exact rfl) (by exact rfl) (by exact rfl) (by first | exact Try.underlying22 | exact Try.underlying2) rfl (by exact rfl) ?_)
                  | ((with_reducible show wpList _ _ _ (⟨_, .load _ _, _, _, _, _⟩ :: _) _ _); refine mem_loadf (i := 1) H (by first | exact wanted_none rfl | exact wanted_some rfl rfl rfl rfl) (by exact rfl) (by exact rfl) (by exact rfl) (by first | exact Try.underlying22 | exact Try.underlying2) rfl (by exact rfl) ?_)
                  | ((with_reducible show wpList _ _ _ (⟨_, .load _ _, _, _, _, _⟩ :: _) _ _); refine mem_loadf (i := 2) H (by first | exact wanted_none rfl | exact wanted_some rfl rfl rfl rfl) (by exact rfl) (by exact rfl) (by exact rfl) (by first | exact Try.underlying22 | exact Try.underlying2) rfl (by exact rfl) ?_))
                  go_roundw
                  case rel => exact ⟨k + 1, tz, gz, D2, by omega, by omega, by go_num, rfl, rfl, by omega, by omega, ⟨HA2.out, HB2.out.1, HB2.out.2⟩, H.drop 1⟩
                  case measure => simp [intOf]; omega
                · have hcase : (e3 == 0) = false ∨ ((e3 == 0) = true ∧ ok = false) := by
                    by_cases he : e3 = 0
                    · exact .inr ⟨by simpa using he, by rcases ok with _ | _; rfl; exact absurd ⟨he, rfl⟩ hz⟩
                    · exact .inl (by simpa using he)
                  clear hz hg hT
                  have HA := Lib.hid (And.intro J2 (And.intro J3 (And.intro J4 J5)))
                  clear J2 J3 J4 J5
                  rcases hcase with z1 | ⟨z1, rfl⟩
                  all_goals
                    go_upto_region 19 with (first
                    | ((with_reducible show wpList _ _ _ (⟨_, .load _ _, _, _, _, _⟩ :: _) _ _); refine mem_loado H c0 hbl (by first | exact wanted_none rfl | exact wanted_some rfl rfl rfl rfl) (by exact rfl) (by exact rfl) Try.underlying22 rfl ?_)
                    | ((with_reducible show wpList _ _ _ (⟨_, .load _ _, _, _, _, _⟩ :: _) _ _); refine mem_loado H c1 hbl (by first | exact wanted_none rfl | exact wanted_some rfl rfl rfl rfl) (by exact rfl) (by exact rfl) Try.underlying2 rfl ?_)
                    | ((with_reducible show wpList _ _ _ (⟨_, .load 24 _, _, _, _, _⟩ :: _) _ _); refine mem_load (i := 0) H (by first | exact wanted_none rfl | exact wanted_some rfl rfl rfl rfl) (by exact rfl) (by exact rfl) (by exact rfl) Try.underlying24 rfl (by exact bkInfo) ?_)
                    | ((with_reducible show wpList _ _ _ (⟨_, .load 24 _, _, _, _, _⟩ :: _) _ _); refine mem_load (i := 1) H (by first | exact wanted_none rfl | exact wanted_some rfl rfl rfl rfl) (by exact rfl) (by exact rfl) (by exact rfl) Try.underlying24 rfl (by exact bkInfo) ?_)
                    | ((with_reducible show wpList _ _ _ (⟨_, .load 24 _, _, _, _, _⟩ :: _) _ _); refine mem_load (i := 2) H (by first | exact wanted_none rfl | exact wanted_some rfl rfl rfl rfl) (by exact rfl) (by exact rfl) (by exact rfl) Try.underlying24 rfl (by exact bkInfo) ?_)
                    | ((with_reducible show wpList _ _ _ (⟨_, .store 24 _ _, _, _, _, _⟩ :: _) _ _); refine mem_store (i := 0) H (by first | exact wanted_none rfl | exact wanted_some rfl rfl rfl rfl) (by exact rfl) (by exact rfl) (by exact rfl) (by exact rfl) (by exact bkInfo) (by exact rfl) (by exact rfl) ?_; intro w2 H2; clear H; have H := H2; clear H2; simp only [List.cons_append, List.nil_append, List.set_cons_zero, List.set_cons_succ, List.setIfInBounds_toArray] at H)
                    | ((with_reducible show wpList _ _ _ (⟨_, .store 24 _ _, _, _, _, _⟩ :: _) _ _); refine mem_store (i := 1) H (by first | exact wanted_none rfl | exact wanted_some rfl rfl rfl rfl) (by exact rfl) (by exact rfl) (by exact rfl) (by exact rfl) (by exact bkInfo) (by exact rfl) (by exact rfl) ?_; intro w2 H2; clear H; have H := H2; clear H2; simp only [List.cons_append, List.nil_append, List.set_cons_zero, List.set_cons_succ, List.setIfInBounds_toArray] at H)
                    | ((with_reducible show wpList _ _ _ (⟨_, .store 24 _ _, _, _, _, _⟩ :: _) _ _); refine mem_store (i := 2) H (by first | exact wanted_none rfl | exact wanted_some rfl rfl rfl rfl) (by exact rfl) (by exact rfl) (by exact rfl) (by exact rfl) (by exact bkInfo) (by exact rfl) (by exact rfl) ?_; intro w2 H2; clear H; have H := H2; clear H2; simp only [List.cons_append, List.nil_append, List.set_cons_zero, List.set_cons_succ, List.setIfInBounds_toArray] at H))
                    obtain ⟨A2, r2, bu2, at2⟩ := HA.out
                    have htz2 : tk ≤ 65535 * (k + 1) := by omega
                    have ga := A2.great
                    have ka := A2.took
                    have oa2 := A2.ok.at_
                    have hmost := BK.acc_most A2
                    rw [r2, bu2] at hmost
                    have hp0 : 0 ≤ rate * (D1.at_ / 1000) := Int.mul_nonneg hr0.1 (by omega)
                    have hp1 : rate * (D1.at_ / 1000) ≤ 1073741824 * 61000000 := Int.mul_le_mul (by omega) (by omega) (by omega) (by omega)
                    obtain ⟨P, hP⟩ : ∃ x, rate * (D1.at_ / 1000) = x := ⟨_, rfl⟩
                    rw [hP] at hmost hp0 hp1
                    have q1 : decide (burst + (P + 999999) / 1000000 + rate / 1000000 + 1 + gr < tk) = false := decide_eq_false (by omega)
                    have HA2 := Lib.hid A2
                    have hat2 : D1.at_ ≤ 1000000000 * (k + 1) := by omega
                    have HB2 := Lib.hid (And.intro r2 bu2)
                    clear A2 r2 bu2 at2 hmost J HT1
                    go_wp2_with (first
                    | go_skip
                    | ((with_reducible show wpList _ _ _ (⟨_, .load _ _, _, _, _, _⟩ :: _) _ _); refine mem_loadf (i := 0) H (by first | exact wanted_none rfl | exact wanted_some rfl rfl rfl rfl) (by exact rfl) (by exact rfl) (by exact rfl) (by first | exact Try.underlying22 | exact Try.underlying2) rfl (by exact rfl) ?_)
                    | ((with_reducible show wpList _ _ _ (⟨_, .load _ _, _, _, _, _⟩ :: _) _ _); refine mem_loadf (i := 1) H (by first | exact wanted_none rfl | exact wanted_some rfl rfl rfl rfl) (by exact rfl) (by exact rfl) (by exact rfl) (by first | exact Try.underlying22 | exact Try.underlying2) rfl (by exact rfl) ?_)
                    | ((with_reducible show wpList _ _ _ (⟨_, .load _ _, _, _, _, _⟩ :: _) _ _); refine mem_loadf (i := 2) H (by first | exact wanted_none rfl | exact wanted_some rfl rfl rfl rfl) (by exact rfl) (by exact rfl) (by exact rfl) (by first | exact Try.underlying22 | exact Try.underlying2) rfl (by exact rfl) ?_))
                    go_roundw
                    case rel => exact ⟨k + 1, tk, gr, D1, by omega, by omega, by go_num, rfl, rfl, by omega, by omega, ⟨HA2.out, HB2.out.1, HB2.out.2⟩, H.drop 1⟩
                    case measure => simp [intOf]; omega
          · clear hin HAb
            go_wp2
            all_goals
              go_ret
              exact ⟨rfl, H.below⟩
end Go.Proofs.Ytmincladghbklaa
