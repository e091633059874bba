/-
  WheelDoes, walked over the contracts of the program's functions and of the document's. Conditions: the numbers fit their kinds.
-/
import Derived.Test.YtbnfjppidmiheaaWheelLD
import Derived.Test.YtbnfjppidmiheaaOrdU
namespace Go.Proofs.Ytbnfjppidmiheaa
set_option linter.unusedSimpArgs false
set_option linter.unusedVariables false
open Go.ChangeShapes Go.WideShapes Go.ChangeAt Go.RowKit Go.Maps

theorem actInfo : (Try.prog.info? 32).map (·.size) = some 3 := by kernel_rfl
/-- the document's wheel under the program's changes -/
theorem SlT.pm {W W' : World} {p m n : Nat} {v : Value} {l : List Tm} {s : WS} (h : SlT W n v l) (hn : n ≤ W.heap.size) (hP : WhP W p m s) (hf : Foot (PM p m) W W') : SlT W' n v l := by
  obtain ⟨A, b, o, cap, rfl, h2, h3, h4, h5⟩ := h
  refine ⟨A, b, o, cap, rfl, h2, h3, h4, ⟨fun k t hk => ?_⟩⟩
  rcases h4 with ⟨_, rfl⟩ | ⟨rfl, h4⟩
  · rw [List.eq_nil_of_length_eq_zero (l := l) (by omega)] at hk
    cases hk
  · obtain ⟨c0, c1⟩ := h5.cell k t hk
    have hbm : b ≠ m := by
      rintro rfl
      obtain ⟨D, ⟨es, cl, hm, _⟩, _⟩ := hP.map
      simp [World.cell?, hm] at c0
    have hbp : b ≠ p := by
      rintro rfl
      have q1 := hP.box.cell (o + k * 2)
      have q2 := hP.box.cell (o + k * 2 + 1)
      rw [c0] at q1
      rw [c1] at q2
      rcases hj : o + k * 2 with _ | _ | j
      · rw [hj] at q2
        cases q2
      · rw [hj] at q1
        cases q1
      · rw [hj] at q1
        cases q1
    have e : ∀ i, W'.cell? ⟨b, i, none⟩ = W.cell? ⟨b, i, none⟩ := fun i => World.cell?_of_block (hf.block b (by omega) (fun e => by rcases e with e | e; exact hbp e; exact hbm e))
    rw [e, e]
    exact ⟨c0, c1⟩
theorem WhR.pm {W W' : World} {p m q : Nat} {s s' : WS} (h : WhR W q s) (hP : WhP W p m s') (hf : Foot (PM p m) W W') (h1 : q ≠ p) (h2 : q ≠ m) : WhR W' q s := by
  obtain ⟨v, n, g1, g2, g3, g4⟩ := h.box
  exact ⟨v, n, g1.foot hf (fun e => by rcases e with e | e; exact h1 e; exact h2 e), g2.pm g3 hP hf, Nat.le_trans g3 hf.size, g4⟩
theorem SlT.shape {W : World} {n : Nat} {v : Value} {l : List Tm} (h : SlT W n v l) : ∃ a k c, v = .slice a k c := by
  obtain ⟨A, b, o, cap, rfl, _⟩ := h
  exact ⟨_, _, _, rfl⟩
theorem row_foot1 {w w' : World} {base p : Nat} {v : Value} {n : Nat} {xs : List Value} (h : w.ownsRow base 41 2 v n xs) (hf : Foot (· = p) w w') (hp : p < base) : w'.ownsRow base 41 2 v n xs := by
  refine ⟨h.1, ?_⟩
  rcases h.2 with h1 | ⟨g, cap, cur, rfl, h1, h2, h3⟩
  · exact .inl h1
  · exact .inr ⟨g, cap, cur, rfl, h1, (hf.block g (Array.getElem?_eq_some_iff.1 h2).1 (by omega)).trans h2, h3⟩
set_option maxRecDepth 100000 in
set_option maxHeartbeats 8000000 in
theorem does_w (now : Int) (hnow : 0 ≤ now ∧ now ≤ 18446744073709551615) (A : Option Addr) (len cap : Nat) (xs : Nat → Int × Int × Int) (hl : len ≤ cap) (hc : cap ≤ maxLen) (w : World) (hX : SliceAt w A len 3 actC actF xs) :
    Calls Try.prog 3 #[.int .u64 now, .slice A len cap] w fun e w' => e = .returned (.bool true) ∧ Below w.heap.size w w' := by
  obtain ⟨b, o, hA, hXs⟩ := acts_in hX
  have HA := Lib.hid (And.intro hA hXs)
  clear hA hXs hX
  unfold maxLen at hc
  go_enter Try.func3, Try.ntmps3
  go_upto_region 2 with (go_at_call 10; refine (shown_p _).mono ?_; rintro e w1 ⟨rfl, hB1⟩)
  go_upto_region 3 with (go_at_call 11; refine (new_p now _).mono ?_; rintro e w2 ⟨p, m, rfl, hp, hm, hW, hB2⟩)
  have hB02 : Below w.heap.size w w2 := hB1.trans (hB2.mono hB1.size)
  have hs1 := hB1.size
  have lp := hW.lt
  have lm := hW.ltm
  clear hB2
  go_upto_region 4 with (fail)
  have hQ := Held.new w2 30 #[.slice none 0 0, .int .u64 now]
  have hB23 : Below w2.heap.size w2 (w2.alloc (.cells #[.slice none 0 0, .int .u64 now] 30)) := (Below.refl _ _).alloc (Nat.le_refl _) _
  obtain ⟨w3, hw3⟩ : ∃ x, w2.alloc (.cells #[.slice none 0 0, .int .u64 now] 30) = x := ⟨_, rfl⟩
  obtain ⟨q, hq⟩ : ∃ x, w2.heap.size = x := ⟨_, rfl⟩
  rw [hw3] at hQ hB23 ⊢
  rw [hq] at hQ lp lm ⊢
  have hW3 := hW.call hB23
  have hB03 : Below w.heap.size w w3 := hB02.trans (hB23.mono hB02.size)
  have hqw : w.heap.size ≤ q := by have := hB02.size; omega
  have hR3 : WhR w3 q ⟨[], now⟩ := ⟨_, 0, hQ, ⟨none, 0, 0, 0, rfl, by simp, by simp [maxLen], .inl ⟨rfl, rfl⟩, ⟨fun k t hk => by cases hk⟩⟩, Nat.zero_le _, (fun _ h => by cases h)⟩
  clear hW hw3 hq hB23 hQ hB02
  go_wp2
  go_loopw [8] (fun iv wr => ∃ (k : Nat) (s : WS), k ≤ min len 60 ∧ iv = .int .i64 k ∧ s.Ok ∧ WhP wr p m s ∧ WhR wr q s ∧ Below w.heap.size w wr) (fun iv _ => min len 60 - (intOf iv).toNat)
  case atStart => exact ⟨0, _, Nat.zero_le _, rfl, WS.ok_new hnow, hW3, hR3, hB03⟩
  case round =>
    clear hW3 hR3 hB03
    obtain ⟨k, s, hk, rfl, hok, hW, hR, hB⟩ := hrel
    by_cases hlt : k < min len 60
    · obtain ⟨hA, hXs⟩ := HA.out
      have hX1 := hXs (by omega)
      obtain rfl := hA (by omega)
      obtain ⟨hf0, hf1, hf2⟩ := hX1.fits k (by omega)
      obtain ⟨x0, x1, x2⟩ := (hX1.below hB).cell k (by omega)
      obtain ⟨⟨d0, at_, key⟩, hx⟩ : ∃ x, xs k = x := ⟨_, rfl⟩
      rw [hx] at hf0 hf1 hf2 x0 x1 x2
      simp only at hf0 hf1 hf2 x0 x1 x2
      have hat := bd_u64 hf1
      have hd0 := bd_i64 hf0
      clear hA hXs hX1 hx
      have e1 : decide ((k : Int) < len) = true := decide_eq_true (by omega)
      have e2 : decide ((k : Int) < 60) = true := decide_eq_true (by omega)
      have hslt := hB.size
      have lq := hR.lt
      have lpr := hW.lt
      have lmr := hW.ltm
      have H := Mem.start wr
      go_upto_region 10 with (first
        | ((with_reducible show wpList _ _ _ _ _ (World.alloc _ (.cells _ _))); refine mem_newb (l := []) H ?_; intro bx w4 hbk H2; try rw [← hbk]; clear hbk H; have H := H2; clear H2; simp only [List.cons_append, List.nil_append, List.set_cons_zero, List.set_cons_succ, List.setIfInBounds_toArray] at H)
        | ((with_reducible show wpList _ _ _ (⟨_, .store 32 _ _, _, _, _, _⟩ :: _) _ _); refine mem_store (i := 0) H (by first | exact wanted_none rfl | exact wanted_some rfl rfl rfl rfl) (by exact rfl) (by exact rfl) (by exact rfl) (by exact rfl) (by exact actInfo) (by exact rfl) (by exact rfl) ?_; intro w2 H2; clear H; have H := H2; clear H2; simp only [List.cons_append, List.nil_append, List.set_cons_zero, List.set_cons_succ, List.setIfInBounds_toArray] at H)
        | ((with_reducible show wpList _ _ _ (⟨_, .load 3 _, _, _, _, _⟩ :: _) _ _); refine mem_loadf (i := 0) H (by exact wanted_none rfl) (by exact rfl) (by exact rfl) (by exact rfl) Try.underlying3 rfl (by exact rfl) ?_))
      have hS := H.at 0 rfl
      have hbxn := (H.held _ (List.mem_of_getElem? (i := 0) rfl)).1
      simp only at hbxn
      have hW4 := hW.call H.below
      have hR4 := hR.below H.below
      have hB4 : Below w.heap.size w w2 := hB.trans (H.below.mono hB.size)
      have hz4 := H.below.size
      clear H hW hR hB x0 x1 x2
      obtain ⟨c, hcd⟩ : ∃ c, (IntKind.u64.wrap d0).tmod 3 = c := ⟨_, rfl⟩
      have hc3 : c = 0 ∨ c = 1 ∨ c = 2 := by
        rw [← hcd, IntKind.wrap_u64, Int.tmod_eq_emod_of_nonneg (by omega)]
        omega
      rw [hcd]
      clear hcd
      rcases hc3 with rfl | rfl | rfl
      · have hok1 := WS.set_ok hok (at_ := at_) (key := key) hat.1
        go_upto_region 11 with (fail)
        refine (wpIn_wide (n := 6)).1 (wpIn_region_G (fun wx => Held wx bx 32 #[.int .i64 d0, .int .u64 at_, .int .i64 key]) 11 14 rfl (by kernel_rfl) (fun hcl => ?_))
        have hWd := hW4.call ((Below.refl w2.heap.size w2).drew)
        have hRd := hR4.below ((Below.refl w2.heap.size w2).drew)
        have hBd := hB4.drew
        have hz4d : wr.heap.size ≤ w2.drew.heap.size := hz4
        have hSd : Held w2.drew bx 32 #[.int .i64 d0, .int .u64 at_, .int .i64 key] := hS
        clear hW4 hR4 hB4 hS
        have hW4 := hWd
        have hR4 := hRd
        have hB4 := hBd
        have hS := hSd
        clear hWd hRd hBd hSd
        refine wpAnyG_pure (i := 0) (v := (.pointer (some ⟨p, 0, none⟩))) rfl rfl (by kernel_rfl) (by kernel_rfl) (by kernel_rfl) (fun _ _ _ h => h) (by decide) ⟨by rfl, fun w _ => (by go_simp; try (first | rfl | omega)), fun _ => rfl⟩ (.inr hS) ?_
        have hc1 := hcl.step (i := 0) (by kernel_rfl)
        clear hcl; have hcl := hc1; clear hc1; simp only [List.getElem_toArray, List.getElem_cons_zero, List.getElem_cons_succ, Act.put, List.setIfInBounds_toArray, List.set_cons_zero, List.set_cons_succ]
        refine wpAnyG_pure (i := 1) (v := (.pointer (some ⟨bx, 1, none⟩))) rfl rfl (by kernel_rfl) (by kernel_rfl) (by kernel_rfl) (fun _ _ _ h => h) (by decide) ⟨by rfl, fun w _ => (by go_simp; try (first | rfl | omega)), fun _ => rfl⟩ (.inr hS) ?_
        have hc1 := hcl.step (i := 1) (by kernel_rfl)
        clear hcl; have hcl := hc1; clear hc1; simp only [List.getElem_toArray, List.getElem_cons_zero, List.getElem_cons_succ, Act.put, List.setIfInBounds_toArray, List.set_cons_zero, List.set_cons_succ]
        refine wpAnyG_take (i := 2) 14 (v := (.int .u64 at_)) rfl rfl (by kernel_rfl) (by kernel_rfl) (by kernel_rfl) (fun _ _ _ h => h) (by kernel_rfl) (by decide) hcl (yields_fld (fun w h => h) (by exact rfl) (by exact rfl) (by exact rfl) Try.underlying22 rfl (by exact rfl)) hS (fun hc1 => ?_)
        clear hcl; have hcl := hc1; clear hc1; simp only [List.getElem_toArray, List.getElem_cons_zero, List.getElem_cons_succ, Act.put, List.setIfInBounds_toArray, List.set_cons_zero, List.set_cons_succ]
        refine wpAnyG_pure (i := 3) (v := (.pointer (some ⟨bx, 2, none⟩))) rfl rfl (by kernel_rfl) (by kernel_rfl) (by kernel_rfl) (fun _ _ _ h => h) (by decide) ⟨by rfl, fun w _ => (by go_simp; try (first | rfl | omega)), fun _ => rfl⟩ (.inr hS) ?_
        have hc1 := hcl.step (i := 3) (by kernel_rfl)
        clear hcl; have hcl := hc1; clear hc1; simp only [List.getElem_toArray, List.getElem_cons_zero, List.getElem_cons_succ, Act.put, List.setIfInBounds_toArray, List.set_cons_zero, List.set_cons_succ]
        refine wpAnyG_take (i := 4) 14 (v := (.int .i64 key)) rfl rfl (by kernel_rfl) (by kernel_rfl) (by kernel_rfl) (fun _ _ _ h => h) (by kernel_rfl) (by decide) hcl (yields_fld (fun w h => h) (by exact rfl) (by exact rfl) (by exact rfl) Try.underlying3 rfl (by exact rfl)) hS (fun hc1 => ?_)
        clear hcl; have hcl := hc1; clear hc1; simp only [List.getElem_toArray, List.getElem_cons_zero, List.getElem_cons_succ, Act.put, List.setIfInBounds_toArray, List.set_cons_zero, List.set_cons_succ]
        refine wpAnyG_pure (i := 6) (v := (.pointer (some ⟨q, 0, none⟩))) rfl rfl (by kernel_rfl) (by kernel_rfl) (by kernel_rfl) (fun _ _ _ h => h) (by decide) ⟨by rfl, fun w _ => (by go_simp; try (first | rfl | omega)), fun _ => rfl⟩ (.inr hS) ?_
        have hc1 := hcl.step (i := 6) (by kernel_rfl)
        clear hcl; have hcl := hc1; clear hc1; simp only [List.getElem_toArray, List.getElem_cons_zero, List.getElem_cons_succ, Act.put, List.setIfInBounds_toArray, List.set_cons_zero, List.set_cons_succ]
        refine wpAnyG_pure (i := 7) (v := (.pointer (some ⟨bx, 1, none⟩))) rfl rfl (by kernel_rfl) (by kernel_rfl) (by kernel_rfl) (fun _ _ _ h => h) (by decide) ⟨by rfl, fun w _ => (by go_simp; try (first | rfl | omega)), fun _ => rfl⟩ (.inr hS) ?_
        have hc1 := hcl.step (i := 7) (by kernel_rfl)
        clear hcl; have hcl := hc1; clear hc1; simp only [List.getElem_toArray, List.getElem_cons_zero, List.getElem_cons_succ, Act.put, List.setIfInBounds_toArray, List.set_cons_zero, List.set_cons_succ]
        refine wpAnyG_take (i := 8) 14 (v := (.int .u64 at_)) rfl rfl (by kernel_rfl) (by kernel_rfl) (by kernel_rfl) (fun _ _ _ h => h) (by kernel_rfl) (by decide) hcl (yields_fld (fun w h => h) (by exact rfl) (by exact rfl) (by exact rfl) Try.underlying22 rfl (by exact rfl)) hS (fun hc1 => ?_)
        clear hcl; have hcl := hc1; clear hc1; simp only [List.getElem_toArray, List.getElem_cons_zero, List.getElem_cons_succ, Act.put, List.setIfInBounds_toArray, List.set_cons_zero, List.set_cons_succ]
        refine wpAnyG_pure (i := 9) (v := (.pointer (some ⟨bx, 2, none⟩))) rfl rfl (by kernel_rfl) (by kernel_rfl) (by kernel_rfl) (fun _ _ _ h => h) (by decide) ⟨by rfl, fun w _ => (by go_simp; try (first | rfl | omega)), fun _ => rfl⟩ (.inr hS) ?_
        have hc1 := hcl.step (i := 9) (by kernel_rfl)
        clear hcl; have hcl := hc1; clear hc1; simp only [List.getElem_toArray, List.getElem_cons_zero, List.getElem_cons_succ, Act.put, List.setIfInBounds_toArray, List.set_cons_zero, List.set_cons_succ]
        refine wpAnyG_take (i := 10) 14 (v := (.int .i64 key)) rfl rfl (by kernel_rfl) (by kernel_rfl) (by kernel_rfl) (fun _ _ _ h => h) (by kernel_rfl) (by decide) hcl (yields_fld (fun w h => h) (by exact rfl) (by exact rfl) (by exact rfl) Try.underlying3 rfl (by exact rfl)) hS (fun hc1 => ?_)
        clear hcl; have hcl := hc1; clear hc1; simp only [List.getElem_toArray, List.getElem_cons_zero, List.getElem_cons_succ, Act.put, List.setIfInBounds_toArray, List.set_cons_zero, List.set_cons_succ]
        refine wpAnyG_one (i := 5) (by kernel_rfl) rfl (fun K hK => ?_)
        go_simp
        refine ⟨trivial, (callsIn_wide.2 (set_p _ p m s hW4 hok at_ key hat hf2)).mono ?_⟩
        rintro e w5 ⟨rfl, hW5, hF5⟩
        have hS5 : Held w5 bx 32 #[.int .i64 d0, .int .u64 at_, .int .i64 key] := Held.foot hS hF5 (fun e => by rcases e with e | e <;> omega)
        have hR5 := hR4.pm hW4 hF5 (by omega) (by omega)
        have hB5 : Below w.heap.size w w5 := Foot.after hB4 hF5 (pm_old (by omega) (by omega))
        have hz5 := hF5.size
        refine hK _ _ (.inr hS5) ?_
        clear hK K hS
        have hS := hS5
        clear hS5
        have hc1 := hcl.step (i := 5) (by kernel_rfl)
        clear hcl; have hcl := hc1; clear hc1; try simp only [List.getElem_toArray, List.getElem_cons_zero, List.getElem_cons_succ, Act.put, List.setIfInBounds_toArray, List.set_cons_zero, List.set_cons_succ]
        refine wpAnyG_one (i := 11) (by kernel_rfl) rfl (fun K hK => ?_)
        go_simp
        refine ⟨trivial, (callsIn_wide.2 (set_r _ q s at_ key hat hR5 hok)).mono ?_⟩
        rintro e w6 ⟨rfl, hR6, hF6⟩
        have hW6 := hW5.foot hF6 (by omega) (by omega)
        have hB6 : Below w.heap.size w w6 := Foot.after hB5 hF6 (fun i e => by omega)
        have hz6 := hF6.size
        refine hK _ _ (.inl (by kernel_rfl)) ?_
        clear hK K hS
        try simp only [List.getElem_toArray, List.getElem_cons_zero, List.getElem_cons_succ, Act.put, List.setIfInBounds_toArray, List.set_cons_zero, List.set_cons_succ]
        refine wpAnyG_one (i := 12) (by kernel_rfl) rfl (fun K hK => ?_)
        go_simp
        refine hK _ _ (.inl (by kernel_rfl)) ?_
        clear hK K
        try simp only [List.getElem_toArray, List.getElem_cons_zero, List.getElem_cons_succ, Act.put, List.setIfInBounds_toArray, List.set_cons_zero, List.set_cons_succ]
        refine wpAnyG_one (i := 13) (by kernel_rfl) rfl (fun K hK => ?_)
        go_simp
        refine hK _ _ (.inl (by kernel_rfl)) ?_
        clear hK K
        try simp only [List.getElem_toArray, List.getElem_cons_zero, List.getElem_cons_succ, Act.put, List.setIfInBounds_toArray, List.set_cons_zero, List.set_cons_succ]
        refine wpAnyG_done (by kernel_rfl) ?_ _
        clear hcl hW5 hR5 hF5 hF6 hB5 hW4 hR4 hB4
        obtain ⟨s1, hs1⟩ : ∃ x, s.set at_ key = x := ⟨_, rfl⟩
        rw [hs1] at hW6 hR6 hok1
        clear hs1 hok
        obtain ⟨hb, hb1, hb2⟩ : ∃ y, (nxV s1.l).2 = y ∧ y = decide (0 < s1.l.length) := ⟨_, rfl, by cases s1.l <;> rfl⟩
        have HB2 := Lib.hid hb2
        clear hb2
        obtain ⟨t, ht⟩ : ∃ t, (nxV s1.l).1 = t := ⟨_, rfl⟩
        go_upto_region 20 with (first
            | (go_at_call 19; refine (next_p _ p m s1 hW6 hok1).mono ?_; rintro e w7 ⟨rfl, hB7⟩; have H := Mem.start w7)
            | ((with_reducible show wpList _ _ _ _ _ (World.alloc _ (.cells _ _))); refine mem_newb (l := []) H ?_; intro bt w8 hbk H2; try rw [← hbk]; clear hbk H; have H := H2; clear H2; simp only [List.cons_append, List.nil_append, List.set_cons_zero, List.set_cons_succ, List.setIfInBounds_toArray] at H)
            | ((with_reducible show wpList _ _ _ (⟨_, .store 41 _ _, _, _, _, _⟩ :: _) _ _); refine mem_store (i := 0) H (by exact wanted_none rfl) (by exact rfl) (by exact rfl) (by exact rfl) (by exact rfl) (by exact tmInfo) (by exact rfl) (by exact rfl) ?_; intro w8 H2; clear H; have H := H2; clear H2; simp only [List.cons_append, List.nil_append, List.set_cons_zero, List.set_cons_succ, List.setIfInBounds_toArray] at H))
        try rw [ht] at H
        try rw [hb1]
        have hz7 := hB7.size
        have hz8 := H.below.size
        have hW8 := (hW6.call hB7).call H.below
        have hR8 := (hR6.below hB7).below H.below
        have hB8 : Below w.heap.size w w8 := (hB6.trans (hB7.mono hB6.size)).trans (H.below.mono (by have := hB6.size; omega))
        have t0 := (H.at 0 rfl).cell 0
        have t1 := (H.at 0 rfl).cell 1
        have lbt := (H.at 0 rfl).lt
        simp only [List.getElem?_toArray, List.getElem?_cons_zero, List.getElem?_cons_succ] at t0 t1
        obtain ⟨vL, nL, gq, hsl, hnl, -⟩ := hR8.box
        obtain ⟨AL, bL, oL, capL, hvL, hL2, hL3, hL4, hL5⟩ := hsl
        subst hvL
        have hsl : SlT w8 nL (.slice AL s1.l.length capL) s1.l := ⟨AL, bL, oL, capL, rfl, hL2, hL3, hL4, hL5⟩
        have q0 := gq.cell 0
        have q1 := gq.cell 1
        have lq8 := gq.lt
        simp only [List.getElem?_toArray, List.getElem?_cons_zero, List.getElem?_cons_succ] at q0 q1
        obtain ⟨N, hN⟩ : ∃ x, s1.l.length = x := ⟨_, rfl⟩
        have HN := Lib.hid hN
        have hb2 := HB2.out
        rw [hN] at q0 hL2 hb2 hsl
        unfold maxLen at hL3
        have HZ := Lib.hid (And.intro hW8 (And.intro hR8 hB8))
        clear hW6 hR6 hB6 hB7 H gq hR8 hB8
        cases hb
        · have hN0 : N = 0 := by have : ¬ 0 < N := of_decide_eq_false hb2.symm; omega
          subst hN0
          have hnil := List.eq_nil_of_length_eq_zero HN.out
          rw [hnil] at ht
          obtain rfl : t = (0, 0) := ht.symm
          have hEq := fun w => tm_eq (0, 0) (0, 0) w
          rw [decide_eq_true rfl] at hEq
          clear hnil ht hL4 hL5 hb1 hb2 hN
          refine region_mem (Mem.start w8) 53 rfl (by kernel_rfl) (fun wr0 hS => ?_)
          refine wpAnyR_take (i := 0) (v := (.bool true)) rfl rfl (by kernel_rfl) (by kernel_rfl) (by kernel_rfl) (fun _ _ _ h => h) (Nat.le_refl _) ⟨by rfl, fun w _ => (by go_simp; try (first | rfl | omega)), fun _ => rfl⟩ hS ?_
          simp only [List.getElem_toArray, List.getElem_cons_zero, List.getElem_cons_succ, Act.put, List.setIfInBounds_toArray, List.set_cons_zero, List.set_cons_succ]
          refine wpAnyR_take (i := 1) (v := (.bool false)) rfl rfl (by kernel_rfl) (by kernel_rfl) (by kernel_rfl) (fun _ _ _ h => h) (Nat.le_refl _) ⟨by rfl, fun w _ => (by go_simp; try (first | rfl | omega)), fun _ => rfl⟩ hS ?_
          simp only [List.getElem_toArray, List.getElem_cons_zero, List.getElem_cons_succ, Act.put, List.setIfInBounds_toArray, List.set_cons_zero, List.set_cons_succ]
          refine wpAnyR_take (i := 2) (v := (.bool false)) rfl rfl (by kernel_rfl) (by kernel_rfl) (by kernel_rfl) (fun _ _ _ h => h) (Nat.le_refl _) ⟨by rfl, fun w _ => (by go_simp; try (first | rfl | omega)), fun _ => rfl⟩ hS ?_
          simp only [List.getElem_toArray, List.getElem_cons_zero, List.getElem_cons_succ, Act.put, List.setIfInBounds_toArray, List.set_cons_zero, List.set_cons_succ]
          refine wpAnyR_take (i := 3) (v := (.pointer (some ⟨p, 0, none⟩))) rfl rfl (by kernel_rfl) (by kernel_rfl) (by kernel_rfl) (fun _ _ _ h => h) (Nat.le_refl _) ⟨by rfl, fun w _ => (by go_simp; try (first | rfl | omega)), fun _ => rfl⟩ hS ?_
          simp only [List.getElem_toArray, List.getElem_cons_zero, List.getElem_cons_succ, Act.put, List.setIfInBounds_toArray, List.set_cons_zero, List.set_cons_succ]
          refine wpAnyR_take (i := 5) (v := (.pointer (some ⟨q, 0, none⟩))) rfl rfl (by kernel_rfl) (by kernel_rfl) (by kernel_rfl) (fun _ _ _ h => h) (Nat.le_refl _) ⟨by rfl, fun w _ => (by go_simp; try (first | rfl | omega)), fun _ => rfl⟩ hS ?_
          simp only [List.getElem_toArray, List.getElem_cons_zero, List.getElem_cons_succ, Act.put, List.setIfInBounds_toArray, List.set_cons_zero, List.set_cons_succ]
          refine wpAnyR_take (i := 6) (v := (.pointer (some ⟨q, 0, none⟩))) rfl rfl (by kernel_rfl) (by kernel_rfl) (by kernel_rfl) (fun _ _ _ h => h) (Nat.le_refl _) ⟨by rfl, fun w _ => (by go_simp; try (first | rfl | omega)), fun _ => rfl⟩ hS ?_
          simp only [List.getElem_toArray, List.getElem_cons_zero, List.getElem_cons_succ, Act.put, List.setIfInBounds_toArray, List.set_cons_zero, List.set_cons_succ]
          refine wpAnyR_take (i := 7) (v := (.pointer (some ⟨q, 1, none⟩))) rfl rfl (by kernel_rfl) (by kernel_rfl) (by kernel_rfl) (fun _ _ _ h => h) (Nat.le_refl _) ⟨by rfl, fun w _ => (by go_simp; try (first | rfl | omega)), fun _ => rfl⟩ hS ?_
          simp only [List.getElem_toArray, List.getElem_cons_zero, List.getElem_cons_succ, Act.put, List.setIfInBounds_toArray, List.set_cons_zero, List.set_cons_succ]
          refine wpAnyR_take (i := 8) (v := (.int .u64 s1.clk)) rfl rfl (by kernel_rfl) (by kernel_rfl) (by kernel_rfl) (fun _ _ _ h => h) (Nat.le_refl _) (yields_old q1 lq8 (by exact rfl) (by exact rfl) (by exact rfl) Try.underlying22 rfl) hS ?_
          simp only [List.getElem_toArray, List.getElem_cons_zero, List.getElem_cons_succ, Act.put, List.setIfInBounds_toArray, List.set_cons_zero, List.set_cons_succ]
          refine wpAnyG_one (i := 4) (by kernel_rfl) rfl (fun K hK => ?_)
          go_simp
          refine ⟨trivial, (callsIn_wide.2 (now_p _ p m s1 (hW8.call hS.below))).mono ?_⟩
          rintro e w9 ⟨rfl, rfl⟩
          refine hK _ _ (.inr hS) ?_
          clear hK K
          try simp only [List.getElem_toArray, List.getElem_cons_zero, List.getElem_cons_succ, Act.put, List.setIfInBounds_toArray, List.set_cons_zero, List.set_cons_succ]
          refine wpAnyR_take (i := 9) (v := (.bool false)) rfl rfl (by kernel_rfl) (by kernel_rfl) (by kernel_rfl) (fun _ _ _ h => h) (Nat.le_refl _) ⟨by rfl, fun w _ => (by go_simp; try (first | rfl | omega)), fun _ => rfl⟩ hS ?_
          simp only [List.getElem_toArray, List.getElem_cons_zero, List.getElem_cons_succ, Act.put, List.setIfInBounds_toArray, List.set_cons_zero, List.set_cons_succ]
          refine wpAnyR_take (i := 10) (v := (.bool false)) rfl rfl (by kernel_rfl) (by kernel_rfl) (by kernel_rfl) (fun _ _ _ h => h) (Nat.le_refl _) ⟨by rfl, fun w _ => (by go_simp; try (first | rfl | omega)), fun _ => rfl⟩ hS ?_
          simp only [List.getElem_toArray, List.getElem_cons_zero, List.getElem_cons_succ, Act.put, List.setIfInBounds_toArray, List.set_cons_zero, List.set_cons_succ]
          refine wpAnyR_take (i := 11) (v := (.bool false)) rfl rfl (by kernel_rfl) (by kernel_rfl) (by kernel_rfl) (fun _ _ _ h => h) (Nat.le_refl _) ⟨by rfl, fun w _ => (by go_simp; try (first | rfl | omega)), fun _ => rfl⟩ hS ?_
          simp only [List.getElem_toArray, List.getElem_cons_zero, List.getElem_cons_succ, Act.put, List.setIfInBounds_toArray, List.set_cons_zero, List.set_cons_succ]
          refine wpAnyR_take (i := 12) (v := (.pointer (some ⟨p, 0, none⟩))) rfl rfl (by kernel_rfl) (by kernel_rfl) (by kernel_rfl) (fun _ _ _ h => h) (Nat.le_refl _) ⟨by rfl, fun w _ => (by go_simp; try (first | rfl | omega)), fun _ => rfl⟩ hS ?_
          simp only [List.getElem_toArray, List.getElem_cons_zero, List.getElem_cons_succ, Act.put, List.setIfInBounds_toArray, List.set_cons_zero, List.set_cons_succ]
          refine wpAnyR_take (i := 14) (v := (.pointer (some ⟨q, 0, none⟩))) rfl rfl (by kernel_rfl) (by kernel_rfl) (by kernel_rfl) (fun _ _ _ h => h) (Nat.le_refl _) ⟨by rfl, fun w _ => (by go_simp; try (first | rfl | omega)), fun _ => rfl⟩ hS ?_
          simp only [List.getElem_toArray, List.getElem_cons_zero, List.getElem_cons_succ, Act.put, List.setIfInBounds_toArray, List.set_cons_zero, List.set_cons_succ]
          refine wpAnyR_take (i := 15) (v := (.pointer (some ⟨q, 0, none⟩))) rfl rfl (by kernel_rfl) (by kernel_rfl) (by kernel_rfl) (fun _ _ _ h => h) (Nat.le_refl _) ⟨by rfl, fun w _ => (by go_simp; try (first | rfl | omega)), fun _ => rfl⟩ hS ?_
          simp only [List.getElem_toArray, List.getElem_cons_zero, List.getElem_cons_succ, Act.put, List.setIfInBounds_toArray, List.set_cons_zero, List.set_cons_succ]
          refine wpAnyR_take (i := 16) (v := (.pointer (some ⟨q, 0, none⟩))) rfl rfl (by kernel_rfl) (by kernel_rfl) (by kernel_rfl) (fun _ _ _ h => h) (Nat.le_refl _) ⟨by rfl, fun w _ => (by go_simp; try (first | rfl | omega)), fun _ => rfl⟩ hS ?_
          simp only [List.getElem_toArray, List.getElem_cons_zero, List.getElem_cons_succ, Act.put, List.setIfInBounds_toArray, List.set_cons_zero, List.set_cons_succ]
          refine wpAnyR_take (i := 17) (v := (.slice AL 0 capL)) rfl rfl (by kernel_rfl) (by kernel_rfl) (by kernel_rfl) (fun _ _ _ h => h) (Nat.le_refl _) (yields_old q0 lq8 (by exact rfl) (by exact rfl) (by exact rfl) Try.underlying28 rfl) hS ?_
          simp only [List.getElem_toArray, List.getElem_cons_zero, List.getElem_cons_succ, Act.put, List.setIfInBounds_toArray, List.set_cons_zero, List.set_cons_succ]
          refine wpAnyG_one (i := 13) (by kernel_rfl) rfl (fun K hK => ?_)
          go_simp
          refine ⟨trivial, (callsIn_wide.2 (all_p _ p m s1 (hW8.call hS.below) hok1)).mono ?_⟩
          rintro e w10 ⟨v10, rfl, hR10, hB10⟩
          rw [HN.out] at hR10
          obtain ⟨a10, c10, rfl⟩ := ownsRow_len hR10
          have hS10 := hS.call hB10
          clear hS hB10
          have hS := hS10
          clear hS10
          refine hK _ _ (.inr hS) ?_
          clear hK K
          try simp only [List.getElem_toArray, List.getElem_cons_zero, List.getElem_cons_succ, Act.put, List.setIfInBounds_toArray, List.set_cons_zero, List.set_cons_succ]
          refine wpAnyG_one (i := 18) (by kernel_rfl) rfl (fun K hK => ?_)
          go_simp
          refine ⟨trivial, (callsIn_wide.2 (same_r _ w10.heap.size nL _ _ s1.l s1.l (SlT.of_row (by rw [HN.out]; exact hR10)) (hsl.below hS.below hnl) (Nat.le_refl _) (Nat.le_trans hnl hS.below.size))).mono ?_⟩
          rintro e w11 ⟨rfl, hB11⟩
          rw [decide_eq_true rfl]
          have hS11 := hS.call hB11
          clear hS hB11 hR10
          have hS := hS11
          clear hS11
          refine hK _ _ (.inr hS) ?_
          clear hK K
          try simp only [List.getElem_toArray, List.getElem_cons_zero, List.getElem_cons_succ, Act.put, List.setIfInBounds_toArray, List.set_cons_zero, List.set_cons_succ]
          refine wpAnyR_take (i := 19) (v := (.bool false)) rfl rfl (by kernel_rfl) (by kernel_rfl) (by kernel_rfl) (fun _ _ _ h => h) (Nat.le_refl _) ⟨by rfl, fun w _ => (by go_simp; try (first | rfl | omega)), fun _ => rfl⟩ hS ?_
          simp only [List.getElem_toArray, List.getElem_cons_zero, List.getElem_cons_succ, Act.put, List.setIfInBounds_toArray, List.set_cons_zero, List.set_cons_succ]
          refine wpAnyR_take (i := 20) (v := (.bool false)) rfl rfl (by kernel_rfl) (by kernel_rfl) (by kernel_rfl) (fun _ _ _ h => h) (Nat.le_refl _) ⟨by rfl, fun w _ => (by go_simp; try (first | rfl | omega)), fun _ => rfl⟩ hS ?_
          simp only [List.getElem_toArray, List.getElem_cons_zero, List.getElem_cons_succ, Act.put, List.setIfInBounds_toArray, List.set_cons_zero, List.set_cons_succ]
          refine wpAnyR_take (i := 21) (v := (.bool false)) rfl rfl (by kernel_rfl) (by kernel_rfl) (by kernel_rfl) (fun _ _ _ h => h) (Nat.le_refl _) ⟨by rfl, fun w _ => (by go_simp; try (first | rfl | omega)), fun _ => rfl⟩ hS ?_
          simp only [List.getElem_toArray, List.getElem_cons_zero, List.getElem_cons_succ, Act.put, List.setIfInBounds_toArray, List.set_cons_zero, List.set_cons_succ]
          refine wpAnyR_take (i := 22) (v := (.bool false)) rfl rfl (by kernel_rfl) (by kernel_rfl) (by kernel_rfl) (fun _ _ _ h => h) (Nat.le_refl _) ⟨by rfl, fun w _ => (by go_simp; try (first | rfl | omega)), fun _ => rfl⟩ hS ?_
          simp only [List.getElem_toArray, List.getElem_cons_zero, List.getElem_cons_succ, Act.put, List.setIfInBounds_toArray, List.set_cons_zero, List.set_cons_succ]
          refine wpAnyR_take (i := 23) (v := (.pointer (some ⟨q, 0, none⟩))) rfl rfl (by kernel_rfl) (by kernel_rfl) (by kernel_rfl) (fun _ _ _ h => h) (Nat.le_refl _) ⟨by rfl, fun w _ => (by go_simp; try (first | rfl | omega)), fun _ => rfl⟩ hS ?_
          simp only [List.getElem_toArray, List.getElem_cons_zero, List.getElem_cons_succ, Act.put, List.setIfInBounds_toArray, List.set_cons_zero, List.set_cons_succ]
          refine wpAnyR_take (i := 24) (v := (.pointer (some ⟨q, 0, none⟩))) rfl rfl (by kernel_rfl) (by kernel_rfl) (by kernel_rfl) (fun _ _ _ h => h) (Nat.le_refl _) ⟨by rfl, fun w _ => (by go_simp; try (first | rfl | omega)), fun _ => rfl⟩ hS ?_
          simp only [List.getElem_toArray, List.getElem_cons_zero, List.getElem_cons_succ, Act.put, List.setIfInBounds_toArray, List.set_cons_zero, List.set_cons_succ]
          refine wpAnyR_take (i := 25) (v := (.pointer (some ⟨q, 0, none⟩))) rfl rfl (by kernel_rfl) (by kernel_rfl) (by kernel_rfl) (fun _ _ _ h => h) (Nat.le_refl _) ⟨by rfl, fun w _ => (by go_simp; try (first | rfl | omega)), fun _ => rfl⟩ hS ?_
          simp only [List.getElem_toArray, List.getElem_cons_zero, List.getElem_cons_succ, Act.put, List.setIfInBounds_toArray, List.set_cons_zero, List.set_cons_succ]
          refine wpAnyR_take (i := 26) (v := (.slice AL 0 capL)) rfl rfl (by kernel_rfl) (by kernel_rfl) (by kernel_rfl) (fun _ _ _ h => h) (Nat.le_refl _) (yields_old q0 lq8 (by exact rfl) (by exact rfl) (by exact rfl) Try.underlying28 rfl) hS ?_
          simp only [List.getElem_toArray, List.getElem_cons_zero, List.getElem_cons_succ, Act.put, List.setIfInBounds_toArray, List.set_cons_zero, List.set_cons_succ]
          refine wpAnyR_take (i := 27) (v := (.int .i64 0)) rfl rfl (by kernel_rfl) (by kernel_rfl) (by kernel_rfl) (fun _ _ _ h => h) (Nat.le_refl _) ⟨by rfl, fun w _ => (by go_simp; try (first | rfl | omega)), fun _ => rfl⟩ hS ?_
          simp only [List.getElem_toArray, List.getElem_cons_zero, List.getElem_cons_succ, Act.put, List.setIfInBounds_toArray, List.set_cons_zero, List.set_cons_succ]
          refine wpAnyR_take (i := 28) (v := (.bool false)) rfl rfl (by kernel_rfl) (by kernel_rfl) (by kernel_rfl) (fun _ _ _ h => h) (Nat.le_refl _) ⟨by rfl, fun w _ => (by go_simp; try (first | rfl | omega)), fun _ => rfl⟩ hS ?_
          simp only [List.getElem_toArray, List.getElem_cons_zero, List.getElem_cons_succ, Act.put, List.setIfInBounds_toArray, List.set_cons_zero, List.set_cons_succ]
          refine wpAnyR_take (i := 29) (v := (.bool false)) rfl rfl (by kernel_rfl) (by kernel_rfl) (by kernel_rfl) (fun _ _ _ h => h) (Nat.le_refl _) ⟨by rfl, fun w _ => (by go_simp; try (first | rfl | omega)), fun _ => rfl⟩ hS ?_
          simp only [List.getElem_toArray, List.getElem_cons_zero, List.getElem_cons_succ, Act.put, List.setIfInBounds_toArray, List.set_cons_zero, List.set_cons_succ]
          refine wpAnyR_take (i := 30) (v := (.bool false)) rfl rfl (by kernel_rfl) (by kernel_rfl) (by kernel_rfl) (fun _ _ _ h => h) (Nat.le_refl _) ⟨by rfl, fun w _ => (by go_simp; try (first | rfl | omega)), fun _ => rfl⟩ hS ?_
          simp only [List.getElem_toArray, List.getElem_cons_zero, List.getElem_cons_succ, Act.put, List.setIfInBounds_toArray, List.set_cons_zero, List.set_cons_succ]
          refine wpAnyR_take (i := 31) (v := (.bool false)) rfl rfl (by kernel_rfl) (by kernel_rfl) (by kernel_rfl) (fun _ _ _ h => h) (Nat.le_refl _) ⟨by rfl, fun w _ => (by go_simp; try (first | rfl | omega)), fun _ => rfl⟩ hS ?_
          simp only [List.getElem_toArray, List.getElem_cons_zero, List.getElem_cons_succ, Act.put, List.setIfInBounds_toArray, List.set_cons_zero, List.set_cons_succ]
          refine wpAnyR_take (i := 32) (v := (.bool false)) rfl rfl (by kernel_rfl) (by kernel_rfl) (by kernel_rfl) (fun _ _ _ h => h) (Nat.le_refl _) ⟨by rfl, fun w _ => (by go_simp; try (first | rfl | omega)), fun _ => rfl⟩ hS ?_
          simp only [List.getElem_toArray, List.getElem_cons_zero, List.getElem_cons_succ, Act.put, List.setIfInBounds_toArray, List.set_cons_zero, List.set_cons_succ]
          refine wpAnyR_take (i := 33) (v := (.bool false)) rfl rfl (by kernel_rfl) (by kernel_rfl) (by kernel_rfl) (fun _ _ _ h => h) (Nat.le_refl _) ⟨by rfl, fun w _ => (by go_simp; try (first | rfl | omega)), fun _ => rfl⟩ hS ?_
          simp only [List.getElem_toArray, List.getElem_cons_zero, List.getElem_cons_succ, Act.put, List.setIfInBounds_toArray, List.set_cons_zero, List.set_cons_succ]
          refine wpAnyU_take (i := 34) rfl (fun _ => trivial) rfl (by kernel_rfl) (by kernel_rfl) (by kernel_rfl) (fun _ _ _ h => h) (Nat.le_refl _) (by rfl) hS ?_
          simp only [List.getElem_toArray, List.getElem_cons_zero, List.getElem_cons_succ, Act.put, List.setIfInBounds_toArray, List.set_cons_zero, List.set_cons_succ]
          refine wpAnyU_take (i := 35) rfl (fun _ => trivial) rfl (by kernel_rfl) (by kernel_rfl) (by kernel_rfl) (fun _ _ _ h => h) (Nat.le_refl _) (by rfl) hS ?_
          simp only [List.getElem_toArray, List.getElem_cons_zero, List.getElem_cons_succ, Act.put, List.setIfInBounds_toArray, List.set_cons_zero, List.set_cons_succ]
          refine wpAnyU_take (i := 36) rfl (fun _ => trivial) rfl (by kernel_rfl) (by kernel_rfl) (by kernel_rfl) (fun _ _ _ h => h) (Nat.le_refl _) (by rfl) hS ?_
          simp only [List.getElem_toArray, List.getElem_cons_zero, List.getElem_cons_succ, Act.put, List.setIfInBounds_toArray, List.set_cons_zero, List.set_cons_succ]
          refine wpAnyU_take (i := 37) rfl (fun _ => trivial) rfl (by kernel_rfl) (by kernel_rfl) (by kernel_rfl) (fun _ _ _ h => h) (Nat.le_refl _) (by rfl) hS ?_
          simp only [List.getElem_toArray, List.getElem_cons_zero, List.getElem_cons_succ, Act.put, List.setIfInBounds_toArray, List.set_cons_zero, List.set_cons_succ]
          refine wpAnyU_take (i := 38) rfl (fun _ => trivial) rfl (by kernel_rfl) (by kernel_rfl) (by kernel_rfl) (fun _ _ _ h => h) (Nat.le_refl _) (by rfl) hS ?_
          simp only [List.getElem_toArray, List.getElem_cons_zero, List.getElem_cons_succ, Act.put, List.setIfInBounds_toArray, List.set_cons_zero, List.set_cons_succ]
          refine wpAnyU_take (i := 39) rfl (fun _ => trivial) rfl (by kernel_rfl) (by kernel_rfl) (by kernel_rfl) (fun _ _ _ h => h) (Nat.le_refl _) (by rfl) hS ?_
          simp only [List.getElem_toArray, List.getElem_cons_zero, List.getElem_cons_succ, Act.put, List.setIfInBounds_toArray, List.set_cons_zero, List.set_cons_succ]
          refine wpAnyU_take (i := 40) rfl (fun _ => trivial) rfl (by kernel_rfl) (by kernel_rfl) (by kernel_rfl) (fun _ _ _ h => h) (Nat.le_refl _) (by rfl) hS ?_
          simp only [List.getElem_toArray, List.getElem_cons_zero, List.getElem_cons_succ, Act.put, List.setIfInBounds_toArray, List.set_cons_zero, List.set_cons_succ]
          refine wpAnyU_take (i := 41) rfl (fun _ => trivial) rfl (by kernel_rfl) (by kernel_rfl) (by kernel_rfl) (fun _ _ _ h => h) (Nat.le_refl _) (by rfl) hS ?_
          simp only [List.getElem_toArray, List.getElem_cons_zero, List.getElem_cons_succ, Act.put, List.setIfInBounds_toArray, List.set_cons_zero, List.set_cons_succ]
          refine wpAnyR_take (i := 42) (v := (.bool false)) rfl rfl (by kernel_rfl) (by kernel_rfl) (by kernel_rfl) (fun _ _ _ h => h) (Nat.le_refl _) ⟨by rfl, fun w _ => (by go_simp; try (first | rfl | omega)), fun _ => rfl⟩ hS ?_
          simp only [List.getElem_toArray, List.getElem_cons_zero, List.getElem_cons_succ, Act.put, List.setIfInBounds_toArray, List.set_cons_zero, List.set_cons_succ]
          refine wpAnyR_take (i := 43) (v := (.bool false)) rfl rfl (by kernel_rfl) (by kernel_rfl) (by kernel_rfl) (fun _ _ _ h => h) (Nat.le_refl _) ⟨by rfl, fun w _ => (by go_simp; try (first | rfl | omega)), fun _ => rfl⟩ hS ?_
          simp only [List.getElem_toArray, List.getElem_cons_zero, List.getElem_cons_succ, Act.put, List.setIfInBounds_toArray, List.set_cons_zero, List.set_cons_succ]
          refine wpAnyR_take (i := 44) (v := (.bool false)) rfl rfl (by kernel_rfl) (by kernel_rfl) (by kernel_rfl) (fun _ _ _ h => h) (Nat.le_refl _) ⟨by rfl, fun w _ => (by go_simp; try (first | rfl | omega)), fun _ => rfl⟩ hS ?_
          simp only [List.getElem_toArray, List.getElem_cons_zero, List.getElem_cons_succ, Act.put, List.setIfInBounds_toArray, List.set_cons_zero, List.set_cons_succ]
          refine wpAnyR_take (i := 45) (v := (.bool false)) rfl rfl (by kernel_rfl) (by kernel_rfl) (by kernel_rfl) (fun _ _ _ h => h) (Nat.le_refl _) ⟨by rfl, fun w _ => (by go_simp; try (first | rfl | omega)), fun _ => rfl⟩ hS ?_
          simp only [List.getElem_toArray, List.getElem_cons_zero, List.getElem_cons_succ, Act.put, List.setIfInBounds_toArray, List.set_cons_zero, List.set_cons_succ]
          refine wpAnyR_take (i := 46) (v := (.bool true)) rfl rfl (by kernel_rfl) (by kernel_rfl) (by kernel_rfl) (fun _ _ _ h => h) (Nat.le_refl _) ⟨by rfl, fun w _ => (by go_simp; try (first | rfl | omega)), fun _ => rfl⟩ hS ?_
          simp only [List.getElem_toArray, List.getElem_cons_zero, List.getElem_cons_succ, Act.put, List.setIfInBounds_toArray, List.set_cons_zero, List.set_cons_succ]
          refine wpAnyR_take (i := 47) (v := (.bool true)) rfl rfl (by kernel_rfl) (by kernel_rfl) (by kernel_rfl) (fun _ _ _ h => h) (Nat.le_refl _) ⟨by rfl, fun w _ => (by go_simp; try (first | rfl | omega)), fun _ => rfl⟩ hS ?_
          simp only [List.getElem_toArray, List.getElem_cons_zero, List.getElem_cons_succ, Act.put, List.setIfInBounds_toArray, List.set_cons_zero, List.set_cons_succ]
          refine wpAnyR_take (i := 48) (v := (tm (0, 0))) rfl rfl (by kernel_rfl) (by kernel_rfl) (by kernel_rfl) (fun _ _ _ h => h) (Nat.le_refl _) ⟨by rfl, fun w hR => (by have y0 := (Mem.old hR (p := ⟨bt, 0, none⟩) lbt).trans t0; have y1 := (Mem.old hR (p := ⟨bt, 1, none⟩) lbt).trans t1; go_simp; try rfl), fun _ => rfl⟩ hS ?_
          simp only [List.getElem_toArray, List.getElem_cons_zero, List.getElem_cons_succ, Act.put, List.setIfInBounds_toArray, List.set_cons_zero, List.set_cons_succ]
          refine wpAnyR_take (i := 49) (v := (tm (0, 0))) rfl rfl (by kernel_rfl) (by kernel_rfl) (by kernel_rfl) (fun _ _ _ h => h) (Nat.le_refl _) ⟨by rfl, fun w _ => (by go_simp; try (first | rfl | omega)), fun _ => rfl⟩ hS ?_
          simp only [List.getElem_toArray, List.getElem_cons_zero, List.getElem_cons_succ, Act.put, List.setIfInBounds_toArray, List.set_cons_zero, List.set_cons_succ]
          refine wpAnyR_take (i := 50) (v := (.bool false)) rfl rfl (by kernel_rfl) (by kernel_rfl) (by kernel_rfl) (fun _ _ _ h => h) (Nat.le_refl _) ⟨by rfl, fun w _ => (by go_simp; try (first | rfl | omega)), fun _ => rfl⟩ hS ?_
          simp only [List.getElem_toArray, List.getElem_cons_zero, List.getElem_cons_succ, Act.put, List.setIfInBounds_toArray, List.set_cons_zero, List.set_cons_succ]
          refine wpAnyR_take (i := 51) (v := (.bool false)) rfl rfl (by kernel_rfl) (by kernel_rfl) (by kernel_rfl) (fun _ _ _ h => h) (Nat.le_refl _) ⟨by rfl, fun w _ => (by go_simp; try (first | rfl | omega)), fun _ => rfl⟩ hS ?_
          simp only [List.getElem_toArray, List.getElem_cons_zero, List.getElem_cons_succ, Act.put, List.setIfInBounds_toArray, List.set_cons_zero, List.set_cons_succ]
          refine wpAnyR_take (i := 52) (v := (.bool false)) rfl rfl (by kernel_rfl) (by kernel_rfl) (by kernel_rfl) (fun _ _ _ h => h) (Nat.le_refl _) ⟨by rfl, fun w _ => (by go_simp; try (first | rfl | omega)), fun _ => rfl⟩ hS ?_
          simp only [List.getElem_toArray, List.getElem_cons_zero, List.getElem_cons_succ, Act.put, List.setIfInBounds_toArray, List.set_cons_zero, List.set_cons_succ]
          refine wpAnyG_done (by kernel_rfl) ?_ _
          obtain ⟨hW8', hR8, hB8⟩ := HZ.out
          go_wp2
          go_roundw
          case rel => exact ⟨k + 1, s1, by omega, by go_num, hok1, hW8'.call hS.below, hR8.below hS.below, hB8.trans (hS.below.mono hB8.size)⟩
          case measure => simp [intOf]; omega
        · have hN0 : 0 < N := of_decide_eq_true hb2.symm
          have e28 : decide ((0 : Int) < N) = true := decide_eq_true (by omega)
          have e28b : decide (0 < N) = true := decide_eq_true hN0
          obtain ⟨rfl, lbn⟩ : AL = some ⟨bL, oL, none⟩ ∧ bL < nL := by rcases hL4 with ⟨_, h0⟩ | h0; omega; exact h0
          have hk0 : s1.l[0]? = some t := by rw [← ht, nx_some (by rw [HN.out]; exact hN0)]; exact kth_get (by rw [HN.out]; exact hN0)
          obtain ⟨z0, z1⟩ := hL5.cell 0 t hk0
          simp only [Nat.zero_mul, Nat.add_zero] at z0 z1
          have lbL : bL < w8.heap.size := by omega
          have hEq := fun w => tm_eq t t w
          rw [decide_eq_true rfl] at hEq
          clear hk0 ht hL4 hL5 hb1 hb2 hN
          refine region_mem (Mem.start w8) 53 rfl (by kernel_rfl) (fun wr0 hS => ?_)
          refine wpAnyR_take (i := 0) (v := (.bool true)) rfl rfl (by kernel_rfl) (by kernel_rfl) (by kernel_rfl) (fun _ _ _ h => h) (Nat.le_refl _) ⟨by rfl, fun w _ => (by go_simp; try (first | rfl | omega)), fun _ => rfl⟩ hS ?_
          simp only [List.getElem_toArray, List.getElem_cons_zero, List.getElem_cons_succ, Act.put, List.setIfInBounds_toArray, List.set_cons_zero, List.set_cons_succ]
          refine wpAnyR_take (i := 1) (v := (.bool false)) rfl rfl (by kernel_rfl) (by kernel_rfl) (by kernel_rfl) (fun _ _ _ h => h) (Nat.le_refl _) ⟨by rfl, fun w _ => (by go_simp; try (first | rfl | omega)), fun _ => rfl⟩ hS ?_
          simp only [List.getElem_toArray, List.getElem_cons_zero, List.getElem_cons_succ, Act.put, List.setIfInBounds_toArray, List.set_cons_zero, List.set_cons_succ]
          refine wpAnyR_take (i := 2) (v := (.bool false)) rfl rfl (by kernel_rfl) (by kernel_rfl) (by kernel_rfl) (fun _ _ _ h => h) (Nat.le_refl _) ⟨by rfl, fun w _ => (by go_simp; try (first | rfl | omega)), fun _ => rfl⟩ hS ?_
          simp only [List.getElem_toArray, List.getElem_cons_zero, List.getElem_cons_succ, Act.put, List.setIfInBounds_toArray, List.set_cons_zero, List.set_cons_succ]
          refine wpAnyR_take (i := 3) (v := (.pointer (some ⟨p, 0, none⟩))) rfl rfl (by kernel_rfl) (by kernel_rfl) (by kernel_rfl) (fun _ _ _ h => h) (Nat.le_refl _) ⟨by rfl, fun w _ => (by go_simp; try (first | rfl | omega)), fun _ => rfl⟩ hS ?_
          simp only [List.getElem_toArray, List.getElem_cons_zero, List.getElem_cons_succ, Act.put, List.setIfInBounds_toArray, List.set_cons_zero, List.set_cons_succ]
          refine wpAnyR_take (i := 5) (v := (.pointer (some ⟨q, 0, none⟩))) rfl rfl (by kernel_rfl) (by kernel_rfl) (by kernel_rfl) (fun _ _ _ h => h) (Nat.le_refl _) ⟨by rfl, fun w _ => (by go_simp; try (first | rfl | omega)), fun _ => rfl⟩ hS ?_
          simp only [List.getElem_toArray, List.getElem_cons_zero, List.getElem_cons_succ, Act.put, List.setIfInBounds_toArray, List.set_cons_zero, List.set_cons_succ]
          refine wpAnyR_take (i := 6) (v := (.pointer (some ⟨q, 0, none⟩))) rfl rfl (by kernel_rfl) (by kernel_rfl) (by kernel_rfl) (fun _ _ _ h => h) (Nat.le_refl _) ⟨by rfl, fun w _ => (by go_simp; try (first | rfl | omega)), fun _ => rfl⟩ hS ?_
          simp only [List.getElem_toArray, List.getElem_cons_zero, List.getElem_cons_succ, Act.put, List.setIfInBounds_toArray, List.set_cons_zero, List.set_cons_succ]
          refine wpAnyR_take (i := 7) (v := (.pointer (some ⟨q, 1, none⟩))) rfl rfl (by kernel_rfl) (by kernel_rfl) (by kernel_rfl) (fun _ _ _ h => h) (Nat.le_refl _) ⟨by rfl, fun w _ => (by go_simp; try (first | rfl | omega)), fun _ => rfl⟩ hS ?_
          simp only [List.getElem_toArray, List.getElem_cons_zero, List.getElem_cons_succ, Act.put, List.setIfInBounds_toArray, List.set_cons_zero, List.set_cons_succ]
          refine wpAnyR_take (i := 8) (v := (.int .u64 s1.clk)) rfl rfl (by kernel_rfl) (by kernel_rfl) (by kernel_rfl) (fun _ _ _ h => h) (Nat.le_refl _) (yields_old q1 lq8 (by exact rfl) (by exact rfl) (by exact rfl) Try.underlying22 rfl) hS ?_
          simp only [List.getElem_toArray, List.getElem_cons_zero, List.getElem_cons_succ, Act.put, List.setIfInBounds_toArray, List.set_cons_zero, List.set_cons_succ]
          refine wpAnyG_one (i := 4) (by kernel_rfl) rfl (fun K hK => ?_)
          go_simp
          refine ⟨trivial, (callsIn_wide.2 (now_p _ p m s1 (hW8.call hS.below))).mono ?_⟩
          rintro e w9 ⟨rfl, rfl⟩
          refine hK _ _ (.inr hS) ?_
          clear hK K
          try simp only [List.getElem_toArray, List.getElem_cons_zero, List.getElem_cons_succ, Act.put, List.setIfInBounds_toArray, List.set_cons_zero, List.set_cons_succ]
          refine wpAnyR_take (i := 9) (v := (.bool false)) rfl rfl (by kernel_rfl) (by kernel_rfl) (by kernel_rfl) (fun _ _ _ h => h) (Nat.le_refl _) ⟨by rfl, fun w _ => (by go_simp; try (first | rfl | omega)), fun _ => rfl⟩ hS ?_
          simp only [List.getElem_toArray, List.getElem_cons_zero, List.getElem_cons_succ, Act.put, List.setIfInBounds_toArray, List.set_cons_zero, List.set_cons_succ]
          refine wpAnyR_take (i := 10) (v := (.bool false)) rfl rfl (by kernel_rfl) (by kernel_rfl) (by kernel_rfl) (fun _ _ _ h => h) (Nat.le_refl _) ⟨by rfl, fun w _ => (by go_simp; try (first | rfl | omega)), fun _ => rfl⟩ hS ?_
          simp only [List.getElem_toArray, List.getElem_cons_zero, List.getElem_cons_succ, Act.put, List.setIfInBounds_toArray, List.set_cons_zero, List.set_cons_succ]
          refine wpAnyR_take (i := 11) (v := (.bool false)) rfl rfl (by kernel_rfl) (by kernel_rfl) (by kernel_rfl) (fun _ _ _ h => h) (Nat.le_refl _) ⟨by rfl, fun w _ => (by go_simp; try (first | rfl | omega)), fun _ => rfl⟩ hS ?_
          simp only [List.getElem_toArray, List.getElem_cons_zero, List.getElem_cons_succ, Act.put, List.setIfInBounds_toArray, List.set_cons_zero, List.set_cons_succ]
          refine wpAnyR_take (i := 12) (v := (.pointer (some ⟨p, 0, none⟩))) rfl rfl (by kernel_rfl) (by kernel_rfl) (by kernel_rfl) (fun _ _ _ h => h) (Nat.le_refl _) ⟨by rfl, fun w _ => (by go_simp; try (first | rfl | omega)), fun _ => rfl⟩ hS ?_
          simp only [List.getElem_toArray, List.getElem_cons_zero, List.getElem_cons_succ, Act.put, List.setIfInBounds_toArray, List.set_cons_zero, List.set_cons_succ]
          refine wpAnyR_take (i := 14) (v := (.pointer (some ⟨q, 0, none⟩))) rfl rfl (by kernel_rfl) (by kernel_rfl) (by kernel_rfl) (fun _ _ _ h => h) (Nat.le_refl _) ⟨by rfl, fun w _ => (by go_simp; try (first | rfl | omega)), fun _ => rfl⟩ hS ?_
          simp only [List.getElem_toArray, List.getElem_cons_zero, List.getElem_cons_succ, Act.put, List.setIfInBounds_toArray, List.set_cons_zero, List.set_cons_succ]
          refine wpAnyR_take (i := 15) (v := (.pointer (some ⟨q, 0, none⟩))) rfl rfl (by kernel_rfl) (by kernel_rfl) (by kernel_rfl) (fun _ _ _ h => h) (Nat.le_refl _) ⟨by rfl, fun w _ => (by go_simp; try (first | rfl | omega)), fun _ => rfl⟩ hS ?_
          simp only [List.getElem_toArray, List.getElem_cons_zero, List.getElem_cons_succ, Act.put, List.setIfInBounds_toArray, List.set_cons_zero, List.set_cons_succ]
          refine wpAnyR_take (i := 16) (v := (.pointer (some ⟨q, 0, none⟩))) rfl rfl (by kernel_rfl) (by kernel_rfl) (by kernel_rfl) (fun _ _ _ h => h) (Nat.le_refl _) ⟨by rfl, fun w _ => (by go_simp; try (first | rfl | omega)), fun _ => rfl⟩ hS ?_
          simp only [List.getElem_toArray, List.getElem_cons_zero, List.getElem_cons_succ, Act.put, List.setIfInBounds_toArray, List.set_cons_zero, List.set_cons_succ]
          refine wpAnyR_take (i := 17) (v := (.slice (some ⟨bL, oL, none⟩) N capL)) rfl rfl (by kernel_rfl) (by kernel_rfl) (by kernel_rfl) (fun _ _ _ h => h) (Nat.le_refl _) (yields_old q0 lq8 (by exact rfl) (by exact rfl) (by exact rfl) Try.underlying28 rfl) hS ?_
          simp only [List.getElem_toArray, List.getElem_cons_zero, List.getElem_cons_succ, Act.put, List.setIfInBounds_toArray, List.set_cons_zero, List.set_cons_succ]
          refine wpAnyG_one (i := 13) (by kernel_rfl) rfl (fun K hK => ?_)
          go_simp
          refine ⟨trivial, (callsIn_wide.2 (all_p _ p m s1 (hW8.call hS.below) hok1)).mono ?_⟩
          rintro e w10 ⟨v10, rfl, hR10, hB10⟩
          rw [HN.out] at hR10
          obtain ⟨a10, c10, rfl⟩ := ownsRow_len hR10
          have hS10 := hS.call hB10
          clear hS hB10
          have hS := hS10
          clear hS10
          refine hK _ _ (.inr hS) ?_
          clear hK K
          try simp only [List.getElem_toArray, List.getElem_cons_zero, List.getElem_cons_succ, Act.put, List.setIfInBounds_toArray, List.set_cons_zero, List.set_cons_succ]
          refine wpAnyG_one (i := 18) (by kernel_rfl) rfl (fun K hK => ?_)
          go_simp
          refine ⟨trivial, (callsIn_wide.2 (same_r _ w10.heap.size nL _ _ s1.l s1.l (SlT.of_row (by rw [HN.out]; exact hR10)) (hsl.below hS.below hnl) (Nat.le_refl _) (Nat.le_trans hnl hS.below.size))).mono ?_⟩
          rintro e w11 ⟨rfl, hB11⟩
          rw [decide_eq_true rfl]
          have hS11 := hS.call hB11
          clear hS hB11 hR10
          have hS := hS11
          clear hS11
          refine hK _ _ (.inr hS) ?_
          clear hK K
          try simp only [List.getElem_toArray, List.getElem_cons_zero, List.getElem_cons_succ, Act.put, List.setIfInBounds_toArray, List.set_cons_zero, List.set_cons_succ]
          refine wpAnyR_take (i := 19) (v := (.bool false)) rfl rfl (by kernel_rfl) (by kernel_rfl) (by kernel_rfl) (fun _ _ _ h => h) (Nat.le_refl _) ⟨by rfl, fun w _ => (by go_simp; try (first | rfl | omega)), fun _ => rfl⟩ hS ?_
          simp only [List.getElem_toArray, List.getElem_cons_zero, List.getElem_cons_succ, Act.put, List.setIfInBounds_toArray, List.set_cons_zero, List.set_cons_succ]
          refine wpAnyR_take (i := 20) (v := (.bool false)) rfl rfl (by kernel_rfl) (by kernel_rfl) (by kernel_rfl) (fun _ _ _ h => h) (Nat.le_refl _) ⟨by rfl, fun w _ => (by go_simp; try (first | rfl | omega)), fun _ => rfl⟩ hS ?_
          simp only [List.getElem_toArray, List.getElem_cons_zero, List.getElem_cons_succ, Act.put, List.setIfInBounds_toArray, List.set_cons_zero, List.set_cons_succ]
          refine wpAnyR_take (i := 21) (v := (.bool false)) rfl rfl (by kernel_rfl) (by kernel_rfl) (by kernel_rfl) (fun _ _ _ h => h) (Nat.le_refl _) ⟨by rfl, fun w _ => (by go_simp; try (first | rfl | omega)), fun _ => rfl⟩ hS ?_
          simp only [List.getElem_toArray, List.getElem_cons_zero, List.getElem_cons_succ, Act.put, List.setIfInBounds_toArray, List.set_cons_zero, List.set_cons_succ]
          refine wpAnyR_take (i := 22) (v := (.bool true)) rfl rfl (by kernel_rfl) (by kernel_rfl) (by kernel_rfl) (fun _ _ _ h => h) (Nat.le_refl _) ⟨by rfl, fun w _ => (by go_simp; try (first | rfl | omega)), fun _ => rfl⟩ hS ?_
          simp only [List.getElem_toArray, List.getElem_cons_zero, List.getElem_cons_succ, Act.put, List.setIfInBounds_toArray, List.set_cons_zero, List.set_cons_succ]
          refine wpAnyR_take (i := 23) (v := (.pointer (some ⟨q, 0, none⟩))) rfl rfl (by kernel_rfl) (by kernel_rfl) (by kernel_rfl) (fun _ _ _ h => h) (Nat.le_refl _) ⟨by rfl, fun w _ => (by go_simp; try (first | rfl | omega)), fun _ => rfl⟩ hS ?_
          simp only [List.getElem_toArray, List.getElem_cons_zero, List.getElem_cons_succ, Act.put, List.setIfInBounds_toArray, List.set_cons_zero, List.set_cons_succ]
          refine wpAnyR_take (i := 24) (v := (.pointer (some ⟨q, 0, none⟩))) rfl rfl (by kernel_rfl) (by kernel_rfl) (by kernel_rfl) (fun _ _ _ h => h) (Nat.le_refl _) ⟨by rfl, fun w _ => (by go_simp; try (first | rfl | omega)), fun _ => rfl⟩ hS ?_
          simp only [List.getElem_toArray, List.getElem_cons_zero, List.getElem_cons_succ, Act.put, List.setIfInBounds_toArray, List.set_cons_zero, List.set_cons_succ]
          refine wpAnyR_take (i := 25) (v := (.pointer (some ⟨q, 0, none⟩))) rfl rfl (by kernel_rfl) (by kernel_rfl) (by kernel_rfl) (fun _ _ _ h => h) (Nat.le_refl _) ⟨by rfl, fun w _ => (by go_simp; try (first | rfl | omega)), fun _ => rfl⟩ hS ?_
          simp only [List.getElem_toArray, List.getElem_cons_zero, List.getElem_cons_succ, Act.put, List.setIfInBounds_toArray, List.set_cons_zero, List.set_cons_succ]
          refine wpAnyR_take (i := 26) (v := (.slice (some ⟨bL, oL, none⟩) N capL)) rfl rfl (by kernel_rfl) (by kernel_rfl) (by kernel_rfl) (fun _ _ _ h => h) (Nat.le_refl _) (yields_old q0 lq8 (by exact rfl) (by exact rfl) (by exact rfl) Try.underlying28 rfl) hS ?_
          simp only [List.getElem_toArray, List.getElem_cons_zero, List.getElem_cons_succ, Act.put, List.setIfInBounds_toArray, List.set_cons_zero, List.set_cons_succ]
          refine wpAnyR_take (i := 27) (v := (.int .i64 (N : Int))) rfl rfl (by kernel_rfl) (by kernel_rfl) (by kernel_rfl) (fun _ _ _ h => h) (Nat.le_refl _) ⟨by rfl, fun w _ => (by go_simp; try (first | rfl | omega)), fun _ => rfl⟩ hS ?_
          simp only [List.getElem_toArray, List.getElem_cons_zero, List.getElem_cons_succ, Act.put, List.setIfInBounds_toArray, List.set_cons_zero, List.set_cons_succ]
          refine wpAnyR_take (i := 28) (v := (.bool true)) rfl rfl (by kernel_rfl) (by kernel_rfl) (by kernel_rfl) (fun _ _ _ h => h) (Nat.le_refl _) ⟨by rfl, fun w _ => (by go_simp; try (first | rfl | omega)), fun _ => rfl⟩ hS ?_
          simp only [List.getElem_toArray, List.getElem_cons_zero, List.getElem_cons_succ, Act.put, List.setIfInBounds_toArray, List.set_cons_zero, List.set_cons_succ]
          refine wpAnyR_take (i := 29) (v := (.bool false)) rfl rfl (by kernel_rfl) (by kernel_rfl) (by kernel_rfl) (fun _ _ _ h => h) (Nat.le_refl _) ⟨by rfl, fun w _ => (by go_simp; try (first | rfl | omega)), fun _ => rfl⟩ hS ?_
          simp only [List.getElem_toArray, List.getElem_cons_zero, List.getElem_cons_succ, Act.put, List.setIfInBounds_toArray, List.set_cons_zero, List.set_cons_succ]
          refine wpAnyR_take (i := 30) (v := (.bool false)) rfl rfl (by kernel_rfl) (by kernel_rfl) (by kernel_rfl) (fun _ _ _ h => h) (Nat.le_refl _) ⟨by rfl, fun w _ => (by go_simp; try (first | rfl | omega)), fun _ => rfl⟩ hS ?_
          simp only [List.getElem_toArray, List.getElem_cons_zero, List.getElem_cons_succ, Act.put, List.setIfInBounds_toArray, List.set_cons_zero, List.set_cons_succ]
          refine wpAnyR_take (i := 31) (v := (.bool false)) rfl rfl (by kernel_rfl) (by kernel_rfl) (by kernel_rfl) (fun _ _ _ h => h) (Nat.le_refl _) ⟨by rfl, fun w _ => (by go_simp; try (first | rfl | omega)), fun _ => rfl⟩ hS ?_
          simp only [List.getElem_toArray, List.getElem_cons_zero, List.getElem_cons_succ, Act.put, List.setIfInBounds_toArray, List.set_cons_zero, List.set_cons_succ]
          refine wpAnyR_take (i := 32) (v := (.bool true)) rfl rfl (by kernel_rfl) (by kernel_rfl) (by kernel_rfl) (fun _ _ _ h => h) (Nat.le_refl _) ⟨by rfl, fun w _ => (by go_simp; try (first | rfl | omega)), fun _ => rfl⟩ hS ?_
          simp only [List.getElem_toArray, List.getElem_cons_zero, List.getElem_cons_succ, Act.put, List.setIfInBounds_toArray, List.set_cons_zero, List.set_cons_succ]
          refine wpAnyR_take (i := 33) (v := (.bool true)) rfl rfl (by kernel_rfl) (by kernel_rfl) (by kernel_rfl) (fun _ _ _ h => h) (Nat.le_refl _) ⟨by rfl, fun w _ => (by go_simp; try (first | rfl | omega)), fun _ => rfl⟩ hS ?_
          simp only [List.getElem_toArray, List.getElem_cons_zero, List.getElem_cons_succ, Act.put, List.setIfInBounds_toArray, List.set_cons_zero, List.set_cons_succ]
          refine wpAnyR_take (i := 34) (v := (tm t)) rfl rfl (by kernel_rfl) (by kernel_rfl) (by kernel_rfl) (fun _ _ _ h => h) (Nat.le_refl _) ⟨by rfl, fun w hR => (by have y0 := (Mem.old hR (p := ⟨bt, 0, none⟩) lbt).trans t0; have y1 := (Mem.old hR (p := ⟨bt, 1, none⟩) lbt).trans t1; go_simp; try rfl), fun _ => rfl⟩ hS ?_
          simp only [List.getElem_toArray, List.getElem_cons_zero, List.getElem_cons_succ, Act.put, List.setIfInBounds_toArray, List.set_cons_zero, List.set_cons_succ]
          refine wpAnyR_take (i := 35) (v := (.pointer (some ⟨q, 0, none⟩))) rfl rfl (by kernel_rfl) (by kernel_rfl) (by kernel_rfl) (fun _ _ _ h => h) (Nat.le_refl _) ⟨by rfl, fun w _ => (by go_simp; try (first | rfl | omega)), fun _ => rfl⟩ hS ?_
          simp only [List.getElem_toArray, List.getElem_cons_zero, List.getElem_cons_succ, Act.put, List.setIfInBounds_toArray, List.set_cons_zero, List.set_cons_succ]
          refine wpAnyR_take (i := 36) (v := (.pointer (some ⟨q, 0, none⟩))) rfl rfl (by kernel_rfl) (by kernel_rfl) (by kernel_rfl) (fun _ _ _ h => h) (Nat.le_refl _) ⟨by rfl, fun w _ => (by go_simp; try (first | rfl | omega)), fun _ => rfl⟩ hS ?_
          simp only [List.getElem_toArray, List.getElem_cons_zero, List.getElem_cons_succ, Act.put, List.setIfInBounds_toArray, List.set_cons_zero, List.set_cons_succ]
          refine wpAnyR_take (i := 37) (v := (.pointer (some ⟨q, 0, none⟩))) rfl rfl (by kernel_rfl) (by kernel_rfl) (by kernel_rfl) (fun _ _ _ h => h) (Nat.le_refl _) ⟨by rfl, fun w _ => (by go_simp; try (first | rfl | omega)), fun _ => rfl⟩ hS ?_
          simp only [List.getElem_toArray, List.getElem_cons_zero, List.getElem_cons_succ, Act.put, List.setIfInBounds_toArray, List.set_cons_zero, List.set_cons_succ]
          refine wpAnyR_take (i := 38) (v := (.slice (some ⟨bL, oL, none⟩) N capL)) rfl rfl (by kernel_rfl) (by kernel_rfl) (by kernel_rfl) (fun _ _ _ h => h) (Nat.le_refl _) (yields_old q0 lq8 (by exact rfl) (by exact rfl) (by exact rfl) Try.underlying28 rfl) hS ?_
          simp only [List.getElem_toArray, List.getElem_cons_zero, List.getElem_cons_succ, Act.put, List.setIfInBounds_toArray, List.set_cons_zero, List.set_cons_succ]
          refine wpAnyR_take (i := 39) (v := (.pointer (some ⟨bL, oL, none⟩))) rfl rfl (by kernel_rfl) (by kernel_rfl) (by kernel_rfl) (fun _ _ _ h => h) (Nat.le_refl _) ⟨by rfl, fun w _ => (by go_simp; try (first | rfl | omega)), fun _ => rfl⟩ hS ?_
          simp only [List.getElem_toArray, List.getElem_cons_zero, List.getElem_cons_succ, Act.put, List.setIfInBounds_toArray, List.set_cons_zero, List.set_cons_succ]
          refine wpAnyR_take (i := 40) (v := (tm t)) rfl rfl (by kernel_rfl) (by kernel_rfl) (by kernel_rfl) (fun _ _ _ h => h) (Nat.le_refl _) ⟨by rfl, fun w hR => (by have y0 := (Mem.old hR (p := ⟨bL, oL, none⟩) lbL).trans z0; have y1 := (Mem.old hR (p := ⟨bL, oL + 1, none⟩) lbL).trans z1; go_simp; try rfl), fun _ => rfl⟩ hS ?_
          simp only [List.getElem_toArray, List.getElem_cons_zero, List.getElem_cons_succ, Act.put, List.setIfInBounds_toArray, List.set_cons_zero, List.set_cons_succ]
          refine wpAnyR_take (i := 41) (v := (.bool false)) rfl rfl (by kernel_rfl) (by kernel_rfl) (by kernel_rfl) (fun _ _ _ h => h) (Nat.le_refl _) ⟨by rfl, fun w _ => (by go_simp; try (first | rfl | omega)), fun _ => rfl⟩ hS ?_
          simp only [List.getElem_toArray, List.getElem_cons_zero, List.getElem_cons_succ, Act.put, List.setIfInBounds_toArray, List.set_cons_zero, List.set_cons_succ]
          refine wpAnyR_take (i := 42) (v := (.bool false)) rfl rfl (by kernel_rfl) (by kernel_rfl) (by kernel_rfl) (fun _ _ _ h => h) (Nat.le_refl _) ⟨by rfl, fun w _ => (by go_simp; try (first | rfl | omega)), fun _ => rfl⟩ hS ?_
          simp only [List.getElem_toArray, List.getElem_cons_zero, List.getElem_cons_succ, Act.put, List.setIfInBounds_toArray, List.set_cons_zero, List.set_cons_succ]
          refine wpAnyR_take (i := 43) (v := (.bool false)) rfl rfl (by kernel_rfl) (by kernel_rfl) (by kernel_rfl) (fun _ _ _ h => h) (Nat.le_refl _) ⟨by rfl, fun w _ => (by go_simp; try (first | rfl | omega)), fun _ => rfl⟩ hS ?_
          simp only [List.getElem_toArray, List.getElem_cons_zero, List.getElem_cons_succ, Act.put, List.setIfInBounds_toArray, List.set_cons_zero, List.set_cons_succ]
          refine wpAnyR_take (i := 44) (v := (.bool false)) rfl rfl (by kernel_rfl) (by kernel_rfl) (by kernel_rfl) (fun _ _ _ h => h) (Nat.le_refl _) ⟨by rfl, fun w _ => (by go_simp; try (first | rfl | omega)), fun _ => rfl⟩ hS ?_
          simp only [List.getElem_toArray, List.getElem_cons_zero, List.getElem_cons_succ, Act.put, List.setIfInBounds_toArray, List.set_cons_zero, List.set_cons_succ]
          refine wpAnyR_take (i := 45) (v := (.bool true)) rfl rfl (by kernel_rfl) (by kernel_rfl) (by kernel_rfl) (fun _ _ _ h => h) (Nat.le_refl _) ⟨by rfl, fun w _ => (by go_simp; try (first | rfl | omega)), fun _ => rfl⟩ hS ?_
          simp only [List.getElem_toArray, List.getElem_cons_zero, List.getElem_cons_succ, Act.put, List.setIfInBounds_toArray, List.set_cons_zero, List.set_cons_succ]
          refine wpAnyR_take (i := 46) (v := (.bool false)) rfl rfl (by kernel_rfl) (by kernel_rfl) (by kernel_rfl) (fun _ _ _ h => h) (Nat.le_refl _) ⟨by rfl, fun w _ => (by go_simp; try (first | rfl | omega)), fun _ => rfl⟩ hS ?_
          simp only [List.getElem_toArray, List.getElem_cons_zero, List.getElem_cons_succ, Act.put, List.setIfInBounds_toArray, List.set_cons_zero, List.set_cons_succ]
          refine wpAnyR_take (i := 47) (v := (.bool false)) rfl rfl (by kernel_rfl) (by kernel_rfl) (by kernel_rfl) (fun _ _ _ h => h) (Nat.le_refl _) ⟨by rfl, fun w _ => (by go_simp; try (first | rfl | omega)), fun _ => rfl⟩ hS ?_
          simp only [List.getElem_toArray, List.getElem_cons_zero, List.getElem_cons_succ, Act.put, List.setIfInBounds_toArray, List.set_cons_zero, List.set_cons_succ]
          refine wpAnyU_take (i := 48) rfl (fun _ => trivial) rfl (by kernel_rfl) (by kernel_rfl) (by kernel_rfl) (fun _ _ _ h => h) (Nat.le_refl _) (by rfl) hS ?_
          simp only [List.getElem_toArray, List.getElem_cons_zero, List.getElem_cons_succ, Act.put, List.setIfInBounds_toArray, List.set_cons_zero, List.set_cons_succ]
          refine wpAnyU_take (i := 49) rfl (fun _ => trivial) rfl (by kernel_rfl) (by kernel_rfl) (by kernel_rfl) (fun _ _ _ h => h) (Nat.le_refl _) (by rfl) hS ?_
          simp only [List.getElem_toArray, List.getElem_cons_zero, List.getElem_cons_succ, Act.put, List.setIfInBounds_toArray, List.set_cons_zero, List.set_cons_succ]
          refine wpAnyU_take (i := 50) rfl (fun _ => trivial) rfl (by kernel_rfl) (by kernel_rfl) (by kernel_rfl) (fun _ _ _ h => h) (Nat.le_refl _) (by rfl) hS ?_
          simp only [List.getElem_toArray, List.getElem_cons_zero, List.getElem_cons_succ, Act.put, List.setIfInBounds_toArray, List.set_cons_zero, List.set_cons_succ]
          refine wpAnyR_take (i := 51) (v := (.bool false)) rfl rfl (by kernel_rfl) (by kernel_rfl) (by kernel_rfl) (fun _ _ _ h => h) (Nat.le_refl _) ⟨by rfl, fun w _ => (by go_simp; try (first | rfl | omega)), fun _ => rfl⟩ hS ?_
          simp only [List.getElem_toArray, List.getElem_cons_zero, List.getElem_cons_succ, Act.put, List.setIfInBounds_toArray, List.set_cons_zero, List.set_cons_succ]
          refine wpAnyR_take (i := 52) (v := (.bool false)) rfl rfl (by kernel_rfl) (by kernel_rfl) (by kernel_rfl) (fun _ _ _ h => h) (Nat.le_refl _) ⟨by rfl, fun w _ => (by go_simp; try (first | rfl | omega)), fun _ => rfl⟩ hS ?_
          simp only [List.getElem_toArray, List.getElem_cons_zero, List.getElem_cons_succ, Act.put, List.setIfInBounds_toArray, List.set_cons_zero, List.set_cons_succ]
          refine wpAnyG_done (by kernel_rfl) ?_ _
          obtain ⟨hW8', hR8, hB8⟩ := HZ.out
          go_wp2
          go_roundw
          case rel => exact ⟨k + 1, s1, by omega, by go_num, hok1, hW8'.call hS.below, hR8.below hS.below, hB8.trans (hS.below.mono hB8.size)⟩
          case measure => simp [intOf]; omega
      · have hok1 := WS.cancel_ok hok key
        go_upto_region 13 with (fail)
        refine (wpIn_wide (n := 6)).1 (wpIn_region_G (fun wx => Held wx bx 32 #[.int .i64 d0, .int .u64 at_, .int .i64 key]) 7 10 rfl (by kernel_rfl) (fun hcl => ?_))
        have hWd := hW4.call ((Below.refl w2.heap.size w2).drew)
        have hRd := hR4.below ((Below.refl w2.heap.size w2).drew)
        have hBd := hB4.drew
        have hz4d : wr.heap.size ≤ w2.drew.heap.size := hz4
        have hSd : Held w2.drew bx 32 #[.int .i64 d0, .int .u64 at_, .int .i64 key] := hS
        clear hW4 hR4 hB4 hS
        have hW4 := hWd
        have hR4 := hRd
        have hB4 := hBd
        have hS := hSd
        clear hWd hRd hBd hSd
        refine wpAnyG_pure (i := 0) (v := (.pointer (some ⟨p, 0, none⟩))) rfl rfl (by kernel_rfl) (by kernel_rfl) (by kernel_rfl) (fun _ _ _ h => h) (by decide) ⟨by rfl, fun w _ => (by go_simp; try (first | rfl | omega)), fun _ => rfl⟩ (.inr hS) ?_
        have hc1 := hcl.step (i := 0) (by kernel_rfl)
        clear hcl; have hcl := hc1; clear hc1; simp only [List.getElem_toArray, List.getElem_cons_zero, List.getElem_cons_succ, Act.put, List.setIfInBounds_toArray, List.set_cons_zero, List.set_cons_succ]
        refine wpAnyG_pure (i := 1) (v := (.pointer (some ⟨bx, 2, none⟩))) rfl rfl (by kernel_rfl) (by kernel_rfl) (by kernel_rfl) (fun _ _ _ h => h) (by decide) ⟨by rfl, fun w _ => (by go_simp; try (first | rfl | omega)), fun _ => rfl⟩ (.inr hS) ?_
        have hc1 := hcl.step (i := 1) (by kernel_rfl)
        clear hcl; have hcl := hc1; clear hc1; simp only [List.getElem_toArray, List.getElem_cons_zero, List.getElem_cons_succ, Act.put, List.setIfInBounds_toArray, List.set_cons_zero, List.set_cons_succ]
        refine wpAnyG_take (i := 2) 10 (v := (.int .i64 key)) rfl rfl (by kernel_rfl) (by kernel_rfl) (by kernel_rfl) (fun _ _ _ h => h) (by kernel_rfl) (by decide) hcl (yields_fld (fun w h => h) (by exact rfl) (by exact rfl) (by exact rfl) Try.underlying3 rfl (by exact rfl)) hS (fun hc1 => ?_)
        clear hcl; have hcl := hc1; clear hc1; simp only [List.getElem_toArray, List.getElem_cons_zero, List.getElem_cons_succ, Act.put, List.setIfInBounds_toArray, List.set_cons_zero, List.set_cons_succ]
        refine wpAnyG_pure (i := 4) (v := (.pointer (some ⟨q, 0, none⟩))) rfl rfl (by kernel_rfl) (by kernel_rfl) (by kernel_rfl) (fun _ _ _ h => h) (by decide) ⟨by rfl, fun w _ => (by go_simp; try (first | rfl | omega)), fun _ => rfl⟩ (.inr hS) ?_
        have hc1 := hcl.step (i := 4) (by kernel_rfl)
        clear hcl; have hcl := hc1; clear hc1; simp only [List.getElem_toArray, List.getElem_cons_zero, List.getElem_cons_succ, Act.put, List.setIfInBounds_toArray, List.set_cons_zero, List.set_cons_succ]
        refine wpAnyG_pure (i := 5) (v := (.pointer (some ⟨bx, 2, none⟩))) rfl rfl (by kernel_rfl) (by kernel_rfl) (by kernel_rfl) (fun _ _ _ h => h) (by decide) ⟨by rfl, fun w _ => (by go_simp; try (first | rfl | omega)), fun _ => rfl⟩ (.inr hS) ?_
        have hc1 := hcl.step (i := 5) (by kernel_rfl)
        clear hcl; have hcl := hc1; clear hc1; simp only [List.getElem_toArray, List.getElem_cons_zero, List.getElem_cons_succ, Act.put, List.setIfInBounds_toArray, List.set_cons_zero, List.set_cons_succ]
        refine wpAnyG_take (i := 6) 10 (v := (.int .i64 key)) rfl rfl (by kernel_rfl) (by kernel_rfl) (by kernel_rfl) (fun _ _ _ h => h) (by kernel_rfl) (by decide) hcl (yields_fld (fun w h => h) (by exact rfl) (by exact rfl) (by exact rfl) Try.underlying3 rfl (by exact rfl)) hS (fun hc1 => ?_)
        clear hcl; have hcl := hc1; clear hc1; simp only [List.getElem_toArray, List.getElem_cons_zero, List.getElem_cons_succ, Act.put, List.setIfInBounds_toArray, List.set_cons_zero, List.set_cons_succ]
        refine wpAnyG_one (i := 3) (by kernel_rfl) rfl (fun K hK => ?_)
        go_simp
        refine ⟨trivial, (callsIn_wide.2 (cancel_p _ p m s hW4 hok key hf2)).mono ?_⟩
        rintro e w5 ⟨rfl, hW5, hF5⟩
        have hS5 : Held w5 bx 32 #[.int .i64 d0, .int .u64 at_, .int .i64 key] := Held.foot hS hF5 (fun e => by rcases e with e | e <;> omega)
        have hR5 := hR4.pm hW4 hF5 (by omega) (by omega)
        have hB5 : Below w.heap.size w w5 := Foot.after hB4 hF5 (pm_old (by omega) (by omega))
        have hz5 := hF5.size
        refine hK _ _ (.inr hS5) ?_
        clear hK K hS
        have hS := hS5
        clear hS5
        have hc1 := hcl.step (i := 3) (by kernel_rfl)
        clear hcl; have hcl := hc1; clear hc1; try simp only [List.getElem_toArray, List.getElem_cons_zero, List.getElem_cons_succ, Act.put, List.setIfInBounds_toArray, List.set_cons_zero, List.set_cons_succ]
        refine wpAnyG_one (i := 7) (by kernel_rfl) rfl (fun K hK => ?_)
        go_simp
        refine ⟨trivial, (callsIn_wide.2 (cancel_r _ q s key hR5 hok.len)).mono ?_⟩
        rintro e w6 ⟨rfl, hR6, hF6⟩
        have hW6 := hW5.foot hF6 (by omega) (by omega)
        have hB6 : Below w.heap.size w w6 := Foot.after hB5 hF6 (fun i e => by omega)
        have hz6 := hF6.size
        refine hK _ _ (.inl (by kernel_rfl)) ?_
        clear hK K hS
        try simp only [List.getElem_toArray, List.getElem_cons_zero, List.getElem_cons_succ, Act.put, List.setIfInBounds_toArray, List.set_cons_zero, List.set_cons_succ]
        refine wpAnyG_one (i := 8) (by kernel_rfl) rfl (fun K hK => ?_)
        go_simp
        refine hK _ _ (.inl (by kernel_rfl)) ?_
        clear hK K
        try simp only [List.getElem_toArray, List.getElem_cons_zero, List.getElem_cons_succ, Act.put, List.setIfInBounds_toArray, List.set_cons_zero, List.set_cons_succ]
        refine wpAnyG_one (i := 9) (by kernel_rfl) rfl (fun K hK => ?_)
        go_simp
        refine hK _ _ (.inl (by kernel_rfl)) ?_
        clear hK K
        try simp only [List.getElem_toArray, List.getElem_cons_zero, List.getElem_cons_succ, Act.put, List.setIfInBounds_toArray, List.set_cons_zero, List.set_cons_succ]
        refine wpAnyG_done (by kernel_rfl) ?_ _
        clear hcl hW5 hR5 hF5 hF6 hB5 hW4 hR4 hB4
        obtain ⟨s1, hs1⟩ : ∃ x, s.cancel key = x := ⟨_, rfl⟩
        rw [hs1] at hW6 hR6 hok1
        clear hs1 hok
        obtain ⟨hb, hb1, hb2⟩ : ∃ y, (nxV s1.l).2 = y ∧ y = decide (0 < s1.l.length) := ⟨_, rfl, by cases s1.l <;> rfl⟩
        have HB2 := Lib.hid hb2
        clear hb2
        obtain ⟨t, ht⟩ : ∃ t, (nxV s1.l).1 = t := ⟨_, rfl⟩
        go_upto_region 20 with (first
            | (go_at_call 19; refine (next_p _ p m s1 hW6 hok1).mono ?_; rintro e w7 ⟨rfl, hB7⟩; have H := Mem.start w7)
            | ((with_reducible show wpList _ _ _ _ _ (World.alloc _ (.cells _ _))); refine mem_newb (l := []) H ?_; intro bt w8 hbk H2; try rw [← hbk]; clear hbk H; have H := H2; clear H2; simp only [List.cons_append, List.nil_append, List.set_cons_zero, List.set_cons_succ, List.setIfInBounds_toArray] at H)
            | ((with_reducible show wpList _ _ _ (⟨_, .store 41 _ _, _, _, _, _⟩ :: _) _ _); refine mem_store (i := 0) H (by exact wanted_none rfl) (by exact rfl) (by exact rfl) (by exact rfl) (by exact rfl) (by exact tmInfo) (by exact rfl) (by exact rfl) ?_; intro w8 H2; clear H; have H := H2; clear H2; simp only [List.cons_append, List.nil_append, List.set_cons_zero, List.set_cons_succ, List.setIfInBounds_toArray] at H))
        try rw [ht] at H
        try rw [hb1]
        have hz7 := hB7.size
        have hz8 := H.below.size
        have hW8 := (hW6.call hB7).call H.below
        have hR8 := (hR6.below hB7).below H.below
        have hB8 : Below w.heap.size w w8 := (hB6.trans (hB7.mono hB6.size)).trans (H.below.mono (by have := hB6.size; omega))
        have t0 := (H.at 0 rfl).cell 0
        have t1 := (H.at 0 rfl).cell 1
        have lbt := (H.at 0 rfl).lt
        simp only [List.getElem?_toArray, List.getElem?_cons_zero, List.getElem?_cons_succ] at t0 t1
        obtain ⟨vL, nL, gq, hsl, hnl, -⟩ := hR8.box
        obtain ⟨AL, bL, oL, capL, hvL, hL2, hL3, hL4, hL5⟩ := hsl
        subst hvL
        have hsl : SlT w8 nL (.slice AL s1.l.length capL) s1.l := ⟨AL, bL, oL, capL, rfl, hL2, hL3, hL4, hL5⟩
        have q0 := gq.cell 0
        have q1 := gq.cell 1
        have lq8 := gq.lt
        simp only [List.getElem?_toArray, List.getElem?_cons_zero, List.getElem?_cons_succ] at q0 q1
        obtain ⟨N, hN⟩ : ∃ x, s1.l.length = x := ⟨_, rfl⟩
        have HN := Lib.hid hN
        have hb2 := HB2.out
        rw [hN] at q0 hL2 hb2 hsl
        unfold maxLen at hL3
        have HZ := Lib.hid (And.intro hW8 (And.intro hR8 hB8))
        clear hW6 hR6 hB6 hB7 H gq hR8 hB8
        cases hb
        · have hN0 : N = 0 := by have : ¬ 0 < N := of_decide_eq_false hb2.symm; omega
          subst hN0
          have hnil := List.eq_nil_of_length_eq_zero HN.out
          rw [hnil] at ht
          obtain rfl : t = (0, 0) := ht.symm
          have hEq := fun w => tm_eq (0, 0) (0, 0) w
          rw [decide_eq_true rfl] at hEq
          clear hnil ht hL4 hL5 hb1 hb2 hN
          refine region_mem (Mem.start w8) 53 rfl (by kernel_rfl) (fun wr0 hS => ?_)
          refine wpAnyR_take (i := 0) (v := (.bool true)) rfl rfl (by kernel_rfl) (by kernel_rfl) (by kernel_rfl) (fun _ _ _ h => h) (Nat.le_refl _) ⟨by rfl, fun w _ => (by go_simp; try (first | rfl | omega)), fun _ => rfl⟩ hS ?_
          simp only [List.getElem_toArray, List.getElem_cons_zero, List.getElem_cons_succ, Act.put, List.setIfInBounds_toArray, List.set_cons_zero, List.set_cons_succ]
          refine wpAnyR_take (i := 1) (v := (.bool false)) rfl rfl (by kernel_rfl) (by kernel_rfl) (by kernel_rfl) (fun _ _ _ h => h) (Nat.le_refl _) ⟨by rfl, fun w _ => (by go_simp; try (first | rfl | omega)), fun _ => rfl⟩ hS ?_
          simp only [List.getElem_toArray, List.getElem_cons_zero, List.getElem_cons_succ, Act.put, List.setIfInBounds_toArray, List.set_cons_zero, List.set_cons_succ]
          refine wpAnyR_take (i := 2) (v := (.bool false)) rfl rfl (by kernel_rfl) (by kernel_rfl) (by kernel_rfl) (fun _ _ _ h => h) (Nat.le_refl _) ⟨by rfl, fun w _ => (by go_simp; try (first | rfl | omega)), fun _ => rfl⟩ hS ?_
          simp only [List.getElem_toArray, List.getElem_cons_zero, List.getElem_cons_succ, Act.put, List.setIfInBounds_toArray, List.set_cons_zero, List.set_cons_succ]
          refine wpAnyR_take (i := 3) (v := (.pointer (some ⟨p, 0, none⟩))) rfl rfl (by kernel_rfl) (by kernel_rfl) (by kernel_rfl) (fun _ _ _ h => h) (Nat.le_refl _) ⟨by rfl, fun w _ => (by go_simp; try (first | rfl | omega)), fun _ => rfl⟩ hS ?_
          simp only [List.getElem_toArray, List.getElem_cons_zero, List.getElem_cons_succ, Act.put, List.setIfInBounds_toArray, List.set_cons_zero, List.set_cons_succ]
          refine wpAnyR_take (i := 5) (v := (.pointer (some ⟨q, 0, none⟩))) rfl rfl (by kernel_rfl) (by kernel_rfl) (by kernel_rfl) (fun _ _ _ h => h) (Nat.le_refl _) ⟨by rfl, fun w _ => (by go_simp; try (first | rfl | omega)), fun _ => rfl⟩ hS ?_
          simp only [List.getElem_toArray, List.getElem_cons_zero, List.getElem_cons_succ, Act.put, List.setIfInBounds_toArray, List.set_cons_zero, List.set_cons_succ]
          refine wpAnyR_take (i := 6) (v := (.pointer (some ⟨q, 0, none⟩))) rfl rfl (by kernel_rfl) (by kernel_rfl) (by kernel_rfl) (fun _ _ _ h => h) (Nat.le_refl _) ⟨by rfl, fun w _ => (by go_simp; try (first | rfl | omega)), fun _ => rfl⟩ hS ?_
          simp only [List.getElem_toArray, List.getElem_cons_zero, List.getElem_cons_succ, Act.put, List.setIfInBounds_toArray, List.set_cons_zero, List.set_cons_succ]
          refine wpAnyR_take (i := 7) (v := (.pointer (some ⟨q, 1, none⟩))) rfl rfl (by kernel_rfl) (by kernel_rfl) (by kernel_rfl) (fun _ _ _ h => h) (Nat.le_refl _) ⟨by rfl, fun w _ => (by go_simp; try (first | rfl | omega)), fun _ => rfl⟩ hS ?_
          simp only [List.getElem_toArray, List.getElem_cons_zero, List.getElem_cons_succ, Act.put, List.setIfInBounds_toArray, List.set_cons_zero, List.set_cons_succ]
          refine wpAnyR_take (i := 8) (v := (.int .u64 s1.clk)) rfl rfl (by kernel_rfl) (by kernel_rfl) (by kernel_rfl) (fun _ _ _ h => h) (Nat.le_refl _) (yields_old q1 lq8 (by exact rfl) (by exact rfl) (by exact rfl) Try.underlying22 rfl) hS ?_
          simp only [List.getElem_toArray, List.getElem_cons_zero, List.getElem_cons_succ, Act.put, List.setIfInBounds_toArray, List.set_cons_zero, List.set_cons_succ]
          refine wpAnyG_one (i := 4) (by kernel_rfl) rfl (fun K hK => ?_)
          go_simp
          refine ⟨trivial, (callsIn_wide.2 (now_p _ p m s1 (hW8.call hS.below))).mono ?_⟩
          rintro e w9 ⟨rfl, rfl⟩
          refine hK _ _ (.inr hS) ?_
          clear hK K
          try simp only [List.getElem_toArray, List.getElem_cons_zero, List.getElem_cons_succ, Act.put, List.setIfInBounds_toArray, List.set_cons_zero, List.set_cons_succ]
          refine wpAnyR_take (i := 9) (v := (.bool false)) rfl rfl (by kernel_rfl) (by kernel_rfl) (by kernel_rfl) (fun _ _ _ h => h) (Nat.le_refl _) ⟨by rfl, fun w _ => (by go_simp; try (first | rfl | omega)), fun _ => rfl⟩ hS ?_
          simp only [List.getElem_toArray, List.getElem_cons_zero, List.getElem_cons_succ, Act.put, List.setIfInBounds_toArray, List.set_cons_zero, List.set_cons_succ]
          refine wpAnyR_take (i := 10) (v := (.bool false)) rfl rfl (by kernel_rfl) (by kernel_rfl) (by kernel_rfl) (fun _ _ _ h => h) (Nat.le_refl _) ⟨by rfl, fun w _ => (by go_simp; try (first | rfl | omega)), fun _ => rfl⟩ hS ?_
          simp only [List.getElem_toArray, List.getElem_cons_zero, List.getElem_cons_succ, Act.put, List.setIfInBounds_toArray, List.set_cons_zero, List.set_cons_succ]
          refine wpAnyR_take (i := 11) (v := (.bool false)) rfl rfl (by kernel_rfl) (by kernel_rfl) (by kernel_rfl) (fun _ _ _ h => h) (Nat.le_refl _) ⟨by rfl, fun w _ => (by go_simp; try (first | rfl | omega)), fun _ => rfl⟩ hS ?_
          simp only [List.getElem_toArray, List.getElem_cons_zero, List.getElem_cons_succ, Act.put, List.setIfInBounds_toArray, List.set_cons_zero, List.set_cons_succ]
          refine wpAnyR_take (i := 12) (v := (.pointer (some ⟨p, 0, none⟩))) rfl rfl (by kernel_rfl) (by kernel_rfl) (by kernel_rfl) (fun _ _ _ h => h) (Nat.le_refl _) ⟨by rfl, fun w _ => (by go_simp; try (first | rfl | omega)), fun _ => rfl⟩ hS ?_
          simp only [List.getElem_toArray, List.getElem_cons_zero, List.getElem_cons_succ, Act.put, List.setIfInBounds_toArray, List.set_cons_zero, List.set_cons_succ]
          refine wpAnyR_take (i := 14) (v := (.pointer (some ⟨q, 0, none⟩))) rfl rfl (by kernel_rfl) (by kernel_rfl) (by kernel_rfl) (fun _ _ _ h => h) (Nat.le_refl _) ⟨by rfl, fun w _ => (by go_simp; try (first | rfl | omega)), fun _ => rfl⟩ hS ?_
          simp only [List.getElem_toArray, List.getElem_cons_zero, List.getElem_cons_succ, Act.put, List.setIfInBounds_toArray, List.set_cons_zero, List.set_cons_succ]
          refine wpAnyR_take (i := 15) (v := (.pointer (some ⟨q, 0, none⟩))) rfl rfl (by kernel_rfl) (by kernel_rfl) (by kernel_rfl) (fun _ _ _ h => h) (Nat.le_refl _) ⟨by rfl, fun w _ => (by go_simp; try (first | rfl | omega)), fun _ => rfl⟩ hS ?_
          simp only [List.getElem_toArray, List.getElem_cons_zero, List.getElem_cons_succ, Act.put, List.setIfInBounds_toArray, List.set_cons_zero, List.set_cons_succ]
          refine wpAnyR_take (i := 16) (v := (.pointer (some ⟨q, 0, none⟩))) rfl rfl (by kernel_rfl) (by kernel_rfl) (by kernel_rfl) (fun _ _ _ h => h) (Nat.le_refl _) ⟨by rfl, fun w _ => (by go_simp; try (first | rfl | omega)), fun _ => rfl⟩ hS ?_
          simp only [List.getElem_toArray, List.getElem_cons_zero, List.getElem_cons_succ, Act.put, List.setIfInBounds_toArray, List.set_cons_zero, List.set_cons_succ]
          refine wpAnyR_take (i := 17) (v := (.slice AL 0 capL)) rfl rfl (by kernel_rfl) (by kernel_rfl) (by kernel_rfl) (fun _ _ _ h => h) (Nat.le_refl _) (yields_old q0 lq8 (by exact rfl) (by exact rfl) (by exact rfl) Try.underlying28 rfl) hS ?_
          simp only [List.getElem_toArray, List.getElem_cons_zero, List.getElem_cons_succ, Act.put, List.setIfInBounds_toArray, List.set_cons_zero, List.set_cons_succ]
          refine wpAnyG_one (i := 13) (by kernel_rfl) rfl (fun K hK => ?_)
          go_simp
          refine ⟨trivial, (callsIn_wide.2 (all_p _ p m s1 (hW8.call hS.below) hok1)).mono ?_⟩
          rintro e w10 ⟨v10, rfl, hR10, hB10⟩
          rw [HN.out] at hR10
          obtain ⟨a10, c10, rfl⟩ := ownsRow_len hR10
          have hS10 := hS.call hB10
          clear hS hB10
          have hS := hS10
          clear hS10
          refine hK _ _ (.inr hS) ?_
          clear hK K
          try simp only [List.getElem_toArray, List.getElem_cons_zero, List.getElem_cons_succ, Act.put, List.setIfInBounds_toArray, List.set_cons_zero, List.set_cons_succ]
          refine wpAnyG_one (i := 18) (by kernel_rfl) rfl (fun K hK => ?_)
          go_simp
          refine ⟨trivial, (callsIn_wide.2 (same_r _ w10.heap.size nL _ _ s1.l s1.l (SlT.of_row (by rw [HN.out]; exact hR10)) (hsl.below hS.below hnl) (Nat.le_refl _) (Nat.le_trans hnl hS.below.size))).mono ?_⟩
          rintro e w11 ⟨rfl, hB11⟩
          rw [decide_eq_true rfl]
          have hS11 := hS.call hB11
          clear hS hB11 hR10
          have hS := hS11
          clear hS11
          refine hK _ _ (.inr hS) ?_
          clear hK K
          try simp only [List.getElem_toArray, List.getElem_cons_zero, List.getElem_cons_succ, Act.put, List.setIfInBounds_toArray, List.set_cons_zero, List.set_cons_succ]
          refine wpAnyR_take (i := 19) (v := (.bool false)) rfl rfl (by kernel_rfl) (by kernel_rfl) (by kernel_rfl) (fun _ _ _ h => h) (Nat.le_refl _) ⟨by rfl, fun w _ => (by go_simp; try (first | rfl | omega)), fun _ => rfl⟩ hS ?_
          simp only [List.getElem_toArray, List.getElem_cons_zero, List.getElem_cons_succ, Act.put, List.setIfInBounds_toArray, List.set_cons_zero, List.set_cons_succ]
          refine wpAnyR_take (i := 20) (v := (.bool false)) rfl rfl (by kernel_rfl) (by kernel_rfl) (by kernel_rfl) (fun _ _ _ h => h) (Nat.le_refl _) ⟨by rfl, fun w _ => (by go_simp; try (first | rfl | omega)), fun _ => rfl⟩ hS ?_
          simp only [List.getElem_toArray, List.getElem_cons_zero, List.getElem_cons_succ, Act.put, List.setIfInBounds_toArray, List.set_cons_zero, List.set_cons_succ]
          refine wpAnyR_take (i := 21) (v := (.bool false)) rfl rfl (by kernel_rfl) (by kernel_rfl) (by kernel_rfl) (fun _ _ _ h => h) (Nat.le_refl _) ⟨by rfl, fun w _ => (by go_simp; try (first | rfl | omega)), fun _ => rfl⟩ hS ?_
          simp only [List.getElem_toArray, List.getElem_cons_zero, List.getElem_cons_succ, Act.put, List.setIfInBounds_toArray, List.set_cons_zero, List.set_cons_succ]
          refine wpAnyR_take (i := 22) (v := (.bool false)) rfl rfl (by kernel_rfl) (by kernel_rfl) (by kernel_rfl) (fun _ _ _ h => h) (Nat.le_refl _) ⟨by rfl, fun w _ => (by go_simp; try (first | rfl | omega)), fun _ => rfl⟩ hS ?_
          simp only [List.getElem_toArray, List.getElem_cons_zero, List.getElem_cons_succ, Act.put, List.setIfInBounds_toArray, List.set_cons_zero, List.set_cons_succ]
          refine wpAnyR_take (i := 23) (v := (.pointer (some ⟨q, 0, none⟩))) rfl rfl (by kernel_rfl) (by kernel_rfl) (by kernel_rfl) (fun _ _ _ h => h) (Nat.le_refl _) ⟨by rfl, fun w _ => (by go_simp; try (first | rfl | omega)), fun _ => rfl⟩ hS ?_
          simp only [List.getElem_toArray, List.getElem_cons_zero, List.getElem_cons_succ, Act.put, List.setIfInBounds_toArray, List.set_cons_zero, List.set_cons_succ]
          refine wpAnyR_take (i := 24) (v := (.pointer (some ⟨q, 0, none⟩))) rfl rfl (by kernel_rfl) (by kernel_rfl) (by kernel_rfl) (fun _ _ _ h => h) (Nat.le_refl _) ⟨by rfl, fun w _ => (by go_simp; try (first | rfl | omega)), fun _ => rfl⟩ hS ?_
          simp only [List.getElem_toArray, List.getElem_cons_zero, List.getElem_cons_succ, Act.put, List.setIfInBounds_toArray, List.set_cons_zero, List.set_cons_succ]
          refine wpAnyR_take (i := 25) (v := (.pointer (some ⟨q, 0, none⟩))) rfl rfl (by kernel_rfl) (by kernel_rfl) (by kernel_rfl) (fun _ _ _ h => h) (Nat.le_refl _) ⟨by rfl, fun w _ => (by go_simp; try (first | rfl | omega)), fun _ => rfl⟩ hS ?_
          simp only [List.getElem_toArray, List.getElem_cons_zero, List.getElem_cons_succ, Act.put, List.setIfInBounds_toArray, List.set_cons_zero, List.set_cons_succ]
          refine wpAnyR_take (i := 26) (v := (.slice AL 0 capL)) rfl rfl (by kernel_rfl) (by kernel_rfl) (by kernel_rfl) (fun _ _ _ h => h) (Nat.le_refl _) (yields_old q0 lq8 (by exact rfl) (by exact rfl) (by exact rfl) Try.underlying28 rfl) hS ?_
          simp only [List.getElem_toArray, List.getElem_cons_zero, List.getElem_cons_succ, Act.put, List.setIfInBounds_toArray, List.set_cons_zero, List.set_cons_succ]
          refine wpAnyR_take (i := 27) (v := (.int .i64 0)) rfl rfl (by kernel_rfl) (by kernel_rfl) (by kernel_rfl) (fun _ _ _ h => h) (Nat.le_refl _) ⟨by rfl, fun w _ => (by go_simp; try (first | rfl | omega)), fun _ => rfl⟩ hS ?_
          simp only [List.getElem_toArray, List.getElem_cons_zero, List.getElem_cons_succ, Act.put, List.setIfInBounds_toArray, List.set_cons_zero, List.set_cons_succ]
          refine wpAnyR_take (i := 28) (v := (.bool false)) rfl rfl (by kernel_rfl) (by kernel_rfl) (by kernel_rfl) (fun _ _ _ h => h) (Nat.le_refl _) ⟨by rfl, fun w _ => (by go_simp; try (first | rfl | omega)), fun _ => rfl⟩ hS ?_
          simp only [List.getElem_toArray, List.getElem_cons_zero, List.getElem_cons_succ, Act.put, List.setIfInBounds_toArray, List.set_cons_zero, List.set_cons_succ]
          refine wpAnyR_take (i := 29) (v := (.bool false)) rfl rfl (by kernel_rfl) (by kernel_rfl) (by kernel_rfl) (fun _ _ _ h => h) (Nat.le_refl _) ⟨by rfl, fun w _ => (by go_simp; try (first | rfl | omega)), fun _ => rfl⟩ hS ?_
          simp only [List.getElem_toArray, List.getElem_cons_zero, List.getElem_cons_succ, Act.put, List.setIfInBounds_toArray, List.set_cons_zero, List.set_cons_succ]
          refine wpAnyR_take (i := 30) (v := (.bool false)) rfl rfl (by kernel_rfl) (by kernel_rfl) (by kernel_rfl) (fun _ _ _ h => h) (Nat.le_refl _) ⟨by rfl, fun w _ => (by go_simp; try (first | rfl | omega)), fun _ => rfl⟩ hS ?_
          simp only [List.getElem_toArray, List.getElem_cons_zero, List.getElem_cons_succ, Act.put, List.setIfInBounds_toArray, List.set_cons_zero, List.set_cons_succ]
          refine wpAnyR_take (i := 31) (v := (.bool false)) rfl rfl (by kernel_rfl) (by kernel_rfl) (by kernel_rfl) (fun _ _ _ h => h) (Nat.le_refl _) ⟨by rfl, fun w _ => (by go_simp; try (first | rfl | omega)), fun _ => rfl⟩ hS ?_
          simp only [List.getElem_toArray, List.getElem_cons_zero, List.getElem_cons_succ, Act.put, List.setIfInBounds_toArray, List.set_cons_zero, List.set_cons_succ]
          refine wpAnyR_take (i := 32) (v := (.bool false)) rfl rfl (by kernel_rfl) (by kernel_rfl) (by kernel_rfl) (fun _ _ _ h => h) (Nat.le_refl _) ⟨by rfl, fun w _ => (by go_simp; try (first | rfl | omega)), fun _ => rfl⟩ hS ?_
          simp only [List.getElem_toArray, List.getElem_cons_zero, List.getElem_cons_succ, Act.put, List.setIfInBounds_toArray, List.set_cons_zero, List.set_cons_succ]
          refine wpAnyR_take (i := 33) (v := (.bool false)) rfl rfl (by kernel_rfl) (by kernel_rfl) (by kernel_rfl) (fun _ _ _ h => h) (Nat.le_refl _) ⟨by rfl, fun w _ => (by go_simp; try (first | rfl | omega)), fun _ => rfl⟩ hS ?_
          simp only [List.getElem_toArray, List.getElem_cons_zero, List.getElem_cons_succ, Act.put, List.setIfInBounds_toArray, List.set_cons_zero, List.set_cons_succ]
          refine wpAnyU_take (i := 34) rfl (fun _ => trivial) rfl (by kernel_rfl) (by kernel_rfl) (by kernel_rfl) (fun _ _ _ h => h) (Nat.le_refl _) (by rfl) hS ?_
          simp only [List.getElem_toArray, List.getElem_cons_zero, List.getElem_cons_succ, Act.put, List.setIfInBounds_toArray, List.set_cons_zero, List.set_cons_succ]
          refine wpAnyU_take (i := 35) rfl (fun _ => trivial) rfl (by kernel_rfl) (by kernel_rfl) (by kernel_rfl) (fun _ _ _ h => h) (Nat.le_refl _) (by rfl) hS ?_
          simp only [List.getElem_toArray, List.getElem_cons_zero, List.getElem_cons_succ, Act.put, List.setIfInBounds_toArray, List.set_cons_zero, List.set_cons_succ]
          refine wpAnyU_take (i := 36) rfl (fun _ => trivial) rfl (by kernel_rfl) (by kernel_rfl) (by kernel_rfl) (fun _ _ _ h => h) (Nat.le_refl _) (by rfl) hS ?_
          simp only [List.getElem_toArray, List.getElem_cons_zero, List.getElem_cons_succ, Act.put, List.setIfInBounds_toArray, List.set_cons_zero, List.set_cons_succ]
          refine wpAnyU_take (i := 37) rfl (fun _ => trivial) rfl (by kernel_rfl) (by kernel_rfl) (by kernel_rfl) (fun _ _ _ h => h) (Nat.le_refl _) (by rfl) hS ?_
          simp only [List.getElem_toArray, List.getElem_cons_zero, List.getElem_cons_succ, Act.put, List.setIfInBounds_toArray, List.set_cons_zero, List.set_cons_succ]
          refine wpAnyU_take (i := 38) rfl (fun _ => trivial) rfl (by kernel_rfl) (by kernel_rfl) (by kernel_rfl) (fun _ _ _ h => h) (Nat.le_refl _) (by rfl) hS ?_
          simp only [List.getElem_toArray, List.getElem_cons_zero, List.getElem_cons_succ, Act.put, List.setIfInBounds_toArray, List.set_cons_zero, List.set_cons_succ]
          refine wpAnyU_take (i := 39) rfl (fun _ => trivial) rfl (by kernel_rfl) (by kernel_rfl) (by kernel_rfl) (fun _ _ _ h => h) (Nat.le_refl _) (by rfl) hS ?_
          simp only [List.getElem_toArray, List.getElem_cons_zero, List.getElem_cons_succ, Act.put, List.setIfInBounds_toArray, List.set_cons_zero, List.set_cons_succ]
          refine wpAnyU_take (i := 40) rfl (fun _ => trivial) rfl (by kernel_rfl) (by kernel_rfl) (by kernel_rfl) (fun _ _ _ h => h) (Nat.le_refl _) (by rfl) hS ?_
          simp only [List.getElem_toArray, List.getElem_cons_zero, List.getElem_cons_succ, Act.put, List.setIfInBounds_toArray, List.set_cons_zero, List.set_cons_succ]
          refine wpAnyU_take (i := 41) rfl (fun _ => trivial) rfl (by kernel_rfl) (by kernel_rfl) (by kernel_rfl) (fun _ _ _ h => h) (Nat.le_refl _) (by rfl) hS ?_
          simp only [List.getElem_toArray, List.getElem_cons_zero, List.getElem_cons_succ, Act.put, List.setIfInBounds_toArray, List.set_cons_zero, List.set_cons_succ]
          refine wpAnyR_take (i := 42) (v := (.bool false)) rfl rfl (by kernel_rfl) (by kernel_rfl) (by kernel_rfl) (fun _ _ _ h => h) (Nat.le_refl _) ⟨by rfl, fun w _ => (by go_simp; try (first | rfl | omega)), fun _ => rfl⟩ hS ?_
          simp only [List.getElem_toArray, List.getElem_cons_zero, List.getElem_cons_succ, Act.put, List.setIfInBounds_toArray, List.set_cons_zero, List.set_cons_succ]
          refine wpAnyR_take (i := 43) (v := (.bool false)) rfl rfl (by kernel_rfl) (by kernel_rfl) (by kernel_rfl) (fun _ _ _ h => h) (Nat.le_refl _) ⟨by rfl, fun w _ => (by go_simp; try (first | rfl | omega)), fun _ => rfl⟩ hS ?_
          simp only [List.getElem_toArray, List.getElem_cons_zero, List.getElem_cons_succ, Act.put, List.setIfInBounds_toArray, List.set_cons_zero, List.set_cons_succ]
          refine wpAnyR_take (i := 44) (v := (.bool false)) rfl rfl (by kernel_rfl) (by kernel_rfl) (by kernel_rfl) (fun _ _ _ h => h) (Nat.le_refl _) ⟨by rfl, fun w _ => (by go_simp; try (first | rfl | omega)), fun _ => rfl⟩ hS ?_
          simp only [List.getElem_toArray, List.getElem_cons_zero, List.getElem_cons_succ, Act.put, List.setIfInBounds_toArray, List.set_cons_zero, List.set_cons_succ]
          refine wpAnyR_take (i := 45) (v := (.bool false)) rfl rfl (by kernel_rfl) (by kernel_rfl) (by kernel_rfl) (fun _ _ _ h => h) (Nat.le_refl _) ⟨by rfl, fun w _ => (by go_simp; try (first | rfl | omega)), fun _ => rfl⟩ hS ?_
          simp only [List.getElem_toArray, List.getElem_cons_zero, List.getElem_cons_succ, Act.put, List.setIfInBounds_toArray, List.set_cons_zero, List.set_cons_succ]
          refine wpAnyR_take (i := 46) (v := (.bool true)) rfl rfl (by kernel_rfl) (by kernel_rfl) (by kernel_rfl) (fun _ _ _ h => h) (Nat.le_refl _) ⟨by rfl, fun w _ => (by go_simp; try (first | rfl | omega)), fun _ => rfl⟩ hS ?_
          simp only [List.getElem_toArray, List.getElem_cons_zero, List.getElem_cons_succ, Act.put, List.setIfInBounds_toArray, List.set_cons_zero, List.set_cons_succ]
          refine wpAnyR_take (i := 47) (v := (.bool true)) rfl rfl (by kernel_rfl) (by kernel_rfl) (by kernel_rfl) (fun _ _ _ h => h) (Nat.le_refl _) ⟨by rfl, fun w _ => (by go_simp; try (first | rfl | omega)), fun _ => rfl⟩ hS ?_
          simp only [List.getElem_toArray, List.getElem_cons_zero, List.getElem_cons_succ, Act.put, List.setIfInBounds_toArray, List.set_cons_zero, List.set_cons_succ]
          refine wpAnyR_take (i := 48) (v := (tm (0, 0))) rfl rfl (by kernel_rfl) (by kernel_rfl) (by kernel_rfl) (fun _ _ _ h => h) (Nat.le_refl _) ⟨by rfl, fun w hR => (by have y0 := (Mem.old hR (p := ⟨bt, 0, none⟩) lbt).trans t0; have y1 := (Mem.old hR (p := ⟨bt, 1, none⟩) lbt).trans t1; go_simp; try rfl), fun _ => rfl⟩ hS ?_
          simp only [List.getElem_toArray, List.getElem_cons_zero, List.getElem_cons_succ, Act.put, List.setIfInBounds_toArray, List.set_cons_zero, List.set_cons_succ]
          refine wpAnyR_take (i := 49) (v := (tm (0, 0))) rfl rfl (by kernel_rfl) (by kernel_rfl) (by kernel_rfl) (fun _ _ _ h => h) (Nat.le_refl _) ⟨by rfl, fun w _ => (by go_simp; try (first | rfl | omega)), fun _ => rfl⟩ hS ?_
          simp only [List.getElem_toArray, List.getElem_cons_zero, List.getElem_cons_succ, Act.put, List.setIfInBounds_toArray, List.set_cons_zero, List.set_cons_succ]
          refine wpAnyR_take (i := 50) (v := (.bool false)) rfl rfl (by kernel_rfl) (by kernel_rfl) (by kernel_rfl) (fun _ _ _ h => h) (Nat.le_refl _) ⟨by rfl, fun w _ => (by go_simp; try (first | rfl | omega)), fun _ => rfl⟩ hS ?_
          simp only [List.getElem_toArray, List.getElem_cons_zero, List.getElem_cons_succ, Act.put, List.setIfInBounds_toArray, List.set_cons_zero, List.set_cons_succ]
          refine wpAnyR_take (i := 51) (v := (.bool false)) rfl rfl (by kernel_rfl) (by kernel_rfl) (by kernel_rfl) (fun _ _ _ h => h) (Nat.le_refl _) ⟨by rfl, fun w _ => (by go_simp; try (first | rfl | omega)), fun _ => rfl⟩ hS ?_
          simp only [List.getElem_toArray, List.getElem_cons_zero, List.getElem_cons_succ, Act.put, List.setIfInBounds_toArray, List.set_cons_zero, List.set_cons_succ]
          refine wpAnyR_take (i := 52) (v := (.bool false)) rfl rfl (by kernel_rfl) (by kernel_rfl) (by kernel_rfl) (fun _ _ _ h => h) (Nat.le_refl _) ⟨by rfl, fun w _ => (by go_simp; try (first | rfl | omega)), fun _ => rfl⟩ hS ?_
          simp only [List.getElem_toArray, List.getElem_cons_zero, List.getElem_cons_succ, Act.put, List.setIfInBounds_toArray, List.set_cons_zero, List.set_cons_succ]
          refine wpAnyG_done (by kernel_rfl) ?_ _
          obtain ⟨hW8', hR8, hB8⟩ := HZ.out
          go_wp2
          go_roundw
          case rel => exact ⟨k + 1, s1, by omega, by go_num, hok1, hW8'.call hS.below, hR8.below hS.below, hB8.trans (hS.below.mono hB8.size)⟩
          case measure => simp [intOf]; omega
        · have hN0 : 0 < N := of_decide_eq_true hb2.symm
          have e28 : decide ((0 : Int) < N) = true := decide_eq_true (by omega)
          have e28b : decide (0 < N) = true := decide_eq_true hN0
          obtain ⟨rfl, lbn⟩ : AL = some ⟨bL, oL, none⟩ ∧ bL < nL := by rcases hL4 with ⟨_, h0⟩ | h0; omega; exact h0
          have hk0 : s1.l[0]? = some t := by rw [← ht, nx_some (by rw [HN.out]; exact hN0)]; exact kth_get (by rw [HN.out]; exact hN0)
          obtain ⟨z0, z1⟩ := hL5.cell 0 t hk0
          simp only [Nat.zero_mul, Nat.add_zero] at z0 z1
          have lbL : bL < w8.heap.size := by omega
          have hEq := fun w => tm_eq t t w
          rw [decide_eq_true rfl] at hEq
          clear hk0 ht hL4 hL5 hb1 hb2 hN
          refine region_mem (Mem.start w8) 53 rfl (by kernel_rfl) (fun wr0 hS => ?_)
          refine wpAnyR_take (i := 0) (v := (.bool true)) rfl rfl (by kernel_rfl) (by kernel_rfl) (by kernel_rfl) (fun _ _ _ h => h) (Nat.le_refl _) ⟨by rfl, fun w _ => (by go_simp; try (first | rfl | omega)), fun _ => rfl⟩ hS ?_
          simp only [List.getElem_toArray, List.getElem_cons_zero, List.getElem_cons_succ, Act.put, List.setIfInBounds_toArray, List.set_cons_zero, List.set_cons_succ]
          refine wpAnyR_take (i := 1) (v := (.bool false)) rfl rfl (by kernel_rfl) (by kernel_rfl) (by kernel_rfl) (fun _ _ _ h => h) (Nat.le_refl _) ⟨by rfl, fun w _ => (by go_simp; try (first | rfl | omega)), fun _ => rfl⟩ hS ?_
          simp only [List.getElem_toArray, List.getElem_cons_zero, List.getElem_cons_succ, Act.put, List.setIfInBounds_toArray, List.set_cons_zero, List.set_cons_succ]
          refine wpAnyR_take (i := 2) (v := (.bool false)) rfl rfl (by kernel_rfl) (by kernel_rfl) (by kernel_rfl) (fun _ _ _ h => h) (Nat.le_refl _) ⟨by rfl, fun w _ => (by go_simp; try (first | rfl | omega)), fun _ => rfl⟩ hS ?_
          simp only [List.getElem_toArray, List.getElem_cons_zero, List.getElem_cons_succ, Act.put, List.setIfInBounds_toArray, List.set_cons_zero, List.set_cons_succ]
          refine wpAnyR_take (i := 3) (v := (.pointer (some ⟨p, 0, none⟩))) rfl rfl (by kernel_rfl) (by kernel_rfl) (by kernel_rfl) (fun _ _ _ h => h) (Nat.le_refl _) ⟨by rfl, fun w _ => (by go_simp; try (first | rfl | omega)), fun _ => rfl⟩ hS ?_
          simp only [List.getElem_toArray, List.getElem_cons_zero, List.getElem_cons_succ, Act.put, List.setIfInBounds_toArray, List.set_cons_zero, List.set_cons_succ]
          refine wpAnyR_take (i := 5) (v := (.pointer (some ⟨q, 0, none⟩))) rfl rfl (by kernel_rfl) (by kernel_rfl) (by kernel_rfl) (fun _ _ _ h => h) (Nat.le_refl _) ⟨by rfl, fun w _ => (by go_simp; try (first | rfl | omega)), fun _ => rfl⟩ hS ?_
          simp only [List.getElem_toArray, List.getElem_cons_zero, List.getElem_cons_succ, Act.put, List.setIfInBounds_toArray, List.set_cons_zero, List.set_cons_succ]
          refine wpAnyR_take (i := 6) (v := (.pointer (some ⟨q, 0, none⟩))) rfl rfl (by kernel_rfl) (by kernel_rfl) (by kernel_rfl) (fun _ _ _ h => h) (Nat.le_refl _) ⟨by rfl, fun w _ => (by go_simp; try (first | rfl | omega)), fun _ => rfl⟩ hS ?_
          simp only [List.getElem_toArray, List.getElem_cons_zero, List.getElem_cons_succ, Act.put, List.setIfInBounds_toArray, List.set_cons_zero, List.set_cons_succ]
          refine wpAnyR_take (i := 7) (v := (.pointer (some ⟨q, 1, none⟩))) rfl rfl (by kernel_rfl) (by kernel_rfl) (by kernel_rfl) (fun _ _ _ h => h) (Nat.le_refl _) ⟨by rfl, fun w _ => (by go_simp; try (first | rfl | omega)), fun _ => rfl⟩ hS ?_
          simp only [List.getElem_toArray, List.getElem_cons_zero, List.getElem_cons_succ, Act.put, List.setIfInBounds_toArray, List.set_cons_zero, List.set_cons_succ]
          refine wpAnyR_take (i := 8) (v := (.int .u64 s1.clk)) rfl rfl (by kernel_rfl) (by kernel_rfl) (by kernel_rfl) (fun _ _ _ h => h) (Nat.le_refl _) (yields_old q1 lq8 (by exact rfl) (by exact rfl) (by exact rfl) Try.underlying22 rfl) hS ?_
          simp only [List.getElem_toArray, List.getElem_cons_zero, List.getElem_cons_succ, Act.put, List.setIfInBounds_toArray, List.set_cons_zero, List.set_cons_succ]
          refine wpAnyG_one (i := 4) (by kernel_rfl) rfl (fun K hK => ?_)
          go_simp
          refine ⟨trivial, (callsIn_wide.2 (now_p _ p m s1 (hW8.call hS.below))).mono ?_⟩
          rintro e w9 ⟨rfl, rfl⟩
          refine hK _ _ (.inr hS) ?_
          clear hK K
          try simp only [List.getElem_toArray, List.getElem_cons_zero, List.getElem_cons_succ, Act.put, List.setIfInBounds_toArray, List.set_cons_zero, List.set_cons_succ]
          refine wpAnyR_take (i := 9) (v := (.bool false)) rfl rfl (by kernel_rfl) (by kernel_rfl) (by kernel_rfl) (fun _ _ _ h => h) (Nat.le_refl _) ⟨by rfl, fun w _ => (by go_simp; try (first | rfl | omega)), fun _ => rfl⟩ hS ?_
          simp only [List.getElem_toArray, List.getElem_cons_zero, List.getElem_cons_succ, Act.put, List.setIfInBounds_toArray, List.set_cons_zero, List.set_cons_succ]
          refine wpAnyR_take (i := 10) (v := (.bool false)) rfl rfl (by kernel_rfl) (by kernel_rfl) (by kernel_rfl) (fun _ _ _ h => h) (Nat.le_refl _) ⟨by rfl, fun w _ => (by go_simp; try (first | rfl | omega)), fun _ => rfl⟩ hS ?_
          simp only [List.getElem_toArray, List.getElem_cons_zero, List.getElem_cons_succ, Act.put, List.setIfInBounds_toArray, List.set_cons_zero, List.set_cons_succ]
          refine wpAnyR_take (i := 11) (v := (.bool false)) rfl rfl (by kernel_rfl) (by kernel_rfl) (by kernel_rfl) (fun _ _ _ h => h) (Nat.le_refl _) ⟨by rfl, fun w _ => (by go_simp; try (first | rfl | omega)), fun _ => rfl⟩ hS ?_
          simp only [List.getElem_toArray, List.getElem_cons_zero, List.getElem_cons_succ, Act.put, List.setIfInBounds_toArray, List.set_cons_zero, List.set_cons_succ]
          refine wpAnyR_take (i := 12) (v := (.pointer (some ⟨p, 0, none⟩))) rfl rfl (by kernel_rfl) (by kernel_rfl) (by kernel_rfl) (fun _ _ _ h => h) (Nat.le_refl _) ⟨by rfl, fun w _ => (by go_simp; try (first | rfl | omega)), fun _ => rfl⟩ hS ?_
          simp only [List.getElem_toArray, List.getElem_cons_zero, List.getElem_cons_succ, Act.put, List.setIfInBounds_toArray, List.set_cons_zero, List.set_cons_succ]
          refine wpAnyR_take (i := 14) (v := (.pointer (some ⟨q, 0, none⟩))) rfl rfl (by kernel_rfl) (by kernel_rfl) (by kernel_rfl) (fun _ _ _ h => h) (Nat.le_refl _) ⟨by rfl, fun w _ => (by go_simp; try (first | rfl | omega)), fun _ => rfl⟩ hS ?_
          simp only [List.getElem_toArray, List.getElem_cons_zero, List.getElem_cons_succ, Act.put, List.setIfInBounds_toArray, List.set_cons_zero, List.set_cons_succ]
          refine wpAnyR_take (i := 15) (v := (.pointer (some ⟨q, 0, none⟩))) rfl rfl (by kernel_rfl) (by kernel_rfl) (by kernel_rfl) (fun _ _ _ h => h) (Nat.le_refl _) ⟨by rfl, fun w _ => (by go_simp; try (first | rfl | omega)), fun _ => rfl⟩ hS ?_
          simp only [List.getElem_toArray, List.getElem_cons_zero, List.getElem_cons_succ, Act.put, List.setIfInBounds_toArray, List.set_cons_zero, List.set_cons_succ]
          refine wpAnyR_take (i := 16) (v := (.pointer (some ⟨q, 0, none⟩))) rfl rfl (by kernel_rfl) (by kernel_rfl) (by kernel_rfl) (fun _ _ _ h => h) (Nat.le_refl _) ⟨by rfl, fun w _ => (by go_simp; try (first | rfl | omega)), fun _ => rfl⟩ hS ?_
          simp only [List.getElem_toArray, List.getElem_cons_zero, List.getElem_cons_succ, Act.put, List.setIfInBounds_toArray, List.set_cons_zero, List.set_cons_succ]
          refine wpAnyR_take (i := 17) (v := (.slice (some ⟨bL, oL, none⟩) N capL)) rfl rfl (by kernel_rfl) (by kernel_rfl) (by kernel_rfl) (fun _ _ _ h => h) (Nat.le_refl _) (yields_old q0 lq8 (by exact rfl) (by exact rfl) (by exact rfl) Try.underlying28 rfl) hS ?_
          simp only [List.getElem_toArray, List.getElem_cons_zero, List.getElem_cons_succ, Act.put, List.setIfInBounds_toArray, List.set_cons_zero, List.set_cons_succ]
          refine wpAnyG_one (i := 13) (by kernel_rfl) rfl (fun K hK => ?_)
          go_simp
          refine ⟨trivial, (callsIn_wide.2 (all_p _ p m s1 (hW8.call hS.below) hok1)).mono ?_⟩
          rintro e w10 ⟨v10, rfl, hR10, hB10⟩
          rw [HN.out] at hR10
          obtain ⟨a10, c10, rfl⟩ := ownsRow_len hR10
          have hS10 := hS.call hB10
          clear hS hB10
          have hS := hS10
          clear hS10
          refine hK _ _ (.inr hS) ?_
          clear hK K
          try simp only [List.getElem_toArray, List.getElem_cons_zero, List.getElem_cons_succ, Act.put, List.setIfInBounds_toArray, List.set_cons_zero, List.set_cons_succ]
          refine wpAnyG_one (i := 18) (by kernel_rfl) rfl (fun K hK => ?_)
          go_simp
          refine ⟨trivial, (callsIn_wide.2 (same_r _ w10.heap.size nL _ _ s1.l s1.l (SlT.of_row (by rw [HN.out]; exact hR10)) (hsl.below hS.below hnl) (Nat.le_refl _) (Nat.le_trans hnl hS.below.size))).mono ?_⟩
          rintro e w11 ⟨rfl, hB11⟩
          rw [decide_eq_true rfl]
          have hS11 := hS.call hB11
          clear hS hB11 hR10
          have hS := hS11
          clear hS11
          refine hK _ _ (.inr hS) ?_
          clear hK K
          try simp only [List.getElem_toArray, List.getElem_cons_zero, List.getElem_cons_succ, Act.put, List.setIfInBounds_toArray, List.set_cons_zero, List.set_cons_succ]
          refine wpAnyR_take (i := 19) (v := (.bool false)) rfl rfl (by kernel_rfl) (by kernel_rfl) (by kernel_rfl) (fun _ _ _ h => h) (Nat.le_refl _) ⟨by rfl, fun w _ => (by go_simp; try (first | rfl | omega)), fun _ => rfl⟩ hS ?_
          simp only [List.getElem_toArray, List.getElem_cons_zero, List.getElem_cons_succ, Act.put, List.setIfInBounds_toArray, List.set_cons_zero, List.set_cons_succ]
          refine wpAnyR_take (i := 20) (v := (.bool false)) rfl rfl (by kernel_rfl) (by kernel_rfl) (by kernel_rfl) (fun _ _ _ h => h) (Nat.le_refl _) ⟨by rfl, fun w _ => (by go_simp; try (first | rfl | omega)), fun _ => rfl⟩ hS ?_
          simp only [List.getElem_toArray, List.getElem_cons_zero, List.getElem_cons_succ, Act.put, List.setIfInBounds_toArray, List.set_cons_zero, List.set_cons_succ]
          refine wpAnyR_take (i := 21) (v := (.bool false)) rfl rfl (by kernel_rfl) (by kernel_rfl) (by kernel_rfl) (fun _ _ _ h => h) (Nat.le_refl _) ⟨by rfl, fun w _ => (by go_simp; try (first | rfl | omega)), fun _ => rfl⟩ hS ?_
          simp only [List.getElem_toArray, List.getElem_cons_zero, List.getElem_cons_succ, Act.put, List.setIfInBounds_toArray, List.set_cons_zero, List.set_cons_succ]
          refine wpAnyR_take (i := 22) (v := (.bool true)) rfl rfl (by kernel_rfl) (by kernel_rfl) (by kernel_rfl) (fun _ _ _ h => h) (Nat.le_refl _) ⟨by rfl, fun w _ => (by go_simp; try (first | rfl | omega)), fun _ => rfl⟩ hS ?_
          simp only [List.getElem_toArray, List.getElem_cons_zero, List.getElem_cons_succ, Act.put, List.setIfInBounds_toArray, List.set_cons_zero, List.set_cons_succ]
          refine wpAnyR_take (i := 23) (v := (.pointer (some ⟨q, 0, none⟩))) rfl rfl (by kernel_rfl) (by kernel_rfl) (by kernel_rfl) (fun _ _ _ h => h) (Nat.le_refl _) ⟨by rfl, fun w _ => (by go_simp; try (first | rfl | omega)), fun _ => rfl⟩ hS ?_
          simp only [List.getElem_toArray, List.getElem_cons_zero, List.getElem_cons_succ, Act.put, List.setIfInBounds_toArray, List.set_cons_zero, List.set_cons_succ]
          refine wpAnyR_take (i := 24) (v := (.pointer (some ⟨q, 0, none⟩))) rfl rfl (by kernel_rfl) (by kernel_rfl) (by kernel_rfl) (fun _ _ _ h => h) (Nat.le_refl _) ⟨by rfl, fun w _ => (by go_simp; try (first | rfl | omega)), fun _ => rfl⟩ hS ?_
          simp only [List.getElem_toArray, List.getElem_cons_zero, List.getElem_cons_succ, Act.put, List.setIfInBounds_toArray, List.set_cons_zero, List.set_cons_succ]
          refine wpAnyR_take (i := 25) (v := (.pointer (some ⟨q, 0, none⟩))) rfl rfl (by kernel_rfl) (by kernel_rfl) (by kernel_rfl) (fun _ _ _ h => h) (Nat.le_refl _) ⟨by rfl, fun w _ => (by go_simp; try (first | rfl | omega)), fun _ => rfl⟩ hS ?_
          simp only [List.getElem_toArray, List.getElem_cons_zero, List.getElem_cons_succ, Act.put, List.setIfInBounds_toArray, List.set_cons_zero, List.set_cons_succ]
          refine wpAnyR_take (i := 26) (v := (.slice (some ⟨bL, oL, none⟩) N capL)) rfl rfl (by kernel_rfl) (by kernel_rfl) (by kernel_rfl) (fun _ _ _ h => h) (Nat.le_refl _) (yields_old q0 lq8 (by exact rfl) (by exact rfl) (by exact rfl) Try.underlying28 rfl) hS ?_
          simp only [List.getElem_toArray, List.getElem_cons_zero, List.getElem_cons_succ, Act.put, List.setIfInBounds_toArray, List.set_cons_zero, List.set_cons_succ]
          refine wpAnyR_take (i := 27) (v := (.int .i64 (N : Int))) rfl rfl (by kernel_rfl) (by kernel_rfl) (by kernel_rfl) (fun _ _ _ h => h) (Nat.le_refl _) ⟨by rfl, fun w _ => (by go_simp; try (first | rfl | omega)), fun _ => rfl⟩ hS ?_
          simp only [List.getElem_toArray, List.getElem_cons_zero, List.getElem_cons_succ, Act.put, List.setIfInBounds_toArray, List.set_cons_zero, List.set_cons_succ]
          refine wpAnyR_take (i := 28) (v := (.bool true)) rfl rfl (by kernel_rfl) (by kernel_rfl) (by kernel_rfl) (fun _ _ _ h => h) (Nat.le_refl _) ⟨by rfl, fun w _ => (by go_simp; try (first | rfl | omega)), fun _ => rfl⟩ hS ?_
          simp only [List.getElem_toArray, List.getElem_cons_zero, List.getElem_cons_succ, Act.put, List.setIfInBounds_toArray, List.set_cons_zero, List.set_cons_succ]
          refine wpAnyR_take (i := 29) (v := (.bool false)) rfl rfl (by kernel_rfl) (by kernel_rfl) (by kernel_rfl) (fun _ _ _ h => h) (Nat.le_refl _) ⟨by rfl, fun w _ => (by go_simp; try (first | rfl | omega)), fun _ => rfl⟩ hS ?_
          simp only [List.getElem_toArray, List.getElem_cons_zero, List.getElem_cons_succ, Act.put, List.setIfInBounds_toArray, List.set_cons_zero, List.set_cons_succ]
          refine wpAnyR_take (i := 30) (v := (.bool false)) rfl rfl (by kernel_rfl) (by kernel_rfl) (by kernel_rfl) (fun _ _ _ h => h) (Nat.le_refl _) ⟨by rfl, fun w _ => (by go_simp; try (first | rfl | omega)), fun _ => rfl⟩ hS ?_
          simp only [List.getElem_toArray, List.getElem_cons_zero, List.getElem_cons_succ, Act.put, List.setIfInBounds_toArray, List.set_cons_zero, List.set_cons_succ]
          refine wpAnyR_take (i := 31) (v := (.bool false)) rfl rfl (by kernel_rfl) (by kernel_rfl) (by kernel_rfl) (fun _ _ _ h => h) (Nat.le_refl _) ⟨by rfl, fun w _ => (by go_simp; try (first | rfl | omega)), fun _ => rfl⟩ hS ?_
          simp only [List.getElem_toArray, List.getElem_cons_zero, List.getElem_cons_succ, Act.put, List.setIfInBounds_toArray, List.set_cons_zero, List.set_cons_succ]
          refine wpAnyR_take (i := 32) (v := (.bool true)) rfl rfl (by kernel_rfl) (by kernel_rfl) (by kernel_rfl) (fun _ _ _ h => h) (Nat.le_refl _) ⟨by rfl, fun w _ => (by go_simp; try (first | rfl | omega)), fun _ => rfl⟩ hS ?_
          simp only [List.getElem_toArray, List.getElem_cons_zero, List.getElem_cons_succ, Act.put, List.setIfInBounds_toArray, List.set_cons_zero, List.set_cons_succ]
          refine wpAnyR_take (i := 33) (v := (.bool true)) rfl rfl (by kernel_rfl) (by kernel_rfl) (by kernel_rfl) (fun _ _ _ h => h) (Nat.le_refl _) ⟨by rfl, fun w _ => (by go_simp; try (first | rfl | omega)), fun _ => rfl⟩ hS ?_
          simp only [List.getElem_toArray, List.getElem_cons_zero, List.getElem_cons_succ, Act.put, List.setIfInBounds_toArray, List.set_cons_zero, List.set_cons_succ]
          refine wpAnyR_take (i := 34) (v := (tm t)) rfl rfl (by kernel_rfl) (by kernel_rfl) (by kernel_rfl) (fun _ _ _ h => h) (Nat.le_refl _) ⟨by rfl, fun w hR => (by have y0 := (Mem.old hR (p := ⟨bt, 0, none⟩) lbt).trans t0; have y1 := (Mem.old hR (p := ⟨bt, 1, none⟩) lbt).trans t1; go_simp; try rfl), fun _ => rfl⟩ hS ?_
          simp only [List.getElem_toArray, List.getElem_cons_zero, List.getElem_cons_succ, Act.put, List.setIfInBounds_toArray, List.set_cons_zero, List.set_cons_succ]
          refine wpAnyR_take (i := 35) (v := (.pointer (some ⟨q, 0, none⟩))) rfl rfl (by kernel_rfl) (by kernel_rfl) (by kernel_rfl) (fun _ _ _ h => h) (Nat.le_refl _) ⟨by rfl, fun w _ => (by go_simp; try (first | rfl | omega)), fun _ => rfl⟩ hS ?_
          simp only [List.getElem_toArray, List.getElem_cons_zero, List.getElem_cons_succ, Act.put, List.setIfInBounds_toArray, List.set_cons_zero, List.set_cons_succ]
          refine wpAnyR_take (i := 36) (v := (.pointer (some ⟨q, 0, none⟩))) rfl rfl (by kernel_rfl) (by kernel_rfl) (by kernel_rfl) (fun _ _ _ h => h) (Nat.le_refl _) ⟨by rfl, fun w _ => (by go_simp; try (first | rfl | omega)), fun _ => rfl⟩ hS ?_
          simp only [List.getElem_toArray, List.getElem_cons_zero, List.getElem_cons_succ, Act.put, List.setIfInBounds_toArray, List.set_cons_zero, List.set_cons_succ]
          refine wpAnyR_take (i := 37) (v := (.pointer (some ⟨q, 0, none⟩))) rfl rfl (by kernel_rfl) (by kernel_rfl) (by kernel_rfl) (fun _ _ _ h => h) (Nat.le_refl _) ⟨by rfl, fun w _ => (by go_simp; try (first | rfl | omega)), fun _ => rfl⟩ hS ?_
          simp only [List.getElem_toArray, List.getElem_cons_zero, List.getElem_cons_succ, Act.put, List.setIfInBounds_toArray, List.set_cons_zero, List.set_cons_succ]
          refine wpAnyR_take (i := 38) (v := (.slice (some ⟨bL, oL, none⟩) N capL)) rfl rfl (by kernel_rfl) (by kernel_rfl) (by kernel_rfl) (fun _ _ _ h => h) (Nat.le_refl _) (yields_old q0 lq8 (by exact rfl) (by exact rfl) (by exact rfl) Try.underlying28 rfl) hS ?_
          simp only [List.getElem_toArray, List.getElem_cons_zero, List.getElem_cons_succ, Act.put, List.setIfInBounds_toArray, List.set_cons_zero, List.set_cons_succ]
          refine wpAnyR_take (i := 39) (v := (.pointer (some ⟨bL, oL, none⟩))) rfl rfl (by kernel_rfl) (by kernel_rfl) (by kernel_rfl) (fun _ _ _ h => h) (Nat.le_refl _) ⟨by rfl, fun w _ => (by go_simp; try (first | rfl | omega)), fun _ => rfl⟩ hS ?_
          simp only [List.getElem_toArray, List.getElem_cons_zero, List.getElem_cons_succ, Act.put, List.setIfInBounds_toArray, List.set_cons_zero, List.set_cons_succ]
          refine wpAnyR_take (i := 40) (v := (tm t)) rfl rfl (by kernel_rfl) (by kernel_rfl) (by kernel_rfl) (fun _ _ _ h => h) (Nat.le_refl _) ⟨by rfl, fun w hR => (by have y0 := (Mem.old hR (p := ⟨bL, oL, none⟩) lbL).trans z0; have y1 := (Mem.old hR (p := ⟨bL, oL + 1, none⟩) lbL).trans z1; go_simp; try rfl), fun _ => rfl⟩ hS ?_
          simp only [List.getElem_toArray, List.getElem_cons_zero, List.getElem_cons_succ, Act.put, List.setIfInBounds_toArray, List.set_cons_zero, List.set_cons_succ]
          refine wpAnyR_take (i := 41) (v := (.bool false)) rfl rfl (by kernel_rfl) (by kernel_rfl) (by kernel_rfl) (fun _ _ _ h => h) (Nat.le_refl _) ⟨by rfl, fun w _ => (by go_simp; try (first | rfl | omega)), fun _ => rfl⟩ hS ?_
          simp only [List.getElem_toArray, List.getElem_cons_zero, List.getElem_cons_succ, Act.put, List.setIfInBounds_toArray, List.set_cons_zero, List.set_cons_succ]
          refine wpAnyR_take (i := 42) (v := (.bool false)) rfl rfl (by kernel_rfl) (by kernel_rfl) (by kernel_rfl) (fun _ _ _ h => h) (Nat.le_refl _) ⟨by rfl, fun w _ => (by go_simp; try (first | rfl | omega)), fun _ => rfl⟩ hS ?_
          simp only [List.getElem_toArray, List.getElem_cons_zero, List.getElem_cons_succ, Act.put, List.setIfInBounds_toArray, List.set_cons_zero, List.set_cons_succ]
          refine wpAnyR_take (i := 43) (v := (.bool false)) rfl rfl (by kernel_rfl) (by kernel_rfl) (by kernel_rfl) (fun _ _ _ h => h) (Nat.le_refl _) ⟨by rfl, fun w _ => (by go_simp; try (first | rfl | omega)), fun _ => rfl⟩ hS ?_
          simp only [List.getElem_toArray, List.getElem_cons_zero, List.getElem_cons_succ, Act.put, List.setIfInBounds_toArray, List.set_cons_zero, List.set_cons_succ]
          refine wpAnyR_take (i := 44) (v := (.bool false)) rfl rfl (by kernel_rfl) (by kernel_rfl) (by kernel_rfl) (fun _ _ _ h => h) (Nat.le_refl _) ⟨by rfl, fun w _ => (by go_simp; try (first | rfl | omega)), fun _ => rfl⟩ hS ?_
          simp only [List.getElem_toArray, List.getElem_cons_zero, List.getElem_cons_succ, Act.put, List.setIfInBounds_toArray, List.set_cons_zero, List.set_cons_succ]
          refine wpAnyR_take (i := 45) (v := (.bool true)) rfl rfl (by kernel_rfl) (by kernel_rfl) (by kernel_rfl) (fun _ _ _ h => h) (Nat.le_refl _) ⟨by rfl, fun w _ => (by go_simp; try (first | rfl | omega)), fun _ => rfl⟩ hS ?_
          simp only [List.getElem_toArray, List.getElem_cons_zero, List.getElem_cons_succ, Act.put, List.setIfInBounds_toArray, List.set_cons_zero, List.set_cons_succ]
          refine wpAnyR_take (i := 46) (v := (.bool false)) rfl rfl (by kernel_rfl) (by kernel_rfl) (by kernel_rfl) (fun _ _ _ h => h) (Nat.le_refl _) ⟨by rfl, fun w _ => (by go_simp; try (first | rfl | omega)), fun _ => rfl⟩ hS ?_
          simp only [List.getElem_toArray, List.getElem_cons_zero, List.getElem_cons_succ, Act.put, List.setIfInBounds_toArray, List.set_cons_zero, List.set_cons_succ]
          refine wpAnyR_take (i := 47) (v := (.bool false)) rfl rfl (by kernel_rfl) (by kernel_rfl) (by kernel_rfl) (fun _ _ _ h => h) (Nat.le_refl _) ⟨by rfl, fun w _ => (by go_simp; try (first | rfl | omega)), fun _ => rfl⟩ hS ?_
          simp only [List.getElem_toArray, List.getElem_cons_zero, List.getElem_cons_succ, Act.put, List.setIfInBounds_toArray, List.set_cons_zero, List.set_cons_succ]
          refine wpAnyU_take (i := 48) rfl (fun _ => trivial) rfl (by kernel_rfl) (by kernel_rfl) (by kernel_rfl) (fun _ _ _ h => h) (Nat.le_refl _) (by rfl) hS ?_
          simp only [List.getElem_toArray, List.getElem_cons_zero, List.getElem_cons_succ, Act.put, List.setIfInBounds_toArray, List.set_cons_zero, List.set_cons_succ]
          refine wpAnyU_take (i := 49) rfl (fun _ => trivial) rfl (by kernel_rfl) (by kernel_rfl) (by kernel_rfl) (fun _ _ _ h => h) (Nat.le_refl _) (by rfl) hS ?_
          simp only [List.getElem_toArray, List.getElem_cons_zero, List.getElem_cons_succ, Act.put, List.setIfInBounds_toArray, List.set_cons_zero, List.set_cons_succ]
          refine wpAnyU_take (i := 50) rfl (fun _ => trivial) rfl (by kernel_rfl) (by kernel_rfl) (by kernel_rfl) (fun _ _ _ h => h) (Nat.le_refl _) (by rfl) hS ?_
          simp only [List.getElem_toArray, List.getElem_cons_zero, List.getElem_cons_succ, Act.put, List.setIfInBounds_toArray, List.set_cons_zero, List.set_cons_succ]
          refine wpAnyR_take (i := 51) (v := (.bool false)) rfl rfl (by kernel_rfl) (by kernel_rfl) (by kernel_rfl) (fun _ _ _ h => h) (Nat.le_refl _) ⟨by rfl, fun w _ => (by go_simp; try (first | rfl | omega)), fun _ => rfl⟩ hS ?_
          simp only [List.getElem_toArray, List.getElem_cons_zero, List.getElem_cons_succ, Act.put, List.setIfInBounds_toArray, List.set_cons_zero, List.set_cons_succ]
          refine wpAnyR_take (i := 52) (v := (.bool false)) rfl rfl (by kernel_rfl) (by kernel_rfl) (by kernel_rfl) (fun _ _ _ h => h) (Nat.le_refl _) ⟨by rfl, fun w _ => (by go_simp; try (first | rfl | omega)), fun _ => rfl⟩ hS ?_
          simp only [List.getElem_toArray, List.getElem_cons_zero, List.getElem_cons_succ, Act.put, List.setIfInBounds_toArray, List.set_cons_zero, List.set_cons_succ]
          refine wpAnyG_done (by kernel_rfl) ?_ _
          obtain ⟨hW8', hR8, hB8⟩ := HZ.out
          go_wp2
          go_roundw
          case rel => exact ⟨k + 1, s1, by omega, by go_num, hok1, hW8'.call hS.below, hR8.below hS.below, hB8.trans (hS.below.mono hB8.size)⟩
          case measure => simp [intOf]; omega
      · have hok1 := WS.turn_ok hok hat.1
        have y1 := Held.cell hS 1
        simp only [List.getElem?_toArray, List.getElem?_cons_zero, List.getElem?_cons_succ] at y1
        go_upto_region 16 with (go_at_call 16; refine (turn_p _ p m s hW4 hok at_ hat.1).mono ?_; rintro e w5 ⟨v5, rfl, hRow5, hW5, hF5⟩; obtain ⟨a5, c5, rfl⟩ := ownsRow_len hRow5)
        have hS5 : Held w5 bx 32 #[.int .i64 d0, .int .u64 at_, .int .i64 key] := Held.foot hS hF5 (fun e => by rcases e with e | e <;> omega)
        have hR5 := hR4.pm hW4 hF5 (by omega) (by omega)
        have hB5 : Below w.heap.size w w5 := Foot.after hB4 hF5 (pm_old (by omega) (by omega))
        have hz5 := hF5.size
        have y5 := hS5.cell 1
        simp only [List.getElem?_toArray, List.getElem?_cons_zero, List.getElem?_cons_succ] at y5
        clear y1 hS hR4 hW4 hB4 hF5
        go_upto_region 17 with (go_at_call 17; refine (turn_r _ q s at_ hat hR5 hok).mono ?_; rintro e w6 ⟨v6, rfl, hSl6, hne6, hR6, hF6⟩; obtain ⟨a6, n6, c6, rfl⟩ := SlT.shape hSl6)
        have hW6 := hW5.foot hF6 (by omega) (by omega)
        have hB6 : Below w.heap.size w w6 := Foot.after hB5 hF6 (fun i e => by omega)
        have hz6 := hF6.size
        have hRow6 := row_foot1 hRow5 hF6 (by omega)
        go_upto_region 18 with (go_at_call 18; refine (same_r _ w6.heap.size w5.heap.size _ _ (s.turned at_) (s.turned at_) (SlT.of_row hRow6) hSl6 (Nat.le_refl _) hz6).mono ?_; rintro e w9 ⟨rfl, hB9⟩; rw [decide_eq_true rfl])
        have hW9 := hW6.call hB9
        have hR9 := hR6.below hB9
        have hB09 : Below w.heap.size w w9 := hB6.trans (hB9.mono hB6.size)
        have hz9 := hB9.size
        clear hW6 hR6 hB6 hB9 hRow5 hRow6 hSl6 hne6 hW5 hR5 hB5 hF6 y5 hS5
        have hW6 := hW9
        have hR6 := hR9
        have hB6 := hB09
        clear hW9 hR9 hB09
        obtain ⟨s1, hs1⟩ : ∃ x, s.turn at_ = x := ⟨_, rfl⟩
        rw [hs1] at hW6 hR6 hok1
        clear hs1 hok
        obtain ⟨hb, hb1, hb2⟩ : ∃ y, (nxV s1.l).2 = y ∧ y = decide (0 < s1.l.length) := ⟨_, rfl, by cases s1.l <;> rfl⟩
        have HB2 := Lib.hid hb2
        clear hb2
        obtain ⟨t, ht⟩ : ∃ t, (nxV s1.l).1 = t := ⟨_, rfl⟩
        go_upto_region 20 with (first
            | (go_at_call 19; refine (next_p _ p m s1 hW6 hok1).mono ?_; rintro e w7 ⟨rfl, hB7⟩; have H := Mem.start w7)
            | ((with_reducible show wpList _ _ _ _ _ (World.alloc _ (.cells _ _))); refine mem_newb (l := []) H ?_; intro bt w8 hbk H2; try rw [← hbk]; clear hbk H; have H := H2; clear H2; simp only [List.cons_append, List.nil_append, List.set_cons_zero, List.set_cons_succ, List.setIfInBounds_toArray] at H)
            | ((with_reducible show wpList _ _ _ (⟨_, .store 41 _ _, _, _, _, _⟩ :: _) _ _); refine mem_store (i := 0) H (by exact wanted_none rfl) (by exact rfl) (by exact rfl) (by exact rfl) (by exact rfl) (by exact tmInfo) (by exact rfl) (by exact rfl) ?_; intro w8 H2; clear H; have H := H2; clear H2; simp only [List.cons_append, List.nil_append, List.set_cons_zero, List.set_cons_succ, List.setIfInBounds_toArray] at H))
        try rw [ht] at H
        try rw [hb1]
        have hz7 := hB7.size
        have hz8 := H.below.size
        have hW8 := (hW6.call hB7).call H.below
        have hR8 := (hR6.below hB7).below H.below
        have hB8 : Below w.heap.size w w8 := (hB6.trans (hB7.mono hB6.size)).trans (H.below.mono (by have := hB6.size; omega))
        have t0 := (H.at 0 rfl).cell 0
        have t1 := (H.at 0 rfl).cell 1
        have lbt := (H.at 0 rfl).lt
        simp only [List.getElem?_toArray, List.getElem?_cons_zero, List.getElem?_cons_succ] at t0 t1
        obtain ⟨vL, nL, gq, hsl, hnl, -⟩ := hR8.box
        obtain ⟨AL, bL, oL, capL, hvL, hL2, hL3, hL4, hL5⟩ := hsl
        subst hvL
        have hsl : SlT w8 nL (.slice AL s1.l.length capL) s1.l := ⟨AL, bL, oL, capL, rfl, hL2, hL3, hL4, hL5⟩
        have q0 := gq.cell 0
        have q1 := gq.cell 1
        have lq8 := gq.lt
        simp only [List.getElem?_toArray, List.getElem?_cons_zero, List.getElem?_cons_succ] at q0 q1
        obtain ⟨N, hN⟩ : ∃ x, s1.l.length = x := ⟨_, rfl⟩
        have HN := Lib.hid hN
        have hb2 := HB2.out
        rw [hN] at q0 hL2 hb2 hsl
        unfold maxLen at hL3
        have HZ := Lib.hid (And.intro hW8 (And.intro hR8 hB8))
        clear hW6 hR6 hB6 hB7 H gq hR8 hB8
        cases hb
        · have hN0 : N = 0 := by have : ¬ 0 < N := of_decide_eq_false hb2.symm; omega
          subst hN0
          have hnil := List.eq_nil_of_length_eq_zero HN.out
          rw [hnil] at ht
          obtain rfl : t = (0, 0) := ht.symm
          have hEq := fun w => tm_eq (0, 0) (0, 0) w
          rw [decide_eq_true rfl] at hEq
          clear hnil ht hL4 hL5 hb1 hb2 hN
          refine region_mem (Mem.start w8) 53 rfl (by kernel_rfl) (fun wr0 hS => ?_)
          refine wpAnyR_take (i := 0) (v := (.bool true)) rfl rfl (by kernel_rfl) (by kernel_rfl) (by kernel_rfl) (fun _ _ _ h => h) (Nat.le_refl _) ⟨by rfl, fun w _ => (by go_simp; try (first | rfl | omega)), fun _ => rfl⟩ hS ?_
          simp only [List.getElem_toArray, List.getElem_cons_zero, List.getElem_cons_succ, Act.put, List.setIfInBounds_toArray, List.set_cons_zero, List.set_cons_succ]
          refine wpAnyR_take (i := 1) (v := (.bool false)) rfl rfl (by kernel_rfl) (by kernel_rfl) (by kernel_rfl) (fun _ _ _ h => h) (Nat.le_refl _) ⟨by rfl, fun w _ => (by go_simp; try (first | rfl | omega)), fun _ => rfl⟩ hS ?_
          simp only [List.getElem_toArray, List.getElem_cons_zero, List.getElem_cons_succ, Act.put, List.setIfInBounds_toArray, List.set_cons_zero, List.set_cons_succ]
          refine wpAnyR_take (i := 2) (v := (.bool false)) rfl rfl (by kernel_rfl) (by kernel_rfl) (by kernel_rfl) (fun _ _ _ h => h) (Nat.le_refl _) ⟨by rfl, fun w _ => (by go_simp; try (first | rfl | omega)), fun _ => rfl⟩ hS ?_
          simp only [List.getElem_toArray, List.getElem_cons_zero, List.getElem_cons_succ, Act.put, List.setIfInBounds_toArray, List.set_cons_zero, List.set_cons_succ]
          refine wpAnyR_take (i := 3) (v := (.pointer (some ⟨p, 0, none⟩))) rfl rfl (by kernel_rfl) (by kernel_rfl) (by kernel_rfl) (fun _ _ _ h => h) (Nat.le_refl _) ⟨by rfl, fun w _ => (by go_simp; try (first | rfl | omega)), fun _ => rfl⟩ hS ?_
          simp only [List.getElem_toArray, List.getElem_cons_zero, List.getElem_cons_succ, Act.put, List.setIfInBounds_toArray, List.set_cons_zero, List.set_cons_succ]
          refine wpAnyR_take (i := 5) (v := (.pointer (some ⟨q, 0, none⟩))) rfl rfl (by kernel_rfl) (by kernel_rfl) (by kernel_rfl) (fun _ _ _ h => h) (Nat.le_refl _) ⟨by rfl, fun w _ => (by go_simp; try (first | rfl | omega)), fun _ => rfl⟩ hS ?_
          simp only [List.getElem_toArray, List.getElem_cons_zero, List.getElem_cons_succ, Act.put, List.setIfInBounds_toArray, List.set_cons_zero, List.set_cons_succ]
          refine wpAnyR_take (i := 6) (v := (.pointer (some ⟨q, 0, none⟩))) rfl rfl (by kernel_rfl) (by kernel_rfl) (by kernel_rfl) (fun _ _ _ h => h) (Nat.le_refl _) ⟨by rfl, fun w _ => (by go_simp; try (first | rfl | omega)), fun _ => rfl⟩ hS ?_
          simp only [List.getElem_toArray, List.getElem_cons_zero, List.getElem_cons_succ, Act.put, List.setIfInBounds_toArray, List.set_cons_zero, List.set_cons_succ]
          refine wpAnyR_take (i := 7) (v := (.pointer (some ⟨q, 1, none⟩))) rfl rfl (by kernel_rfl) (by kernel_rfl) (by kernel_rfl) (fun _ _ _ h => h) (Nat.le_refl _) ⟨by rfl, fun w _ => (by go_simp; try (first | rfl | omega)), fun _ => rfl⟩ hS ?_
          simp only [List.getElem_toArray, List.getElem_cons_zero, List.getElem_cons_succ, Act.put, List.setIfInBounds_toArray, List.set_cons_zero, List.set_cons_succ]
          refine wpAnyR_take (i := 8) (v := (.int .u64 s1.clk)) rfl rfl (by kernel_rfl) (by kernel_rfl) (by kernel_rfl) (fun _ _ _ h => h) (Nat.le_refl _) (yields_old q1 lq8 (by exact rfl) (by exact rfl) (by exact rfl) Try.underlying22 rfl) hS ?_
          simp only [List.getElem_toArray, List.getElem_cons_zero, List.getElem_cons_succ, Act.put, List.setIfInBounds_toArray, List.set_cons_zero, List.set_cons_succ]
          refine wpAnyG_one (i := 4) (by kernel_rfl) rfl (fun K hK => ?_)
          go_simp
          refine ⟨trivial, (callsIn_wide.2 (now_p _ p m s1 (hW8.call hS.below))).mono ?_⟩
          rintro e w9 ⟨rfl, rfl⟩
          refine hK _ _ (.inr hS) ?_
          clear hK K
          try simp only [List.getElem_toArray, List.getElem_cons_zero, List.getElem_cons_succ, Act.put, List.setIfInBounds_toArray, List.set_cons_zero, List.set_cons_succ]
          refine wpAnyR_take (i := 9) (v := (.bool false)) rfl rfl (by kernel_rfl) (by kernel_rfl) (by kernel_rfl) (fun _ _ _ h => h) (Nat.le_refl _) ⟨by rfl, fun w _ => (by go_simp; try (first | rfl | omega)), fun _ => rfl⟩ hS ?_
          simp only [List.getElem_toArray, List.getElem_cons_zero, List.getElem_cons_succ, Act.put, List.setIfInBounds_toArray, List.set_cons_zero, List.set_cons_succ]
          refine wpAnyR_take (i := 10) (v := (.bool false)) rfl rfl (by kernel_rfl) (by kernel_rfl) (by kernel_rfl) (fun _ _ _ h => h) (Nat.le_refl _) ⟨by rfl, fun w _ => (by go_simp; try (first | rfl | omega)), fun _ => rfl⟩ hS ?_
          simp only [List.getElem_toArray, List.getElem_cons_zero, List.getElem_cons_succ, Act.put, List.setIfInBounds_toArray, List.set_cons_zero, List.set_cons_succ]
          refine wpAnyR_take (i := 11) (v := (.bool false)) rfl rfl (by kernel_rfl) (by kernel_rfl) (by kernel_rfl) (fun _ _ _ h => h) (Nat.le_refl _) ⟨by rfl, fun w _ => (by go_simp; try (first | rfl | omega)), fun _ => rfl⟩ hS ?_
          simp only [List.getElem_toArray, List.getElem_cons_zero, List.getElem_cons_succ, Act.put, List.setIfInBounds_toArray, List.set_cons_zero, List.set_cons_succ]
          refine wpAnyR_take (i := 12) (v := (.pointer (some ⟨p, 0, none⟩))) rfl rfl (by kernel_rfl) (by kernel_rfl) (by kernel_rfl) (fun _ _ _ h => h) (Nat.le_refl _) ⟨by rfl, fun w _ => (by go_simp; try (first | rfl | omega)), fun _ => rfl⟩ hS ?_
          simp only [List.getElem_toArray, List.getElem_cons_zero, List.getElem_cons_succ, Act.put, List.setIfInBounds_toArray, List.set_cons_zero, List.set_cons_succ]
          refine wpAnyR_take (i := 14) (v := (.pointer (some ⟨q, 0, none⟩))) rfl rfl (by kernel_rfl) (by kernel_rfl) (by kernel_rfl) (fun _ _ _ h => h) (Nat.le_refl _) ⟨by rfl, fun w _ => (by go_simp; try (first | rfl | omega)), fun _ => rfl⟩ hS ?_
          simp only [List.getElem_toArray, List.getElem_cons_zero, List.getElem_cons_succ, Act.put, List.setIfInBounds_toArray, List.set_cons_zero, List.set_cons_succ]
          refine wpAnyR_take (i := 15) (v := (.pointer (some ⟨q, 0, none⟩))) rfl rfl (by kernel_rfl) (by kernel_rfl) (by kernel_rfl) (fun _ _ _ h => h) (Nat.le_refl _) ⟨by rfl, fun w _ => (by go_simp; try (first | rfl | omega)), fun _ => rfl⟩ hS ?_
          simp only [List.getElem_toArray, List.getElem_cons_zero, List.getElem_cons_succ, Act.put, List.setIfInBounds_toArray, List.set_cons_zero, List.set_cons_succ]
          refine wpAnyR_take (i := 16) (v := (.pointer (some ⟨q, 0, none⟩))) rfl rfl (by kernel_rfl) (by kernel_rfl) (by kernel_rfl) (fun _ _ _ h => h) (Nat.le_refl _) ⟨by rfl, fun w _ => (by go_simp; try (first | rfl | omega)), fun _ => rfl⟩ hS ?_
          simp only [List.getElem_toArray, List.getElem_cons_zero, List.getElem_cons_succ, Act.put, List.setIfInBounds_toArray, List.set_cons_zero, List.set_cons_succ]
          refine wpAnyR_take (i := 17) (v := (.slice AL 0 capL)) rfl rfl (by kernel_rfl) (by kernel_rfl) (by kernel_rfl) (fun _ _ _ h => h) (Nat.le_refl _) (yields_old q0 lq8 (by exact rfl) (by exact rfl) (by exact rfl) Try.underlying28 rfl) hS ?_
          simp only [List.getElem_toArray, List.getElem_cons_zero, List.getElem_cons_succ, Act.put, List.setIfInBounds_toArray, List.set_cons_zero, List.set_cons_succ]
          refine wpAnyG_one (i := 13) (by kernel_rfl) rfl (fun K hK => ?_)
          go_simp
          refine ⟨trivial, (callsIn_wide.2 (all_p _ p m s1 (hW8.call hS.below) hok1)).mono ?_⟩
          rintro e w10 ⟨v10, rfl, hR10, hB10⟩
          rw [HN.out] at hR10
          obtain ⟨a10, c10, rfl⟩ := ownsRow_len hR10
          have hS10 := hS.call hB10
          clear hS hB10
          have hS := hS10
          clear hS10
          refine hK _ _ (.inr hS) ?_
          clear hK K
          try simp only [List.getElem_toArray, List.getElem_cons_zero, List.getElem_cons_succ, Act.put, List.setIfInBounds_toArray, List.set_cons_zero, List.set_cons_succ]
          refine wpAnyG_one (i := 18) (by kernel_rfl) rfl (fun K hK => ?_)
          go_simp
          refine ⟨trivial, (callsIn_wide.2 (same_r _ w10.heap.size nL _ _ s1.l s1.l (SlT.of_row (by rw [HN.out]; exact hR10)) (hsl.below hS.below hnl) (Nat.le_refl _) (Nat.le_trans hnl hS.below.size))).mono ?_⟩
          rintro e w11 ⟨rfl, hB11⟩
          rw [decide_eq_true rfl]
          have hS11 := hS.call hB11
          clear hS hB11 hR10
          have hS := hS11
          clear hS11
          refine hK _ _ (.inr hS) ?_
          clear hK K
          try simp only [List.getElem_toArray, List.getElem_cons_zero, List.getElem_cons_succ, Act.put, List.setIfInBounds_toArray, List.set_cons_zero, List.set_cons_succ]
          refine wpAnyR_take (i := 19) (v := (.bool false)) rfl rfl (by kernel_rfl) (by kernel_rfl) (by kernel_rfl) (fun _ _ _ h => h) (Nat.le_refl _) ⟨by rfl, fun w _ => (by go_simp; try (first | rfl | omega)), fun _ => rfl⟩ hS ?_
          simp only [List.getElem_toArray, List.getElem_cons_zero, List.getElem_cons_succ, Act.put, List.setIfInBounds_toArray, List.set_cons_zero, List.set_cons_succ]
          refine wpAnyR_take (i := 20) (v := (.bool false)) rfl rfl (by kernel_rfl) (by kernel_rfl) (by kernel_rfl) (fun _ _ _ h => h) (Nat.le_refl _) ⟨by rfl, fun w _ => (by go_simp; try (first | rfl | omega)), fun _ => rfl⟩ hS ?_
          simp only [List.getElem_toArray, List.getElem_cons_zero, List.getElem_cons_succ, Act.put, List.setIfInBounds_toArray, List.set_cons_zero, List.set_cons_succ]
          refine wpAnyR_take (i := 21) (v := (.bool false)) rfl rfl (by kernel_rfl) (by kernel_rfl) (by kernel_rfl) (fun _ _ _ h => h) (Nat.le_refl _) ⟨by rfl, fun w _ => (by go_simp; try (first | rfl | omega)), fun _ => rfl⟩ hS ?_
          simp only [List.getElem_toArray, List.getElem_cons_zero, List.getElem_cons_succ, Act.put, List.setIfInBounds_toArray, List.set_cons_zero, List.set_cons_succ]
          refine wpAnyR_take (i := 22) (v := (.bool false)) rfl rfl (by kernel_rfl) (by kernel_rfl) (by kernel_rfl) (fun _ _ _ h => h) (Nat.le_refl _) ⟨by rfl, fun w _ => (by go_simp; try (first | rfl | omega)), fun _ => rfl⟩ hS ?_
          simp only [List.getElem_toArray, List.getElem_cons_zero, List.getElem_cons_succ, Act.put, List.setIfInBounds_toArray, List.set_cons_zero, List.set_cons_succ]
          refine wpAnyR_take (i := 23) (v := (.pointer (some ⟨q, 0, none⟩))) rfl rfl (by kernel_rfl) (by kernel_rfl) (by kernel_rfl) (fun _ _ _ h => h) (Nat.le_refl _) ⟨by rfl, fun w _ => (by go_simp; try (first | rfl | omega)), fun _ => rfl⟩ hS ?_
          simp only [List.getElem_toArray, List.getElem_cons_zero, List.getElem_cons_succ, Act.put, List.setIfInBounds_toArray, List.set_cons_zero, List.set_cons_succ]
          refine wpAnyR_take (i := 24) (v := (.pointer (some ⟨q, 0, none⟩))) rfl rfl (by kernel_rfl) (by kernel_rfl) (by kernel_rfl) (fun _ _ _ h => h) (Nat.le_refl _) ⟨by rfl, fun w _ => (by go_simp; try (first | rfl | omega)), fun _ => rfl⟩ hS ?_
          simp only [List.getElem_toArray, List.getElem_cons_zero, List.getElem_cons_succ, Act.put, List.setIfInBounds_toArray, List.set_cons_zero, List.set_cons_succ]
          refine wpAnyR_take (i := 25) (v := (.pointer (some ⟨q, 0, none⟩))) rfl rfl (by kernel_rfl) (by kernel_rfl) (by kernel_rfl) (fun _ _ _ h => h) (Nat.le_refl _) ⟨by rfl, fun w _ => (by go_simp; try (first | rfl | omega)), fun _ => rfl⟩ hS ?_
          simp only [List.getElem_toArray, List.getElem_cons_zero, List.getElem_cons_succ, Act.put, List.setIfInBounds_toArray, List.set_cons_zero, List.set_cons_succ]
          refine wpAnyR_take (i := 26) (v := (.slice AL 0 capL)) rfl rfl (by kernel_rfl) (by kernel_rfl) (by kernel_rfl) (fun _ _ _ h => h) (Nat.le_refl _) (yields_old q0 lq8 (by exact rfl) (by exact rfl) (by exact rfl) Try.underlying28 rfl) hS ?_
          simp only [List.getElem_toArray, List.getElem_cons_zero, List.getElem_cons_succ, Act.put, List.setIfInBounds_toArray, List.set_cons_zero, List.set_cons_succ]
          refine wpAnyR_take (i := 27) (v := (.int .i64 0)) rfl rfl (by kernel_rfl) (by kernel_rfl) (by kernel_rfl) (fun _ _ _ h => h) (Nat.le_refl _) ⟨by rfl, fun w _ => (by go_simp; try (first | rfl | omega)), fun _ => rfl⟩ hS ?_
          simp only [List.getElem_toArray, List.getElem_cons_zero, List.getElem_cons_succ, Act.put, List.setIfInBounds_toArray, List.set_cons_zero, List.set_cons_succ]
          refine wpAnyR_take (i := 28) (v := (.bool false)) rfl rfl (by kernel_rfl) (by kernel_rfl) (by kernel_rfl) (fun _ _ _ h => h) (Nat.le_refl _) ⟨by rfl, fun w _ => (by go_simp; try (first | rfl | omega)), fun _ => rfl⟩ hS ?_
          simp only [List.getElem_toArray, List.getElem_cons_zero, List.getElem_cons_succ, Act.put, List.setIfInBounds_toArray, List.set_cons_zero, List.set_cons_succ]
          refine wpAnyR_take (i := 29) (v := (.bool false)) rfl rfl (by kernel_rfl) (by kernel_rfl) (by kernel_rfl) (fun _ _ _ h => h) (Nat.le_refl _) ⟨by rfl, fun w _ => (by go_simp; try (first | rfl | omega)), fun _ => rfl⟩ hS ?_
          simp only [List.getElem_toArray, List.getElem_cons_zero, List.getElem_cons_succ, Act.put, List.setIfInBounds_toArray, List.set_cons_zero, List.set_cons_succ]
          refine wpAnyR_take (i := 30) (v := (.bool false)) rfl rfl (by kernel_rfl) (by kernel_rfl) (by kernel_rfl) (fun _ _ _ h => h) (Nat.le_refl _) ⟨by rfl, fun w _ => (by go_simp; try (first | rfl | omega)), fun _ => rfl⟩ hS ?_
          simp only [List.getElem_toArray, List.getElem_cons_zero, List.getElem_cons_succ, Act.put, List.setIfInBounds_toArray, List.set_cons_zero, List.set_cons_succ]
          refine wpAnyR_take (i := 31) (v := (.bool false)) rfl rfl (by kernel_rfl) (by kernel_rfl) (by kernel_rfl) (fun _ _ _ h => h) (Nat.le_refl _) ⟨by rfl, fun w _ => (by go_simp; try (first | rfl | omega)), fun _ => rfl⟩ hS ?_
          simp only [List.getElem_toArray, List.getElem_cons_zero, List.getElem_cons_succ, Act.put, List.setIfInBounds_toArray, List.set_cons_zero, List.set_cons_succ]
          refine wpAnyR_take (i := 32) (v := (.bool false)) rfl rfl (by kernel_rfl) (by kernel_rfl) (by kernel_rfl) (fun _ _ _ h => h) (Nat.le_refl _) ⟨by rfl, fun w _ => (by go_simp; try (first | rfl | omega)), fun _ => rfl⟩ hS ?_
          simp only [List.getElem_toArray, List.getElem_cons_zero, List.getElem_cons_succ, Act.put, List.setIfInBounds_toArray, List.set_cons_zero, List.set_cons_succ]
          refine wpAnyR_take (i := 33) (v := (.bool false)) rfl rfl (by kernel_rfl) (by kernel_rfl) (by kernel_rfl) (fun _ _ _ h => h) (Nat.le_refl _) ⟨by rfl, fun w _ => (by go_simp; try (first | rfl | omega)), fun _ => rfl⟩ hS ?_
          simp only [List.getElem_toArray, List.getElem_cons_zero, List.getElem_cons_succ, Act.put, List.setIfInBounds_toArray, List.set_cons_zero, List.set_cons_succ]
          refine wpAnyU_take (i := 34) rfl (fun _ => trivial) rfl (by kernel_rfl) (by kernel_rfl) (by kernel_rfl) (fun _ _ _ h => h) (Nat.le_refl _) (by rfl) hS ?_
          simp only [List.getElem_toArray, List.getElem_cons_zero, List.getElem_cons_succ, Act.put, List.setIfInBounds_toArray, List.set_cons_zero, List.set_cons_succ]
          refine wpAnyU_take (i := 35) rfl (fun _ => trivial) rfl (by kernel_rfl) (by kernel_rfl) (by kernel_rfl) (fun _ _ _ h => h) (Nat.le_refl _) (by rfl) hS ?_
          simp only [List.getElem_toArray, List.getElem_cons_zero, List.getElem_cons_succ, Act.put, List.setIfInBounds_toArray, List.set_cons_zero, List.set_cons_succ]
          refine wpAnyU_take (i := 36) rfl (fun _ => trivial) rfl (by kernel_rfl) (by kernel_rfl) (by kernel_rfl) (fun _ _ _ h => h) (Nat.le_refl _) (by rfl) hS ?_
          simp only [List.getElem_toArray, List.getElem_cons_zero, List.getElem_cons_succ, Act.put, List.setIfInBounds_toArray, List.set_cons_zero, List.set_cons_succ]
          refine wpAnyU_take (i := 37) rfl (fun _ => trivial) rfl (by kernel_rfl) (by kernel_rfl) (by kernel_rfl) (fun _ _ _ h => h) (Nat.le_refl _) (by rfl) hS ?_
          simp only [List.getElem_toArray, List.getElem_cons_zero, List.getElem_cons_succ, Act.put, List.setIfInBounds_toArray, List.set_cons_zero, List.set_cons_succ]
          refine wpAnyU_take (i := 38) rfl (fun _ => trivial) rfl (by kernel_rfl) (by kernel_rfl) (by kernel_rfl) (fun _ _ _ h => h) (Nat.le_refl _) (by rfl) hS ?_
          simp only [List.getElem_toArray, List.getElem_cons_zero, List.getElem_cons_succ, Act.put, List.setIfInBounds_toArray, List.set_cons_zero, List.set_cons_succ]
          refine wpAnyU_take (i := 39) rfl (fun _ => trivial) rfl (by kernel_rfl) (by kernel_rfl) (by kernel_rfl) (fun _ _ _ h => h) (Nat.le_refl _) (by rfl) hS ?_
          simp only [List.getElem_toArray, List.getElem_cons_zero, List.getElem_cons_succ, Act.put, List.setIfInBounds_toArray, List.set_cons_zero, List.set_cons_succ]
          refine wpAnyU_take (i := 40) rfl (fun _ => trivial) rfl (by kernel_rfl) (by kernel_rfl) (by kernel_rfl) (fun _ _ _ h => h) (Nat.le_refl _) (by rfl) hS ?_
          simp only [List.getElem_toArray, List.getElem_cons_zero, List.getElem_cons_succ, Act.put, List.setIfInBounds_toArray, List.set_cons_zero, List.set_cons_succ]
          refine wpAnyU_take (i := 41) rfl (fun _ => trivial) rfl (by kernel_rfl) (by kernel_rfl) (by kernel_rfl) (fun _ _ _ h => h) (Nat.le_refl _) (by rfl) hS ?_
          simp only [List.getElem_toArray, List.getElem_cons_zero, List.getElem_cons_succ, Act.put, List.setIfInBounds_toArray, List.set_cons_zero, List.set_cons_succ]
          refine wpAnyR_take (i := 42) (v := (.bool false)) rfl rfl (by kernel_rfl) (by kernel_rfl) (by kernel_rfl) (fun _ _ _ h => h) (Nat.le_refl _) ⟨by rfl, fun w _ => (by go_simp; try (first | rfl | omega)), fun _ => rfl⟩ hS ?_
          simp only [List.getElem_toArray, List.getElem_cons_zero, List.getElem_cons_succ, Act.put, List.setIfInBounds_toArray, List.set_cons_zero, List.set_cons_succ]
          refine wpAnyR_take (i := 43) (v := (.bool false)) rfl rfl (by kernel_rfl) (by kernel_rfl) (by kernel_rfl) (fun _ _ _ h => h) (Nat.le_refl _) ⟨by rfl, fun w _ => (by go_simp; try (first | rfl | omega)), fun _ => rfl⟩ hS ?_
          simp only [List.getElem_toArray, List.getElem_cons_zero, List.getElem_cons_succ, Act.put, List.setIfInBounds_toArray, List.set_cons_zero, List.set_cons_succ]
          refine wpAnyR_take (i := 44) (v := (.bool false)) rfl rfl (by kernel_rfl) (by kernel_rfl) (by kernel_rfl) (fun _ _ _ h => h) (Nat.le_refl _) ⟨by rfl, fun w _ => (by go_simp; try (first | rfl | omega)), fun _ => rfl⟩ hS ?_
          simp only [List.getElem_toArray, List.getElem_cons_zero, List.getElem_cons_succ, Act.put, List.setIfInBounds_toArray, List.set_cons_zero, List.set_cons_succ]
          refine wpAnyR_take (i := 45) (v := (.bool false)) rfl rfl (by kernel_rfl) (by kernel_rfl) (by kernel_rfl) (fun _ _ _ h => h) (Nat.le_refl _) ⟨by rfl, fun w _ => (by go_simp; try (first | rfl | omega)), fun _ => rfl⟩ hS ?_
          simp only [List.getElem_toArray, List.getElem_cons_zero, List.getElem_cons_succ, Act.put, List.setIfInBounds_toArray, List.set_cons_zero, List.set_cons_succ]
          refine wpAnyR_take (i := 46) (v := (.bool true)) rfl rfl (by kernel_rfl) (by kernel_rfl) (by kernel_rfl) (fun _ _ _ h => h) (Nat.le_refl _) ⟨by rfl, fun w _ => (by go_simp; try (first | rfl | omega)), fun _ => rfl⟩ hS ?_
          simp only [List.getElem_toArray, List.getElem_cons_zero, List.getElem_cons_succ, Act.put, List.setIfInBounds_toArray, List.set_cons_zero, List.set_cons_succ]
          refine wpAnyR_take (i := 47) (v := (.bool true)) rfl rfl (by kernel_rfl) (by kernel_rfl) (by kernel_rfl) (fun _ _ _ h => h) (Nat.le_refl _) ⟨by rfl, fun w _ => (by go_simp; try (first | rfl | omega)), fun _ => rfl⟩ hS ?_
          simp only [List.getElem_toArray, List.getElem_cons_zero, List.getElem_cons_succ, Act.put, List.setIfInBounds_toArray, List.set_cons_zero, List.set_cons_succ]
          refine wpAnyR_take (i := 48) (v := (tm (0, 0))) rfl rfl (by kernel_rfl) (by kernel_rfl) (by kernel_rfl) (fun _ _ _ h => h) (Nat.le_refl _) ⟨by rfl, fun w hR => (by have y0 := (Mem.old hR (p := ⟨bt, 0, none⟩) lbt).trans t0; have y1 := (Mem.old hR (p := ⟨bt, 1, none⟩) lbt).trans t1; go_simp; try rfl), fun _ => rfl⟩ hS ?_
          simp only [List.getElem_toArray, List.getElem_cons_zero, List.getElem_cons_succ, Act.put, List.setIfInBounds_toArray, List.set_cons_zero, List.set_cons_succ]
          refine wpAnyR_take (i := 49) (v := (tm (0, 0))) rfl rfl (by kernel_rfl) (by kernel_rfl) (by kernel_rfl) (fun _ _ _ h => h) (Nat.le_refl _) ⟨by rfl, fun w _ => (by go_simp; try (first | rfl | omega)), fun _ => rfl⟩ hS ?_
          simp only [List.getElem_toArray, List.getElem_cons_zero, List.getElem_cons_succ, Act.put, List.setIfInBounds_toArray, List.set_cons_zero, List.set_cons_succ]
          refine wpAnyR_take (i := 50) (v := (.bool false)) rfl rfl (by kernel_rfl) (by kernel_rfl) (by kernel_rfl) (fun _ _ _ h => h) (Nat.le_refl _) ⟨by rfl, fun w _ => (by go_simp; try (first | rfl | omega)), fun _ => rfl⟩ hS ?_
          simp only [List.getElem_toArray, List.getElem_cons_zero, List.getElem_cons_succ, Act.put, List.setIfInBounds_toArray, List.set_cons_zero, List.set_cons_succ]
          refine wpAnyR_take (i := 51) (v := (.bool false)) rfl rfl (by kernel_rfl) (by kernel_rfl) (by kernel_rfl) (fun _ _ _ h => h) (Nat.le_refl _) ⟨by rfl, fun w _ => (by go_simp; try (first | rfl | omega)), fun _ => rfl⟩ hS ?_
          simp only [List.getElem_toArray, List.getElem_cons_zero, List.getElem_cons_succ, Act.put, List.setIfInBounds_toArray, List.set_cons_zero, List.set_cons_succ]
          refine wpAnyR_take (i := 52) (v := (.bool false)) rfl rfl (by kernel_rfl) (by kernel_rfl) (by kernel_rfl) (fun _ _ _ h => h) (Nat.le_refl _) ⟨by rfl, fun w _ => (by go_simp; try (first | rfl | omega)), fun _ => rfl⟩ hS ?_
          simp only [List.getElem_toArray, List.getElem_cons_zero, List.getElem_cons_succ, Act.put, List.setIfInBounds_toArray, List.set_cons_zero, List.set_cons_succ]
          refine wpAnyG_done (by kernel_rfl) ?_ _
          obtain ⟨hW8', hR8, hB8⟩ := HZ.out
          go_wp2
          go_roundw
          case rel => exact ⟨k + 1, s1, by omega, by go_num, hok1, hW8'.call hS.below, hR8.below hS.below, hB8.trans (hS.below.mono hB8.size)⟩
          case measure => simp [intOf]; omega
        · have hN0 : 0 < N := of_decide_eq_true hb2.symm
          have e28 : decide ((0 : Int) < N) = true := decide_eq_true (by omega)
          have e28b : decide (0 < N) = true := decide_eq_true hN0
          obtain ⟨rfl, lbn⟩ : AL = some ⟨bL, oL, none⟩ ∧ bL < nL := by rcases hL4 with ⟨_, h0⟩ | h0; omega; exact h0
          have hk0 : s1.l[0]? = some t := by rw [← ht, nx_some (by rw [HN.out]; exact hN0)]; exact kth_get (by rw [HN.out]; exact hN0)
          obtain ⟨z0, z1⟩ := hL5.cell 0 t hk0
          simp only [Nat.zero_mul, Nat.add_zero] at z0 z1
          have lbL : bL < w8.heap.size := by omega
          have hEq := fun w => tm_eq t t w
          rw [decide_eq_true rfl] at hEq
          clear hk0 ht hL4 hL5 hb1 hb2 hN
          refine region_mem (Mem.start w8) 53 rfl (by kernel_rfl) (fun wr0 hS => ?_)
          refine wpAnyR_take (i := 0) (v := (.bool true)) rfl rfl (by kernel_rfl) (by kernel_rfl) (by kernel_rfl) (fun _ _ _ h => h) (Nat.le_refl _) ⟨by rfl, fun w _ => (by go_simp; try (first | rfl | omega)), fun _ => rfl⟩ hS ?_
          simp only [List.getElem_toArray, List.getElem_cons_zero, List.getElem_cons_succ, Act.put, List.setIfInBounds_toArray, List.set_cons_zero, List.set_cons_succ]
          refine wpAnyR_take (i := 1) (v := (.bool false)) rfl rfl (by kernel_rfl) (by kernel_rfl) (by kernel_rfl) (fun _ _ _ h => h) (Nat.le_refl _) ⟨by rfl, fun w _ => (by go_simp; try (first | rfl | omega)), fun _ => rfl⟩ hS ?_
          simp only [List.getElem_toArray, List.getElem_cons_zero, List.getElem_cons_succ, Act.put, List.setIfInBounds_toArray, List.set_cons_zero, List.set_cons_succ]
          refine wpAnyR_take (i := 2) (v := (.bool false)) rfl rfl (by kernel_rfl) (by kernel_rfl) (by kernel_rfl) (fun _ _ _ h => h) (Nat.le_refl _) ⟨by rfl, fun w _ => (by go_simp; try (first | rfl | omega)), fun _ => rfl⟩ hS ?_
          simp only [List.getElem_toArray, List.getElem_cons_zero, List.getElem_cons_succ, Act.put, List.setIfInBounds_toArray, List.set_cons_zero, List.set_cons_succ]
          refine wpAnyR_take (i := 3) (v := (.pointer (some ⟨p, 0, none⟩))) rfl rfl (by kernel_rfl) (by kernel_rfl) (by kernel_rfl) (fun _ _ _ h => h) (Nat.le_refl _) ⟨by rfl, fun w _ => (by go_simp; try (first | rfl | omega)), fun _ => rfl⟩ hS ?_
          simp only [List.getElem_toArray, List.getElem_cons_zero, List.getElem_cons_succ, Act.put, List.setIfInBounds_toArray, List.set_cons_zero, List.set_cons_succ]
          refine wpAnyR_take (i := 5) (v := (.pointer (some ⟨q, 0, none⟩))) rfl rfl (by kernel_rfl) (by kernel_rfl) (by kernel_rfl) (fun _ _ _ h => h) (Nat.le_refl _) ⟨by rfl, fun w _ => (by go_simp; try (first | rfl | omega)), fun _ => rfl⟩ hS ?_
          simp only [List.getElem_toArray, List.getElem_cons_zero, List.getElem_cons_succ, Act.put, List.setIfInBounds_toArray, List.set_cons_zero, List.set_cons_succ]
          refine wpAnyR_take (i := 6) (v := (.pointer (some ⟨q, 0, none⟩))) rfl rfl (by kernel_rfl) (by kernel_rfl) (by kernel_rfl) (fun _ _ _ h => h) (Nat.le_refl _) ⟨by rfl, fun w _ => (by go_simp; try (first | rfl | omega)), fun _ => rfl⟩ hS ?_
          simp only [List.getElem_toArray, List.getElem_cons_zero, List.getElem_cons_succ, Act.put, List.setIfInBounds_toArray, List.set_cons_zero, List.set_cons_succ]
          refine wpAnyR_take (i := 7) (v := (.pointer (some ⟨q, 1, none⟩))) rfl rfl (by kernel_rfl) (by kernel_rfl) (by kernel_rfl) (fun _ _ _ h => h) (Nat.le_refl _) ⟨by rfl, fun w _ => (by go_simp; try (first | rfl | omega)), fun _ => rfl⟩ hS ?_
          simp only [List.getElem_toArray, List.getElem_cons_zero, List.getElem_cons_succ, Act.put, List.setIfInBounds_toArray, List.set_cons_zero, List.set_cons_succ]
          refine wpAnyR_take (i := 8) (v := (.int .u64 s1.clk)) rfl rfl (by kernel_rfl) (by kernel_rfl) (by kernel_rfl) (fun _ _ _ h => h) (Nat.le_refl _) (yields_old q1 lq8 (by exact rfl) (by exact rfl) (by exact rfl) Try.underlying22 rfl) hS ?_
          simp only [List.getElem_toArray, List.getElem_cons_zero, List.getElem_cons_succ, Act.put, List.setIfInBounds_toArray, List.set_cons_zero, List.set_cons_succ]
          refine wpAnyG_one (i := 4) (by kernel_rfl) rfl (fun K hK => ?_)
          go_simp
          refine ⟨trivial, (callsIn_wide.2 (now_p _ p m s1 (hW8.call hS.below))).mono ?_⟩
          rintro e w9 ⟨rfl, rfl⟩
          refine hK _ _ (.inr hS) ?_
          clear hK K
          try simp only [List.getElem_toArray, List.getElem_cons_zero, List.getElem_cons_succ, Act.put, List.setIfInBounds_toArray, List.set_cons_zero, List.set_cons_succ]
          refine wpAnyR_take (i := 9) (v := (.bool false)) rfl rfl (by kernel_rfl) (by kernel_rfl) (by kernel_rfl) (fun _ _ _ h => h) (Nat.le_refl _) ⟨by rfl, fun w _ => (by go_simp; try (first | rfl | omega)), fun _ => rfl⟩ hS ?_
          simp only [List.getElem_toArray, List.getElem_cons_zero, List.getElem_cons_succ, Act.put, List.setIfInBounds_toArray, List.set_cons_zero, List.set_cons_succ]
          refine wpAnyR_take (i := 10) (v := (.bool false)) rfl rfl (by kernel_rfl) (by kernel_rfl) (by kernel_rfl) (fun _ _ _ h => h) (Nat.le_refl _) ⟨by rfl, fun w _ => (by go_simp; try (first | rfl | omega)), fun _ => rfl⟩ hS ?_
          simp only [List.getElem_toArray, List.getElem_cons_zero, List.getElem_cons_succ, Act.put, List.setIfInBounds_toArray, List.set_cons_zero, List.set_cons_succ]
          refine wpAnyR_take (i := 11) (v := (.bool false)) rfl rfl (by kernel_rfl) (by kernel_rfl) (by kernel_rfl) (fun _ _ _ h => h) (Nat.le_refl _) ⟨by rfl, fun w _ => (by go_simp; try (first | rfl | omega)), fun _ => rfl⟩ hS ?_
          simp only [List.getElem_toArray, List.getElem_cons_zero, List.getElem_cons_succ, Act.put, List.setIfInBounds_toArray, List.set_cons_zero, List.set_cons_succ]
          refine wpAnyR_take (i := 12) (v := (.pointer (some ⟨p, 0, none⟩))) rfl rfl (by kernel_rfl) (by kernel_rfl) (by kernel_rfl) (fun _ _ _ h => h) (Nat.le_refl _) ⟨by rfl, fun w _ => (by go_simp; try (first | rfl | omega)), fun _ => rfl⟩ hS ?_
          simp only [List.getElem_toArray, List.getElem_cons_zero, List.getElem_cons_succ, Act.put, List.setIfInBounds_toArray, List.set_cons_zero, List.set_cons_succ]
          refine wpAnyR_take (i := 14) (v := (.pointer (some ⟨q, 0, none⟩))) rfl rfl (by kernel_rfl) (by kernel_rfl) (by kernel_rfl) (fun _ _ _ h => h) (Nat.le_refl _) ⟨by rfl, fun w _ => (by go_simp; try (first | rfl | omega)), fun _ => rfl⟩ hS ?_
          simp only [List.getElem_toArray, List.getElem_cons_zero, List.getElem_cons_succ, Act.put, List.setIfInBounds_toArray, List.set_cons_zero, List.set_cons_succ]
          refine wpAnyR_take (i := 15) (v := (.pointer (some ⟨q, 0, none⟩))) rfl rfl (by kernel_rfl) (by kernel_rfl) (by kernel_rfl) (fun _ _ _ h => h) (Nat.le_refl _) ⟨by rfl, fun w _ => (by go_simp; try (first | rfl | omega)), fun _ => rfl⟩ hS ?_
          simp only [List.getElem_toArray, List.getElem_cons_zero, List.getElem_cons_succ, Act.put, List.setIfInBounds_toArray, List.set_cons_zero, List.set_cons_succ]
          refine wpAnyR_take (i := 16) (v := (.pointer (some ⟨q, 0, none⟩))) rfl rfl (by kernel_rfl) (by kernel_rfl) (by kernel_rfl) (fun _ _ _ h => h) (Nat.le_refl _) ⟨by rfl, fun w _ => (by go_simp; try (first | rfl | omega)), fun _ => rfl⟩ hS ?_
          simp only [List.getElem_toArray, List.getElem_cons_zero, List.getElem_cons_succ, Act.put, List.setIfInBounds_toArray, List.set_cons_zero, List.set_cons_succ]
          refine wpAnyR_take (i := 17) (v := (.slice (some ⟨bL, oL, none⟩) N capL)) rfl rfl (by kernel_rfl) (by kernel_rfl) (by kernel_rfl) (fun _ _ _ h => h) (Nat.le_refl _) (yields_old q0 lq8 (by exact rfl) (by exact rfl) (by exact rfl) Try.underlying28 rfl) hS ?_
          simp only [List.getElem_toArray, List.getElem_cons_zero, List.getElem_cons_succ, Act.put, List.setIfInBounds_toArray, List.set_cons_zero, List.set_cons_succ]
          refine wpAnyG_one (i := 13) (by kernel_rfl) rfl (fun K hK => ?_)
          go_simp
          refine ⟨trivial, (callsIn_wide.2 (all_p _ p m s1 (hW8.call hS.below) hok1)).mono ?_⟩
          rintro e w10 ⟨v10, rfl, hR10, hB10⟩
          rw [HN.out] at hR10
          obtain ⟨a10, c10, rfl⟩ := ownsRow_len hR10
          have hS10 := hS.call hB10
          clear hS hB10
          have hS := hS10
          clear hS10
          refine hK _ _ (.inr hS) ?_
          clear hK K
          try simp only [List.getElem_toArray, List.getElem_cons_zero, List.getElem_cons_succ, Act.put, List.setIfInBounds_toArray, List.set_cons_zero, List.set_cons_succ]
          refine wpAnyG_one (i := 18) (by kernel_rfl) rfl (fun K hK => ?_)
          go_simp
          refine ⟨trivial, (callsIn_wide.2 (same_r _ w10.heap.size nL _ _ s1.l s1.l (SlT.of_row (by rw [HN.out]; exact hR10)) (hsl.below hS.below hnl) (Nat.le_refl _) (Nat.le_trans hnl hS.below.size))).mono ?_⟩
          rintro e w11 ⟨rfl, hB11⟩
          rw [decide_eq_true rfl]
          have hS11 := hS.call hB11
          clear hS hB11 hR10
          have hS := hS11
          clear hS11
          refine hK _ _ (.inr hS) ?_
          clear hK K
          try simp only [List.getElem_toArray, List.getElem_cons_zero, List.getElem_cons_succ, Act.put, List.setIfInBounds_toArray, List.set_cons_zero, List.set_cons_succ]
          refine wpAnyR_take (i := 19) (v := (.bool false)) rfl rfl (by kernel_rfl) (by kernel_rfl) (by kernel_rfl) (fun _ _ _ h => h) (Nat.le_refl _) ⟨by rfl, fun w _ => (by go_simp; try (first | rfl | omega)), fun _ => rfl⟩ hS ?_
          simp only [List.getElem_toArray, List.getElem_cons_zero, List.getElem_cons_succ, Act.put, List.setIfInBounds_toArray, List.set_cons_zero, List.set_cons_succ]
          refine wpAnyR_take (i := 20) (v := (.bool false)) rfl rfl (by kernel_rfl) (by kernel_rfl) (by kernel_rfl) (fun _ _ _ h => h) (Nat.le_refl _) ⟨by rfl, fun w _ => (by go_simp; try (first | rfl | omega)), fun _ => rfl⟩ hS ?_
          simp only [List.getElem_toArray, List.getElem_cons_zero, List.getElem_cons_succ, Act.put, List.setIfInBounds_toArray, List.set_cons_zero, List.set_cons_succ]
          refine wpAnyR_take (i := 21) (v := (.bool false)) rfl rfl (by kernel_rfl) (by kernel_rfl) (by kernel_rfl) (fun _ _ _ h => h) (Nat.le_refl _) ⟨by rfl, fun w _ => (by go_simp; try (first | rfl | omega)), fun _ => rfl⟩ hS ?_
          simp only [List.getElem_toArray, List.getElem_cons_zero, List.getElem_cons_succ, Act.put, List.setIfInBounds_toArray, List.set_cons_zero, List.set_cons_succ]
          refine wpAnyR_take (i := 22) (v := (.bool true)) rfl rfl (by kernel_rfl) (by kernel_rfl) (by kernel_rfl) (fun _ _ _ h => h) (Nat.le_refl _) ⟨by rfl, fun w _ => (by go_simp; try (first | rfl | omega)), fun _ => rfl⟩ hS ?_
          simp only [List.getElem_toArray, List.getElem_cons_zero, List.getElem_cons_succ, Act.put, List.setIfInBounds_toArray, List.set_cons_zero, List.set_cons_succ]
          refine wpAnyR_take (i := 23) (v := (.pointer (some ⟨q, 0, none⟩))) rfl rfl (by kernel_rfl) (by kernel_rfl) (by kernel_rfl) (fun _ _ _ h => h) (Nat.le_refl _) ⟨by rfl, fun w _ => (by go_simp; try (first | rfl | omega)), fun _ => rfl⟩ hS ?_
          simp only [List.getElem_toArray, List.getElem_cons_zero, List.getElem_cons_succ, Act.put, List.setIfInBounds_toArray, List.set_cons_zero, List.set_cons_succ]
          refine wpAnyR_take (i := 24) (v := (.pointer (some ⟨q, 0, none⟩))) rfl rfl (by kernel_rfl) (by kernel_rfl) (by kernel_rfl) (fun _ _ _ h => h) (Nat.le_refl _) ⟨by rfl, fun w _ => (by go_simp; try (first | rfl | omega)), fun _ => rfl⟩ hS ?_
          simp only [List.getElem_toArray, List.getElem_cons_zero, List.getElem_cons_succ, Act.put, List.setIfInBounds_toArray, List.set_cons_zero, List.set_cons_succ]
          refine wpAnyR_take (i := 25) (v := (.pointer (some ⟨q, 0, none⟩))) rfl rfl (by kernel_rfl) (by kernel_rfl) (by kernel_rfl) (fun _ _ _ h => h) (Nat.le_refl _) ⟨by rfl, fun w _ => (by go_simp; try (first | rfl | omega)), fun _ => rfl⟩ hS ?_
          simp only [List.getElem_toArray, List.getElem_cons_zero, List.getElem_cons_succ, Act.put, List.setIfInBounds_toArray, List.set_cons_zero, List.set_cons_succ]
          refine wpAnyR_take (i := 26) (v := (.slice (some ⟨bL, oL, none⟩) N capL)) rfl rfl (by kernel_rfl) (by kernel_rfl) (by kernel_rfl) (fun _ _ _ h => h) (Nat.le_refl _) (yields_old q0 lq8 (by exact rfl) (by exact rfl) (by exact rfl) Try.underlying28 rfl) hS ?_
          simp only [List.getElem_toArray, List.getElem_cons_zero, List.getElem_cons_succ, Act.put, List.setIfInBounds_toArray, List.set_cons_zero, List.set_cons_succ]
          refine wpAnyR_take (i := 27) (v := (.int .i64 (N : Int))) rfl rfl (by kernel_rfl) (by kernel_rfl) (by kernel_rfl) (fun _ _ _ h => h) (Nat.le_refl _) ⟨by rfl, fun w _ => (by go_simp; try (first | rfl | omega)), fun _ => rfl⟩ hS ?_
          simp only [List.getElem_toArray, List.getElem_cons_zero, List.getElem_cons_succ, Act.put, List.setIfInBounds_toArray, List.set_cons_zero, List.set_cons_succ]
          refine wpAnyR_take (i := 28) (v := (.bool true)) rfl rfl (by kernel_rfl) (by kernel_rfl) (by kernel_rfl) (fun _ _ _ h => h) (Nat.le_refl _) ⟨by rfl, fun w _ => (by go_simp; try (first | rfl | omega)), fun _ => rfl⟩ hS ?_
          simp only [List.getElem_toArray, List.getElem_cons_zero, List.getElem_cons_succ, Act.put, List.setIfInBounds_toArray, List.set_cons_zero, List.set_cons_succ]
          refine wpAnyR_take (i := 29) (v := (.bool false)) rfl rfl (by kernel_rfl) (by kernel_rfl) (by kernel_rfl) (fun _ _ _ h => h) (Nat.le_refl _) ⟨by rfl, fun w _ => (by go_simp; try (first | rfl | omega)), fun _ => rfl⟩ hS ?_
          simp only [List.getElem_toArray, List.getElem_cons_zero, List.getElem_cons_succ, Act.put, List.setIfInBounds_toArray, List.set_cons_zero, List.set_cons_succ]
          refine wpAnyR_take (i := 30) (v := (.bool false)) rfl rfl (by kernel_rfl) (by kernel_rfl) (by kernel_rfl) (fun _ _ _ h => h) (Nat.le_refl _) ⟨by rfl, fun w _ => (by go_simp; try (first | rfl | omega)), fun _ => rfl⟩ hS ?_
          simp only [List.getElem_toArray, List.getElem_cons_zero, List.getElem_cons_succ, Act.put, List.setIfInBounds_toArray, List.set_cons_zero, List.set_cons_succ]
          refine wpAnyR_take (i := 31) (v := (.bool false)) rfl rfl (by kernel_rfl) (by kernel_rfl) (by kernel_rfl) (fun _ _ _ h => h) (Nat.le_refl _) ⟨by rfl, fun w _ => (by go_simp; try (first | rfl | omega)), fun _ => rfl⟩ hS ?_
          simp only [List.getElem_toArray, List.getElem_cons_zero, List.getElem_cons_succ, Act.put, List.setIfInBounds_toArray, List.set_cons_zero, List.set_cons_succ]
          refine wpAnyR_take (i := 32) (v := (.bool true)) rfl rfl (by kernel_rfl) (by kernel_rfl) (by kernel_rfl) (fun _ _ _ h => h) (Nat.le_refl _) ⟨by rfl, fun w _ => (by go_simp; try (first | rfl | omega)), fun _ => rfl⟩ hS ?_
          simp only [List.getElem_toArray, List.getElem_cons_zero, List.getElem_cons_succ, Act.put, List.setIfInBounds_toArray, List.set_cons_zero, List.set_cons_succ]
          refine wpAnyR_take (i := 33) (v := (.bool true)) rfl rfl (by kernel_rfl) (by kernel_rfl) (by kernel_rfl) (fun _ _ _ h => h) (Nat.le_refl _) ⟨by rfl, fun w _ => (by go_simp; try (first | rfl | omega)), fun _ => rfl⟩ hS ?_
          simp only [List.getElem_toArray, List.getElem_cons_zero, List.getElem_cons_succ, Act.put, List.setIfInBounds_toArray, List.set_cons_zero, List.set_cons_succ]
          refine wpAnyR_take (i := 34) (v := (tm t)) rfl rfl (by kernel_rfl) (by kernel_rfl) (by kernel_rfl) (fun _ _ _ h => h) (Nat.le_refl _) ⟨by rfl, fun w hR => (by have y0 := (Mem.old hR (p := ⟨bt, 0, none⟩) lbt).trans t0; have y1 := (Mem.old hR (p := ⟨bt, 1, none⟩) lbt).trans t1; go_simp; try rfl), fun _ => rfl⟩ hS ?_
          simp only [List.getElem_toArray, List.getElem_cons_zero, List.getElem_cons_succ, Act.put, List.setIfInBounds_toArray, List.set_cons_zero, List.set_cons_succ]
          refine wpAnyR_take (i := 35) (v := (.pointer (some ⟨q, 0, none⟩))) rfl rfl (by kernel_rfl) (by kernel_rfl) (by kernel_rfl) (fun _ _ _ h => h) (Nat.le_refl _) ⟨by rfl, fun w _ => (by go_simp; try (first | rfl | omega)), fun _ => rfl⟩ hS ?_
          simp only [List.getElem_toArray, List.getElem_cons_zero, List.getElem_cons_succ, Act.put, List.setIfInBounds_toArray, List.set_cons_zero, List.set_cons_succ]
          refine wpAnyR_take (i := 36) (v := (.pointer (some ⟨q, 0, none⟩))) rfl rfl (by kernel_rfl) (by kernel_rfl) (by kernel_rfl) (fun _ _ _ h => h) (Nat.le_refl _) ⟨by rfl, fun w _ => (by go_simp; try (first | rfl | omega)), fun _ => rfl⟩ hS ?_
          simp only [List.getElem_toArray, List.getElem_cons_zero, List.getElem_cons_succ, Act.put, List.setIfInBounds_toArray, List.set_cons_zero, List.set_cons_succ]
          refine wpAnyR_take (i := 37) (v := (.pointer (some ⟨q, 0, none⟩))) rfl rfl (by kernel_rfl) (by kernel_rfl) (by kernel_rfl) (fun _ _ _ h => h) (Nat.le_refl _) ⟨by rfl, fun w _ => (by go_simp; try (first | rfl | omega)), fun _ => rfl⟩ hS ?_
          simp only [List.getElem_toArray, List.getElem_cons_zero, List.getElem_cons_succ, Act.put, List.setIfInBounds_toArray, List.set_cons_zero, List.set_cons_succ]
          refine wpAnyR_take (i := 38) (v := (.slice (some ⟨bL, oL, none⟩) N capL)) rfl rfl (by kernel_rfl) (by kernel_rfl) (by kernel_rfl) (fun _ _ _ h => h) (Nat.le_refl _) (yields_old q0 lq8 (by exact rfl) (by exact rfl) (by exact rfl) Try.underlying28 rfl) hS ?_
          simp only [List.getElem_toArray, List.getElem_cons_zero, List.getElem_cons_succ, Act.put, List.setIfInBounds_toArray, List.set_cons_zero, List.set_cons_succ]
          refine wpAnyR_take (i := 39) (v := (.pointer (some ⟨bL, oL, none⟩))) rfl rfl (by kernel_rfl) (by kernel_rfl) (by kernel_rfl) (fun _ _ _ h => h) (Nat.le_refl _) ⟨by rfl, fun w _ => (by go_simp; try (first | rfl | omega)), fun _ => rfl⟩ hS ?_
          simp only [List.getElem_toArray, List.getElem_cons_zero, List.getElem_cons_succ, Act.put, List.setIfInBounds_toArray, List.set_cons_zero, List.set_cons_succ]
          refine wpAnyR_take (i := 40) (v := (tm t)) rfl rfl (by kernel_rfl) (by kernel_rfl) (by kernel_rfl) (fun _ _ _ h => h) (Nat.le_refl _) ⟨by rfl, fun w hR => (by have y0 := (Mem.old hR (p := ⟨bL, oL, none⟩) lbL).trans z0; have y1 := (Mem.old hR (p := ⟨bL, oL + 1, none⟩) lbL).trans z1; go_simp; try rfl), fun _ => rfl⟩ hS ?_
          simp only [List.getElem_toArray, List.getElem_cons_zero, List.getElem_cons_succ, Act.put, List.setIfInBounds_toArray, List.set_cons_zero, List.set_cons_succ]
          refine wpAnyR_take (i := 41) (v := (.bool false)) rfl rfl (by kernel_rfl) (by kernel_rfl) (by kernel_rfl) (fun _ _ _ h => h) (Nat.le_refl _) ⟨by rfl, fun w _ => (by go_simp; try (first | rfl | omega)), fun _ => rfl⟩ hS ?_
          simp only [List.getElem_toArray, List.getElem_cons_zero, List.getElem_cons_succ, Act.put, List.setIfInBounds_toArray, List.set_cons_zero, List.set_cons_succ]
          refine wpAnyR_take (i := 42) (v := (.bool false)) rfl rfl (by kernel_rfl) (by kernel_rfl) (by kernel_rfl) (fun _ _ _ h => h) (Nat.le_refl _) ⟨by rfl, fun w _ => (by go_simp; try (first | rfl | omega)), fun _ => rfl⟩ hS ?_
          simp only [List.getElem_toArray, List.getElem_cons_zero, List.getElem_cons_succ, Act.put, List.setIfInBounds_toArray, List.set_cons_zero, List.set_cons_succ]
          refine wpAnyR_take (i := 43) (v := (.bool false)) rfl rfl (by kernel_rfl) (by kernel_rfl) (by kernel_rfl) (fun _ _ _ h => h) (Nat.le_refl _) ⟨by rfl, fun w _ => (by go_simp; try (first | rfl | omega)), fun _ => rfl⟩ hS ?_
          simp only [List.getElem_toArray, List.getElem_cons_zero, List.getElem_cons_succ, Act.put, List.setIfInBounds_toArray, List.set_cons_zero, List.set_cons_succ]
          refine wpAnyR_take (i := 44) (v := (.bool false)) rfl rfl (by kernel_rfl) (by kernel_rfl) (by kernel_rfl) (fun _ _ _ h => h) (Nat.le_refl _) ⟨by rfl, fun w _ => (by go_simp; try (first | rfl | omega)), fun _ => rfl⟩ hS ?_
          simp only [List.getElem_toArray, List.getElem_cons_zero, List.getElem_cons_succ, Act.put, List.setIfInBounds_toArray, List.set_cons_zero, List.set_cons_succ]
          refine wpAnyR_take (i := 45) (v := (.bool true)) rfl rfl (by kernel_rfl) (by kernel_rfl) (by kernel_rfl) (fun _ _ _ h => h) (Nat.le_refl _) ⟨by rfl, fun w _ => (by go_simp; try (first | rfl | omega)), fun _ => rfl⟩ hS ?_
          simp only [List.getElem_toArray, List.getElem_cons_zero, List.getElem_cons_succ, Act.put, List.setIfInBounds_toArray, List.set_cons_zero, List.set_cons_succ]
          refine wpAnyR_take (i := 46) (v := (.bool false)) rfl rfl (by kernel_rfl) (by kernel_rfl) (by kernel_rfl) (fun _ _ _ h => h) (Nat.le_refl _) ⟨by rfl, fun w _ => (by go_simp; try (first | rfl | omega)), fun _ => rfl⟩ hS ?_
          simp only [List.getElem_toArray, List.getElem_cons_zero, List.getElem_cons_succ, Act.put, List.setIfInBounds_toArray, List.set_cons_zero, List.set_cons_succ]
          refine wpAnyR_take (i := 47) (v := (.bool false)) rfl rfl (by kernel_rfl) (by kernel_rfl) (by kernel_rfl) (fun _ _ _ h => h) (Nat.le_refl _) ⟨by rfl, fun w _ => (by go_simp; try (first | rfl | omega)), fun _ => rfl⟩ hS ?_
          simp only [List.getElem_toArray, List.getElem_cons_zero, List.getElem_cons_succ, Act.put, List.setIfInBounds_toArray, List.set_cons_zero, List.set_cons_succ]
          refine wpAnyU_take (i := 48) rfl (fun _ => trivial) rfl (by kernel_rfl) (by kernel_rfl) (by kernel_rfl) (fun _ _ _ h => h) (Nat.le_refl _) (by rfl) hS ?_
          simp only [List.getElem_toArray, List.getElem_cons_zero, List.getElem_cons_succ, Act.put, List.setIfInBounds_toArray, List.set_cons_zero, List.set_cons_succ]
          refine wpAnyU_take (i := 49) rfl (fun _ => trivial) rfl (by kernel_rfl) (by kernel_rfl) (by kernel_rfl) (fun _ _ _ h => h) (Nat.le_refl _) (by rfl) hS ?_
          simp only [List.getElem_toArray, List.getElem_cons_zero, List.getElem_cons_succ, Act.put, List.setIfInBounds_toArray, List.set_cons_zero, List.set_cons_succ]
          refine wpAnyU_take (i := 50) rfl (fun _ => trivial) rfl (by kernel_rfl) (by kernel_rfl) (by kernel_rfl) (fun _ _ _ h => h) (Nat.le_refl _) (by rfl) hS ?_
          simp only [List.getElem_toArray, List.getElem_cons_zero, List.getElem_cons_succ, Act.put, List.setIfInBounds_toArray, List.set_cons_zero, List.set_cons_succ]
          refine wpAnyR_take (i := 51) (v := (.bool false)) rfl rfl (by kernel_rfl) (by kernel_rfl) (by kernel_rfl) (fun _ _ _ h => h) (Nat.le_refl _) ⟨by rfl, fun w _ => (by go_simp; try (first | rfl | omega)), fun _ => rfl⟩ hS ?_
          simp only [List.getElem_toArray, List.getElem_cons_zero, List.getElem_cons_succ, Act.put, List.setIfInBounds_toArray, List.set_cons_zero, List.set_cons_succ]
          refine wpAnyR_take (i := 52) (v := (.bool false)) rfl rfl (by kernel_rfl) (by kernel_rfl) (by kernel_rfl) (fun _ _ _ h => h) (Nat.le_refl _) ⟨by rfl, fun w _ => (by go_simp; try (first | rfl | omega)), fun _ => rfl⟩ hS ?_
          simp only [List.getElem_toArray, List.getElem_cons_zero, List.getElem_cons_succ, Act.put, List.setIfInBounds_toArray, List.set_cons_zero, List.set_cons_succ]
          refine wpAnyG_done (by kernel_rfl) ?_ _
          obtain ⟨hW8', hR8, hB8⟩ := HZ.out
          go_wp2
          go_roundw
          case rel => exact ⟨k + 1, s1, by omega, by go_num, hok1, hW8'.call hS.below, hR8.below hS.below, hB8.trans (hS.below.mono hB8.size)⟩
          case measure => simp [intOf]; omega
    · have hkm : k = min len 60 := by omega
      have hB9 := Lib.hid hB
      clear HA hW hR hok hB
      by_cases h1 : k < len
      · have e1 : decide ((k : Int) < len) = true := decide_eq_true (by omega)
        have e2 : decide ((k : Int) < 60) = false := decide_eq_false (by omega)
        clear hkm hlt hk
        go_wp2
        go_ret
        exact ⟨rfl, hB9.out⟩
      · have e1 : decide ((k : Int) < len) = false := decide_eq_false (by omega)
        clear hkm hlt hk
        go_wp2
        go_ret
        exact ⟨rfl, hB9.out⟩
end Go.Proofs.Ytbnfjppidmiheaa
