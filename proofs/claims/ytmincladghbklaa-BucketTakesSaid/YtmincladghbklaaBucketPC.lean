/-
  Contracts of bucket.filling, of the closure that it makes, and of bucket.Fill. Conditions: those that each theorem names.
-/
import Derived.Test.YtmincladghbklaaBucketPBz
namespace Go.Proofs.Ytmincladghbklaa
set_option linter.unusedSimpArgs false
set_option linter.unusedVariables false
open Go.ChangeShapes Go.WideShapes Go.ChangeAt Go.RowKit

theorem Mem.join {w0 W W' : World} {l l' : List (Nat × TypeId × Array Value)} (h : Mem w0 W l) (h' : Mem W W' l') : Mem w0 W' (l ++ l') :=
  ⟨h.below.trans (h'.below.mono h.below.size), fun p hp => by
    rcases List.mem_append.1 hp with hp | hp
    · exact ⟨(h.held p hp).1, (h.held p hp).2.below h'.below (h.held p hp).2.lt⟩
    · exact ⟨Nat.le_trans h.below.size (h'.held p hp).1, (h'.held p hp).2⟩,
   List.pairwise_append.2 ⟨h.inc, h'.inc, fun p hp q hq => by
    have h1 := (h.held p hp).2.lt
    have h2 := (h'.held q hq).1
    omega⟩⟩
/-- what multiplying makes, out of the boxes of the factor and of what is added -/
abbrev mulV (bf bp : Nat) : Value := .func (.func 37) #[] #[.pointer (some ⟨bf, 0, none⟩), .pointer (some ⟨bp, 0, none⟩)]
/-- what filling makes, out of the boxes of what multiplies and of the bucket -/
abbrev fillC (p q : Nat) : Value := .func (.func 31) #[] #[.pointer (some ⟨p, 0, none⟩), .pointer (some ⟨q, 0, none⟩)]
theorem infoTP : (Try.prog.info? 55).map (·.size) = some 1 := by kernel_rfl
theorem infoTF : (Try.prog.info? 48).map (·.size) = some 1 := by kernel_rfl
theorem multiplying_m (f p : Int) (w : World) : Calls Try.prog 30 #[.int .u64 f, .int .u64 p] w fun e w' => ∃ bf bp, e = .returned (mulV bf bp) ∧ Mem w w' [(bf, 22, #[.int .u64 f]), (bp, 22, #[.int .u64 p])] := by
  refine (multiplying_p f p w).mono ?_
  rintro e w' ⟨rfl, rfl⟩
  have h := ((Mem.start w).alloc 22 #[.int .u64 f]).alloc 22 #[.int .u64 p]
  rw [World.size_alloc] at h
  exact ⟨_, _, rfl, h⟩
/-- a closure that fills, with all that it has taken -/
abbrev fillL (b : BK) (q bf bp p : Nat) : List (Nat × TypeId × Array Value) := [(q, 24, bkc b), (bf, 22, #[.int .u64 b.rate]), (bp, 22, #[.int .u64 b.rem]), (p, 55, #[mulV bf bp])]
set_option maxRecDepth 4000 in
set_option maxHeartbeats 4000000 in
theorem filling_p (b : BK) (w : World) : Calls Try.prog 26 #[bk b] w fun e w' => ∃ q bf bp p, e = .returned (fillC p q) ∧ Mem w w' (fillL b q bf bp p) := by
  have H := Mem.start w
  go_enter Try.func26, Try.ntmps26
  go_upto_region 1 with (first
    | ((with_reducible show wpList _ _ _ _ _ (World.alloc _ (.cells _ _))); refine mem_newb H ?_; intro q w3 hbk H2; try rw [← hbk]; clear hbk H; have H := H2; clear H2; simp only [List.cons_append, List.nil_append, List.set_cons_zero, List.set_cons_succ, List.setIfInBounds_toArray] at H))
  go_wp2_with (first
    | go_skip
    | ((with_reducible show wpList _ _ _ _ _ (World.alloc _ (.cells _ _))); refine mem_newb H ?_; intro p w3 hbk H2; try rw [← hbk]; clear hbk H; have H := H2; clear H2; simp only [List.cons_append, List.nil_append, List.set_cons_zero, List.set_cons_succ, List.setIfInBounds_toArray] at H)
    | ((with_reducible show wpList _ _ _ (⟨_, .load _ _, _, _, _, _⟩ :: _) _ _); refine mem_loadf (i := 0) H (by first | exact wanted_none rfl | exact wanted_some rfl rfl rfl rfl) (by exact rfl) (by exact rfl) (by exact rfl) (by first | exact Try.underlying22 | exact Try.underlying2 | exact Try.underlying55 | exact Try.underlying48) rfl (by exact rfl) ?_)
    | (go_at_call 30; refine (multiplying_m _ _ _).mono ?_; rintro e w2 ⟨bf, bp, rfl, hm⟩; have H2 := H.join hm; clear H hm; have H := H2; clear H2; simp only [List.cons_append, List.nil_append, List.set_cons_zero, List.set_cons_succ, List.setIfInBounds_toArray] at H)
    | ((with_reducible show wpList _ _ _ (⟨_, .store _ _ _, _, _, _, _⟩ :: _) _ _); refine mem_storef (i := 3) H (by first | exact wanted_none rfl | exact wanted_some rfl rfl rfl rfl) (by exact rfl) (by exact rfl) (by exact rfl) (by exact rfl) (by first | exact infoW64 | exact infoI64 | exact infoTP | exact infoTF) (by exact rfl) (by exact rfl) ?_; intro w2 H2; clear H; have H := H2; clear H2; simp only [List.cons_append, List.nil_append, List.set_cons_zero, List.set_cons_succ, List.setIfInBounds_toArray] at H))
  go_ret
  exact ⟨_, _, _, _, rfl, H⟩
set_option maxRecDepth 4000 in
set_option maxHeartbeats 4000000 in
theorem filling1_p (b : BK) (now : Int) (hk : b.Ok) (h1 : b.at_ ≤ now) (h2 : now ≤ 9223372036854775807) (q bf bp p : Nat) (w : World) (gq : Held w q 24 (bkc b)) (gf : Held w bf 22 #[.int .u64 b.rate]) (gr : Held w bp 22 #[.int .u64 b.rem]) (gp : Held w p 55 #[mulV bf bp]) :
    Calls Try.prog 31 #[.int .u64 now, .pointer (some ⟨p, 0, none⟩), .pointer (some ⟨q, 0, none⟩)] w fun e w' => e = .returned (bk (b.fill now)) ∧ Below w.heap.size w w' := by
  have ha := hk.at_
  have hrt := hk.rate
  have hrm := hk.rem
  have hp0 : 0 ≤ b.rate * (now - b.at_) := Int.mul_nonneg hrt.1 (by omega)
  have hp1 : b.rate * (now - b.at_) ≤ 1099511627776 * 9223372036854775807 := Int.mul_le_mul hrt.2 (by omega) (by omega) (by omega)
  have hM := fun w => multiplying1_p b.rate b.rem (now - b.at_) (by omega) hrm (by omega) bf bp w
  have eg : b.rate * (now - b.at_) + b.rem = b.gain now := rfl
  rw [eg] at hM
  have hg0 : 0 ≤ b.gain now ∧ b.gain now ≤ 1099511627776 * 9223372036854775807 + 999999999 := by rw [← eg]; omega
  clear eg hp0 hp1
  have hb := hk.burst
  have hl := hk.level
  have hD := fun w => divided_p (b.gain now / 18446744073709551616) (b.gain now % 18446744073709551616) (by omega) (by omega) w
  obtain ⟨hi, hhi⟩ : ∃ x, b.gain now / 18446744073709551616 = x := ⟨_, rfl⟩
  obtain ⟨lo, hlo⟩ : ∃ x, b.gain now % 18446744073709551616 = x := ⟨_, rfl⟩
  rw [hhi, hlo] at hM hD
  have er : hi < 1000000000 → (hi % 1000000000 * 18446744073709551616 + lo) / 1000000000 = b.gain now / 1000000000 ∧ (hi % 1000000000 * 18446744073709551616 + lo) % 1000000000 = b.gain now % 1000000000 := by omega
  obtain ⟨Q, hQ⟩ : ∃ x, (hi % 1000000000 * 18446744073709551616 + lo) / 1000000000 = x := ⟨_, rfl⟩
  obtain ⟨R, hR⟩ : ∃ x, (hi % 1000000000 * 18446744073709551616 + lo) % 1000000000 = x := ⟨_, rfl⟩
  rw [hQ, hR] at hD er
  have qb : 0 ≤ Q ∧ Q ≤ 18446744073709551615 := by omega
  have eq : 1000000000 ≤ hi → b.burst ≤ b.level + b.gain now / 1000000000 := by omega
  have hib : 0 ≤ hi := by omega
  clear hQ hR hhi hlo hg0
  have H := Mem.start w
  by_cases hz : b.rate = 0
  · have z1 : (b.rate == 0) = true := by simpa using hz
    have hfu : b.fulls now = true := by simp [BK.fulls, hz]
    rw [BK.fill_full hfu]
    clear er eq
    go_enter Try.func31, Try.ntmps31
    go_wp2_with (first
      | go_skip
      | ((with_reducible show wpList _ _ _ _ _ (World.alloc _ (.cells _ _))); refine mem_new H ?_; intro w2 H2; clear H; have H := H2; clear H2; simp only [List.cons_append, List.nil_append, List.set_cons_zero, List.set_cons_succ, List.setIfInBounds_toArray] at H)
      | ((with_reducible show wpList _ _ _ (⟨_, .load 24 _, _, _, _, _⟩ :: _) _ _); refine load_held (gq.below H.below gq.lt) (by first | exact wanted_none rfl | exact wanted_some rfl rfl rfl rfl) (by exact rfl) (by exact rfl) Try.underlying24 rfl (by exact bkInfo) ?_)
      | ((with_reducible show wpList _ _ _ (⟨_, .load _ _, _, _, _, _⟩ :: _) _ _); refine load_fld (Held.below gq H.below (Held.lt gq)) (by first | exact wanted_none rfl | exact wanted_some rfl rfl rfl rfl) (by exact rfl) (by exact rfl) (by first | exact Try.underlying22 | exact Try.underlying2 | exact Try.underlying55 | exact Try.underlying48) rfl (by exact rfl) ?_)
      | ((with_reducible show wpList _ _ _ (⟨_, .load _ _, _, _, _, _⟩ :: _) _ _); refine load_fld (Held.below gp H.below (Held.lt gp)) (by first | exact wanted_none rfl | exact wanted_some rfl rfl rfl rfl) (by exact rfl) (by exact rfl) (by first | exact Try.underlying22 | exact Try.underlying2 | exact Try.underlying55 | exact Try.underlying48) rfl (by exact rfl) ?_)
      | ((with_reducible show wpList _ _ _ (⟨_, .load 24 _, _, _, _, _⟩ :: _) _ _); refine mem_load (i := 1) H (by first | exact wanted_none rfl | exact wanted_some rfl rfl rfl rfl) (by exact rfl) (by exact rfl) (by exact rfl) Try.underlying24 rfl (by exact bkInfo) ?_)
      | ((with_reducible show wpList _ _ _ (⟨_, .store _ _ _, _, _, _, _⟩ :: _) _ _); refine mem_storef (i := 1) H (by first | exact wanted_none rfl | exact wanted_some rfl rfl rfl rfl) (by exact rfl) (by exact rfl) (by exact rfl) (by exact rfl) (by first | exact infoW64 | exact infoI64) (by exact rfl) (by exact rfl) ?_; intro w2 H2; clear H; have H := H2; clear H2; simp only [List.cons_append, List.nil_append, List.set_cons_zero, List.set_cons_succ, List.setIfInBounds_toArray] at H)
      | ((with_reducible show wpList _ _ _ (⟨_, .store 24 _ _, _, _, _, _⟩ :: _) _ _); refine mem_store (i := 0) H (by first | exact wanted_none rfl | exact wanted_some rfl rfl rfl rfl) (by exact rfl) (by exact rfl) (by exact rfl) (by exact rfl) (by exact bkInfo) (by exact rfl) (by exact rfl) ?_; intro w2 H2; clear H; have H := H2; clear H2; simp only [List.cons_append, List.nil_append, List.set_cons_zero, List.set_cons_succ, List.setIfInBounds_toArray] at H)
      | ((with_reducible show wpList _ _ _ (⟨_, .store 24 _ _, _, _, _, _⟩ :: _) _ _); refine mem_store (i := 1) H (by first | exact wanted_none rfl | exact wanted_some rfl rfl rfl rfl) (by exact rfl) (by exact rfl) (by exact rfl) (by exact rfl) (by exact bkInfo) (by exact rfl) (by exact rfl) ?_; intro w2 H2; clear H; have H := H2; clear H2; simp only [List.cons_append, List.nil_append, List.set_cons_zero, List.set_cons_succ, List.setIfInBounds_toArray] at H)
      | (go_at_call 37; refine (hM _ (gf.below H.below gf.lt) (gr.below H.below gr.lt)).mono ?_; rintro e w2 ⟨rfl, rfl⟩)
      | (go_at_call 32; refine (hD _).mono ?_; rintro e w2 ⟨rfl, rfl⟩))
    refine ret_held (H.at 0 rfl) (by exact rfl) (by exact rfl) Try.underlying24 rfl bkInfo ⟨?_, H.below⟩
    rfl
  have z1 : (b.rate == 0) = false := by simpa using hz
  by_cases hh : 1000000000 ≤ hi
  · have g1 : decide (1000000000 ≤ hi) = true := decide_eq_true hh
    have hfu : b.fulls now = true := by simp [BK.fulls, eq hh]
    clear hz
    rw [BK.fill_full hfu]
    clear er eq
    go_enter Try.func31, Try.ntmps31
    go_wp2_with (first
      | go_skip
      | ((with_reducible show wpList _ _ _ _ _ (World.alloc _ (.cells _ _))); refine mem_new H ?_; intro w2 H2; clear H; have H := H2; clear H2; simp only [List.cons_append, List.nil_append, List.set_cons_zero, List.set_cons_succ, List.setIfInBounds_toArray] at H)
      | ((with_reducible show wpList _ _ _ (⟨_, .load 24 _, _, _, _, _⟩ :: _) _ _); refine load_held (gq.below H.below gq.lt) (by first | exact wanted_none rfl | exact wanted_some rfl rfl rfl rfl) (by exact rfl) (by exact rfl) Try.underlying24 rfl (by exact bkInfo) ?_)
      | ((with_reducible show wpList _ _ _ (⟨_, .load _ _, _, _, _, _⟩ :: _) _ _); refine load_fld (Held.below gq H.below (Held.lt gq)) (by first | exact wanted_none rfl | exact wanted_some rfl rfl rfl rfl) (by exact rfl) (by exact rfl) (by first | exact Try.underlying22 | exact Try.underlying2 | exact Try.underlying55 | exact Try.underlying48) rfl (by exact rfl) ?_)
      | ((with_reducible show wpList _ _ _ (⟨_, .load _ _, _, _, _, _⟩ :: _) _ _); refine load_fld (Held.below gp H.below (Held.lt gp)) (by first | exact wanted_none rfl | exact wanted_some rfl rfl rfl rfl) (by exact rfl) (by exact rfl) (by first | exact Try.underlying22 | exact Try.underlying2 | exact Try.underlying55 | exact Try.underlying48) rfl (by exact rfl) ?_)
      | ((with_reducible show wpList _ _ _ (⟨_, .load 24 _, _, _, _, _⟩ :: _) _ _); refine mem_load (i := 1) H (by first | exact wanted_none rfl | exact wanted_some rfl rfl rfl rfl) (by exact rfl) (by exact rfl) (by exact rfl) Try.underlying24 rfl (by exact bkInfo) ?_)
      | ((with_reducible show wpList _ _ _ (⟨_, .store _ _ _, _, _, _, _⟩ :: _) _ _); refine mem_storef (i := 1) H (by first | exact wanted_none rfl | exact wanted_some rfl rfl rfl rfl) (by exact rfl) (by exact rfl) (by exact rfl) (by exact rfl) (by first | exact infoW64 | exact infoI64) (by exact rfl) (by exact rfl) ?_; intro w2 H2; clear H; have H := H2; clear H2; simp only [List.cons_append, List.nil_append, List.set_cons_zero, List.set_cons_succ, List.setIfInBounds_toArray] at H)
      | ((with_reducible show wpList _ _ _ (⟨_, .store 24 _ _, _, _, _, _⟩ :: _) _ _); refine mem_store (i := 0) H (by first | exact wanted_none rfl | exact wanted_some rfl rfl rfl rfl) (by exact rfl) (by exact rfl) (by exact rfl) (by exact rfl) (by exact bkInfo) (by exact rfl) (by exact rfl) ?_; intro w2 H2; clear H; have H := H2; clear H2; simp only [List.cons_append, List.nil_append, List.set_cons_zero, List.set_cons_succ, List.setIfInBounds_toArray] at H)
      | ((with_reducible show wpList _ _ _ (⟨_, .store 24 _ _, _, _, _, _⟩ :: _) _ _); refine mem_store (i := 1) H (by first | exact wanted_none rfl | exact wanted_some rfl rfl rfl rfl) (by exact rfl) (by exact rfl) (by exact rfl) (by exact rfl) (by exact bkInfo) (by exact rfl) (by exact rfl) ?_; intro w2 H2; clear H; have H := H2; clear H2; simp only [List.cons_append, List.nil_append, List.set_cons_zero, List.set_cons_succ, List.setIfInBounds_toArray] at H)
      | (go_at_call 37; refine (hM _ (gf.below H.below gf.lt) (gr.below H.below gr.lt)).mono ?_; rintro e w2 ⟨rfl, rfl⟩)
      | (go_at_call 32; refine (hD _).mono ?_; rintro e w2 ⟨rfl, rfl⟩))
    refine ret_held (H.at 0 rfl) (by exact rfl) (by exact rfl) Try.underlying24 rfl bkInfo ⟨?_, H.below⟩
    rfl
  have g1 : decide (1000000000 ≤ hi) = false := decide_eq_false hh
  obtain ⟨eQ, eR⟩ := er (by omega)
  by_cases hc : b.burst - b.level ≤ Q
  · have c1 : decide (b.burst - b.level ≤ Q) = true := decide_eq_true hc
    have hfu : b.fulls now = true := by simp [BK.fulls]; right; omega
    clear hz eQ eR
    rw [BK.fill_full hfu]
    clear er eq
    go_enter Try.func31, Try.ntmps31
    go_wp2_with (first
      | go_skip
      | ((with_reducible show wpList _ _ _ _ _ (World.alloc _ (.cells _ _))); refine mem_new H ?_; intro w2 H2; clear H; have H := H2; clear H2; simp only [List.cons_append, List.nil_append, List.set_cons_zero, List.set_cons_succ, List.setIfInBounds_toArray] at H)
      | ((with_reducible show wpList _ _ _ (⟨_, .load 24 _, _, _, _, _⟩ :: _) _ _); refine load_held (gq.below H.below gq.lt) (by first | exact wanted_none rfl | exact wanted_some rfl rfl rfl rfl) (by exact rfl) (by exact rfl) Try.underlying24 rfl (by exact bkInfo) ?_)
      | ((with_reducible show wpList _ _ _ (⟨_, .load _ _, _, _, _, _⟩ :: _) _ _); refine load_fld (Held.below gq H.below (Held.lt gq)) (by first | exact wanted_none rfl | exact wanted_some rfl rfl rfl rfl) (by exact rfl) (by exact rfl) (by first | exact Try.underlying22 | exact Try.underlying2 | exact Try.underlying55 | exact Try.underlying48) rfl (by exact rfl) ?_)
      | ((with_reducible show wpList _ _ _ (⟨_, .load _ _, _, _, _, _⟩ :: _) _ _); refine load_fld (Held.below gp H.below (Held.lt gp)) (by first | exact wanted_none rfl | exact wanted_some rfl rfl rfl rfl) (by exact rfl) (by exact rfl) (by first | exact Try.underlying22 | exact Try.underlying2 | exact Try.underlying55 | exact Try.underlying48) rfl (by exact rfl) ?_)
      | ((with_reducible show wpList _ _ _ (⟨_, .load 24 _, _, _, _, _⟩ :: _) _ _); refine mem_load (i := 1) H (by first | exact wanted_none rfl | exact wanted_some rfl rfl rfl rfl) (by exact rfl) (by exact rfl) (by exact rfl) Try.underlying24 rfl (by exact bkInfo) ?_)
      | ((with_reducible show wpList _ _ _ (⟨_, .store _ _ _, _, _, _, _⟩ :: _) _ _); refine mem_storef (i := 1) H (by first | exact wanted_none rfl | exact wanted_some rfl rfl rfl rfl) (by exact rfl) (by exact rfl) (by exact rfl) (by exact rfl) (by first | exact infoW64 | exact infoI64) (by exact rfl) (by exact rfl) ?_; intro w2 H2; clear H; have H := H2; clear H2; simp only [List.cons_append, List.nil_append, List.set_cons_zero, List.set_cons_succ, List.setIfInBounds_toArray] at H)
      | ((with_reducible show wpList _ _ _ (⟨_, .store 24 _ _, _, _, _, _⟩ :: _) _ _); refine mem_store (i := 0) H (by first | exact wanted_none rfl | exact wanted_some rfl rfl rfl rfl) (by exact rfl) (by exact rfl) (by exact rfl) (by exact rfl) (by exact bkInfo) (by exact rfl) (by exact rfl) ?_; intro w2 H2; clear H; have H := H2; clear H2; simp only [List.cons_append, List.nil_append, List.set_cons_zero, List.set_cons_succ, List.setIfInBounds_toArray] at H)
      | ((with_reducible show wpList _ _ _ (⟨_, .store 24 _ _, _, _, _, _⟩ :: _) _ _); refine mem_store (i := 1) H (by first | exact wanted_none rfl | exact wanted_some rfl rfl rfl rfl) (by exact rfl) (by exact rfl) (by exact rfl) (by exact rfl) (by exact bkInfo) (by exact rfl) (by exact rfl) ?_; intro w2 H2; clear H; have H := H2; clear H2; simp only [List.cons_append, List.nil_append, List.set_cons_zero, List.set_cons_succ, List.setIfInBounds_toArray] at H)
      | (go_at_call 37; refine (hM _ (gf.below H.below gf.lt) (gr.below H.below gr.lt)).mono ?_; rintro e w2 ⟨rfl, rfl⟩)
      | (go_at_call 32; refine (hD _).mono ?_; rintro e w2 ⟨rfl, rfl⟩))
    refine ret_held (H.at 0 rfl) (by exact rfl) (by exact rfl) Try.underlying24 rfl bkInfo ⟨?_, H.below⟩
    rfl
  have c1 : decide (b.burst - b.level ≤ Q) = false := decide_eq_false hc
  have hfu : b.fulls now = false := by simp [BK.fulls, hz]; omega
  have hs : -9223372036854775808 ≤ b.level + Q ∧ b.level + Q ≤ 9223372036854775807 := by omega
  rw [BK.fill_part hfu, ← eQ, ← eR]
  clear er eq hz eQ eR
  go_enter Try.func31, Try.ntmps31
  go_wp2_with (first
    | go_skip
    | ((with_reducible show wpList _ _ _ _ _ (World.alloc _ (.cells _ _))); refine mem_new H ?_; intro w2 H2; clear H; have H := H2; clear H2; simp only [List.cons_append, List.nil_append, List.set_cons_zero, List.set_cons_succ, List.setIfInBounds_toArray] at H)
    | ((with_reducible show wpList _ _ _ (⟨_, .load 24 _, _, _, _, _⟩ :: _) _ _); refine load_held (gq.below H.below gq.lt) (by first | exact wanted_none rfl | exact wanted_some rfl rfl rfl rfl) (by exact rfl) (by exact rfl) Try.underlying24 rfl (by exact bkInfo) ?_)
    | ((with_reducible show wpList _ _ _ (⟨_, .load _ _, _, _, _, _⟩ :: _) _ _); refine load_fld (Held.below gq H.below (Held.lt gq)) (by first | exact wanted_none rfl | exact wanted_some rfl rfl rfl rfl) (by exact rfl) (by exact rfl) (by first | exact Try.underlying22 | exact Try.underlying2 | exact Try.underlying55 | exact Try.underlying48) rfl (by exact rfl) ?_)
    | ((with_reducible show wpList _ _ _ (⟨_, .load _ _, _, _, _, _⟩ :: _) _ _); refine load_fld (Held.below gp H.below (Held.lt gp)) (by first | exact wanted_none rfl | exact wanted_some rfl rfl rfl rfl) (by exact rfl) (by exact rfl) (by first | exact Try.underlying22 | exact Try.underlying2 | exact Try.underlying55 | exact Try.underlying48) rfl (by exact rfl) ?_)
    | ((with_reducible show wpList _ _ _ (⟨_, .load 24 _, _, _, _, _⟩ :: _) _ _); refine mem_load (i := 1) H (by first | exact wanted_none rfl | exact wanted_some rfl rfl rfl rfl) (by exact rfl) (by exact rfl) (by exact rfl) Try.underlying24 rfl (by exact bkInfo) ?_)
    | ((with_reducible show wpList _ _ _ (⟨_, .store _ _ _, _, _, _, _⟩ :: _) _ _); refine mem_storef (i := 1) H (by first | exact wanted_none rfl | exact wanted_some rfl rfl rfl rfl) (by exact rfl) (by exact rfl) (by exact rfl) (by exact rfl) (by first | exact infoW64 | exact infoI64) (by exact rfl) (by exact rfl) ?_; intro w2 H2; clear H; have H := H2; clear H2; simp only [List.cons_append, List.nil_append, List.set_cons_zero, List.set_cons_succ, List.setIfInBounds_toArray] at H)
    | ((with_reducible show wpList _ _ _ (⟨_, .store 24 _ _, _, _, _, _⟩ :: _) _ _); refine mem_store (i := 0) H (by first | exact wanted_none rfl | exact wanted_some rfl rfl rfl rfl) (by exact rfl) (by exact rfl) (by exact rfl) (by exact rfl) (by exact bkInfo) (by exact rfl) (by exact rfl) ?_; intro w2 H2; clear H; have H := H2; clear H2; simp only [List.cons_append, List.nil_append, List.set_cons_zero, List.set_cons_succ, List.setIfInBounds_toArray] at H)
    | ((with_reducible show wpList _ _ _ (⟨_, .store 24 _ _, _, _, _, _⟩ :: _) _ _); refine mem_store (i := 1) H (by first | exact wanted_none rfl | exact wanted_some rfl rfl rfl rfl) (by exact rfl) (by exact rfl) (by exact rfl) (by exact rfl) (by exact bkInfo) (by exact rfl) (by exact rfl) ?_; intro w2 H2; clear H; have H := H2; clear H2; simp only [List.cons_append, List.nil_append, List.set_cons_zero, List.set_cons_succ, List.setIfInBounds_toArray] at H)
    | (go_at_call 37; refine (hM _ (gf.below H.below gf.lt) (gr.below H.below gr.lt)).mono ?_; rintro e w2 ⟨rfl, rfl⟩)
    | (go_at_call 32; refine (hD _).mono ?_; rintro e w2 ⟨rfl, rfl⟩))
  refine ret_held (H.at 0 rfl) (by exact rfl) (by exact rfl) Try.underlying24 rfl bkInfo ⟨?_, H.below⟩
  rfl
set_option maxRecDepth 4000 in
set_option maxHeartbeats 4000000 in
theorem fill_p0 (b : BK) (now : Int) (hr : b.right = false) (w : World) : Calls Try.prog 15 #[bk b, .int .u64 now] w fun e w' => e = .returned (.tuple #[bk BK.none_, .int .i64 2]) ∧ Below w.heap.size w w' := by
  have hR := fun w => right_p b w
  rw [hr] at hR
  clear hr
  have H := Mem.start w
  go_enter Try.func15, Try.ntmps15
  go_wp2_with (first
    | go_skip
    | ((with_reducible show wpList _ _ _ _ _ (World.alloc _ (.cells _ _))); refine mem_new H ?_; intro w2 H2; clear H; have H := H2; clear H2; simp only [List.cons_append, List.nil_append, List.set_cons_zero, List.set_cons_succ, List.setIfInBounds_toArray] at H)
    | ((with_reducible show wpList _ _ _ (⟨_, .load 24 _, _, _, _, _⟩ :: _) _ _); refine mem_load (i := 0) H (by first | exact wanted_none rfl | exact wanted_some rfl rfl rfl rfl) (by exact rfl) (by exact rfl) (by exact rfl) Try.underlying24 rfl (by exact bkInfo) ?_)
    | ((with_reducible show wpList _ _ _ (⟨_, .load _ _, _, _, _, _⟩ :: _) _ _); refine mem_loadf (i := 0) H (by first | exact wanted_none rfl | exact wanted_some rfl rfl rfl rfl) (by exact rfl) (by exact rfl) (by exact rfl) (by first | exact Try.underlying22 | exact Try.underlying2) rfl (by exact rfl) ?_)
    | ((with_reducible show wpList _ _ _ (⟨_, .store 24 _ _, _, _, _, _⟩ :: _) _ _); refine mem_store (i := 1) H (by first | exact wanted_none rfl | exact wanted_some rfl rfl rfl rfl) (by exact rfl) (by exact rfl) (by exact rfl) (by exact rfl) (by exact bkInfo) (by exact rfl) (by exact rfl) ?_; intro w2 H2; clear H; have H := H2; clear H2; simp only [List.cons_append, List.nil_append, List.set_cons_zero, List.set_cons_succ, List.setIfInBounds_toArray] at H)
    | (go_at_call 13; refine (hR _).mono ?_; rintro e w2 ⟨rfl, hb⟩; have H2 := H.call hb; clear H hb; have H := H2; clear H2))
  refine ret_held2 (H.at 1 rfl) (by exact rfl) (by exact rfl) Try.underlying24 rfl bkInfo ⟨?_, H.below⟩
  rfl
set_option maxRecDepth 4000 in
set_option maxHeartbeats 4000000 in
theorem fill_p1 (b : BK) (now : Int) (hr : b.right = true) (E : decide (b.at_ ≤ now ∧ now ≤ 9223372036854775807) = false) (w : World) : Calls Try.prog 15 #[bk b, .int .u64 now] w fun e w' => e = .returned (.tuple #[bk BK.none_, .int .i64 50]) ∧ Below w.heap.size w w' := by
  have hR := fun w => right_p b w
  rw [hr] at hR
  clear hr
  have H := Mem.start w
  go_enter Try.func15, Try.ntmps15
  go_wp2_with (first
    | go_skip
    | ((with_reducible show wpList _ _ _ _ _ (World.alloc _ (.cells _ _))); refine mem_new H ?_; intro w2 H2; clear H; have H := H2; clear H2; simp only [List.cons_append, List.nil_append, List.set_cons_zero, List.set_cons_succ, List.setIfInBounds_toArray] at H)
    | ((with_reducible show wpList _ _ _ (⟨_, .load 24 _, _, _, _, _⟩ :: _) _ _); refine mem_load (i := 0) H (by first | exact wanted_none rfl | exact wanted_some rfl rfl rfl rfl) (by exact rfl) (by exact rfl) (by exact rfl) Try.underlying24 rfl (by exact bkInfo) ?_)
    | ((with_reducible show wpList _ _ _ (⟨_, .load _ _, _, _, _, _⟩ :: _) _ _); refine mem_loadf (i := 0) H (by first | exact wanted_none rfl | exact wanted_some rfl rfl rfl rfl) (by exact rfl) (by exact rfl) (by exact rfl) (by first | exact Try.underlying22 | exact Try.underlying2) rfl (by exact rfl) ?_)
    | ((with_reducible show wpList _ _ _ (⟨_, .store 24 _ _, _, _, _, _⟩ :: _) _ _); refine mem_store (i := 1) H (by first | exact wanted_none rfl | exact wanted_some rfl rfl rfl rfl) (by exact rfl) (by exact rfl) (by exact rfl) (by exact rfl) (by exact bkInfo) (by exact rfl) (by exact rfl) ?_; intro w2 H2; clear H; have H := H2; clear H2; simp only [List.cons_append, List.nil_append, List.set_cons_zero, List.set_cons_succ, List.setIfInBounds_toArray] at H)
    | (go_at_call 13; refine (hR _).mono ?_; rintro e w2 ⟨rfl, hb⟩; have H2 := H.call hb; clear H hb; have H := H2; clear H2)
    | (go_at_call 23; refine (rising3w false _ b.at_ now 9223372036854775807 E _ ((H.at 2 rfl).cell 0) ((H.at 2 rfl).cell 1) ((H.at 2 rfl).cell 2)).mono ?_; rintro e w2 ⟨rfl, hb⟩; have H2 := H.call hb; clear H hb; have H := H2; clear H2))
  refine ret_held2 (H.at 1 rfl) (by exact rfl) (by exact rfl) Try.underlying24 rfl bkInfo ⟨?_, H.below⟩
  rfl
set_option maxRecDepth 4000 in
set_option maxHeartbeats 4000000 in
theorem fill_p2 (b : BK) (now : Int) (hk : b.Ok) (hr : b.right = true) (h1 : b.at_ ≤ now) (h2 : now ≤ 9223372036854775807) (w : World) : Calls Try.prog 15 #[bk b, .int .u64 now] w fun e w' => e = .returned (.tuple #[bk (b.fill now), .int .i64 0]) ∧ Below w.heap.size w w' := by
  have hR := fun w => right_p b w
  rw [hr] at hR
  clear hr
  have E : decide (b.at_ ≤ now ∧ now ≤ 9223372036854775807) = true := decide_eq_true ⟨h1, h2⟩
  have H := Mem.start w
  go_enter Try.func15, Try.ntmps15
  go_wp2_with (first
    | go_skip
    | ((with_reducible show wpList _ _ _ _ _ (World.alloc _ (.cells _ _))); refine mem_new H ?_; intro w2 H2; clear H; have H := H2; clear H2; simp only [List.cons_append, List.nil_append, List.set_cons_zero, List.set_cons_succ, List.setIfInBounds_toArray] at H)
    | ((with_reducible show wpList _ _ _ (⟨_, .load 24 _, _, _, _, _⟩ :: _) _ _); refine mem_load (i := 0) H (by first | exact wanted_none rfl | exact wanted_some rfl rfl rfl rfl) (by exact rfl) (by exact rfl) (by exact rfl) Try.underlying24 rfl (by exact bkInfo) ?_)
    | ((with_reducible show wpList _ _ _ (⟨_, .load _ _, _, _, _, _⟩ :: _) _ _); refine mem_loadf (i := 0) H (by first | exact wanted_none rfl | exact wanted_some rfl rfl rfl rfl) (by exact rfl) (by exact rfl) (by exact rfl) (by first | exact Try.underlying22 | exact Try.underlying2) rfl (by exact rfl) ?_)
    | ((with_reducible show wpList _ _ _ (⟨_, .store 24 _ _, _, _, _, _⟩ :: _) _ _); refine mem_store (i := 1) H (by first | exact wanted_none rfl | exact wanted_some rfl rfl rfl rfl) (by exact rfl) (by exact rfl) (by exact rfl) (by exact rfl) (by exact bkInfo) (by exact rfl) (by exact rfl) ?_; intro w2 H2; clear H; have H := H2; clear H2; simp only [List.cons_append, List.nil_append, List.set_cons_zero, List.set_cons_succ, List.setIfInBounds_toArray] at H)
    | (go_at_call 13; refine (hR _).mono ?_; rintro e w2 ⟨rfl, hb⟩; have H2 := H.call hb; clear H hb; have H := H2; clear H2)
    | (go_at_call 23; refine (rising3w true _ b.at_ now 9223372036854775807 E _ ((H.at 2 rfl).cell 0) ((H.at 2 rfl).cell 1) ((H.at 2 rfl).cell 2)).mono ?_; rintro e w2 ⟨rfl, hb⟩; have H2 := H.call hb; clear H hb; have H := H2; clear H2)
    | (go_at_call 26; refine (filling_p _ _).mono ?_; rintro e w2 ⟨q, bf, bp, p, rfl, hm⟩; have H2 := H.join hm; clear H hm; have H := H2; clear H2; simp only [List.cons_append, List.nil_append, List.set_cons_zero, List.set_cons_succ, List.setIfInBounds_toArray] at H)
    | (go_at_call 31; refine (filling1_p b now hk h1 h2 q bf bp p _ (H.at 3 rfl) (H.at 4 rfl) (H.at 5 rfl) (H.at 6 rfl)).mono ?_; rintro e w2 ⟨rfl, hb⟩; have H2 := H.call hb; clear H hb; have H := H2; clear H2))
  refine ret_held2 (H.at 1 rfl) (by exact rfl) (by exact rfl) Try.underlying24 rfl bkInfo ⟨?_, H.below⟩
  rfl
theorem fill_p (b : BK) (now : Int) (hf : b.Fits) (hn : 0 ≤ now ∧ now ≤ 18446744073709551615) (w : World) : Calls Try.prog 15 #[bk b, .int .u64 now] w fun e w' => e = .returned (.tuple #[bk (fillV b now), .int .i64 (fillE b now)]) ∧ Below w.heap.size w w' := by
  rcases hr : b.right
  · simp only [fillV, fillE, hr, Bool.false_and, cond_false]
    exact fill_p0 b now hr w
  · rcases ht : timeB b now
    · simp only [fillV, fillE, hr, ht, Bool.true_and, cond_true, cond_false]
      refine fill_p1 b now hr (decide_eq_false fun h => ?_) w
      simp [timeB] at ht
      omega
    · simp only [fillV, fillE, hr, ht, Bool.true_and, cond_true]
      simp [timeB] at ht
      exact fill_p2 b now (BK.ok_of_right hf hr) hr (by omega) (by omega) w
end Go.Proofs.Ytmincladghbklaa
