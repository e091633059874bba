/-
  The laws' numbered, walked. Conditions: as the interface says. The laws' did, walked. Conditions: as the interface says.
-/
import Derived.Test.YtoajgaljccaccaaMGm
/- The laws' numbered, walked. Conditions: as the interface says. -/
section
namespace Go.Proofs.Ytoajgaljccaccaa.Ce
set_option linter.unusedSimpArgs false
set_option linter.unusedVariables false
set_option maxRecDepth 100000
open Go.ChangeShapes Go.WideShapes Go.ChangeAt Go.RowKit

abbrev axA (x : AX) : Array Value := #[.int .i64 x.d, .int .i64 x.i, .int .i64 x.a, .int .i64 x.v, .int .i64 x.w]
theorem u64_tmod (d : Int) (k : Nat) (hk : 0 < k) : ∃ v : Nat, (IntKind.u64.wrap d).tmod (k : Int) = (v : Int) ∧ v < k := by
  rw [IntKind.wrap_u64]
  obtain ⟨a, ha⟩ := Int.eq_ofNat_of_zero_le (show 0 ≤ d % 18446744073709551616 by omega)
  rw [ha]
  refine ⟨a % k, ?_, Nat.mod_lt _ hk⟩
  rw [← Int.ofNat_tmod]
/-- the law's two cells, alike -/
abbrev Two (P : PT) (w : World) (T : Nat → Prop) (K : World → Prop) (p r : Nat) (s : CC) (N : Nat) (V : World) : Prop := St P DocAt w V T K p s N r s N
section
variable {P : PT}
set_option maxHeartbeats 4000000 in
theorem numbered_w (hP : PCells P) (w : World) (T : Nat → Prop) (K : World → Prop) (hk : Kept T K) (p r : Nat) (s : CC) (N : Nat) (hN : N ≤ 1000) (x : AX) (hx : x.Fits) (W : World) (hO : Two P w T K p r s N W) :
    Calls Try.prog 34 #[.pointer (some ⟨p, 0, none⟩), .pointer (some ⟨r, 0, none⟩), .agg (axA x)] W fun e w' => e = .returned (.bool true) ∧ ∃ s' N', N' ≤ N + 1 ∧ Two P w T K p r s' N' w' := by
  have H := Mem.start W
  have c0 : (axA x).toList[0]? = some (.int .i64 x.d) := rfl
  obtain ⟨d, hd⟩ : ∃ c, x.d = c := ⟨_, rfl⟩
  rw [hd] at c0
  have HX := Lib.hid hx
  clear hx hd
  go_enter Try.func34, Try.ntmps34
  go_upto_region 1 with (first
    | ((with_reducible show wpList _ _ _ _ _ (World.alloc _ (.cells _ _))); refine mem_newb (l := []) H ?_; intro bx w3 hbk H2; try rw [← hbk]; clear hbk H; have H := H2; clear H2; simp only [List.cons_append, List.nil_append, List.set_cons_zero, List.set_cons_succ, List.setIfInBounds_toArray] at H))
  go_upto_region 2 with (first
    | go_skip
    | ((with_reducible show wpList _ _ _ (⟨_, .load 3 _, _, _, _, _⟩ :: _) _ _); refine mem_loadf (i := 0) H (by first | exact wanted_none rfl | exact wanted_some rfl rfl rfl rfl) (by exact rfl) (by exact rfl) (by exact rfl) Try.underlying3 rfl c0 ?_))
  obtain ⟨v, hv, hv5⟩ : ∃ v : Nat, (IntKind.u64.wrap d).tmod 10 = (v : Int) ∧ v < 10 := u64_tmod d 10 (by omega)
  rw [hv]
  obtain ⟨T1, K1, hk1, hK1, hT1, O1⟩ := pack_more hP.pt DocAt.pt hk hO H
  have HK := Lib.hid hk1
  have HF := Lib.hid (fun X h => (hK1 X h).2)
  have HB := Lib.hid (fun (W' : World) (s' : CC) (N' : Nat) (h : St P DocAt w W' T1 K1 p s' N' r s' N') => (show Two P w T K p r s' N' W' from h.less hT1 (fun h => (hK1 _ h).1)))
  have O := Lib.hid O1
  clear H hk1 hK1 hT1 O1 hO hv hk c0
  match v, hv5 with
  | 0, _ =>
    have kP := fun W (s2 : CC) (N2 : Nat) (h : St P DocAt w W T1 K1 p s N r s2 N2) => loadP hP DocAt.pt HK.out h (by omega) x.i HX.out.i
    have kR := fun W (s1 : CC) (N1 : Nat) (h : St P DocAt w W T1 K1 p s1 N1 r s N) => loadR hP.pt HK.out h (by omega) x.i HX.out.i
    generalize cellE (has s.c x.i) = E at kP kR
    generalize loadV s x.i = V at kP kR
    have s' := s
    go_wp2_with (first
    | go_skip
    | ((with_reducible show wpList _ _ _ (⟨_, .load _ _, _, _, _, _⟩ :: _) _ _); refine load_fld (HF.out _ O.out.kp) (by first | exact wanted_none rfl | exact wanted_some rfl rfl rfl rfl) (by exact rfl) (by exact rfl) (by first | exact Try.underlying3 | exact Try.underlying2) rfl (by exact rfl) ?_)
    | (go_at_call 14; refine (kP _ _ _ O.out).mono ?_; rintro e w2 ⟨rfl, O2⟩; clear O; have O := Lib.hid O2; clear O2)
    | (go_at_call 15; refine (kR _ _ _ O.out).mono ?_; rintro e w2 ⟨rfl, O2⟩; clear O; have O := Lib.hid O2; clear O2))
    go_ret
    exact ⟨by simp, s, N, Nat.le_succ N, HB.out _ _ _ O.out⟩
  | 1, _ =>
    have kP := fun W (s2 : CC) (N2 : Nat) (h : St P DocAt w W T1 K1 p s N r s2 N2) => addP hP DocAt.pt HK.out h (by omega) x.i x.v HX.out.i HX.out.v
    have kR := fun W (s1 : CC) (N1 : Nat) (h : St P DocAt w W T1 K1 p s1 N1 r s N) => addR hP.pt HK.out h (by omega) x.i x.v HX.out.i HX.out.v
    generalize cellE (has s.c x.i) = E at kP kR
    generalize addV s x.i x.v = V at kP kR
    generalize addS s x.i x.v = s' at kP kR
    go_wp2_with (first
    | go_skip
    | ((with_reducible show wpList _ _ _ (⟨_, .load _ _, _, _, _, _⟩ :: _) _ _); refine load_fld (HF.out _ O.out.kp) (by first | exact wanted_none rfl | exact wanted_some rfl rfl rfl rfl) (by exact rfl) (by exact rfl) (by first | exact Try.underlying3 | exact Try.underlying2) rfl (by exact rfl) ?_)
    | (go_at_call 18; refine (kP _ _ _ O.out).mono ?_; rintro e w2 ⟨rfl, O2⟩; clear O; have O := Lib.hid O2; clear O2)
    | (go_at_call 48; refine (kR _ _ _ O.out).mono ?_; rintro e w2 ⟨rfl, O2⟩; clear O; have O := Lib.hid O2; clear O2))
    go_ret
    exact ⟨by simp, s', N, Nat.le_succ N, HB.out _ _ _ O.out⟩
  | 2, _ =>
    have kP := fun W (s2 : CC) (N2 : Nat) (h : St P DocAt w W T1 K1 p s N r s2 N2) => swapP hP DocAt.pt HK.out h (by omega) x.i x.v x.w HX.out.i HX.out.v HX.out.w
    have kR := fun W (s1 : CC) (N1 : Nat) (h : St P DocAt w W T1 K1 p s1 N1 r s N) => swapR hP.pt HK.out h (by omega) x.i x.v x.w HX.out.i HX.out.v HX.out.w
    generalize cellE (has s.c x.i) = E at kP kR
    generalize swapV s x.i x.v = V at kP kR
    generalize swapS s x.i x.v x.w = s' at kP kR
    go_wp2_with (first
    | go_skip
    | ((with_reducible show wpList _ _ _ (⟨_, .load _ _, _, _, _, _⟩ :: _) _ _); refine load_fld (HF.out _ O.out.kp) (by first | exact wanted_none rfl | exact wanted_some rfl rfl rfl rfl) (by exact rfl) (by exact rfl) (by first | exact Try.underlying3 | exact Try.underlying2) rfl (by exact rfl) ?_)
    | (go_at_call 19; refine (kP _ _ _ O.out).mono ?_; rintro e w2 ⟨rfl, O2⟩; clear O; have O := Lib.hid O2; clear O2)
    | (go_at_call 49; refine (kR _ _ _ O.out).mono ?_; rintro e w2 ⟨rfl, O2⟩; clear O; have O := Lib.hid O2; clear O2))
    go_ret
    exact ⟨by simp, s', N, Nat.le_succ N, HB.out _ _ _ O.out⟩
  | 3, _ =>
    have kP := fun W (s2 : CC) (N2 : Nat) (h : St P DocAt w W T1 K1 p s N r s2 N2) => beginP hP DocAt.pt HK.out h (by omega) x.i HX.out.i
    have kR := fun W (s1 : CC) (N1 : Nat) (h : St P DocAt w W T1 K1 p s1 N1 r s N) => beginR hP.pt HK.out h (by omega) x.i HX.out.i
    generalize beginE s x.i = E at kP kR
    generalize beginV s x.i = V at kP kR
    have s' := s
    go_wp2_with (first
    | go_skip
    | ((with_reducible show wpList _ _ _ (⟨_, .load _ _, _, _, _, _⟩ :: _) _ _); refine load_fld (HF.out _ O.out.kp) (by first | exact wanted_none rfl | exact wanted_some rfl rfl rfl rfl) (by exact rfl) (by exact rfl) (by first | exact Try.underlying3 | exact Try.underlying2) rfl (by exact rfl) ?_)
    | (go_at_call 20; refine (kP _ _ _ O.out).mono ?_; rintro e w2 ⟨rfl, O2⟩; clear O; have O := Lib.hid O2; clear O2)
    | (go_at_call 50; refine (kR _ _ _ O.out).mono ?_; rintro e w2 ⟨rfl, O2⟩; clear O; have O := Lib.hid O2; clear O2))
    go_ret
    exact ⟨by simp, s, N, Nat.le_succ N, HB.out _ _ _ O.out⟩
  | v + 4, hv5 =>
    have q0 : ((v + 4 : Nat) : Int) ≠ 0 := by omega
    have q1 : ((v + 4 : Nat) : Int) ≠ 1 := by omega
    have q2 : ((v + 4 : Nat) : Int) ≠ 2 := by omega
    have q3 : ((v + 4 : Nat) : Int) ≠ 3 := by omega
    generalize ((v + 4 : Nat) : Int) = z at *
    have t0 : (z == 0) = false := by simpa using q0
    have t1 : (z == 1) = false := by simpa using q1
    have t2 : (z == 2) = false := by simpa using q2
    have t3 : (z == 3) = false := by simpa using q3
    have kP := fun W (s2 : CC) (N2 : Nat) (h : St P DocAt w W T1 K1 p s N r s2 N2) => finP hP DocAt.pt HK.out h (by omega) x.i x.v HX.out.i HX.out.v
    have kR := fun W (s1 : CC) (N1 : Nat) (h : St P DocAt w W T1 K1 p s1 N1 r s N) => finR hP.pt HK.out h (by omega) x.i x.v HX.out.i HX.out.v
    generalize cellE (has s.s x.i) = E at kP kR
    generalize endV s x.i x.v = V at kP kR
    have s' := s
    go_wp2_with (first
    | go_skip
    | ((with_reducible show wpList _ _ _ (⟨_, .load _ _, _, _, _, _⟩ :: _) _ _); refine load_fld (HF.out _ O.out.kp) (by first | exact wanted_none rfl | exact wanted_some rfl rfl rfl rfl) (by exact rfl) (by exact rfl) (by first | exact Try.underlying3 | exact Try.underlying2) rfl (by exact rfl) ?_)
    | (go_at_call 21; refine (kP _ _ _ O.out).mono ?_; rintro e w2 ⟨rfl, O2⟩; clear O; have O := Lib.hid O2; clear O2)
    | (go_at_call 51; refine (kR _ _ _ O.out).mono ?_; rintro e w2 ⟨rfl, O2⟩; clear O; have O := Lib.hid O2; clear O2))
    go_ret
    exact ⟨by simp, s, N, Nat.le_succ N, HB.out _ _ _ O.out⟩
end
end Go.Proofs.Ytoajgaljccaccaa.Ce
end
/- The laws' did, walked. Conditions: as the interface says. -/
section
namespace Go.Proofs.Ytoajgaljccaccaa.Ce
set_option linter.unusedSimpArgs false
set_option linter.unusedVariables false
set_option maxRecDepth 100000
open Go.ChangeShapes Go.WideShapes Go.ChangeAt Go.RowKit

theorem acInfo : (Try.prog.info? 33).map (·.size) = some 5 := by kernel_rfl
section
variable {P : PT}
set_option maxHeartbeats 4000000 in
theorem did_w (hP : PCells P) (w : World) (T : Nat → Prop) (K : World → Prop) (hk : Kept T K) (p r : Nat) (s : CC) (N : Nat) (hN : N ≤ 1000) (x : AX) (hx : x.Fits) (W : World) (hO : Two P w T K p r s N W) :
    Calls Try.prog 13 #[.pointer (some ⟨p, 0, none⟩), .pointer (some ⟨r, 0, none⟩), .agg (axA x)] W fun e w' => e = .returned (.bool true) ∧ ∃ s' N', N' ≤ N + 1 ∧ Two P w T K p r s' N' w' := by
  have H := Mem.start W
  have c0 : (axA x).toList[0]? = some (.int .i64 x.d) := rfl
  obtain ⟨d, hd⟩ : ∃ c, x.d = c := ⟨_, rfl⟩
  rw [hd] at c0
  have HX := Lib.hid hx
  clear hx hd
  go_enter Try.func13, Try.ntmps13
  go_upto_region 1 with (first
    | ((with_reducible show wpList _ _ _ _ _ (World.alloc _ (.cells _ _))); refine mem_newb (l := []) H ?_; intro bx w3 hbk H2; try rw [← hbk]; clear hbk H; have H := H2; clear H2; simp only [List.cons_append, List.nil_append, List.set_cons_zero, List.set_cons_succ, List.setIfInBounds_toArray] at H))
  go_upto_region 2 with (first
    | go_skip
    | ((with_reducible show wpList _ _ _ (⟨_, .load 3 _, _, _, _, _⟩ :: _) _ _); refine mem_loadf (i := 0) H (by first | exact wanted_none rfl | exact wanted_some rfl rfl rfl rfl) (by exact rfl) (by exact rfl) (by exact rfl) Try.underlying3 rfl c0 ?_))
  obtain ⟨v, hv, hv5⟩ : ∃ v : Nat, (IntKind.u64.wrap d).tmod 10 = (v : Int) ∧ v < 10 := u64_tmod d 10 (by omega)
  rw [hv]
  obtain ⟨T1, K1, hk1, hK1, hT1, O1⟩ := pack_more hP.pt DocAt.pt hk hO H
  have HK := Lib.hid hk1
  have HF := Lib.hid (fun X h => (hK1 X h).2)
  have HB := Lib.hid (fun (W' : World) (s' : CC) (N' : Nat) (h : St P DocAt w W' T1 K1 p s' N' r s' N') => (show Two P w T K p r s' N' W' from h.less hT1 (fun h => (hK1 _ h).1)))
  have O := Lib.hid O1
  clear H hk1 hK1 hT1 O1 hO hv hk c0
  by_cases hsm : v < 5
  · have q5 : ((v : Nat) : Int) ≠ 5 := by omega
    have q6 : ((v : Nat) : Int) ≠ 6 := by omega
    have q7 : ((v : Nat) : Int) ≠ 7 := by omega
    have q8 : ((v : Nat) : Int) ≠ 8 := by omega
    have q9 : ((v : Nat) : Int) ≠ 9 := by omega
    generalize ((v : Nat) : Int) = z at *
    have t5 : (z == 5) = false := by simpa using q5
    have t6 : (z == 6) = false := by simpa using q6
    have t7 : (z == 7) = false := by simpa using q7
    have t8 : (z == 8) = false := by simpa using q8
    have t9 : (z == 9) = false := by simpa using q9
    have kN := fun W h => numbered_w hP w T1 K1 HK.out p r s N hN x HX.out W h
    go_wp2_with (first
    | go_skip
    | ((with_reducible show wpList _ _ _ (⟨_, .load 33 _, _, _, _, _⟩ :: _) _ _); refine load_held (HF.out _ O.out.kp) (by first | exact wanted_none rfl | exact wanted_some rfl rfl rfl rfl) (by exact rfl) (by exact rfl) Try.underlying33 rfl (by exact acInfo) ?_)
    | (go_at_call 34; refine (kN _ O.out).mono ?_; rintro e w2 ⟨rfl, s', N', hN', O2⟩))
    go_ret
    exact ⟨rfl, s', N', hN', HB.out _ _ _ O2⟩
  match v, hv5, hsm with
  | 5, _, _ =>
    have kP := fun W (s2 : CC) (N2 : Nat) (h : St P DocAt w W T1 K1 p s N r s2 N2) => storeP hP DocAt.pt HK.out h (by omega) x.i x.v HX.out.i HX.out.v
    have kR := fun W (s1 : CC) (N1 : Nat) (h : St P DocAt w W T1 K1 p s1 N1 r s N) => storeR hP.pt HK.out h (by omega) x.i x.v HX.out.i HX.out.v
    generalize storeS s x.i x.v = s' at kP kR
    generalize cellE (has s.c x.i) = E at kP kR
    go_upto_region 3 with fail
    have O5 : St P DocAt w _ T1 K1 p s N r s N := O.out.on hP.pt DocAt.pt HK.out (Mem.start _).drew.below
    refine (wpIn_wide (n := 6)).1 (wpIn_region_G (fun wx => ∃ sp sr N1 N2, St P DocAt w wx T1 K1 p sp N1 r sr N2) 14 14 rfl (by kernel_rfl) (fun _ => ?_))
    have hS : ∃ sp sr N1 N2, St P DocAt w _ T1 K1 p sp N1 r sr N2 := ⟨s, s, N, N, O5⟩
    have hhx : ∀ wx, (∃ sp sr N1 N2, St P DocAt w wx T1 K1 p sp N1 r sr N2) → Held wx bx 33 (axA x) := fun wx ⟨sp, sr, N1, N2, h⟩ => HF.out _ h.kp
    clear O
    refine wpAnyR_take (i := 0) (v := (.pointer (some ⟨p, 0, none⟩))) rfl rfl (by kernel_rfl) (by kernel_rfl) (by kernel_rfl) (fun _ _ _ h => h) (Nat.le_refl _) ⟨by rfl, fun w _ => (by go_simp; try (first | rfl | simp)), fun _ => rfl⟩ hS ?_
    simp only [List.getElem_toArray, List.getElem_cons_zero, List.getElem_cons_succ, Act.put, List.setIfInBounds_toArray, List.set_cons_zero, List.set_cons_succ]
    refine wpAnyR_take (i := 1) (v := (.pointer (some ⟨bx, 1, none⟩))) rfl rfl (by kernel_rfl) (by kernel_rfl) (by kernel_rfl) (fun _ _ _ h => h) (Nat.le_refl _) ⟨by rfl, fun w _ => (by go_simp; try (first | rfl | simp)), fun _ => rfl⟩ hS ?_
    simp only [List.getElem_toArray, List.getElem_cons_zero, List.getElem_cons_succ, Act.put, List.setIfInBounds_toArray, List.set_cons_zero, List.set_cons_succ]
    refine wpAnyR_take (i := 2) (v := (.int .i64 x.i)) rfl rfl (by kernel_rfl) (by kernel_rfl) (by kernel_rfl) (fun _ _ _ h => h) (Nat.le_refl _) (yields_fld (fun w h => hhx w h) (by exact rfl) (by exact rfl) (by exact rfl) (by first | exact Try.underlying3 | exact Try.underlying2) rfl (by exact rfl)) hS ?_
    simp only [List.getElem_toArray, List.getElem_cons_zero, List.getElem_cons_succ, Act.put, List.setIfInBounds_toArray, List.set_cons_zero, List.set_cons_succ]
    refine wpAnyR_take (i := 3) (v := (.pointer (some ⟨bx, 3, none⟩))) rfl rfl (by kernel_rfl) (by kernel_rfl) (by kernel_rfl) (fun _ _ _ h => h) (Nat.le_refl _) ⟨by rfl, fun w _ => (by go_simp; try (first | rfl | simp)), fun _ => rfl⟩ hS ?_
    simp only [List.getElem_toArray, List.getElem_cons_zero, List.getElem_cons_succ, Act.put, List.setIfInBounds_toArray, List.set_cons_zero, List.set_cons_succ]
    refine wpAnyR_take (i := 4) (v := (.int .i64 x.v)) rfl rfl (by kernel_rfl) (by kernel_rfl) (by kernel_rfl) (fun _ _ _ h => h) (Nat.le_refl _) (yields_fld (fun w h => hhx w h) (by exact rfl) (by exact rfl) (by exact rfl) (by first | exact Try.underlying3 | exact Try.underlying2) rfl (by exact rfl)) hS ?_
    simp only [List.getElem_toArray, List.getElem_cons_zero, List.getElem_cons_succ, Act.put, List.setIfInBounds_toArray, List.set_cons_zero, List.set_cons_succ]
    refine wpAnyR_take (i := 6) (v := (.pointer (some ⟨r, 0, none⟩))) rfl rfl (by kernel_rfl) (by kernel_rfl) (by kernel_rfl) (fun _ _ _ h => h) (Nat.le_refl _) ⟨by rfl, fun w _ => (by go_simp; try (first | rfl | simp)), fun _ => rfl⟩ hS ?_
    simp only [List.getElem_toArray, List.getElem_cons_zero, List.getElem_cons_succ, Act.put, List.setIfInBounds_toArray, List.set_cons_zero, List.set_cons_succ]
    refine wpAnyR_take (i := 7) (v := (.pointer (some ⟨bx, 1, none⟩))) rfl rfl (by kernel_rfl) (by kernel_rfl) (by kernel_rfl) (fun _ _ _ h => h) (Nat.le_refl _) ⟨by rfl, fun w _ => (by go_simp; try (first | rfl | simp)), fun _ => rfl⟩ hS ?_
    simp only [List.getElem_toArray, List.getElem_cons_zero, List.getElem_cons_succ, Act.put, List.setIfInBounds_toArray, List.set_cons_zero, List.set_cons_succ]
    refine wpAnyR_take (i := 8) (v := (.int .i64 x.i)) rfl rfl (by kernel_rfl) (by kernel_rfl) (by kernel_rfl) (fun _ _ _ h => h) (Nat.le_refl _) (yields_fld (fun w h => hhx w h) (by exact rfl) (by exact rfl) (by exact rfl) (by first | exact Try.underlying3 | exact Try.underlying2) rfl (by exact rfl)) hS ?_
    simp only [List.getElem_toArray, List.getElem_cons_zero, List.getElem_cons_succ, Act.put, List.setIfInBounds_toArray, List.set_cons_zero, List.set_cons_succ]
    refine wpAnyR_take (i := 9) (v := (.pointer (some ⟨bx, 3, none⟩))) rfl rfl (by kernel_rfl) (by kernel_rfl) (by kernel_rfl) (fun _ _ _ h => h) (Nat.le_refl _) ⟨by rfl, fun w _ => (by go_simp; try (first | rfl | simp)), fun _ => rfl⟩ hS ?_
    simp only [List.getElem_toArray, List.getElem_cons_zero, List.getElem_cons_succ, Act.put, List.setIfInBounds_toArray, List.set_cons_zero, List.set_cons_succ]
    refine wpAnyR_take (i := 10) (v := (.int .i64 x.v)) rfl rfl (by kernel_rfl) (by kernel_rfl) (by kernel_rfl) (fun _ _ _ h => h) (Nat.le_refl _) (yields_fld (fun w h => hhx w h) (by exact rfl) (by exact rfl) (by exact rfl) (by first | exact Try.underlying3 | exact Try.underlying2) rfl (by exact rfl)) hS ?_
    simp only [List.getElem_toArray, List.getElem_cons_zero, List.getElem_cons_succ, Act.put, List.setIfInBounds_toArray, List.set_cons_zero, List.set_cons_succ]
    refine wpAnyG_one (i := 5) (by kernel_rfl) rfl (fun K hK => ?_)
    go_simp
    refine ⟨trivial, (callsIn_wide.2 (kP _ _ _ O5)).mono ?_⟩
    rintro e w5 ⟨rfl, O6⟩
    refine hK _ _ (.inr ⟨_, _, _, _, O6⟩) ?_
    clear hK K hS O5
    have O5 := O6
    clear O6
    have hS : ∃ sp sr N1 N2, St P DocAt w _ T1 K1 p sp N1 r sr N2 := ⟨_, _, _, _, O5⟩
    try simp only [List.getElem_toArray, List.getElem_cons_zero, List.getElem_cons_succ, Act.put, List.setIfInBounds_toArray, List.set_cons_zero, List.set_cons_succ]
    refine wpAnyG_one (i := 11) (by kernel_rfl) rfl (fun K hK => ?_)
    go_simp
    refine ⟨trivial, (callsIn_wide.2 (kR _ _ _ O5)).mono ?_⟩
    rintro e w5 ⟨rfl, O6⟩
    refine hK _ _ (.inr ⟨_, _, _, _, O6⟩) ?_
    clear hK K hS O5
    have O5 := O6
    clear O6
    have hS : ∃ sp sr N1 N2, St P DocAt w _ T1 K1 p sp N1 r sr N2 := ⟨_, _, _, _, O5⟩
    try simp only [List.getElem_toArray, List.getElem_cons_zero, List.getElem_cons_succ, Act.put, List.setIfInBounds_toArray, List.set_cons_zero, List.set_cons_succ]
    refine wpAnyR_take (i := 12) (v := (.bool true)) rfl rfl (by kernel_rfl) (by kernel_rfl) (by kernel_rfl) (fun _ _ _ h => h) (Nat.le_refl _) ⟨by rfl, fun w _ => (by go_simp; try (first | rfl | simp)), fun _ => rfl⟩ hS ?_
    simp only [List.getElem_toArray, List.getElem_cons_zero, List.getElem_cons_succ, Act.put, List.setIfInBounds_toArray, List.set_cons_zero, List.set_cons_succ]
    refine wpAnyG_one (i := 13) (by kernel_rfl) rfl (fun K hK => ?_)
    go_simp
    refine hK _ _ (.inr hS) ?_
    clear hK K
    refine wpAnyG_done (by kernel_rfl) ?_ _
    clear hS
    have HO5 := Lib.hid O5
    clear O5
    go_wp2
    go_ret
    exact ⟨rfl, s', N, by omega, HB.out _ _ _ HO5.out⟩
  | 6, _, _ =>
    have kP := fun W (s2 : CC) (N2 : Nat) (h : St P DocAt w W T1 K1 p s N r s2 N2) => lockP hP DocAt.pt HK.out h (by omega) x.i x.a HX.out.i HX.out.a
    have kR := fun W (s1 : CC) (N1 : Nat) (h : St P DocAt w W T1 K1 p s1 N1 r s N) => lockR hP.pt HK.out h (by omega) x.i x.a HX.out.i HX.out.a
    generalize lockS s x.i x.a = s' at kP kR
    generalize lockE s x.i x.a = E at kP kR
    go_upto_region 5 with fail
    have O5 : St P DocAt w _ T1 K1 p s N r s N := O.out.on hP.pt DocAt.pt HK.out (Mem.start _).drew.below
    refine (wpIn_wide (n := 6)).1 (wpIn_region_G (fun wx => ∃ sp sr N1 N2, St P DocAt w wx T1 K1 p sp N1 r sr N2) 14 14 rfl (by kernel_rfl) (fun _ => ?_))
    have hS : ∃ sp sr N1 N2, St P DocAt w _ T1 K1 p sp N1 r sr N2 := ⟨s, s, N, N, O5⟩
    have hhx : ∀ wx, (∃ sp sr N1 N2, St P DocAt w wx T1 K1 p sp N1 r sr N2) → Held wx bx 33 (axA x) := fun wx ⟨sp, sr, N1, N2, h⟩ => HF.out _ h.kp
    clear O
    refine wpAnyR_take (i := 0) (v := (.pointer (some ⟨p, 0, none⟩))) rfl rfl (by kernel_rfl) (by kernel_rfl) (by kernel_rfl) (fun _ _ _ h => h) (Nat.le_refl _) ⟨by rfl, fun w _ => (by go_simp; try (first | rfl | simp)), fun _ => rfl⟩ hS ?_
    simp only [List.getElem_toArray, List.getElem_cons_zero, List.getElem_cons_succ, Act.put, List.setIfInBounds_toArray, List.set_cons_zero, List.set_cons_succ]
    refine wpAnyR_take (i := 1) (v := (.pointer (some ⟨bx, 1, none⟩))) rfl rfl (by kernel_rfl) (by kernel_rfl) (by kernel_rfl) (fun _ _ _ h => h) (Nat.le_refl _) ⟨by rfl, fun w _ => (by go_simp; try (first | rfl | simp)), fun _ => rfl⟩ hS ?_
    simp only [List.getElem_toArray, List.getElem_cons_zero, List.getElem_cons_succ, Act.put, List.setIfInBounds_toArray, List.set_cons_zero, List.set_cons_succ]
    refine wpAnyR_take (i := 2) (v := (.int .i64 x.i)) rfl rfl (by kernel_rfl) (by kernel_rfl) (by kernel_rfl) (fun _ _ _ h => h) (Nat.le_refl _) (yields_fld (fun w h => hhx w h) (by exact rfl) (by exact rfl) (by exact rfl) (by first | exact Try.underlying3 | exact Try.underlying2) rfl (by exact rfl)) hS ?_
    simp only [List.getElem_toArray, List.getElem_cons_zero, List.getElem_cons_succ, Act.put, List.setIfInBounds_toArray, List.set_cons_zero, List.set_cons_succ]
    refine wpAnyR_take (i := 3) (v := (.pointer (some ⟨bx, 2, none⟩))) rfl rfl (by kernel_rfl) (by kernel_rfl) (by kernel_rfl) (fun _ _ _ h => h) (Nat.le_refl _) ⟨by rfl, fun w _ => (by go_simp; try (first | rfl | simp)), fun _ => rfl⟩ hS ?_
    simp only [List.getElem_toArray, List.getElem_cons_zero, List.getElem_cons_succ, Act.put, List.setIfInBounds_toArray, List.set_cons_zero, List.set_cons_succ]
    refine wpAnyR_take (i := 4) (v := (.int .i64 x.a)) rfl rfl (by kernel_rfl) (by kernel_rfl) (by kernel_rfl) (fun _ _ _ h => h) (Nat.le_refl _) (yields_fld (fun w h => hhx w h) (by exact rfl) (by exact rfl) (by exact rfl) (by first | exact Try.underlying3 | exact Try.underlying2) rfl (by exact rfl)) hS ?_
    simp only [List.getElem_toArray, List.getElem_cons_zero, List.getElem_cons_succ, Act.put, List.setIfInBounds_toArray, List.set_cons_zero, List.set_cons_succ]
    refine wpAnyR_take (i := 6) (v := (.pointer (some ⟨r, 0, none⟩))) rfl rfl (by kernel_rfl) (by kernel_rfl) (by kernel_rfl) (fun _ _ _ h => h) (Nat.le_refl _) ⟨by rfl, fun w _ => (by go_simp; try (first | rfl | simp)), fun _ => rfl⟩ hS ?_
    simp only [List.getElem_toArray, List.getElem_cons_zero, List.getElem_cons_succ, Act.put, List.setIfInBounds_toArray, List.set_cons_zero, List.set_cons_succ]
    refine wpAnyR_take (i := 7) (v := (.pointer (some ⟨bx, 1, none⟩))) rfl rfl (by kernel_rfl) (by kernel_rfl) (by kernel_rfl) (fun _ _ _ h => h) (Nat.le_refl _) ⟨by rfl, fun w _ => (by go_simp; try (first | rfl | simp)), fun _ => rfl⟩ hS ?_
    simp only [List.getElem_toArray, List.getElem_cons_zero, List.getElem_cons_succ, Act.put, List.setIfInBounds_toArray, List.set_cons_zero, List.set_cons_succ]
    refine wpAnyR_take (i := 8) (v := (.int .i64 x.i)) rfl rfl (by kernel_rfl) (by kernel_rfl) (by kernel_rfl) (fun _ _ _ h => h) (Nat.le_refl _) (yields_fld (fun w h => hhx w h) (by exact rfl) (by exact rfl) (by exact rfl) (by first | exact Try.underlying3 | exact Try.underlying2) rfl (by exact rfl)) hS ?_
    simp only [List.getElem_toArray, List.getElem_cons_zero, List.getElem_cons_succ, Act.put, List.setIfInBounds_toArray, List.set_cons_zero, List.set_cons_succ]
    refine wpAnyR_take (i := 9) (v := (.pointer (some ⟨bx, 2, none⟩))) rfl rfl (by kernel_rfl) (by kernel_rfl) (by kernel_rfl) (fun _ _ _ h => h) (Nat.le_refl _) ⟨by rfl, fun w _ => (by go_simp; try (first | rfl | simp)), fun _ => rfl⟩ hS ?_
    simp only [List.getElem_toArray, List.getElem_cons_zero, List.getElem_cons_succ, Act.put, List.setIfInBounds_toArray, List.set_cons_zero, List.set_cons_succ]
    refine wpAnyR_take (i := 10) (v := (.int .i64 x.a)) rfl rfl (by kernel_rfl) (by kernel_rfl) (by kernel_rfl) (fun _ _ _ h => h) (Nat.le_refl _) (yields_fld (fun w h => hhx w h) (by exact rfl) (by exact rfl) (by exact rfl) (by first | exact Try.underlying3 | exact Try.underlying2) rfl (by exact rfl)) hS ?_
    simp only [List.getElem_toArray, List.getElem_cons_zero, List.getElem_cons_succ, Act.put, List.setIfInBounds_toArray, List.set_cons_zero, List.set_cons_succ]
    refine wpAnyG_one (i := 5) (by kernel_rfl) rfl (fun K hK => ?_)
    go_simp
    refine ⟨trivial, (callsIn_wide.2 (kP _ _ _ O5)).mono ?_⟩
    rintro e w5 ⟨rfl, O6⟩
    refine hK _ _ (.inr ⟨_, _, _, _, O6⟩) ?_
    clear hK K hS O5
    have O5 := O6
    clear O6
    have hS : ∃ sp sr N1 N2, St P DocAt w _ T1 K1 p sp N1 r sr N2 := ⟨_, _, _, _, O5⟩
    try simp only [List.getElem_toArray, List.getElem_cons_zero, List.getElem_cons_succ, Act.put, List.setIfInBounds_toArray, List.set_cons_zero, List.set_cons_succ]
    refine wpAnyG_one (i := 11) (by kernel_rfl) rfl (fun K hK => ?_)
    go_simp
    refine ⟨trivial, (callsIn_wide.2 (kR _ _ _ O5)).mono ?_⟩
    rintro e w5 ⟨rfl, O6⟩
    refine hK _ _ (.inr ⟨_, _, _, _, O6⟩) ?_
    clear hK K hS O5
    have O5 := O6
    clear O6
    have hS : ∃ sp sr N1 N2, St P DocAt w _ T1 K1 p sp N1 r sr N2 := ⟨_, _, _, _, O5⟩
    try simp only [List.getElem_toArray, List.getElem_cons_zero, List.getElem_cons_succ, Act.put, List.setIfInBounds_toArray, List.set_cons_zero, List.set_cons_succ]
    refine wpAnyR_take (i := 12) (v := (.bool true)) rfl rfl (by kernel_rfl) (by kernel_rfl) (by kernel_rfl) (fun _ _ _ h => h) (Nat.le_refl _) ⟨by rfl, fun w _ => (by go_simp; try (first | rfl | simp)), fun _ => rfl⟩ hS ?_
    simp only [List.getElem_toArray, List.getElem_cons_zero, List.getElem_cons_succ, Act.put, List.setIfInBounds_toArray, List.set_cons_zero, List.set_cons_succ]
    refine wpAnyG_one (i := 13) (by kernel_rfl) rfl (fun K hK => ?_)
    go_simp
    refine hK _ _ (.inr hS) ?_
    clear hK K
    refine wpAnyG_done (by kernel_rfl) ?_ _
    clear hS
    have HO5 := Lib.hid O5
    clear O5
    go_wp2
    go_ret
    exact ⟨rfl, s', N, by omega, HB.out _ _ _ HO5.out⟩
  | 7, _, _ =>
    have kP := fun W (s2 : CC) (N2 : Nat) (h : St P DocAt w W T1 K1 p s N r s2 N2) => unlockP hP DocAt.pt HK.out h (by omega) x.i x.a HX.out.i HX.out.a
    have kR := fun W (s1 : CC) (N1 : Nat) (h : St P DocAt w W T1 K1 p s1 N1 r s N) => unlockR hP.pt HK.out h (by omega) x.i x.a HX.out.i HX.out.a
    generalize unlockS s x.i x.a = s' at kP kR
    generalize unlockE s x.i x.a = E at kP kR
    go_upto_region 7 with fail
    have O5 : St P DocAt w _ T1 K1 p s N r s N := O.out.on hP.pt DocAt.pt HK.out (Mem.start _).drew.below
    refine (wpIn_wide (n := 6)).1 (wpIn_region_G (fun wx => ∃ sp sr N1 N2, St P DocAt w wx T1 K1 p sp N1 r sr N2) 14 14 rfl (by kernel_rfl) (fun _ => ?_))
    have hS : ∃ sp sr N1 N2, St P DocAt w _ T1 K1 p sp N1 r sr N2 := ⟨s, s, N, N, O5⟩
    have hhx : ∀ wx, (∃ sp sr N1 N2, St P DocAt w wx T1 K1 p sp N1 r sr N2) → Held wx bx 33 (axA x) := fun wx ⟨sp, sr, N1, N2, h⟩ => HF.out _ h.kp
    clear O
    refine wpAnyR_take (i := 0) (v := (.pointer (some ⟨p, 0, none⟩))) rfl rfl (by kernel_rfl) (by kernel_rfl) (by kernel_rfl) (fun _ _ _ h => h) (Nat.le_refl _) ⟨by rfl, fun w _ => (by go_simp; try (first | rfl | simp)), fun _ => rfl⟩ hS ?_
    simp only [List.getElem_toArray, List.getElem_cons_zero, List.getElem_cons_succ, Act.put, List.setIfInBounds_toArray, List.set_cons_zero, List.set_cons_succ]
    refine wpAnyR_take (i := 1) (v := (.pointer (some ⟨bx, 1, none⟩))) rfl rfl (by kernel_rfl) (by kernel_rfl) (by kernel_rfl) (fun _ _ _ h => h) (Nat.le_refl _) ⟨by rfl, fun w _ => (by go_simp; try (first | rfl | simp)), fun _ => rfl⟩ hS ?_
    simp only [List.getElem_toArray, List.getElem_cons_zero, List.getElem_cons_succ, Act.put, List.setIfInBounds_toArray, List.set_cons_zero, List.set_cons_succ]
    refine wpAnyR_take (i := 2) (v := (.int .i64 x.i)) rfl rfl (by kernel_rfl) (by kernel_rfl) (by kernel_rfl) (fun _ _ _ h => h) (Nat.le_refl _) (yields_fld (fun w h => hhx w h) (by exact rfl) (by exact rfl) (by exact rfl) (by first | exact Try.underlying3 | exact Try.underlying2) rfl (by exact rfl)) hS ?_
    simp only [List.getElem_toArray, List.getElem_cons_zero, List.getElem_cons_succ, Act.put, List.setIfInBounds_toArray, List.set_cons_zero, List.set_cons_succ]
    refine wpAnyR_take (i := 3) (v := (.pointer (some ⟨bx, 2, none⟩))) rfl rfl (by kernel_rfl) (by kernel_rfl) (by kernel_rfl) (fun _ _ _ h => h) (Nat.le_refl _) ⟨by rfl, fun w _ => (by go_simp; try (first | rfl | simp)), fun _ => rfl⟩ hS ?_
    simp only [List.getElem_toArray, List.getElem_cons_zero, List.getElem_cons_succ, Act.put, List.setIfInBounds_toArray, List.set_cons_zero, List.set_cons_succ]
    refine wpAnyR_take (i := 4) (v := (.int .i64 x.a)) rfl rfl (by kernel_rfl) (by kernel_rfl) (by kernel_rfl) (fun _ _ _ h => h) (Nat.le_refl _) (yields_fld (fun w h => hhx w h) (by exact rfl) (by exact rfl) (by exact rfl) (by first | exact Try.underlying3 | exact Try.underlying2) rfl (by exact rfl)) hS ?_
    simp only [List.getElem_toArray, List.getElem_cons_zero, List.getElem_cons_succ, Act.put, List.setIfInBounds_toArray, List.set_cons_zero, List.set_cons_succ]
    refine wpAnyR_take (i := 6) (v := (.pointer (some ⟨r, 0, none⟩))) rfl rfl (by kernel_rfl) (by kernel_rfl) (by kernel_rfl) (fun _ _ _ h => h) (Nat.le_refl _) ⟨by rfl, fun w _ => (by go_simp; try (first | rfl | simp)), fun _ => rfl⟩ hS ?_
    simp only [List.getElem_toArray, List.getElem_cons_zero, List.getElem_cons_succ, Act.put, List.setIfInBounds_toArray, List.set_cons_zero, List.set_cons_succ]
    refine wpAnyR_take (i := 7) (v := (.pointer (some ⟨bx, 1, none⟩))) rfl rfl (by kernel_rfl) (by kernel_rfl) (by kernel_rfl) (fun _ _ _ h => h) (Nat.le_refl _) ⟨by rfl, fun w _ => (by go_simp; try (first | rfl | simp)), fun _ => rfl⟩ hS ?_
    simp only [List.getElem_toArray, List.getElem_cons_zero, List.getElem_cons_succ, Act.put, List.setIfInBounds_toArray, List.set_cons_zero, List.set_cons_succ]
    refine wpAnyR_take (i := 8) (v := (.int .i64 x.i)) rfl rfl (by kernel_rfl) (by kernel_rfl) (by kernel_rfl) (fun _ _ _ h => h) (Nat.le_refl _) (yields_fld (fun w h => hhx w h) (by exact rfl) (by exact rfl) (by exact rfl) (by first | exact Try.underlying3 | exact Try.underlying2) rfl (by exact rfl)) hS ?_
    simp only [List.getElem_toArray, List.getElem_cons_zero, List.getElem_cons_succ, Act.put, List.setIfInBounds_toArray, List.set_cons_zero, List.set_cons_succ]
    refine wpAnyR_take (i := 9) (v := (.pointer (some ⟨bx, 2, none⟩))) rfl rfl (by kernel_rfl) (by kernel_rfl) (by kernel_rfl) (fun _ _ _ h => h) (Nat.le_refl _) ⟨by rfl, fun w _ => (by go_simp; try (first | rfl | simp)), fun _ => rfl⟩ hS ?_
    simp only [List.getElem_toArray, List.getElem_cons_zero, List.getElem_cons_succ, Act.put, List.setIfInBounds_toArray, List.set_cons_zero, List.set_cons_succ]
    refine wpAnyR_take (i := 10) (v := (.int .i64 x.a)) rfl rfl (by kernel_rfl) (by kernel_rfl) (by kernel_rfl) (fun _ _ _ h => h) (Nat.le_refl _) (yields_fld (fun w h => hhx w h) (by exact rfl) (by exact rfl) (by exact rfl) (by first | exact Try.underlying3 | exact Try.underlying2) rfl (by exact rfl)) hS ?_
    simp only [List.getElem_toArray, List.getElem_cons_zero, List.getElem_cons_succ, Act.put, List.setIfInBounds_toArray, List.set_cons_zero, List.set_cons_succ]
    refine wpAnyG_one (i := 5) (by kernel_rfl) rfl (fun K hK => ?_)
    go_simp
    refine ⟨trivial, (callsIn_wide.2 (kP _ _ _ O5)).mono ?_⟩
    rintro e w5 ⟨rfl, O6⟩
    refine hK _ _ (.inr ⟨_, _, _, _, O6⟩) ?_
    clear hK K hS O5
    have O5 := O6
    clear O6
    have hS : ∃ sp sr N1 N2, St P DocAt w _ T1 K1 p sp N1 r sr N2 := ⟨_, _, _, _, O5⟩
    try simp only [List.getElem_toArray, List.getElem_cons_zero, List.getElem_cons_succ, Act.put, List.setIfInBounds_toArray, List.set_cons_zero, List.set_cons_succ]
    refine wpAnyG_one (i := 11) (by kernel_rfl) rfl (fun K hK => ?_)
    go_simp
    refine ⟨trivial, (callsIn_wide.2 (kR _ _ _ O5)).mono ?_⟩
    rintro e w5 ⟨rfl, O6⟩
    refine hK _ _ (.inr ⟨_, _, _, _, O6⟩) ?_
    clear hK K hS O5
    have O5 := O6
    clear O6
    have hS : ∃ sp sr N1 N2, St P DocAt w _ T1 K1 p sp N1 r sr N2 := ⟨_, _, _, _, O5⟩
    try simp only [List.getElem_toArray, List.getElem_cons_zero, List.getElem_cons_succ, Act.put, List.setIfInBounds_toArray, List.set_cons_zero, List.set_cons_succ]
    refine wpAnyR_take (i := 12) (v := (.bool true)) rfl rfl (by kernel_rfl) (by kernel_rfl) (by kernel_rfl) (fun _ _ _ h => h) (Nat.le_refl _) ⟨by rfl, fun w _ => (by go_simp; try (first | rfl | simp)), fun _ => rfl⟩ hS ?_
    simp only [List.getElem_toArray, List.getElem_cons_zero, List.getElem_cons_succ, Act.put, List.setIfInBounds_toArray, List.set_cons_zero, List.set_cons_succ]
    refine wpAnyG_one (i := 13) (by kernel_rfl) rfl (fun K hK => ?_)
    go_simp
    refine hK _ _ (.inr hS) ?_
    clear hK K
    refine wpAnyG_done (by kernel_rfl) ?_ _
    clear hS
    have HO5 := Lib.hid O5
    clear O5
    go_wp2
    go_ret
    exact ⟨rfl, s', N, by omega, HB.out _ _ _ HO5.out⟩
  | 8, _, _ =>
    have kP := fun W (s2 : CC) (N2 : Nat) (h : St P DocAt w W T1 K1 p s N r s2 N2) => changeP hP DocAt.pt HK.out h (by omega) x.i HX.out.i
    have kR := fun W (s1 : CC) (N1 : Nat) (h : St P DocAt w W T1 K1 p s1 N1 r s N) => changeR hP.pt HK.out h (by omega) x.i HX.out.i
    generalize stepS s x.i 0 = s' at kP kR
    generalize stepE s x.i 0 = E at kP kR
    go_upto_region 9 with fail
    have O5 : St P DocAt w _ T1 K1 p s N r s N := O.out.on hP.pt DocAt.pt HK.out (Mem.start _).drew.below
    refine (wpIn_wide (n := 6)).1 (wpIn_region_G (fun wx => ∃ sp sr N1 N2, St P DocAt w wx T1 K1 p sp N1 r sr N2) 10 10 rfl (by kernel_rfl) (fun _ => ?_))
    have hS : ∃ sp sr N1 N2, St P DocAt w _ T1 K1 p sp N1 r sr N2 := ⟨s, s, N, N, O5⟩
    have hhx : ∀ wx, (∃ sp sr N1 N2, St P DocAt w wx T1 K1 p sp N1 r sr N2) → Held wx bx 33 (axA x) := fun wx ⟨sp, sr, N1, N2, h⟩ => HF.out _ h.kp
    clear O
    refine wpAnyR_take (i := 0) (v := (.pointer (some ⟨p, 0, none⟩))) rfl rfl (by kernel_rfl) (by kernel_rfl) (by kernel_rfl) (fun _ _ _ h => h) (Nat.le_refl _) ⟨by rfl, fun w _ => (by go_simp; try (first | rfl | simp)), fun _ => rfl⟩ hS ?_
    simp only [List.getElem_toArray, List.getElem_cons_zero, List.getElem_cons_succ, Act.put, List.setIfInBounds_toArray, List.set_cons_zero, List.set_cons_succ]
    refine wpAnyR_take (i := 1) (v := (.pointer (some ⟨bx, 1, none⟩))) rfl rfl (by kernel_rfl) (by kernel_rfl) (by kernel_rfl) (fun _ _ _ h => h) (Nat.le_refl _) ⟨by rfl, fun w _ => (by go_simp; try (first | rfl | simp)), fun _ => rfl⟩ hS ?_
    simp only [List.getElem_toArray, List.getElem_cons_zero, List.getElem_cons_succ, Act.put, List.setIfInBounds_toArray, List.set_cons_zero, List.set_cons_succ]
    refine wpAnyR_take (i := 2) (v := (.int .i64 x.i)) rfl rfl (by kernel_rfl) (by kernel_rfl) (by kernel_rfl) (fun _ _ _ h => h) (Nat.le_refl _) (yields_fld (fun w h => hhx w h) (by exact rfl) (by exact rfl) (by exact rfl) (by first | exact Try.underlying3 | exact Try.underlying2) rfl (by exact rfl)) hS ?_
    simp only [List.getElem_toArray, List.getElem_cons_zero, List.getElem_cons_succ, Act.put, List.setIfInBounds_toArray, List.set_cons_zero, List.set_cons_succ]
    refine wpAnyR_take (i := 4) (v := (.pointer (some ⟨r, 0, none⟩))) rfl rfl (by kernel_rfl) (by kernel_rfl) (by kernel_rfl) (fun _ _ _ h => h) (Nat.le_refl _) ⟨by rfl, fun w _ => (by go_simp; try (first | rfl | simp)), fun _ => rfl⟩ hS ?_
    simp only [List.getElem_toArray, List.getElem_cons_zero, List.getElem_cons_succ, Act.put, List.setIfInBounds_toArray, List.set_cons_zero, List.set_cons_succ]
    refine wpAnyR_take (i := 5) (v := (.pointer (some ⟨bx, 1, none⟩))) rfl rfl (by kernel_rfl) (by kernel_rfl) (by kernel_rfl) (fun _ _ _ h => h) (Nat.le_refl _) ⟨by rfl, fun w _ => (by go_simp; try (first | rfl | simp)), fun _ => rfl⟩ hS ?_
    simp only [List.getElem_toArray, List.getElem_cons_zero, List.getElem_cons_succ, Act.put, List.setIfInBounds_toArray, List.set_cons_zero, List.set_cons_succ]
    refine wpAnyR_take (i := 6) (v := (.int .i64 x.i)) rfl rfl (by kernel_rfl) (by kernel_rfl) (by kernel_rfl) (fun _ _ _ h => h) (Nat.le_refl _) (yields_fld (fun w h => hhx w h) (by exact rfl) (by exact rfl) (by exact rfl) (by first | exact Try.underlying3 | exact Try.underlying2) rfl (by exact rfl)) hS ?_
    simp only [List.getElem_toArray, List.getElem_cons_zero, List.getElem_cons_succ, Act.put, List.setIfInBounds_toArray, List.set_cons_zero, List.set_cons_succ]
    refine wpAnyG_one (i := 3) (by kernel_rfl) rfl (fun K hK => ?_)
    go_simp
    refine ⟨trivial, (callsIn_wide.2 (kP _ _ _ O5)).mono ?_⟩
    rintro e w5 ⟨rfl, O6⟩
    refine hK _ _ (.inr ⟨_, _, _, _, O6⟩) ?_
    clear hK K hS O5
    have O5 := O6
    clear O6
    have hS : ∃ sp sr N1 N2, St P DocAt w _ T1 K1 p sp N1 r sr N2 := ⟨_, _, _, _, O5⟩
    try simp only [List.getElem_toArray, List.getElem_cons_zero, List.getElem_cons_succ, Act.put, List.setIfInBounds_toArray, List.set_cons_zero, List.set_cons_succ]
    refine wpAnyG_one (i := 7) (by kernel_rfl) rfl (fun K hK => ?_)
    go_simp
    refine ⟨trivial, (callsIn_wide.2 (kR _ _ _ O5)).mono ?_⟩
    rintro e w5 ⟨rfl, O6⟩
    refine hK _ _ (.inr ⟨_, _, _, _, O6⟩) ?_
    clear hK K hS O5
    have O5 := O6
    clear O6
    have hS : ∃ sp sr N1 N2, St P DocAt w _ T1 K1 p sp N1 r sr N2 := ⟨_, _, _, _, O5⟩
    try simp only [List.getElem_toArray, List.getElem_cons_zero, List.getElem_cons_succ, Act.put, List.setIfInBounds_toArray, List.set_cons_zero, List.set_cons_succ]
    refine wpAnyR_take (i := 8) (v := (.bool true)) rfl rfl (by kernel_rfl) (by kernel_rfl) (by kernel_rfl) (fun _ _ _ h => h) (Nat.le_refl _) ⟨by rfl, fun w _ => (by go_simp; try (first | rfl | simp)), fun _ => rfl⟩ hS ?_
    simp only [List.getElem_toArray, List.getElem_cons_zero, List.getElem_cons_succ, Act.put, List.setIfInBounds_toArray, List.set_cons_zero, List.set_cons_succ]
    refine wpAnyG_one (i := 9) (by kernel_rfl) rfl (fun K hK => ?_)
    go_simp
    refine hK _ _ (.inr hS) ?_
    clear hK K
    refine wpAnyG_done (by kernel_rfl) ?_ _
    clear hS
    have HO5 := Lib.hid O5
    clear O5
    go_wp2
    go_ret
    exact ⟨rfl, s', N + 1, by omega, HB.out _ _ _ HO5.out⟩
  | 9, _, _ =>
    have kP := fun W (s2 : CC) (N2 : Nat) (h : St P DocAt w W T1 K1 p s N r s2 N2) => settleP hP DocAt.pt HK.out h (by omega) x.i HX.out.i
    have kR := fun W (s1 : CC) (N1 : Nat) (h : St P DocAt w W T1 K1 p s1 N1 r s N) => settleR hP.pt HK.out h (by omega) x.i HX.out.i
    generalize stepS s x.i 1 = s' at kP kR
    generalize stepE s x.i 1 = E at kP kR
    go_upto_region 11 with fail
    have O5 : St P DocAt w _ T1 K1 p s N r s N := O.out.on hP.pt DocAt.pt HK.out (Mem.start _).drew.below
    refine (wpIn_wide (n := 6)).1 (wpIn_region_G (fun wx => ∃ sp sr N1 N2, St P DocAt w wx T1 K1 p sp N1 r sr N2) 10 10 rfl (by kernel_rfl) (fun _ => ?_))
    have hS : ∃ sp sr N1 N2, St P DocAt w _ T1 K1 p sp N1 r sr N2 := ⟨s, s, N, N, O5⟩
    have hhx : ∀ wx, (∃ sp sr N1 N2, St P DocAt w wx T1 K1 p sp N1 r sr N2) → Held wx bx 33 (axA x) := fun wx ⟨sp, sr, N1, N2, h⟩ => HF.out _ h.kp
    clear O
    refine wpAnyR_take (i := 0) (v := (.pointer (some ⟨p, 0, none⟩))) rfl rfl (by kernel_rfl) (by kernel_rfl) (by kernel_rfl) (fun _ _ _ h => h) (Nat.le_refl _) ⟨by rfl, fun w _ => (by go_simp; try (first | rfl | simp)), fun _ => rfl⟩ hS ?_
    simp only [List.getElem_toArray, List.getElem_cons_zero, List.getElem_cons_succ, Act.put, List.setIfInBounds_toArray, List.set_cons_zero, List.set_cons_succ]
    refine wpAnyR_take (i := 1) (v := (.pointer (some ⟨bx, 1, none⟩))) rfl rfl (by kernel_rfl) (by kernel_rfl) (by kernel_rfl) (fun _ _ _ h => h) (Nat.le_refl _) ⟨by rfl, fun w _ => (by go_simp; try (first | rfl | simp)), fun _ => rfl⟩ hS ?_
    simp only [List.getElem_toArray, List.getElem_cons_zero, List.getElem_cons_succ, Act.put, List.setIfInBounds_toArray, List.set_cons_zero, List.set_cons_succ]
    refine wpAnyR_take (i := 2) (v := (.int .i64 x.i)) rfl rfl (by kernel_rfl) (by kernel_rfl) (by kernel_rfl) (fun _ _ _ h => h) (Nat.le_refl _) (yields_fld (fun w h => hhx w h) (by exact rfl) (by exact rfl) (by exact rfl) (by first | exact Try.underlying3 | exact Try.underlying2) rfl (by exact rfl)) hS ?_
    simp only [List.getElem_toArray, List.getElem_cons_zero, List.getElem_cons_succ, Act.put, List.setIfInBounds_toArray, List.set_cons_zero, List.set_cons_succ]
    refine wpAnyR_take (i := 4) (v := (.pointer (some ⟨r, 0, none⟩))) rfl rfl (by kernel_rfl) (by kernel_rfl) (by kernel_rfl) (fun _ _ _ h => h) (Nat.le_refl _) ⟨by rfl, fun w _ => (by go_simp; try (first | rfl | simp)), fun _ => rfl⟩ hS ?_
    simp only [List.getElem_toArray, List.getElem_cons_zero, List.getElem_cons_succ, Act.put, List.setIfInBounds_toArray, List.set_cons_zero, List.set_cons_succ]
    refine wpAnyR_take (i := 5) (v := (.pointer (some ⟨bx, 1, none⟩))) rfl rfl (by kernel_rfl) (by kernel_rfl) (by kernel_rfl) (fun _ _ _ h => h) (Nat.le_refl _) ⟨by rfl, fun w _ => (by go_simp; try (first | rfl | simp)), fun _ => rfl⟩ hS ?_
    simp only [List.getElem_toArray, List.getElem_cons_zero, List.getElem_cons_succ, Act.put, List.setIfInBounds_toArray, List.set_cons_zero, List.set_cons_succ]
    refine wpAnyR_take (i := 6) (v := (.int .i64 x.i)) rfl rfl (by kernel_rfl) (by kernel_rfl) (by kernel_rfl) (fun _ _ _ h => h) (Nat.le_refl _) (yields_fld (fun w h => hhx w h) (by exact rfl) (by exact rfl) (by exact rfl) (by first | exact Try.underlying3 | exact Try.underlying2) rfl (by exact rfl)) hS ?_
    simp only [List.getElem_toArray, List.getElem_cons_zero, List.getElem_cons_succ, Act.put, List.setIfInBounds_toArray, List.set_cons_zero, List.set_cons_succ]
    refine wpAnyG_one (i := 3) (by kernel_rfl) rfl (fun K hK => ?_)
    go_simp
    refine ⟨trivial, (callsIn_wide.2 (kP _ _ _ O5)).mono ?_⟩
    rintro e w5 ⟨rfl, O6⟩
    refine hK _ _ (.inr ⟨_, _, _, _, O6⟩) ?_
    clear hK K hS O5
    have O5 := O6
    clear O6
    have hS : ∃ sp sr N1 N2, St P DocAt w _ T1 K1 p sp N1 r sr N2 := ⟨_, _, _, _, O5⟩
    try simp only [List.getElem_toArray, List.getElem_cons_zero, List.getElem_cons_succ, Act.put, List.setIfInBounds_toArray, List.set_cons_zero, List.set_cons_succ]
    refine wpAnyG_one (i := 7) (by kernel_rfl) rfl (fun K hK => ?_)
    go_simp
    refine ⟨trivial, (callsIn_wide.2 (kR _ _ _ O5)).mono ?_⟩
    rintro e w5 ⟨rfl, O6⟩
    refine hK _ _ (.inr ⟨_, _, _, _, O6⟩) ?_
    clear hK K hS O5
    have O5 := O6
    clear O6
    have hS : ∃ sp sr N1 N2, St P DocAt w _ T1 K1 p sp N1 r sr N2 := ⟨_, _, _, _, O5⟩
    try simp only [List.getElem_toArray, List.getElem_cons_zero, List.getElem_cons_succ, Act.put, List.setIfInBounds_toArray, List.set_cons_zero, List.set_cons_succ]
    refine wpAnyR_take (i := 8) (v := (.bool true)) rfl rfl (by kernel_rfl) (by kernel_rfl) (by kernel_rfl) (fun _ _ _ h => h) (Nat.le_refl _) ⟨by rfl, fun w _ => (by go_simp; try (first | rfl | simp)), fun _ => rfl⟩ hS ?_
    simp only [List.getElem_toArray, List.getElem_cons_zero, List.getElem_cons_succ, Act.put, List.setIfInBounds_toArray, List.set_cons_zero, List.set_cons_succ]
    refine wpAnyG_one (i := 9) (by kernel_rfl) rfl (fun K hK => ?_)
    go_simp
    refine hK _ _ (.inr hS) ?_
    clear hK K
    refine wpAnyG_done (by kernel_rfl) ?_ _
    clear hS
    have HO5 := Lib.hid O5
    clear O5
    go_wp2
    go_ret
    exact ⟨rfl, s', N + 1, by omega, HB.out _ _ _ HO5.out⟩
  | 0, _, h | 1, _, h | 2, _, h | 3, _, h | 4, _, h => exact absurd (by decide) h
end
end Go.Proofs.Ytoajgaljccaccaa.Ce
end
