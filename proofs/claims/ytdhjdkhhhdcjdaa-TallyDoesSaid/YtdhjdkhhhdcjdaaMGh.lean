/-
  The laws' did, walked. Conditions: as the interface says.
-/
import Derived.Test.YtdhjdkhhhdcjdaaMGg
import Derived.Test.YtdhjdkhhhdcjdaaMGc
import Derived.Test.YtdhjdkhhhdcjdaaMGb
import Derived.Test.YtdhjdkhhhdcjdaaMGa
/- The laws' did, walked. Conditions: as the interface says. -/
section
namespace Go.Proofs.Ytdhjdkhhhdcjdaa.Ta
set_option linter.unusedSimpArgs false
set_option linter.unusedVariables false
set_option maxRecDepth 100000
open Go.Joins Go.Deep Go.ChangeShapes Go.WideShapes Go.ChangeAt Go.RowKit

theorem u64_tmod (d : Int) (k : Nat) (hk : 0 < k) : ∃ v : Nat, (IntKind.u64.wrap d).tmod (k : Int) = (v : Int) ∧ v < k := by
  rw [IntKind.wrap_u64]
  obtain ⟨a, ha⟩ := Int.eq_ofNat_of_zero_le (show 0 ≤ d % 18446744073709551616 by omega)
  rw [ha]
  refine ⟨a % k, ?_, Nat.mod_lt _ hk⟩
  rw [← Int.ofNat_tmod]
theorem acInfo : (Try.prog.info? 44).map (·.size) = some 10 := by kernel_rfl
theorem yields_mid {P : Program} {ops : Array Oper} {o : Oper} {a : Act} {R : World → Prop} {b off : Nat} {ty : TypeId} {x : Operand} {cs : List Value} {d : TypeDesc} (hR : ∀ w, R w → w.rangeAt b off cs) (hw : Region.wanted o (yielded ops a.tmps) = true) (ho : o.op = .load ty x) (hx : opnd a x = some (.pointer (some ⟨b, off, none⟩)))
    (hu : P.underlying ty = some d) (hd : d.isRow = true) (hi : (P.info? ty).map (·.size) = some cs.length) : YieldsG P ops R o (.agg cs.toArray) a := by
  refine ⟨hw, fun w h => ?_, fun w => ?_⟩
  · unfold execOp
    simp only [ho, opnd_eval hx, Instr.loadAt, Instr.sureAddr, Sem.run_bind, Sem.run_pure, Result.andThen_ok, run_loadVar_mid w b off ty cs d (hR w h) hu hd hi]
  · unfold Oper.about
    rw [ho]
theorem act_mid {W : World} {b : Nat} {t : TypeId} {x : AX} (h : Held W b t (axA x)) : W.rangeAt b 4 (cvCs x.c) := fun i v hv => by
  rw [h.cell (4 + i)]
  have hi := (List.getElem?_eq_some_iff.1 hv).1
  simp at hi
  match i, hi with
  | 0, _ => exact hv
  | 1, _ => exact hv
  | 2, _ => exact hv
  | 3, _ => exact hv
  | 4, _ => exact hv
  | 5, _ => exact hv
theorem openE_at (s : TS) (o : Option RD) (q : Int) : openE (s.rat o) q = openE s q := rfl
theorem shutE_at (s : TS) (o : Option RD) (q : Int) : shutE (s.rat o) q = shutE s q := rfl
theorem addE_at (s : TS) (o : Option RD) (q f : Int) : addE (s.rat o) q f = addE s q f := rfl
theorem readV_at (s : TS) (o : Option RD) (q : Int) : readV (s.rat o) q = readV s q := rfl
theorem sumV_at (s : TS) (o : Option RD) : sumV (s.rat o) = sumV s := rfl
theorem sumE_at (s : TS) (o : Option RD) : sumE (s.rat o) = sumE s := rfl
/-- the law's two tallies, alike but for their readers' blocks -/
abbrev Two (P : PT) (w : World) (T : Nat → Prop) (K : World → Prop) (p r : Nat) (o1 o2 : Option RD) (s : TS) (N : Nat) (V : World) : Prop := St P DocAt w V T K p (s.rat o1) N r (s.rat o2) N
section
variable {P : PT}
set_option maxHeartbeats 4000000 in
theorem did_w (hP : PTally P) (w : World) (T : Nat → Prop) (K : World → Prop) (hk : Kept T K) (p r : Nat) (o1 o2 : Option RD) (s : TS) (N : Nat) (hN : N ≤ 1000) (x : AX) (hx : x.Fits) (W : World) (hO : Two P w T K p r o1 o2 s N W) :
    Calls Try.prog 16 #[.pointer (some ⟨p, 0, none⟩), .pointer (some ⟨r, 0, none⟩), .agg (axA x)] W fun e w' => e = .returned (.bool true) ∧ ∃ s' N', N' ≤ N + 2 ∧ Two P w T K p r o1 o2 s' N' w' := by
  have H := Mem.start W
  have c0 : (axA x).toList[0]? = some (.int .i64 x.d) := rfl
  obtain ⟨d, hd⟩ : ∃ c, x.d = c := ⟨_, rfl⟩
  rw [hd] at c0
  have HX := Lib.hid hx
  clear hx hd
  go_enter Try.func16, Try.ntmps16
  go_upto_region 1 with (first
    | ((with_reducible show wpList _ _ _ _ _ (World.alloc _ (.cells _ _))); refine mem_newb (l := []) H ?_; intro bx w3 hbk H2; try rw [← hbk]; clear hbk H; have H := H2; clear H2; simp only [List.cons_append, List.nil_append, List.set_cons_zero, List.set_cons_succ, List.setIfInBounds_toArray] at H))
  go_upto_region 2 with (first
    | go_skip
    | ((with_reducible show wpList _ _ _ (⟨_, .load 3 _, _, _, _, _⟩ :: _) _ _); refine mem_loadf (i := 0) H (by first | exact wanted_none rfl | exact wanted_some rfl rfl rfl rfl) (by exact rfl) (by exact rfl) (by exact rfl) Try.underlying3 rfl c0 ?_))
  obtain ⟨v, hv, hv5⟩ : ∃ v : Nat, (IntKind.u64.wrap d).tmod 7 = (v : Int) ∧ v < 7 := u64_tmod d 7 (by omega)
  rw [hv]
  obtain ⟨T1, K1, hk1, hK1, hT1, O1⟩ := pack_more hP.pt DocAt.pt hk hO H
  have HK := Lib.hid hk1
  have HF := Lib.hid (fun X h => (hK1 X h).2)
  have HB := Lib.hid (fun (W' : World) (s' : TS) (N' : Nat) (h : Two P w T1 K1 p r o1 o2 s' N' W') => (show Two P w T K p r o1 o2 s' N' W' from h.less hT1 (fun h => (hK1 _ h).1)))
  have O := Lib.hid O1
  clear H hk1 hK1 hT1 O1 hO hv hk c0
  match v, hv5 with
  | 0, _ =>
    have kP := fun W (s2 : TS) (N2 : Nat) (h : St P DocAt w W T1 K1 p (s.rat o1) N r s2 N2) => openL hP DocAt.pt HK.out h (by omega) x.q HX.out.q
    have kR := fun W (s1 : TS) (N1 : Nat) (h : St P DocAt w W T1 K1 p s1 N1 r (s.rat o2) N) => openR hP.pt HK.out h (by omega) x.q
    simp only [openS_at, openE_at] at kP kR
    generalize openS s x.q = s' at kP kR
    generalize openE s x.q = E at kP kR
    go_upto_region 3 with fail
    have O5 : St P DocAt w _ T1 K1 p (s.rat o1) N r (s.rat o2) N := O.out.on hP.pt DocAt.pt HK.out (Mem.start _).drew.below
    refine (wpIn_wide (n := 6)).1 (wpIn_region_G (fun wx => ∃ sp sr N1 N2, St P DocAt w wx T1 K1 p sp N1 r sr N2) 10 10 rfl (by kernel_rfl) (fun _ => ?_))
    have hS : ∃ sp sr N1 N2, St P DocAt w _ T1 K1 p sp N1 r sr N2 := ⟨_, _, N, N, O5⟩
    have hhx : ∀ wx, (∃ sp sr N1 N2, St P DocAt w wx T1 K1 p sp N1 r sr N2) → Held wx bx 44 (axA x) := fun wx ⟨sp, sr, N1, N2, h⟩ => HF.out _ h.kp
    clear O
    refine wpAnyR_take (i := 0) (v := (.pointer (some ⟨p, 0, none⟩))) rfl rfl (by kernel_rfl) (by kernel_rfl) (by kernel_rfl) (fun _ _ _ h => h) (Nat.le_refl _) ⟨by rfl, fun w _ => (by go_simp; try (first | rfl | simp)), fun _ => rfl⟩ hS ?_
    simp only [List.getElem_toArray, List.getElem_cons_zero, List.getElem_cons_succ, Act.put, List.setIfInBounds_toArray, List.set_cons_zero, List.set_cons_succ]
    refine wpAnyR_take (i := 1) (v := (.pointer (some ⟨bx, 1, none⟩))) rfl rfl (by kernel_rfl) (by kernel_rfl) (by kernel_rfl) (fun _ _ _ h => h) (Nat.le_refl _) ⟨by rfl, fun w _ => (by go_simp; try (first | rfl | simp)), fun _ => rfl⟩ hS ?_
    simp only [List.getElem_toArray, List.getElem_cons_zero, List.getElem_cons_succ, Act.put, List.setIfInBounds_toArray, List.set_cons_zero, List.set_cons_succ]
    refine wpAnyR_take (i := 2) (v := (.int .i64 x.q)) rfl rfl (by kernel_rfl) (by kernel_rfl) (by kernel_rfl) (fun _ _ _ h => h) (Nat.le_refl _) (yields_fld (fun w h => hhx w h) (by exact rfl) (by exact rfl) (by exact rfl) (by first | exact Try.underlying3 | exact Try.underlying39) rfl (by exact rfl)) hS ?_
    simp only [List.getElem_toArray, List.getElem_cons_zero, List.getElem_cons_succ, Act.put, List.setIfInBounds_toArray, List.set_cons_zero, List.set_cons_succ]
    refine wpAnyR_take (i := 4) (v := (.pointer (some ⟨r, 0, none⟩))) rfl rfl (by kernel_rfl) (by kernel_rfl) (by kernel_rfl) (fun _ _ _ h => h) (Nat.le_refl _) ⟨by rfl, fun w _ => (by go_simp; try (first | rfl | simp)), fun _ => rfl⟩ hS ?_
    simp only [List.getElem_toArray, List.getElem_cons_zero, List.getElem_cons_succ, Act.put, List.setIfInBounds_toArray, List.set_cons_zero, List.set_cons_succ]
    refine wpAnyR_take (i := 5) (v := (.pointer (some ⟨bx, 1, none⟩))) rfl rfl (by kernel_rfl) (by kernel_rfl) (by kernel_rfl) (fun _ _ _ h => h) (Nat.le_refl _) ⟨by rfl, fun w _ => (by go_simp; try (first | rfl | simp)), fun _ => rfl⟩ hS ?_
    simp only [List.getElem_toArray, List.getElem_cons_zero, List.getElem_cons_succ, Act.put, List.setIfInBounds_toArray, List.set_cons_zero, List.set_cons_succ]
    refine wpAnyR_take (i := 6) (v := (.int .i64 x.q)) rfl rfl (by kernel_rfl) (by kernel_rfl) (by kernel_rfl) (fun _ _ _ h => h) (Nat.le_refl _) (yields_fld (fun w h => hhx w h) (by exact rfl) (by exact rfl) (by exact rfl) (by first | exact Try.underlying3 | exact Try.underlying39) rfl (by exact rfl)) hS ?_
    simp only [List.getElem_toArray, List.getElem_cons_zero, List.getElem_cons_succ, Act.put, List.setIfInBounds_toArray, List.set_cons_zero, List.set_cons_succ]
    refine wpAnyG_one (i := 3) (by kernel_rfl) rfl (fun K hK => ?_)
    go_simp
    refine ⟨trivial, (callsIn_wide.2 (kP _ _ _ O5)).mono ?_⟩
    rintro e w5 ⟨rfl, O6⟩
    refine hK _ _ (.inr ⟨_, _, _, _, O6⟩) ?_
    clear hK K hS O5
    have O5 := O6
    clear O6
    have hS : ∃ sp sr N1 N2, St P DocAt w _ T1 K1 p sp N1 r sr N2 := ⟨_, _, _, _, O5⟩
    try simp only [List.getElem_toArray, List.getElem_cons_zero, List.getElem_cons_succ, Act.put, List.setIfInBounds_toArray, List.set_cons_zero, List.set_cons_succ]
    refine wpAnyG_one (i := 7) (by kernel_rfl) rfl (fun K hK => ?_)
    go_simp
    refine ⟨trivial, (callsIn_wide.2 (kR _ _ _ O5)).mono ?_⟩
    rintro e w5 ⟨rfl, O6⟩
    refine hK _ _ (.inr ⟨_, _, _, _, O6⟩) ?_
    clear hK K hS O5
    have O5 := O6
    clear O6
    have hS : ∃ sp sr N1 N2, St P DocAt w _ T1 K1 p sp N1 r sr N2 := ⟨_, _, _, _, O5⟩
    try simp only [List.getElem_toArray, List.getElem_cons_zero, List.getElem_cons_succ, Act.put, List.setIfInBounds_toArray, List.set_cons_zero, List.set_cons_succ]
    refine wpAnyR_take (i := 8) (v := (.bool true)) rfl rfl (by kernel_rfl) (by kernel_rfl) (by kernel_rfl) (fun _ _ _ h => h) (Nat.le_refl _) ⟨by rfl, fun w _ => (by go_simp; try (first | rfl | simp)), fun _ => rfl⟩ hS ?_
    simp only [List.getElem_toArray, List.getElem_cons_zero, List.getElem_cons_succ, Act.put, List.setIfInBounds_toArray, List.set_cons_zero, List.set_cons_succ]
    refine wpAnyG_one (i := 9) (by kernel_rfl) rfl (fun K hK => ?_)
    go_simp
    refine hK _ _ (.inr hS) ?_
    clear hK K
    refine wpAnyG_done (by kernel_rfl) ?_ _
    clear hS
    have HO5 := Lib.hid O5
    clear O5
    go_wp2
    go_ret
    exact ⟨rfl, s', N + 2, by omega, HB.out _ _ _ HO5.out⟩
  | 1, _ =>
    have kP := fun W (s2 : TS) (N2 : Nat) (h : St P DocAt w W T1 K1 p (s.rat o1) N r s2 N2) => addL hP DocAt.pt HK.out h (by omega) x.q x.f x.v HX.out.q HX.out.f HX.out.v
    have kR := fun W (s1 : TS) (N1 : Nat) (h : St P DocAt w W T1 K1 p s1 N1 r (s.rat o2) N) => addR hP.pt HK.out h (by omega) x.q x.f x.v HX.out.v
    simp only [addS_at, addE_at] at kP kR
    generalize addS s x.q x.f x.v = s' at kP kR
    generalize addE s x.q x.f = E at kP kR
    go_upto_region 5 with fail
    have O5 : St P DocAt w _ T1 K1 p (s.rat o1) N r (s.rat o2) N := O.out.on hP.pt DocAt.pt HK.out (Mem.start _).drew.below
    refine (wpIn_wide (n := 6)).1 (wpIn_region_G (fun wx => ∃ sp sr N1 N2, St P DocAt w wx T1 K1 p sp N1 r sr N2) 18 18 rfl (by kernel_rfl) (fun _ => ?_))
    have hS : ∃ sp sr N1 N2, St P DocAt w _ T1 K1 p sp N1 r sr N2 := ⟨_, _, N, N, O5⟩
    have hhx : ∀ wx, (∃ sp sr N1 N2, St P DocAt w wx T1 K1 p sp N1 r sr N2) → Held wx bx 44 (axA x) := fun wx ⟨sp, sr, N1, N2, h⟩ => HF.out _ h.kp
    clear O
    refine wpAnyR_take (i := 0) (v := (.pointer (some ⟨p, 0, none⟩))) rfl rfl (by kernel_rfl) (by kernel_rfl) (by kernel_rfl) (fun _ _ _ h => h) (Nat.le_refl _) ⟨by rfl, fun w _ => (by go_simp; try (first | rfl | simp)), fun _ => rfl⟩ hS ?_
    simp only [List.getElem_toArray, List.getElem_cons_zero, List.getElem_cons_succ, Act.put, List.setIfInBounds_toArray, List.set_cons_zero, List.set_cons_succ]
    refine wpAnyR_take (i := 1) (v := (.pointer (some ⟨bx, 1, none⟩))) rfl rfl (by kernel_rfl) (by kernel_rfl) (by kernel_rfl) (fun _ _ _ h => h) (Nat.le_refl _) ⟨by rfl, fun w _ => (by go_simp; try (first | rfl | simp)), fun _ => rfl⟩ hS ?_
    simp only [List.getElem_toArray, List.getElem_cons_zero, List.getElem_cons_succ, Act.put, List.setIfInBounds_toArray, List.set_cons_zero, List.set_cons_succ]
    refine wpAnyR_take (i := 2) (v := (.int .i64 x.q)) rfl rfl (by kernel_rfl) (by kernel_rfl) (by kernel_rfl) (fun _ _ _ h => h) (Nat.le_refl _) (yields_fld (fun w h => hhx w h) (by exact rfl) (by exact rfl) (by exact rfl) (by first | exact Try.underlying3 | exact Try.underlying39) rfl (by exact rfl)) hS ?_
    simp only [List.getElem_toArray, List.getElem_cons_zero, List.getElem_cons_succ, Act.put, List.setIfInBounds_toArray, List.set_cons_zero, List.set_cons_succ]
    refine wpAnyR_take (i := 3) (v := (.pointer (some ⟨bx, 2, none⟩))) rfl rfl (by kernel_rfl) (by kernel_rfl) (by kernel_rfl) (fun _ _ _ h => h) (Nat.le_refl _) ⟨by rfl, fun w _ => (by go_simp; try (first | rfl | simp)), fun _ => rfl⟩ hS ?_
    simp only [List.getElem_toArray, List.getElem_cons_zero, List.getElem_cons_succ, Act.put, List.setIfInBounds_toArray, List.set_cons_zero, List.set_cons_succ]
    refine wpAnyR_take (i := 4) (v := (.int .i64 x.f)) rfl rfl (by kernel_rfl) (by kernel_rfl) (by kernel_rfl) (fun _ _ _ h => h) (Nat.le_refl _) (yields_fld (fun w h => hhx w h) (by exact rfl) (by exact rfl) (by exact rfl) (by first | exact Try.underlying3 | exact Try.underlying39) rfl (by exact rfl)) hS ?_
    simp only [List.getElem_toArray, List.getElem_cons_zero, List.getElem_cons_succ, Act.put, List.setIfInBounds_toArray, List.set_cons_zero, List.set_cons_succ]
    refine wpAnyR_take (i := 5) (v := (.pointer (some ⟨bx, 3, none⟩))) rfl rfl (by kernel_rfl) (by kernel_rfl) (by kernel_rfl) (fun _ _ _ h => h) (Nat.le_refl _) ⟨by rfl, fun w _ => (by go_simp; try (first | rfl | simp)), fun _ => rfl⟩ hS ?_
    simp only [List.getElem_toArray, List.getElem_cons_zero, List.getElem_cons_succ, Act.put, List.setIfInBounds_toArray, List.set_cons_zero, List.set_cons_succ]
    refine wpAnyR_take (i := 6) (v := (.int .u32 x.v)) rfl rfl (by kernel_rfl) (by kernel_rfl) (by kernel_rfl) (fun _ _ _ h => h) (Nat.le_refl _) (yields_fld (fun w h => hhx w h) (by exact rfl) (by exact rfl) (by exact rfl) (by first | exact Try.underlying3 | exact Try.underlying39) rfl (by exact rfl)) hS ?_
    simp only [List.getElem_toArray, List.getElem_cons_zero, List.getElem_cons_succ, Act.put, List.setIfInBounds_toArray, List.set_cons_zero, List.set_cons_succ]
    refine wpAnyR_take (i := 8) (v := (.pointer (some ⟨r, 0, none⟩))) rfl rfl (by kernel_rfl) (by kernel_rfl) (by kernel_rfl) (fun _ _ _ h => h) (Nat.le_refl _) ⟨by rfl, fun w _ => (by go_simp; try (first | rfl | simp)), fun _ => rfl⟩ hS ?_
    simp only [List.getElem_toArray, List.getElem_cons_zero, List.getElem_cons_succ, Act.put, List.setIfInBounds_toArray, List.set_cons_zero, List.set_cons_succ]
    refine wpAnyR_take (i := 9) (v := (.pointer (some ⟨bx, 1, none⟩))) rfl rfl (by kernel_rfl) (by kernel_rfl) (by kernel_rfl) (fun _ _ _ h => h) (Nat.le_refl _) ⟨by rfl, fun w _ => (by go_simp; try (first | rfl | simp)), fun _ => rfl⟩ hS ?_
    simp only [List.getElem_toArray, List.getElem_cons_zero, List.getElem_cons_succ, Act.put, List.setIfInBounds_toArray, List.set_cons_zero, List.set_cons_succ]
    refine wpAnyR_take (i := 10) (v := (.int .i64 x.q)) rfl rfl (by kernel_rfl) (by kernel_rfl) (by kernel_rfl) (fun _ _ _ h => h) (Nat.le_refl _) (yields_fld (fun w h => hhx w h) (by exact rfl) (by exact rfl) (by exact rfl) (by first | exact Try.underlying3 | exact Try.underlying39) rfl (by exact rfl)) hS ?_
    simp only [List.getElem_toArray, List.getElem_cons_zero, List.getElem_cons_succ, Act.put, List.setIfInBounds_toArray, List.set_cons_zero, List.set_cons_succ]
    refine wpAnyR_take (i := 11) (v := (.pointer (some ⟨bx, 2, none⟩))) rfl rfl (by kernel_rfl) (by kernel_rfl) (by kernel_rfl) (fun _ _ _ h => h) (Nat.le_refl _) ⟨by rfl, fun w _ => (by go_simp; try (first | rfl | simp)), fun _ => rfl⟩ hS ?_
    simp only [List.getElem_toArray, List.getElem_cons_zero, List.getElem_cons_succ, Act.put, List.setIfInBounds_toArray, List.set_cons_zero, List.set_cons_succ]
    refine wpAnyR_take (i := 12) (v := (.int .i64 x.f)) rfl rfl (by kernel_rfl) (by kernel_rfl) (by kernel_rfl) (fun _ _ _ h => h) (Nat.le_refl _) (yields_fld (fun w h => hhx w h) (by exact rfl) (by exact rfl) (by exact rfl) (by first | exact Try.underlying3 | exact Try.underlying39) rfl (by exact rfl)) hS ?_
    simp only [List.getElem_toArray, List.getElem_cons_zero, List.getElem_cons_succ, Act.put, List.setIfInBounds_toArray, List.set_cons_zero, List.set_cons_succ]
    refine wpAnyR_take (i := 13) (v := (.pointer (some ⟨bx, 3, none⟩))) rfl rfl (by kernel_rfl) (by kernel_rfl) (by kernel_rfl) (fun _ _ _ h => h) (Nat.le_refl _) ⟨by rfl, fun w _ => (by go_simp; try (first | rfl | simp)), fun _ => rfl⟩ hS ?_
    simp only [List.getElem_toArray, List.getElem_cons_zero, List.getElem_cons_succ, Act.put, List.setIfInBounds_toArray, List.set_cons_zero, List.set_cons_succ]
    refine wpAnyR_take (i := 14) (v := (.int .u32 x.v)) rfl rfl (by kernel_rfl) (by kernel_rfl) (by kernel_rfl) (fun _ _ _ h => h) (Nat.le_refl _) (yields_fld (fun w h => hhx w h) (by exact rfl) (by exact rfl) (by exact rfl) (by first | exact Try.underlying3 | exact Try.underlying39) rfl (by exact rfl)) hS ?_
    simp only [List.getElem_toArray, List.getElem_cons_zero, List.getElem_cons_succ, Act.put, List.setIfInBounds_toArray, List.set_cons_zero, List.set_cons_succ]
    refine wpAnyG_one (i := 7) (by kernel_rfl) rfl (fun K hK => ?_)
    go_simp
    refine ⟨trivial, (callsIn_wide.2 (kP _ _ _ O5)).mono ?_⟩
    rintro e w5 ⟨rfl, O6⟩
    refine hK _ _ (.inr ⟨_, _, _, _, O6⟩) ?_
    clear hK K hS O5
    have O5 := O6
    clear O6
    have hS : ∃ sp sr N1 N2, St P DocAt w _ T1 K1 p sp N1 r sr N2 := ⟨_, _, _, _, O5⟩
    try simp only [List.getElem_toArray, List.getElem_cons_zero, List.getElem_cons_succ, Act.put, List.setIfInBounds_toArray, List.set_cons_zero, List.set_cons_succ]
    refine wpAnyG_one (i := 15) (by kernel_rfl) rfl (fun K hK => ?_)
    go_simp
    refine ⟨trivial, (callsIn_wide.2 (kR _ _ _ O5)).mono ?_⟩
    rintro e w5 ⟨rfl, O6⟩
    refine hK _ _ (.inr ⟨_, _, _, _, O6⟩) ?_
    clear hK K hS O5
    have O5 := O6
    clear O6
    have hS : ∃ sp sr N1 N2, St P DocAt w _ T1 K1 p sp N1 r sr N2 := ⟨_, _, _, _, O5⟩
    try simp only [List.getElem_toArray, List.getElem_cons_zero, List.getElem_cons_succ, Act.put, List.setIfInBounds_toArray, List.set_cons_zero, List.set_cons_succ]
    refine wpAnyR_take (i := 16) (v := (.bool true)) rfl rfl (by kernel_rfl) (by kernel_rfl) (by kernel_rfl) (fun _ _ _ h => h) (Nat.le_refl _) ⟨by rfl, fun w _ => (by go_simp; try (first | rfl | simp)), fun _ => rfl⟩ hS ?_
    simp only [List.getElem_toArray, List.getElem_cons_zero, List.getElem_cons_succ, Act.put, List.setIfInBounds_toArray, List.set_cons_zero, List.set_cons_succ]
    refine wpAnyG_one (i := 17) (by kernel_rfl) rfl (fun K hK => ?_)
    go_simp
    refine hK _ _ (.inr hS) ?_
    clear hK K
    refine wpAnyG_done (by kernel_rfl) ?_ _
    clear hS
    have HO5 := Lib.hid O5
    clear O5
    go_wp2
    go_ret
    exact ⟨rfl, s', N, by omega, HB.out _ _ _ HO5.out⟩
  | 2, _ =>
    have kP := fun W (s2 : TS) (N2 : Nat) (h : St P DocAt w W T1 K1 p (s.rat o1) N r s2 N2) => shutL hP DocAt.pt HK.out h (by omega) x.q HX.out.q
    have kR := fun W (s1 : TS) (N1 : Nat) (h : St P DocAt w W T1 K1 p s1 N1 r (s.rat o2) N) => shutR hP.pt HK.out h (by omega) x.q
    simp only [shutS_at, shutE_at] at kP kR
    generalize shutS s x.q = s' at kP kR
    generalize shutE s x.q = E at kP kR
    go_upto_region 7 with fail
    have O5 : St P DocAt w _ T1 K1 p (s.rat o1) N r (s.rat o2) N := O.out.on hP.pt DocAt.pt HK.out (Mem.start _).drew.below
    refine (wpIn_wide (n := 6)).1 (wpIn_region_G (fun wx => ∃ sp sr N1 N2, St P DocAt w wx T1 K1 p sp N1 r sr N2) 10 10 rfl (by kernel_rfl) (fun _ => ?_))
    have hS : ∃ sp sr N1 N2, St P DocAt w _ T1 K1 p sp N1 r sr N2 := ⟨_, _, N, N, O5⟩
    have hhx : ∀ wx, (∃ sp sr N1 N2, St P DocAt w wx T1 K1 p sp N1 r sr N2) → Held wx bx 44 (axA x) := fun wx ⟨sp, sr, N1, N2, h⟩ => HF.out _ h.kp
    clear O
    refine wpAnyR_take (i := 0) (v := (.pointer (some ⟨p, 0, none⟩))) rfl rfl (by kernel_rfl) (by kernel_rfl) (by kernel_rfl) (fun _ _ _ h => h) (Nat.le_refl _) ⟨by rfl, fun w _ => (by go_simp; try (first | rfl | simp)), fun _ => rfl⟩ hS ?_
    simp only [List.getElem_toArray, List.getElem_cons_zero, List.getElem_cons_succ, Act.put, List.setIfInBounds_toArray, List.set_cons_zero, List.set_cons_succ]
    refine wpAnyR_take (i := 1) (v := (.pointer (some ⟨bx, 1, none⟩))) rfl rfl (by kernel_rfl) (by kernel_rfl) (by kernel_rfl) (fun _ _ _ h => h) (Nat.le_refl _) ⟨by rfl, fun w _ => (by go_simp; try (first | rfl | simp)), fun _ => rfl⟩ hS ?_
    simp only [List.getElem_toArray, List.getElem_cons_zero, List.getElem_cons_succ, Act.put, List.setIfInBounds_toArray, List.set_cons_zero, List.set_cons_succ]
    refine wpAnyR_take (i := 2) (v := (.int .i64 x.q)) rfl rfl (by kernel_rfl) (by kernel_rfl) (by kernel_rfl) (fun _ _ _ h => h) (Nat.le_refl _) (yields_fld (fun w h => hhx w h) (by exact rfl) (by exact rfl) (by exact rfl) (by first | exact Try.underlying3 | exact Try.underlying39) rfl (by exact rfl)) hS ?_
    simp only [List.getElem_toArray, List.getElem_cons_zero, List.getElem_cons_succ, Act.put, List.setIfInBounds_toArray, List.set_cons_zero, List.set_cons_succ]
    refine wpAnyR_take (i := 4) (v := (.pointer (some ⟨r, 0, none⟩))) rfl rfl (by kernel_rfl) (by kernel_rfl) (by kernel_rfl) (fun _ _ _ h => h) (Nat.le_refl _) ⟨by rfl, fun w _ => (by go_simp; try (first | rfl | simp)), fun _ => rfl⟩ hS ?_
    simp only [List.getElem_toArray, List.getElem_cons_zero, List.getElem_cons_succ, Act.put, List.setIfInBounds_toArray, List.set_cons_zero, List.set_cons_succ]
    refine wpAnyR_take (i := 5) (v := (.pointer (some ⟨bx, 1, none⟩))) rfl rfl (by kernel_rfl) (by kernel_rfl) (by kernel_rfl) (fun _ _ _ h => h) (Nat.le_refl _) ⟨by rfl, fun w _ => (by go_simp; try (first | rfl | simp)), fun _ => rfl⟩ hS ?_
    simp only [List.getElem_toArray, List.getElem_cons_zero, List.getElem_cons_succ, Act.put, List.setIfInBounds_toArray, List.set_cons_zero, List.set_cons_succ]
    refine wpAnyR_take (i := 6) (v := (.int .i64 x.q)) rfl rfl (by kernel_rfl) (by kernel_rfl) (by kernel_rfl) (fun _ _ _ h => h) (Nat.le_refl _) (yields_fld (fun w h => hhx w h) (by exact rfl) (by exact rfl) (by exact rfl) (by first | exact Try.underlying3 | exact Try.underlying39) rfl (by exact rfl)) hS ?_
    simp only [List.getElem_toArray, List.getElem_cons_zero, List.getElem_cons_succ, Act.put, List.setIfInBounds_toArray, List.set_cons_zero, List.set_cons_succ]
    refine wpAnyG_one (i := 3) (by kernel_rfl) rfl (fun K hK => ?_)
    go_simp
    refine ⟨trivial, (callsIn_wide.2 (kP _ _ _ O5)).mono ?_⟩
    rintro e w5 ⟨rfl, O6⟩
    refine hK _ _ (.inr ⟨_, _, _, _, O6⟩) ?_
    clear hK K hS O5
    have O5 := O6
    clear O6
    have hS : ∃ sp sr N1 N2, St P DocAt w _ T1 K1 p sp N1 r sr N2 := ⟨_, _, _, _, O5⟩
    try simp only [List.getElem_toArray, List.getElem_cons_zero, List.getElem_cons_succ, Act.put, List.setIfInBounds_toArray, List.set_cons_zero, List.set_cons_succ]
    refine wpAnyG_one (i := 7) (by kernel_rfl) rfl (fun K hK => ?_)
    go_simp
    refine ⟨trivial, (callsIn_wide.2 (kR _ _ _ O5)).mono ?_⟩
    rintro e w5 ⟨rfl, O6⟩
    refine hK _ _ (.inr ⟨_, _, _, _, O6⟩) ?_
    clear hK K hS O5
    have O5 := O6
    clear O6
    have hS : ∃ sp sr N1 N2, St P DocAt w _ T1 K1 p sp N1 r sr N2 := ⟨_, _, _, _, O5⟩
    try simp only [List.getElem_toArray, List.getElem_cons_zero, List.getElem_cons_succ, Act.put, List.setIfInBounds_toArray, List.set_cons_zero, List.set_cons_succ]
    refine wpAnyR_take (i := 8) (v := (.bool true)) rfl rfl (by kernel_rfl) (by kernel_rfl) (by kernel_rfl) (fun _ _ _ h => h) (Nat.le_refl _) ⟨by rfl, fun w _ => (by go_simp; try (first | rfl | simp)), fun _ => rfl⟩ hS ?_
    simp only [List.getElem_toArray, List.getElem_cons_zero, List.getElem_cons_succ, Act.put, List.setIfInBounds_toArray, List.set_cons_zero, List.set_cons_succ]
    refine wpAnyG_one (i := 9) (by kernel_rfl) rfl (fun K hK => ?_)
    go_simp
    refine hK _ _ (.inr hS) ?_
    clear hK K
    refine wpAnyG_done (by kernel_rfl) ?_ _
    clear hS
    have HO5 := Lib.hid O5
    clear O5
    go_wp2
    go_ret
    exact ⟨rfl, s', N + 2, by omega, HB.out _ _ _ HO5.out⟩
  | 3, _ =>
    have kP := fun W (s2 : TS) (N2 : Nat) (h : St P DocAt w W T1 K1 p (s.rat o1) N r s2 N2) => noteL hP DocAt.pt HK.out h (by omega) x.q (sm x.c) HX.out.q (sm_fits HX.out.c)
    have kR := fun W (s1 : TS) (N1 : Nat) (h : St P DocAt w W T1 K1 p s1 N1 r (s.rat o2) N) => noteR hP.pt HK.out h (by omega) x.q (sm x.c) (sm_fits HX.out.c)
    simp only [noteS_at, openE_at] at kP kR
    generalize noteS s x.q (sm x.c) = s' at kP kR
    generalize openE s x.q = E at kP kR
    go_upto_region 9 with fail
    have O5 : St P DocAt w _ T1 K1 p (s.rat o1) N r (s.rat o2) N := O.out.on hP.pt DocAt.pt HK.out (Mem.start _).drew.below
    refine (wpIn_wide (n := 6)).1 (wpIn_region_G (fun wx => ∃ sp sr N1 N2, St P DocAt w wx T1 K1 p sp N1 r sr N2) 16 16 rfl (by kernel_rfl) (fun _ => ?_))
    have hS : ∃ sp sr N1 N2, St P DocAt w _ T1 K1 p sp N1 r sr N2 := ⟨_, _, N, N, O5⟩
    have hhx : ∀ wx, (∃ sp sr N1 N2, St P DocAt w wx T1 K1 p sp N1 r sr N2) → Held wx bx 44 (axA x) := fun wx ⟨sp, sr, N1, N2, h⟩ => HF.out _ h.kp
    clear O
    refine wpAnyR_take (i := 0) (v := (.pointer (some ⟨p, 0, none⟩))) rfl rfl (by kernel_rfl) (by kernel_rfl) (by kernel_rfl) (fun _ _ _ h => h) (Nat.le_refl _) ⟨by rfl, fun w _ => (by go_simp; try (first | rfl | simp)), fun _ => rfl⟩ hS ?_
    simp only [List.getElem_toArray, List.getElem_cons_zero, List.getElem_cons_succ, Act.put, List.setIfInBounds_toArray, List.set_cons_zero, List.set_cons_succ]
    refine wpAnyR_take (i := 1) (v := (.pointer (some ⟨bx, 1, none⟩))) rfl rfl (by kernel_rfl) (by kernel_rfl) (by kernel_rfl) (fun _ _ _ h => h) (Nat.le_refl _) ⟨by rfl, fun w _ => (by go_simp; try (first | rfl | simp)), fun _ => rfl⟩ hS ?_
    simp only [List.getElem_toArray, List.getElem_cons_zero, List.getElem_cons_succ, Act.put, List.setIfInBounds_toArray, List.set_cons_zero, List.set_cons_succ]
    refine wpAnyR_take (i := 2) (v := (.int .i64 x.q)) rfl rfl (by kernel_rfl) (by kernel_rfl) (by kernel_rfl) (fun _ _ _ h => h) (Nat.le_refl _) (yields_fld (fun w h => hhx w h) (by exact rfl) (by exact rfl) (by exact rfl) (by first | exact Try.underlying3 | exact Try.underlying39) rfl (by exact rfl)) hS ?_
    simp only [List.getElem_toArray, List.getElem_cons_zero, List.getElem_cons_succ, Act.put, List.setIfInBounds_toArray, List.set_cons_zero, List.set_cons_succ]
    refine wpAnyR_take (i := 3) (v := (.pointer (some ⟨bx, 4, none⟩))) rfl rfl (by kernel_rfl) (by kernel_rfl) (by kernel_rfl) (fun _ _ _ h => h) (Nat.le_refl _) ⟨by rfl, fun w _ => (by go_simp; try (first | rfl | simp)), fun _ => rfl⟩ hS ?_
    simp only [List.getElem_toArray, List.getElem_cons_zero, List.getElem_cons_succ, Act.put, List.setIfInBounds_toArray, List.set_cons_zero, List.set_cons_succ]
    refine wpAnyR_take (i := 4) (v := (cv x.c)) rfl rfl (by kernel_rfl) (by kernel_rfl) (by kernel_rfl) (fun _ _ _ h => h) (Nat.le_refl _) (yields_mid (fun w h => act_mid (hhx w h)) (by exact rfl) (by exact rfl) (by exact rfl) Try.underlying42 rfl cInfo) hS ?_
    simp only [List.getElem_toArray, List.getElem_cons_zero, List.getElem_cons_succ, Act.put, List.setIfInBounds_toArray, List.set_cons_zero, List.set_cons_succ]
    refine wpAnyR_take (i := 7) (v := (.pointer (some ⟨r, 0, none⟩))) rfl rfl (by kernel_rfl) (by kernel_rfl) (by kernel_rfl) (fun _ _ _ h => h) (Nat.le_refl _) ⟨by rfl, fun w _ => (by go_simp; try (first | rfl | simp)), fun _ => rfl⟩ hS ?_
    simp only [List.getElem_toArray, List.getElem_cons_zero, List.getElem_cons_succ, Act.put, List.setIfInBounds_toArray, List.set_cons_zero, List.set_cons_succ]
    refine wpAnyR_take (i := 8) (v := (.pointer (some ⟨bx, 1, none⟩))) rfl rfl (by kernel_rfl) (by kernel_rfl) (by kernel_rfl) (fun _ _ _ h => h) (Nat.le_refl _) ⟨by rfl, fun w _ => (by go_simp; try (first | rfl | simp)), fun _ => rfl⟩ hS ?_
    simp only [List.getElem_toArray, List.getElem_cons_zero, List.getElem_cons_succ, Act.put, List.setIfInBounds_toArray, List.set_cons_zero, List.set_cons_succ]
    refine wpAnyR_take (i := 9) (v := (.int .i64 x.q)) rfl rfl (by kernel_rfl) (by kernel_rfl) (by kernel_rfl) (fun _ _ _ h => h) (Nat.le_refl _) (yields_fld (fun w h => hhx w h) (by exact rfl) (by exact rfl) (by exact rfl) (by first | exact Try.underlying3 | exact Try.underlying39) rfl (by exact rfl)) hS ?_
    simp only [List.getElem_toArray, List.getElem_cons_zero, List.getElem_cons_succ, Act.put, List.setIfInBounds_toArray, List.set_cons_zero, List.set_cons_succ]
    refine wpAnyR_take (i := 10) (v := (.pointer (some ⟨bx, 4, none⟩))) rfl rfl (by kernel_rfl) (by kernel_rfl) (by kernel_rfl) (fun _ _ _ h => h) (Nat.le_refl _) ⟨by rfl, fun w _ => (by go_simp; try (first | rfl | simp)), fun _ => rfl⟩ hS ?_
    simp only [List.getElem_toArray, List.getElem_cons_zero, List.getElem_cons_succ, Act.put, List.setIfInBounds_toArray, List.set_cons_zero, List.set_cons_succ]
    refine wpAnyR_take (i := 11) (v := (cv x.c)) rfl rfl (by kernel_rfl) (by kernel_rfl) (by kernel_rfl) (fun _ _ _ h => h) (Nat.le_refl _) (yields_mid (fun w h => act_mid (hhx w h)) (by exact rfl) (by exact rfl) (by exact rfl) Try.underlying42 rfl cInfo) hS ?_
    simp only [List.getElem_toArray, List.getElem_cons_zero, List.getElem_cons_succ, Act.put, List.setIfInBounds_toArray, List.set_cons_zero, List.set_cons_succ]
    refine wpAnyG_one (i := 5) (by kernel_rfl) rfl (fun K hK => ?_)
    go_simp
    refine ⟨trivial, (callsIn_wide.2 (small_w x.c _)).mono ?_⟩
    rintro e w5 ⟨rfl, hb⟩
    have O6 := O5.on hP.pt DocAt.pt HK.out hb
    refine hK _ _ (.inr ⟨_, _, _, _, O6⟩) ?_
    clear hK K hS O5 hb
    have O5 := O6
    clear O6
    have hS : ∃ sp sr N1 N2, St P DocAt w _ T1 K1 p sp N1 r sr N2 := ⟨_, _, _, _, O5⟩
    try simp only [List.getElem_toArray, List.getElem_cons_zero, List.getElem_cons_succ, Act.put, List.setIfInBounds_toArray, List.set_cons_zero, List.set_cons_succ]
    refine wpAnyG_one (i := 6) (by kernel_rfl) rfl (fun K hK => ?_)
    go_simp
    refine ⟨trivial, (callsIn_wide.2 (kP _ _ _ O5)).mono ?_⟩
    rintro e w5 ⟨rfl, O6⟩
    refine hK _ _ (.inr ⟨_, _, _, _, O6⟩) ?_
    clear hK K hS O5
    have O5 := O6
    clear O6
    have hS : ∃ sp sr N1 N2, St P DocAt w _ T1 K1 p sp N1 r sr N2 := ⟨_, _, _, _, O5⟩
    try simp only [List.getElem_toArray, List.getElem_cons_zero, List.getElem_cons_succ, Act.put, List.setIfInBounds_toArray, List.set_cons_zero, List.set_cons_succ]
    refine wpAnyG_one (i := 12) (by kernel_rfl) rfl (fun K hK => ?_)
    go_simp
    refine ⟨trivial, (callsIn_wide.2 (small_w x.c _)).mono ?_⟩
    rintro e w5 ⟨rfl, hb⟩
    have O6 := O5.on hP.pt DocAt.pt HK.out hb
    refine hK _ _ (.inr ⟨_, _, _, _, O6⟩) ?_
    clear hK K hS O5 hb
    have O5 := O6
    clear O6
    have hS : ∃ sp sr N1 N2, St P DocAt w _ T1 K1 p sp N1 r sr N2 := ⟨_, _, _, _, O5⟩
    try simp only [List.getElem_toArray, List.getElem_cons_zero, List.getElem_cons_succ, Act.put, List.setIfInBounds_toArray, List.set_cons_zero, List.set_cons_succ]
    refine wpAnyG_one (i := 13) (by kernel_rfl) rfl (fun K hK => ?_)
    go_simp
    refine ⟨trivial, (callsIn_wide.2 (kR _ _ _ O5)).mono ?_⟩
    rintro e w5 ⟨rfl, O6⟩
    refine hK _ _ (.inr ⟨_, _, _, _, O6⟩) ?_
    clear hK K hS O5
    have O5 := O6
    clear O6
    have hS : ∃ sp sr N1 N2, St P DocAt w _ T1 K1 p sp N1 r sr N2 := ⟨_, _, _, _, O5⟩
    try simp only [List.getElem_toArray, List.getElem_cons_zero, List.getElem_cons_succ, Act.put, List.setIfInBounds_toArray, List.set_cons_zero, List.set_cons_succ]
    refine wpAnyR_take (i := 14) (v := (.bool true)) rfl rfl (by kernel_rfl) (by kernel_rfl) (by kernel_rfl) (fun _ _ _ h => h) (Nat.le_refl _) ⟨by rfl, fun w _ => (by go_simp; try (first | rfl | simp)), fun _ => rfl⟩ hS ?_
    simp only [List.getElem_toArray, List.getElem_cons_zero, List.getElem_cons_succ, Act.put, List.setIfInBounds_toArray, List.set_cons_zero, List.set_cons_succ]
    refine wpAnyG_one (i := 15) (by kernel_rfl) rfl (fun K hK => ?_)
    go_simp
    refine hK _ _ (.inr hS) ?_
    clear hK K
    refine wpAnyG_done (by kernel_rfl) ?_ _
    clear hS
    have HO5 := Lib.hid O5
    clear O5
    go_wp2
    go_ret
    exact ⟨rfl, s', N + 2, by omega, HB.out _ _ _ HO5.out⟩
  | 4, _ =>
    have H := True.intro
    have kP := fun T' K' (hk : Kept T' K') W (h : St P DocAt w W T' K' p (s.rat o1) N r (s.rat o2) N) => readL hP DocAt.pt hk h (by omega) x.q HX.out.q
    have kR := fun T' K' (hk : Kept T' K') W (h : St P DocAt w W T' K' p (s.rat o1) N r (s.rat o2) N) => readR hP.pt hk h (by omega) x.q
    simp only [readV_at, openE_at] at kP kR
    generalize readV s x.q = V at kP kR
    generalize openE s x.q = E at kP kR
    go_upto_region 11 with fail
    have c1 := (HF.out _ O.out.kp).cell 1
    simp only [show (axA x)[1]? = some (.int .i64 x.q) from rfl] at c1
    go_upto_region 12 with (first
    | go_skip
    | (go_at_call 17; refine (kP _ _ HK.out _ O.out).mono ?_; rintro e w2 ⟨rfl, O2⟩; clear O H; have O := Lib.hid O2; clear O2; have H := Mem.start w2)
    | ((with_reducible show wpList _ _ _ _ _ (World.alloc _ (.cells _ _))); refine mem_newb (l := []) H ?_; intro b1 w3 hbk H2; try rw [← hbk]; clear hbk H; have H := H2; clear H2; simp only [List.cons_append, List.nil_append, List.set_cons_zero, List.set_cons_succ, List.setIfInBounds_toArray] at H)
    | ((with_reducible show wpList _ _ _ (⟨_, .store 42 _ _, _, _, _, _⟩ :: _) _ _); refine mem_store (i := 0) H (by first | exact wanted_none rfl | exact wanted_some rfl rfl rfl rfl) (by exact rfl) (by exact rfl) (by exact rfl) (by exact rfl) (by exact cInfo) (by exact rfl) (by exact rfl) ?_; intro w2 H2; clear H; have H := H2; clear H2; simp only [List.cons_append, List.nil_append, List.set_cons_zero, List.set_cons_succ, List.setIfInBounds_toArray] at H))
    obtain ⟨T2, K2, hk2, hK2, hT2, O2⟩ := pack_more hP.pt DocAt.pt HK.out O.out H
    have HF2 := Lib.hid (fun (X : World) (h : K2 X) => And.intro (hK2 X h).2 (HF.out X (hK2 X h).1))
    have HB2 := Lib.hid (fun (W' : World) (s' : TS) (N' : Nat) (h : Two P w T2 K2 p r o1 o2 s' N' W') => HB.out W' s' N' (h.less hT2 (fun h => (hK2 _ h).1)))
    clear H O HK HF HB hK2 hT2
    have HK := Lib.hid hk2
    have O := Lib.hid O2
    have HF := HF2
    have HB := HB2
    clear hk2 O2 HF2 HB2
    have H := True.intro
    clear c1
    have c1 := (HF.out _ O.out.kp).2.cell 1
    simp only [show (axA x)[1]? = some (.int .i64 x.q) from rfl] at c1
    go_upto_region 13 with (first
    | go_skip
    | (go_at_call 37; refine (kR _ _ HK.out _ O.out).mono ?_; rintro e w2 ⟨rfl, O2⟩; clear O H; have O := Lib.hid O2; clear O2; have H := Mem.start w2)
    | ((with_reducible show wpList _ _ _ _ _ (World.alloc _ (.cells _ _))); refine mem_newb (l := []) H ?_; intro b2 w3 hbk H2; try rw [← hbk]; clear hbk H; have H := H2; clear H2; simp only [List.cons_append, List.nil_append, List.set_cons_zero, List.set_cons_succ, List.setIfInBounds_toArray] at H)
    | ((with_reducible show wpList _ _ _ (⟨_, .store 42 _ _, _, _, _, _⟩ :: _) _ _); refine mem_store (i := 0) H (by first | exact wanted_none rfl | exact wanted_some rfl rfl rfl rfl) (by exact rfl) (by exact rfl) (by exact rfl) (by exact rfl) (by exact cInfo) (by exact rfl) (by exact rfl) ?_; intro w2 H2; clear H; have H := H2; clear H2; simp only [List.cons_append, List.nil_append, List.set_cons_zero, List.set_cons_succ, List.setIfInBounds_toArray] at H))
    obtain ⟨T3, K3, hk3, hK3, hT3, O3⟩ := pack_more hP.pt DocAt.pt HK.out O.out H
    have HF3 := Lib.hid (fun (X : World) (h : K3 X) => And.intro (hK3 X h).2 (HF.out X (hK3 X h).1))
    have HB3 := Lib.hid (fun (W' : World) (s' : TS) (N' : Nat) (h : Two P w T3 K3 p r o1 o2 s' N' W') => HB.out W' s' N' (h.less hT3 (fun h => (hK3 _ h).1)))
    clear H O HK HF HB hK3 hT3
    have HK := Lib.hid hk3
    have O := Lib.hid O3
    have HF := HF3
    have HB := HB3
    clear hk3 O3 HF3 HB3
    have H := True.intro
    clear c1
    have g1 := (HF.out _ O.out.kp).2.1
    have g2 := (HF.out _ O.out.kp).1
    have HO := O
    clear H O kP kR
    go_wp2_with (first
    | go_skip
    | ((with_reducible show wpList _ _ _ (⟨_, .load 42 _, _, _, _, _⟩ :: _) _ _); refine load_held g1 (by first | exact wanted_none rfl | exact wanted_some rfl rfl rfl rfl) (by exact rfl) (by exact rfl) Try.underlying42 rfl cInfo ?_)
    | ((with_reducible show wpList _ _ _ (⟨_, .load 42 _, _, _, _, _⟩ :: _) _ _); refine load_held g2 (by first | exact wanted_none rfl | exact wanted_some rfl rfl rfl rfl) (by exact rfl) (by exact rfl) Try.underlying42 rfl cInfo ?_)
    | ((with_reducible show wpList _ _ _ (⟨_, .binOp .eql 42 _ _ _, _, _, _, _⟩ :: _) _ _); refine wpList_eql (by first | exact wanted_none rfl | exact wanted_some rfl rfl rfl rfl) (by exact rfl) (by exact rfl) (by exact rfl) (decide_eq_true rfl) ?_))
    go_ret
    exact ⟨by simp, s, N, by omega, HB.out _ _ _ HO.out⟩
  | 5, _ | 6, _ =>
    have H := True.intro
    have kP := fun T' K' (hk : Kept T' K') W (h : St P DocAt w W T' K' p (s.rat o1) N r (s.rat o2) N) => sumL hP DocAt.pt hk h (by omega) 
    have kR := fun T' K' (hk : Kept T' K') W (h : St P DocAt w W T' K' p (s.rat o1) N r (s.rat o2) N) => sumR hP.pt hk h (by omega) 
    simp only [sumV_at, sumE_at] at kP kR
    generalize sumV s = V at kP kR
    generalize sumE s = E at kP kR
    go_upto_region 14 with fail
    go_upto_region 15 with (first
    | go_skip
    | (go_at_call 18; refine (kP _ _ HK.out _ O.out).mono ?_; rintro e w2 ⟨rfl, O2⟩; clear O H; have O := Lib.hid O2; clear O2; have H := Mem.start w2)
    | ((with_reducible show wpList _ _ _ _ _ (World.alloc _ (.cells _ _))); refine mem_newb (l := []) H ?_; intro b1 w3 hbk H2; try rw [← hbk]; clear hbk H; have H := H2; clear H2; simp only [List.cons_append, List.nil_append, List.set_cons_zero, List.set_cons_succ, List.setIfInBounds_toArray] at H)
    | ((with_reducible show wpList _ _ _ (⟨_, .store 42 _ _, _, _, _, _⟩ :: _) _ _); refine mem_store (i := 0) H (by first | exact wanted_none rfl | exact wanted_some rfl rfl rfl rfl) (by exact rfl) (by exact rfl) (by exact rfl) (by exact rfl) (by exact cInfo) (by exact rfl) (by exact rfl) ?_; intro w2 H2; clear H; have H := H2; clear H2; simp only [List.cons_append, List.nil_append, List.set_cons_zero, List.set_cons_succ, List.setIfInBounds_toArray] at H))
    obtain ⟨T2, K2, hk2, hK2, hT2, O2⟩ := pack_more hP.pt DocAt.pt HK.out O.out H
    have HF2 := Lib.hid (fun (X : World) (h : K2 X) => And.intro (hK2 X h).2 (HF.out X (hK2 X h).1))
    have HB2 := Lib.hid (fun (W' : World) (s' : TS) (N' : Nat) (h : Two P w T2 K2 p r o1 o2 s' N' W') => HB.out W' s' N' (h.less hT2 (fun h => (hK2 _ h).1)))
    clear H O HK HF HB hK2 hT2
    have HK := Lib.hid hk2
    have O := Lib.hid O2
    have HF := HF2
    have HB := HB2
    clear hk2 O2 HF2 HB2
    have H := True.intro
    go_upto_region 16 with (first
    | go_skip
    | (go_at_call 38; refine (kR _ _ HK.out _ O.out).mono ?_; rintro e w2 ⟨rfl, O2⟩; clear O H; have O := Lib.hid O2; clear O2; have H := Mem.start w2)
    | ((with_reducible show wpList _ _ _ _ _ (World.alloc _ (.cells _ _))); refine mem_newb (l := []) H ?_; intro b2 w3 hbk H2; try rw [← hbk]; clear hbk H; have H := H2; clear H2; simp only [List.cons_append, List.nil_append, List.set_cons_zero, List.set_cons_succ, List.setIfInBounds_toArray] at H)
    | ((with_reducible show wpList _ _ _ (⟨_, .store 42 _ _, _, _, _, _⟩ :: _) _ _); refine mem_store (i := 0) H (by first | exact wanted_none rfl | exact wanted_some rfl rfl rfl rfl) (by exact rfl) (by exact rfl) (by exact rfl) (by exact rfl) (by exact cInfo) (by exact rfl) (by exact rfl) ?_; intro w2 H2; clear H; have H := H2; clear H2; simp only [List.cons_append, List.nil_append, List.set_cons_zero, List.set_cons_succ, List.setIfInBounds_toArray] at H))
    obtain ⟨T3, K3, hk3, hK3, hT3, O3⟩ := pack_more hP.pt DocAt.pt HK.out O.out H
    have HF3 := Lib.hid (fun (X : World) (h : K3 X) => And.intro (hK3 X h).2 (HF.out X (hK3 X h).1))
    have HB3 := Lib.hid (fun (W' : World) (s' : TS) (N' : Nat) (h : Two P w T3 K3 p r o1 o2 s' N' W') => HB.out W' s' N' (h.less hT3 (fun h => (hK3 _ h).1)))
    clear H O HK HF HB hK3 hT3
    have HK := Lib.hid hk3
    have O := Lib.hid O3
    have HF := HF3
    have HB := HB3
    clear hk3 O3 HF3 HB3
    have H := True.intro
    have g1 := (HF.out _ O.out.kp).2.1
    have g2 := (HF.out _ O.out.kp).1
    have HO := O
    clear H O kP kR
    go_wp2_with (first
    | go_skip
    | ((with_reducible show wpList _ _ _ (⟨_, .load 42 _, _, _, _, _⟩ :: _) _ _); refine load_held g1 (by first | exact wanted_none rfl | exact wanted_some rfl rfl rfl rfl) (by exact rfl) (by exact rfl) Try.underlying42 rfl cInfo ?_)
    | ((with_reducible show wpList _ _ _ (⟨_, .load 42 _, _, _, _, _⟩ :: _) _ _); refine load_held g2 (by first | exact wanted_none rfl | exact wanted_some rfl rfl rfl rfl) (by exact rfl) (by exact rfl) Try.underlying42 rfl cInfo ?_)
    | ((with_reducible show wpList _ _ _ (⟨_, .binOp .eql 42 _ _ _, _, _, _, _⟩ :: _) _ _); refine wpList_eql (by first | exact wanted_none rfl | exact wanted_some rfl rfl rfl rfl) (by exact rfl) (by exact rfl) (by exact rfl) (decide_eq_true rfl) ?_))
    go_ret
    exact ⟨by simp, s, N, by omega, HB.out _ _ _ HO.out⟩
end
end Go.Proofs.Ytdhjdkhhhdcjdaa.Ta
end
