/-
  The laws' did, walked. Conditions: as the interface says. FifoDoes, walked. Conditions: as the interface says; the acts lie where their slice says.
-/
import Derived.Test.YtlnlkodpndjimaaMGm
/- The laws' did, walked. Conditions: as the interface says. -/
section
namespace Go.Proofs.Ytlnlkodpndjimaa.Fi
set_option linter.unusedSimpArgs false
set_option linter.unusedVariables false
set_option maxRecDepth 100000
open Go.ChangeShapes Go.WideShapes Go.ChangeAt Go.RowKit Go.Maps

theorem acInfo : (Try.prog.info? 39).map (·.size) = some 12 := by kernel_rfl
abbrev axA (x : AX) : Array Value := (axC x).toArray
theorem act_pkt {W : World} {b : Nat} {x : AX} (h : Held W b 39 (axA x)) : W.rangeAt b 1 (pvCs x.q) := fun j v hv => by
  rw [h.cell (1 + j)]
  match j, hv with
  | 0, hv => exact hv
  | 1, hv => exact hv
  | 2, hv => exact hv
  | 3, hv => exact hv
  | 4, hv => exact hv
  | 5, hv => exact hv
  | 6, hv => exact hv
  | 7, hv => exact hv
  | 8, hv => exact hv
theorem u64_tmod (d : Int) (k : Nat) (hk : 0 < k) : ∃ v : Nat, (IntKind.u64.wrap d).tmod (k : Int) = (v : Int) ∧ v < k := by
  rw [IntKind.wrap_u64]
  obtain ⟨a, ha⟩ := Int.eq_ofNat_of_zero_le (show 0 ≤ d % 18446744073709551616 by omega)
  rw [ha]
  refine ⟨a % k, ?_, Nat.mod_lt _ hk⟩
  rw [← Int.ofNat_tmod]
/-- a struct is loaded from the middle of a block, in a drawn region, under any condition -/
theorem yields_midR {P : Program} {ops : Array Oper} {o : Oper} {a : Act} {R : World → Prop} {b j : Nat} {ty : TypeId} {x : Operand} {d : TypeDesc} {cs : List Value} (hc : ∀ w, R w → w.rangeAt b j cs) (hw : Region.wanted o (yielded ops a.tmps) = true) (ho : o.op = .load ty x) (hx : opnd a x = some (.pointer (some ⟨b, j, none⟩)))
    (hu : P.underlying ty = some d) (hd : d.isRow = true) (hi : (P.info? ty).map (·.size) = some cs.length) : YieldsG P ops R o (.agg cs.toArray) a := by
  refine ⟨hw, fun w H => ?_, fun w => ?_⟩
  · unfold execOp
    simp only [ho, opnd_eval hx, Instr.loadAt, Instr.sureAddr, Sem.run_bind, Sem.run_pure, Result.andThen_ok, run_loadVar_mid w b j ty cs d (hc w H) hu hd hi]
  · unfold Oper.about
    rw [ho]
/-- the law's two fifos, alike -/
abbrev Two (P : PT) (w : World) (T : Nat → Prop) (K : World → Prop) (p r : Nat) (s : FF) (N : Nat) (V : World) : Prop := St P DocAt w V T K p s N r s N
section
variable {P : PT}
set_option maxHeartbeats 2000000 in
theorem did_w (hP : PFifo P) (w : World) (T : Nat → Prop) (K : World → Prop) (hk : Kept T K) (p r : Nat) (s : FF) (N : Nat) (hN : N ≤ 100) (x : AX) (hx : x.Fits) (W : World) (hO : Two P w T K p r s N W) :
    Calls Try.prog 13 #[.pointer (some ⟨p, 0, none⟩), .pointer (some ⟨r, 0, none⟩), .agg (axA x)] W fun e w' => e = .returned (.bool true) ∧ ∃ s' N', N' ≤ N + 1 ∧ Two P w T K p r s' N' w' := by
  have H := Mem.start W
  have c0 : (axA x).toList[0]? = some (.int .i64 x.d) := rfl
  obtain ⟨d, hd⟩ : ∃ c, x.d = c := ⟨_, rfl⟩
  rw [hd] at c0
  have HX := Lib.hid hx
  have hfa := hO.facts hP
  clear hx hd
  go_enter Try.func13, Try.ntmps13
  go_upto_region 1 with (first
    | ((with_reducible show wpList _ _ _ _ _ (World.alloc _ (.cells _ _))); refine mem_newb (l := []) H ?_; intro bx w3 hbk H2; try rw [← hbk]; clear hbk H; have H := H2; clear H2; simp only [List.cons_append, List.nil_append, List.set_cons_zero, List.set_cons_succ, List.setIfInBounds_toArray] at H))
  go_upto_region 2 with (first
    | go_skip
    | ((with_reducible show wpList _ _ _ (⟨_, .load 3 _, _, _, _, _⟩ :: _) _ _); refine mem_loadf (i := 0) H (by first | exact wanted_none rfl | exact wanted_some rfl rfl rfl rfl) (by exact rfl) (by exact rfl) (by exact rfl) Try.underlying3 rfl c0 ?_))
  obtain ⟨v, hv, hv5⟩ : ∃ v : Nat, (IntKind.u64.wrap d).tmod 6 = (v : Int) ∧ v < 6 := u64_tmod d 6 (by omega)
  rw [hv]
  obtain ⟨T1, K1, hk1, hK1, hT1, O1⟩ := pack_more hP.pt DocAt.pt hk hO H
  have HK := Lib.hid hk1
  have HF := Lib.hid (fun X h => (hK1 X h).2)
  have HB := Lib.hid (fun (W' : World) (s' : FF) (N' : Nat) (h : St P DocAt w W' T1 K1 p s' N' r s' N') => (show Two P w T K p r s' N' W' from h.less hT1 (fun h => (hK1 _ h).1)))
  have O := Lib.hid O1
  clear H hk1 hK1 hT1 O1 hO hv hk c0
  have H := Mem.start w3
  have HLN := Lib.hid hfa.1
  clear hfa
  match v, hv5 with
  | 0, _ =>
    have kP2 := fun W (s2 : FF) (N2 : Nat) (h : St P DocAt w W T1 K1 p s N r s2 N2) => putP hP DocAt.pt HK.out h (by omega) x.q HX.out.q
    have kR := fun W (s2 : FF) (N2 : Nat) (h : St P DocAt w W T1 K1 p s2 N2 r s N) => putR hP.pt HK.out h (by omega) x.q HX.out.q
    obtain ⟨s', hs'⟩ : ∃ y, putS s x.q = y := ⟨_, rfl⟩
    obtain ⟨E, hE⟩ : ∃ y, putE s x.q = y := ⟨_, rfl⟩
    rw [hs', hE] at kP2 kR
    clear hs' hE
    go_upto_region 3 with fail
    have O5 : St P DocAt w _ T1 K1 p s N r s N := (O.out.on hP.pt DocAt.pt HK.out H.below).on hP.pt DocAt.pt HK.out (Mem.start _).drew.below
    refine (wpIn_wide (n := 6)).1 (wpIn_region_G (fun wx => ∃ sp sr N1 N2, St P DocAt w wx T1 K1 p sp N1 r sr N2) 10 10 rfl (by kernel_rfl) (fun _ => ?_))
    have hS : ∃ sp sr N1 N2, St P DocAt w _ T1 K1 p sp N1 r sr N2 := ⟨s, s, N, N, O5⟩
    have hhx : ∀ wx, (∃ sp sr N1 N2, St P DocAt w wx T1 K1 p sp N1 r sr N2) → Held wx bx 39 (axA x) := fun wx ⟨sp, sr, N1, N2, h⟩ => HF.out _ h.kp
    clear O H
    refine wpAnyR_take (i := 0) (v := (.pointer (some ⟨p, 0, none⟩))) rfl rfl (by kernel_rfl) (by kernel_rfl) (by kernel_rfl) (fun _ _ _ h => h) (Nat.le_refl _) ⟨by rfl, fun w _ => (by go_simp; try (first | rfl | simp)), fun _ => rfl⟩ hS ?_
    simp only [List.getElem_toArray, List.getElem_cons_zero, List.getElem_cons_succ, Act.put, List.setIfInBounds_toArray, List.set_cons_zero, List.set_cons_succ]
    refine wpAnyR_take (i := 1) (v := (.pointer (some ⟨bx, 1, none⟩))) rfl rfl (by kernel_rfl) (by kernel_rfl) (by kernel_rfl) (fun _ _ _ h => h) (Nat.le_refl _) ⟨by rfl, fun w _ => (by go_simp; try (first | rfl | simp)), fun _ => rfl⟩ hS ?_
    simp only [List.getElem_toArray, List.getElem_cons_zero, List.getElem_cons_succ, Act.put, List.setIfInBounds_toArray, List.set_cons_zero, List.set_cons_succ]
    refine wpAnyR_take (i := 2) (v := (pv x.q)) rfl rfl (by kernel_rfl) (by kernel_rfl) (by kernel_rfl) (fun _ _ _ h => h) (Nat.le_refl _) (yields_midR (fun w h => act_pkt (hhx w h)) (by exact rfl) (by exact rfl) (by exact rfl) Try.underlying37 rfl (by exact pkInfo)) hS ?_
    simp only [List.getElem_toArray, List.getElem_cons_zero, List.getElem_cons_succ, Act.put, List.setIfInBounds_toArray, List.set_cons_zero, List.set_cons_succ]
    refine wpAnyR_take (i := 4) (v := (.pointer (some ⟨r, 0, none⟩))) rfl rfl (by kernel_rfl) (by kernel_rfl) (by kernel_rfl) (fun _ _ _ h => h) (Nat.le_refl _) ⟨by rfl, fun w _ => (by go_simp; try (first | rfl | simp)), fun _ => rfl⟩ hS ?_
    simp only [List.getElem_toArray, List.getElem_cons_zero, List.getElem_cons_succ, Act.put, List.setIfInBounds_toArray, List.set_cons_zero, List.set_cons_succ]
    refine wpAnyR_take (i := 5) (v := (.pointer (some ⟨bx, 1, none⟩))) rfl rfl (by kernel_rfl) (by kernel_rfl) (by kernel_rfl) (fun _ _ _ h => h) (Nat.le_refl _) ⟨by rfl, fun w _ => (by go_simp; try (first | rfl | simp)), fun _ => rfl⟩ hS ?_
    simp only [List.getElem_toArray, List.getElem_cons_zero, List.getElem_cons_succ, Act.put, List.setIfInBounds_toArray, List.set_cons_zero, List.set_cons_succ]
    refine wpAnyR_take (i := 6) (v := (pv x.q)) rfl rfl (by kernel_rfl) (by kernel_rfl) (by kernel_rfl) (fun _ _ _ h => h) (Nat.le_refl _) (yields_midR (fun w h => act_pkt (hhx w h)) (by exact rfl) (by exact rfl) (by exact rfl) Try.underlying37 rfl (by exact pkInfo)) hS ?_
    simp only [List.getElem_toArray, List.getElem_cons_zero, List.getElem_cons_succ, Act.put, List.setIfInBounds_toArray, List.set_cons_zero, List.set_cons_succ]
    refine wpAnyG_one (i := 3) (by kernel_rfl) rfl (fun K hK => ?_)
    go_simp
    refine ⟨trivial, (callsIn_wide.2 (kP2 _ _ _ O5)).mono ?_⟩
    rintro e w5 ⟨rfl, O6⟩
    refine hK _ _ (.inr ⟨_, _, _, _, O6⟩) ?_
    clear hK K hS O5
    have O5 := O6
    clear O6
    have hS : ∃ sp sr N1 N2, St P DocAt w _ T1 K1 p sp N1 r sr N2 := ⟨_, _, _, _, O5⟩
    try simp only [List.getElem_toArray, List.getElem_cons_zero, List.getElem_cons_succ, Act.put, List.setIfInBounds_toArray, List.set_cons_zero, List.set_cons_succ]
    refine wpAnyG_one (i := 7) (by kernel_rfl) rfl (fun K hK => ?_)
    go_simp
    refine ⟨trivial, (callsIn_wide.2 (kR _ _ _ O5)).mono ?_⟩
    rintro e w5 ⟨rfl, O6⟩
    refine hK _ _ (.inr ⟨_, _, _, _, O6⟩) ?_
    clear hK K hS O5
    have O5 := O6
    clear O6
    have hS : ∃ sp sr N1 N2, St P DocAt w _ T1 K1 p sp N1 r sr N2 := ⟨_, _, _, _, O5⟩
    try simp only [List.getElem_toArray, List.getElem_cons_zero, List.getElem_cons_succ, Act.put, List.setIfInBounds_toArray, List.set_cons_zero, List.set_cons_succ]
    refine wpAnyR_take (i := 8) (v := (.bool true)) rfl rfl (by kernel_rfl) (by kernel_rfl) (by kernel_rfl) (fun _ _ _ h => h) (Nat.le_refl _) ⟨by rfl, fun w _ => (by go_simp; try (first | rfl | simp)), fun _ => rfl⟩ hS ?_
    simp only [List.getElem_toArray, List.getElem_cons_zero, List.getElem_cons_succ, Act.put, List.setIfInBounds_toArray, List.set_cons_zero, List.set_cons_succ]
    refine wpAnyG_one (i := 9) (by kernel_rfl) rfl (fun K hK => ?_)
    go_simp
    refine hK _ _ (.inr hS) ?_
    clear hK K
    refine wpAnyG_done (by kernel_rfl) ?_ _
    clear hS
    have HO5 := Lib.hid O5
    clear O5
    go_wp2
    go_ret
    exact ⟨rfl, s', N + 1, Nat.le_refl _, HB.out _ _ _ HO5.out⟩
  | 1, _ =>
    have kP2 := fun W (s2 : FF) (N2 : Nat) (h : St P DocAt w W T1 K1 p s N r s2 N2) => backP hP DocAt.pt HK.out h (by omega) x.q HX.out.q
    have kR := fun W (s2 : FF) (N2 : Nat) (h : St P DocAt w W T1 K1 p s2 N2 r s N) => backR hP.pt HK.out h (by omega) x.q HX.out.q
    obtain ⟨s', hs'⟩ : ∃ y, backS s x.q = y := ⟨_, rfl⟩
    obtain ⟨E, hE⟩ : ∃ y, backE x.q = y := ⟨_, rfl⟩
    rw [hs', hE] at kP2 kR
    clear hs' hE
    go_upto_region 5 with fail
    have O5 : St P DocAt w _ T1 K1 p s N r s N := (O.out.on hP.pt DocAt.pt HK.out H.below).on hP.pt DocAt.pt HK.out (Mem.start _).drew.below
    refine (wpIn_wide (n := 6)).1 (wpIn_region_G (fun wx => ∃ sp sr N1 N2, St P DocAt w wx T1 K1 p sp N1 r sr N2) 10 10 rfl (by kernel_rfl) (fun _ => ?_))
    have hS : ∃ sp sr N1 N2, St P DocAt w _ T1 K1 p sp N1 r sr N2 := ⟨s, s, N, N, O5⟩
    have hhx : ∀ wx, (∃ sp sr N1 N2, St P DocAt w wx T1 K1 p sp N1 r sr N2) → Held wx bx 39 (axA x) := fun wx ⟨sp, sr, N1, N2, h⟩ => HF.out _ h.kp
    clear O H
    refine wpAnyR_take (i := 0) (v := (.pointer (some ⟨p, 0, none⟩))) rfl rfl (by kernel_rfl) (by kernel_rfl) (by kernel_rfl) (fun _ _ _ h => h) (Nat.le_refl _) ⟨by rfl, fun w _ => (by go_simp; try (first | rfl | simp)), fun _ => rfl⟩ hS ?_
    simp only [List.getElem_toArray, List.getElem_cons_zero, List.getElem_cons_succ, Act.put, List.setIfInBounds_toArray, List.set_cons_zero, List.set_cons_succ]
    refine wpAnyR_take (i := 1) (v := (.pointer (some ⟨bx, 1, none⟩))) rfl rfl (by kernel_rfl) (by kernel_rfl) (by kernel_rfl) (fun _ _ _ h => h) (Nat.le_refl _) ⟨by rfl, fun w _ => (by go_simp; try (first | rfl | simp)), fun _ => rfl⟩ hS ?_
    simp only [List.getElem_toArray, List.getElem_cons_zero, List.getElem_cons_succ, Act.put, List.setIfInBounds_toArray, List.set_cons_zero, List.set_cons_succ]
    refine wpAnyR_take (i := 2) (v := (pv x.q)) rfl rfl (by kernel_rfl) (by kernel_rfl) (by kernel_rfl) (fun _ _ _ h => h) (Nat.le_refl _) (yields_midR (fun w h => act_pkt (hhx w h)) (by exact rfl) (by exact rfl) (by exact rfl) Try.underlying37 rfl (by exact pkInfo)) hS ?_
    simp only [List.getElem_toArray, List.getElem_cons_zero, List.getElem_cons_succ, Act.put, List.setIfInBounds_toArray, List.set_cons_zero, List.set_cons_succ]
    refine wpAnyR_take (i := 4) (v := (.pointer (some ⟨r, 0, none⟩))) rfl rfl (by kernel_rfl) (by kernel_rfl) (by kernel_rfl) (fun _ _ _ h => h) (Nat.le_refl _) ⟨by rfl, fun w _ => (by go_simp; try (first | rfl | simp)), fun _ => rfl⟩ hS ?_
    simp only [List.getElem_toArray, List.getElem_cons_zero, List.getElem_cons_succ, Act.put, List.setIfInBounds_toArray, List.set_cons_zero, List.set_cons_succ]
    refine wpAnyR_take (i := 5) (v := (.pointer (some ⟨bx, 1, none⟩))) rfl rfl (by kernel_rfl) (by kernel_rfl) (by kernel_rfl) (fun _ _ _ h => h) (Nat.le_refl _) ⟨by rfl, fun w _ => (by go_simp; try (first | rfl | simp)), fun _ => rfl⟩ hS ?_
    simp only [List.getElem_toArray, List.getElem_cons_zero, List.getElem_cons_succ, Act.put, List.setIfInBounds_toArray, List.set_cons_zero, List.set_cons_succ]
    refine wpAnyR_take (i := 6) (v := (pv x.q)) rfl rfl (by kernel_rfl) (by kernel_rfl) (by kernel_rfl) (fun _ _ _ h => h) (Nat.le_refl _) (yields_midR (fun w h => act_pkt (hhx w h)) (by exact rfl) (by exact rfl) (by exact rfl) Try.underlying37 rfl (by exact pkInfo)) hS ?_
    simp only [List.getElem_toArray, List.getElem_cons_zero, List.getElem_cons_succ, Act.put, List.setIfInBounds_toArray, List.set_cons_zero, List.set_cons_succ]
    refine wpAnyG_one (i := 3) (by kernel_rfl) rfl (fun K hK => ?_)
    go_simp
    refine ⟨trivial, (callsIn_wide.2 (kP2 _ _ _ O5)).mono ?_⟩
    rintro e w5 ⟨rfl, O6⟩
    refine hK _ _ (.inr ⟨_, _, _, _, O6⟩) ?_
    clear hK K hS O5
    have O5 := O6
    clear O6
    have hS : ∃ sp sr N1 N2, St P DocAt w _ T1 K1 p sp N1 r sr N2 := ⟨_, _, _, _, O5⟩
    try simp only [List.getElem_toArray, List.getElem_cons_zero, List.getElem_cons_succ, Act.put, List.setIfInBounds_toArray, List.set_cons_zero, List.set_cons_succ]
    refine wpAnyG_one (i := 7) (by kernel_rfl) rfl (fun K hK => ?_)
    go_simp
    refine ⟨trivial, (callsIn_wide.2 (kR _ _ _ O5)).mono ?_⟩
    rintro e w5 ⟨rfl, O6⟩
    refine hK _ _ (.inr ⟨_, _, _, _, O6⟩) ?_
    clear hK K hS O5
    have O5 := O6
    clear O6
    have hS : ∃ sp sr N1 N2, St P DocAt w _ T1 K1 p sp N1 r sr N2 := ⟨_, _, _, _, O5⟩
    try simp only [List.getElem_toArray, List.getElem_cons_zero, List.getElem_cons_succ, Act.put, List.setIfInBounds_toArray, List.set_cons_zero, List.set_cons_succ]
    refine wpAnyR_take (i := 8) (v := (.bool true)) rfl rfl (by kernel_rfl) (by kernel_rfl) (by kernel_rfl) (fun _ _ _ h => h) (Nat.le_refl _) ⟨by rfl, fun w _ => (by go_simp; try (first | rfl | simp)), fun _ => rfl⟩ hS ?_
    simp only [List.getElem_toArray, List.getElem_cons_zero, List.getElem_cons_succ, Act.put, List.setIfInBounds_toArray, List.set_cons_zero, List.set_cons_succ]
    refine wpAnyG_one (i := 9) (by kernel_rfl) rfl (fun K hK => ?_)
    go_simp
    refine hK _ _ (.inr hS) ?_
    clear hK K
    refine wpAnyG_done (by kernel_rfl) ?_ _
    clear hS
    have HO5 := Lib.hid O5
    clear O5
    go_wp2
    go_ret
    exact ⟨rfl, s', N + 1, Nat.le_refl _, HB.out _ _ _ HO5.out⟩
  | 2, _ =>
    have kP2 := fun W (h : St P DocAt w W T1 K1 p s N r s N) => firstP hP DocAt.pt HK.out h (by omega)
    have s' := s
    obtain ⟨q, hq⟩ : ∃ y, firstV s = y := ⟨_, rfl⟩
    obtain ⟨E, hE⟩ : ∃ y, firstE s = y := ⟨_, rfl⟩
    rw [hq, hE] at kP2
    have HQ := Lib.hid (And.intro hq hE)
    clear hq hE s'
    go_upto_region 8 with (first
        | go_skip
        | (go_at_call 18; refine (kP2 _ (O.out.on hP.pt DocAt.pt HK.out H.below)).mono ?_; rintro e w2 ⟨rfl, O2⟩; clear O H; have O := Lib.hid O2; clear O2; have H := Mem.start w2)
        | ((with_reducible show wpList _ _ _ _ _ (World.alloc _ (.cells _ _))); refine mem_newb (l := []) H ?_; intro b7 w3 hbk H2; try rw [← hbk]; clear hbk H; have H := H2; clear H2; simp only [List.cons_append, List.nil_append, List.set_cons_zero, List.set_cons_succ, List.setIfInBounds_toArray] at H)
        | ((with_reducible show wpList _ _ _ (⟨_, .store 37 _ _, _, _, _, _⟩ :: _) _ _); refine mem_store (i := 0) H (by first | exact wanted_none rfl | exact wanted_some rfl rfl rfl rfl) (by exact rfl) (by exact rfl) (by exact rfl) (by exact rfl) (by exact pkInfo) (by exact rfl) (by exact rfl) ?_; intro w2 H2; clear H; have H := H2; clear H2; simp only [List.cons_append, List.nil_append, List.set_cons_zero, List.set_cons_succ, List.setIfInBounds_toArray] at H))
    obtain ⟨T2, K2, hk2, hK2, hT2, O2⟩ := pack_more hP.pt DocAt.pt HK.out O.out H
    have HK2 := Lib.hid hk2
    have HF2 := Lib.hid (fun X h => (hK2 X h).2)
    have HB2 := Lib.hid (fun (W' : World) (s' : FF) (N' : Nat) (h : St P DocAt w W' T2 K2 p s' N' r s' N') => HB.out W' s' N' (h.less hT2 (fun h => (hK2 _ h).1)))
    have hw := H.below
    clear O H hk2 hK2 hT2 kP2
    have O := Lib.hid O2
    clear O2
    have H := Mem.start w2
    have kR := fun W (h : St P DocAt w W T2 K2 p s N r s N) => firstR hP.pt HK2.out h (by omega)
    rw [HQ.out.1, HQ.out.2] at kR
    go_upto_region 9 with (first
        | go_skip
        | (go_at_call 29; refine (kR _ (O.out.on hP.pt DocAt.pt HK2.out H.below)).mono ?_; rintro e w4 ⟨rfl, O2⟩; clear O H; have O := Lib.hid O2; clear O2; have H := Mem.start w4)
        | ((with_reducible show wpList _ _ _ _ _ (World.alloc _ (.cells _ _))); refine mem_newb (l := []) H ?_; intro b9 w3 hbk H2; try rw [← hbk]; clear hbk H; have H := H2; clear H2; simp only [List.cons_append, List.nil_append, List.set_cons_zero, List.set_cons_succ, List.setIfInBounds_toArray] at H)
        | ((with_reducible show wpList _ _ _ (⟨_, .store 37 _ _, _, _, _, _⟩ :: _) _ _); refine mem_store (i := 0) H (by first | exact wanted_none rfl | exact wanted_some rfl rfl rfl rfl) (by exact rfl) (by exact rfl) (by exact rfl) (by exact rfl) (by exact pkInfo) (by exact rfl) (by exact rfl) ?_; intro w2 H2; clear H; have H := H2; clear H2; simp only [List.cons_append, List.nil_append, List.set_cons_zero, List.set_cons_succ, List.setIfInBounds_toArray] at H))
    clear kR
    go_wp2_with (first
        | go_skip
        | ((with_reducible show wpList _ _ _ (⟨_, .load 37 _, _, _, _, _⟩ :: _) _ _); refine load_held (HF2.out _ (O.out.on hP.pt DocAt.pt HK2.out H.below).kp) (by first | exact wanted_none rfl | exact wanted_some rfl rfl rfl rfl) (by exact rfl) (by exact rfl) Try.underlying37 rfl (by exact pkInfo) ?_)
        | ((with_reducible show wpList _ _ _ (⟨_, .load 37 _, _, _, _, _⟩ :: _) _ _); refine mem_load (i := 0) H (by first | exact wanted_none rfl | exact wanted_some rfl rfl rfl rfl) (by exact rfl) (by exact rfl) (by exact rfl) Try.underlying37 rfl (by exact pkInfo) ?_))
    go_ret
    exact ⟨by simp, s, N, Nat.le_succ N, HB2.out _ _ _ (O.out.on hP.pt DocAt.pt HK2.out H.below)⟩
  | 3, _ =>
    have kP2 := fun W (h : St P DocAt w W T1 K1 p s N r s N) => takeP hP DocAt.pt HK.out h (by omega)
    obtain ⟨q, hq⟩ : ∃ y, firstV s = y := ⟨_, rfl⟩
    obtain ⟨E, hE⟩ : ∃ y, firstE s = y := ⟨_, rfl⟩
    obtain ⟨s', hs'⟩ : ∃ y, takeS s = y := ⟨_, rfl⟩
    rw [hq, hE, hs'] at kP2
    have HQ := Lib.hid (And.intro hq (And.intro hE hs'))
    clear hq hE hs'
    go_upto_region 12 with (first
        | go_skip
        | (go_at_call 19; refine (kP2 _ (O.out.on hP.pt DocAt.pt HK.out H.below)).mono ?_; rintro e w2 ⟨rfl, O2⟩; clear O H; have O := Lib.hid O2; clear O2; have H := Mem.start w2)
        | ((with_reducible show wpList _ _ _ _ _ (World.alloc _ (.cells _ _))); refine mem_newb (l := []) H ?_; intro b7 w3 hbk H2; try rw [← hbk]; clear hbk H; have H := H2; clear H2; simp only [List.cons_append, List.nil_append, List.set_cons_zero, List.set_cons_succ, List.setIfInBounds_toArray] at H)
        | ((with_reducible show wpList _ _ _ (⟨_, .store 37 _ _, _, _, _, _⟩ :: _) _ _); refine mem_store (i := 0) H (by first | exact wanted_none rfl | exact wanted_some rfl rfl rfl rfl) (by exact rfl) (by exact rfl) (by exact rfl) (by exact rfl) (by exact pkInfo) (by exact rfl) (by exact rfl) ?_; intro w2 H2; clear H; have H := H2; clear H2; simp only [List.cons_append, List.nil_append, List.set_cons_zero, List.set_cons_succ, List.setIfInBounds_toArray] at H))
    obtain ⟨T2, K2, hk2, hK2, hT2, O2⟩ := pack_more hP.pt DocAt.pt HK.out O.out H
    have HK2 := Lib.hid hk2
    have HF2 := Lib.hid (fun X h => (hK2 X h).2)
    have HB2 := Lib.hid (fun (W' : World) (s' : FF) (N' : Nat) (h : St P DocAt w W' T2 K2 p s' N' r s' N') => HB.out W' s' N' (h.less hT2 (fun h => (hK2 _ h).1)))
    have hw := H.below
    clear O H hk2 hK2 hT2 kP2
    have O := Lib.hid O2
    clear O2
    have H := Mem.start w2
    have kR := fun W (h : St P DocAt w W T2 K2 p s' N r s N) => takeR hP.pt HK2.out h (by omega)
    rw [HQ.out.1, HQ.out.2.1, HQ.out.2.2] at kR
    go_upto_region 13 with (first
        | go_skip
        | (go_at_call 30; refine (kR _ (O.out.on hP.pt DocAt.pt HK2.out H.below)).mono ?_; rintro e w4 ⟨rfl, O2⟩; clear O H; have O := Lib.hid O2; clear O2; have H := Mem.start w4)
        | ((with_reducible show wpList _ _ _ _ _ (World.alloc _ (.cells _ _))); refine mem_newb (l := []) H ?_; intro b9 w3 hbk H2; try rw [← hbk]; clear hbk H; have H := H2; clear H2; simp only [List.cons_append, List.nil_append, List.set_cons_zero, List.set_cons_succ, List.setIfInBounds_toArray] at H)
        | ((with_reducible show wpList _ _ _ (⟨_, .store 37 _ _, _, _, _, _⟩ :: _) _ _); refine mem_store (i := 0) H (by first | exact wanted_none rfl | exact wanted_some rfl rfl rfl rfl) (by exact rfl) (by exact rfl) (by exact rfl) (by exact rfl) (by exact pkInfo) (by exact rfl) (by exact rfl) ?_; intro w2 H2; clear H; have H := H2; clear H2; simp only [List.cons_append, List.nil_append, List.set_cons_zero, List.set_cons_succ, List.setIfInBounds_toArray] at H))
    clear kR
    go_wp2_with (first
        | go_skip
        | ((with_reducible show wpList _ _ _ (⟨_, .load 37 _, _, _, _, _⟩ :: _) _ _); refine load_held (HF2.out _ (O.out.on hP.pt DocAt.pt HK2.out H.below).kp) (by first | exact wanted_none rfl | exact wanted_some rfl rfl rfl rfl) (by exact rfl) (by exact rfl) Try.underlying37 rfl (by exact pkInfo) ?_)
        | ((with_reducible show wpList _ _ _ (⟨_, .load 37 _, _, _, _, _⟩ :: _) _ _); refine mem_load (i := 0) H (by first | exact wanted_none rfl | exact wanted_some rfl rfl rfl rfl) (by exact rfl) (by exact rfl) (by exact rfl) Try.underlying37 rfl (by exact pkInfo) ?_))
    go_ret
    exact ⟨by simp, s', N, Nat.le_succ N, HB2.out _ _ _ (O.out.on hP.pt DocAt.pt HK2.out H.below)⟩
  | 4, _ =>
    obtain ⟨an, han⟩ : ∃ c, x.n = c := ⟨_, rfl⟩
    obtain ⟨am, ham⟩ : ∃ c, x.m = c := ⟨_, rfl⟩
    have HX2 := Lib.hid (And.intro han ham)
    have hc : ∀ X, K1 X → X.cell? ⟨bx, 10, none⟩ = some (.int .i64 an) ∧ X.cell? ⟨bx, 11, none⟩ = some (.int .i64 am) := fun X h => by
      rw [← HX2.out.1, ← HX2.out.2]
      exact ⟨(HF.out _ h).cell 10, (HF.out _ h).cell 11⟩
    have HC := Lib.hid hc
    obtain ⟨c10, c11⟩ := hc _ O.out.kp
    have kL := fun W (h : St P DocAt w W T1 K1 p s N r s N) => limitsP hP DocAt.pt HK.out h (by omega) an am
    have hlv : (limV s an am).length ≤ 5000 := by
      have := HLN.out
      unfold limV
      split
      · rw [List.length_reverse, List.length_drop]; omega
      · simp
    obtain ⟨s', hs'⟩ : ∃ y, limS s an am = y := ⟨_, rfl⟩
    obtain ⟨E, hE⟩ : ∃ y, limE an am = y := ⟨_, rfl⟩
    obtain ⟨V, hV⟩ : ∃ y, limV s an am = y := ⟨_, rfl⟩
    rw [hV] at hlv
    rw [hs', hE, hV] at kL
    unfold ToldP at kL
    obtain ⟨nV, hnV⟩ : ∃ y, V.length = y := ⟨_, rfl⟩
    rw [hnV] at hlv
    have HNV := Lib.hid hnV
    have HE := Lib.hid (And.intro hs' (And.intro hE hV))
    clear hc hs' hE hV hnV han ham
    go_upto_region 16 with (first
    | go_skip
    | (go_at_call 20; refine (kL _ (O.out.on hP.pt DocAt.pt HK.out H.below)).mono ?_; rintro e w2 ⟨va, rfl, O2⟩; obtain ⟨A1, a1, hva, _, _⟩ := O2.kp.2.shape; rw [HNV.out] at hva; subst hva; clear O H; have O := Lib.hid O2; clear O2; have H := Mem.start w2))
    clear c10 c11 kL
    obtain ⟨c10, c11⟩ := HC.out _ O.out.kp.1
    have kL := fun W (h : St P DocAt w W (fun i => T1 i ∨ qb (.slice A1 nV a1) i) (fun X => K1 X ∧ Que X (.slice A1 nV a1) V) p s' N r s N) => limitsR hP.pt (HK.out.que _ _) h (by omega) an am
    rw [HE.out.1, HE.out.2.1, HE.out.2.2] at kL
    go_upto_region 17 with (first
    | go_skip
    | (go_at_call 31; refine (kL _ (O.out.on hP.pt DocAt.pt (HK.out.que _ _) H.below)).mono ?_; rintro e w2 ⟨va, rfl, O2⟩; obtain ⟨A2, a2, hva, _, _⟩ := O2.kp.2.shape; rw [HNV.out] at hva; subst hva; clear O H; have O := Lib.hid O2; clear O2; have H := Mem.start w2))
    clear c10 c11 kL
    have ks := fun W (h : Below w2.heap.size w2 W) => same_r A1 A2 nV a1 nV a2 V V W ((O.out.kp.1.2).on fun i hi => h.block i (O.out.kp.1.2.lt hi)) ((O.out.kp.2).on fun i hi => h.block i (O.out.kp.2.lt hi)) HNV.out HNV.out hlv hlv
    simp only [decide_true] at ks
    go_upto_region 18 with (first
    | go_skip
    | (go_at_call 14; refine (ks _ H.below).mono ?_; rintro e w5 ⟨rfl, hb⟩; have H2 := H.call hb; clear H hb; have H := H2; clear H2))
    clear ks
    go_wp2
    go_ret
    exact ⟨by simp, s', N, Nat.le_succ N, HB.out _ _ _ ((O.out.on hP.pt DocAt.pt ((HK.out.que _ _).que _ _) H.below).less (fun i hi => .inl (.inl hi)) (fun h => h.1.1))⟩
  | 5, _ =>
    have kL := fun W (h : St P DocAt w W T1 K1 p s N r s N) => drainP hP DocAt.pt HK.out h (by omega)
    unfold ToldP at kL
    have hlv : s.l.length ≤ 5000 := by have := HLN.out; omega
    obtain ⟨s', hs'⟩ : ∃ y, drainS s = y := ⟨_, rfl⟩
    obtain ⟨V, hV⟩ : ∃ y, s.l = y := ⟨_, rfl⟩
    rw [hV] at hlv
    rw [hs', hV] at kL
    obtain ⟨nV, hnV⟩ : ∃ y, V.length = y := ⟨_, rfl⟩
    rw [hnV] at hlv
    have HNV := Lib.hid hnV
    have HE := Lib.hid (And.intro hs' hV)
    clear hs' hV hnV
    have kM := fun W A1 a1 (h : St P DocAt w W (fun i => T1 i ∨ qb (.slice A1 nV a1) i) (fun X => K1 X ∧ Que X (.slice A1 nV a1) V) p s' N r s N) => drainR hP.pt (HK.out.que _ _) h (by omega)
    simp only [HE.out.1, HE.out.2] at kM
    have ks := fun W A1 a1 A2 a2 (h1 : Que W (.slice A1 nV a1) V) (h2 : Que W (.slice A2 nV a2) V) => same_r A1 A2 nV a1 nV a2 V V W h1 h2 HNV.out HNV.out hlv hlv
    simp only [decide_true] at ks
    go_wp2_with (first
    | go_skip
    | go_skip
    | (go_at_call 23; refine (kL _ (O.out.on hP.pt DocAt.pt HK.out H.below)).mono ?_; rintro e w2 ⟨va, rfl, O2⟩; obtain ⟨A1, a1, hva, _, _⟩ := O2.kp.2.shape; rw [HNV.out] at hva; subst hva; clear O H; have O := Lib.hid O2; clear O2; have H := Mem.start w2)
    | (go_at_call 32; refine (kM _ _ _ (O.out.on hP.pt DocAt.pt (HK.out.que _ _) H.below)).mono ?_; rintro e w2 ⟨va, rfl, O2⟩; obtain ⟨A2, a2, hva, _, _⟩ := O2.kp.2.shape; rw [HNV.out] at hva; subst hva; clear O H; have O := Lib.hid O2; clear O2; have H := Mem.start w2)
    | (go_at_call 14; refine (ks _ _ _ _ _ ((O.out.on hP.pt DocAt.pt ((HK.out.que _ _).que _ _) H.below).kp.1.2) ((O.out.on hP.pt DocAt.pt ((HK.out.que _ _).que _ _) H.below).kp.2)).mono ?_; rintro e w5 ⟨rfl, hb⟩; have H2 := H.call hb; clear H hb; have H := H2; clear H2))
    go_ret
    exact ⟨rfl, s', N, Nat.le_succ N, HB.out _ _ _ ((O.out.on hP.pt DocAt.pt ((HK.out.que _ _).que _ _) H.below).less (fun i hi => .inl (.inl hi)) (fun h => h.1.1))⟩
end
end Go.Proofs.Ytlnlkodpndjimaa.Fi
end
/- FifoDoes, walked. Conditions: as the interface says; the acts lie where their slice says. -/
section
namespace Go.Proofs.Ytlnlkodpndjimaa.Fi
set_option linter.unusedSimpArgs false
set_option linter.unusedVariables false
set_option maxRecDepth 100000
open Go.ChangeShapes Go.WideShapes Go.ChangeAt Go.RowKit Go.Maps

/-- where the law's fifos lie, between two acts -/
def DoesJ (P : PT) (w : World) (p r k : Nat) (V : World) : Prop := ∃ s N, N ≤ k ∧ Two P w (fun _ => False) (fun _ => True) p r s N V
section
variable {P : PT} {w W : World} {p r k : Nat}
theorem DoesJ.on (hP : PFifo P) (h : DoesJ P w p r k W) {V : World} (hb : Below W.heap.size W V) : DoesJ P w p r k V := by
  obtain ⟨s, N, h1, h2⟩ := h
  exact ⟨s, N, h1, St.on hP.pt DocAt.pt (Kept.no _) h2 hb⟩
theorem DoesJ.bel (h : DoesJ P w p r k W) : Below w.heap.size w W := by
  obtain ⟨s, N, h1, h2⟩ := h
  exact St.bel h2
theorem DoesJ.did (hP : PFifo P) (h : DoesJ P w p r k W) (hk : k ≤ 100) (x : AX) (hx : x.Fits) : Calls Try.prog 13 #[.pointer (some ⟨p, 0, none⟩), .pointer (some ⟨r, 0, none⟩), .agg (axC x).toArray] W fun e w' => e = .returned (.bool true) ∧ DoesJ P w p r (k + 1) w' := by
  obtain ⟨s, N, h1, h2⟩ := h
  refine (did_w hP w _ _ (Kept.no _) p r s N (by omega) x hx W h2).mono ?_
  rintro e w' ⟨rfl, s', N', h3, h4⟩
  exact ⟨rfl, s', N', by omega, h4⟩
set_option maxHeartbeats 2000000 in
theorem does_w (hP : PFifo P) (n b : Int) (A : Option Addr) (len cap : Nat) (xs : Nat → AX) (hl : len ≤ cap) (hc : cap ≤ maxLen) (w : World) (hA : ActsX w A len xs) : Calls Try.prog 3 #[.int .i64 n, .int .i64 b, .slice A len cap] w fun e w' => e = .returned (.bool true) ∧ Below w.heap.size w w' := by
  have H := Mem.start w
  have HA := Lib.hid hA
  unfold maxLen at hc
  clear hA
  cases hok : okN n b with
  | false =>
    have kn := fun w => hP.new_no n b w hok
    have kr := fun w => new_no n b hok w
    clear hok
    go_enter Try.func3, Try.ntmps3
    go_wp2_with (first
    | go_skip
    | go_skip
    | (go_at_call 10; refine (shown10 hP _).mono ?_; rintro e w2 ⟨rfl, hb⟩; have H2 := H.call hb; clear H hb; have H := H2; clear H2)
    | (go_at_call 11; refine (kn _).mono ?_; rintro e w2 ⟨rfl, hb⟩; have H2 := H.call hb; clear H hb; have H := H2; clear H2)
    | (go_at_call 12; refine (kr _).mono ?_; rintro e w2 ⟨rfl, hb⟩; have H2 := H.call hb; clear H hb; have H := H2; clear H2))
    go_ret
    exact ⟨by simp, H.below⟩
  | true =>
    have O := Lib.hid (St.start w ⟨[], n, b⟩)
    have HOK := Lib.hid hok
    clear hok
    go_enter Try.func3, Try.ntmps3
    go_upto_region 2 with (first
    | go_skip
    | (go_at_call 10; refine (shown10 hP _).mono ?_; rintro e w2 ⟨rfl, hb⟩; have O2 := St.on NoT.pt NoT.pt (Kept.no _) O.out hb; clear O; have O := Lib.hid O2; clear O2; have H2 := H.call hb; clear H hb; have H := H2; clear H2))
    go_upto_region 3 with (first
    | go_skip
    | (go_at_call 11; refine (O.out.newP hP NoT.pt (Kept.no _) n b HOK.out).mono ?_; rintro e w2 ⟨p, rfl, O2⟩; clear O H; have O := Lib.hid O2; clear O2; have H := Mem.start w2))
    go_upto_region 4 with (first
    | go_skip
    | (go_at_call 12; refine (O.out.newR hP.pt (Kept.no _) n b HOK.out).mono ?_; rintro e w2 ⟨r, rfl, O2⟩; clear O H; have O := Lib.hid O2; clear O2; have H := Mem.start w2))
    have J0 : DoesJ P w p r 0 w2 := ⟨_, 0, Nat.le_refl _, O.out⟩
    have HJ := Lib.hid J0
    clear J0 O
    go_wp2
    go_loopw [12] (fun iv wr => ∃ k : Nat, k ≤ len ∧ k ≤ 80 ∧ iv = .int .i64 k ∧ Hid (DoesJ P w p r k wr)) (fun iv _ => len - (intOf iv).toNat)
    case atStart => exact ⟨0, Nat.zero_le _, Nat.zero_le _, rfl, Lib.hid (HJ.out.on hP H.below)⟩
    case round =>
      clear HJ H
      obtain ⟨k, hk, hk80, rfl, HJ⟩ := hrel
      have H := Mem.start wr
      by_cases hlt : k < len ∧ k < 80
      · obtain ⟨bA, off, hA, hb, hx⟩ := HA.out.plain axC_len (by decide) (by omega)
        obtain ⟨hfit, hcells⟩ := hx k hlt.1
        have t1 : decide ((k : Int) < (len : Int)) = true := decide_eq_true (by omega)
        have t2 : decide ((k : Int) < 80) = true := decide_eq_true (by omega)
        have HB := Lib.hid (fun (W : World) (h : Below w.heap.size w W) => show W.rangeAt bA (off + k * 12) (axC (xs k)) from fun j v hj => by
          have h2 := hcells j v hj
          rw [← h2]
          unfold World.cell?
          rw [h.block bA hb])
        obtain ⟨x, hxx⟩ : ∃ x, xs k = x := ⟨_, rfl⟩
        rw [hxx] at HB hfit
        have HX := Lib.hid hfit
        have kD := fun W h => DoesJ.did (P := P) (w := w) (W := W) (p := p) (r := r) (k := k) hP h (by omega) x HX.out
        subst hA
        clear hfit hcells hxx hx
        go_upto_region 10 with (first
          | go_skip
          | ((with_reducible show wpList _ _ _ (⟨_, .load 39 _, _, _, _, _⟩ :: _) _ _); refine wpList_load_mid rfl _ _ rfl bA (off + k * 12) rfl _ _ (HB.out _ (HJ.out.bel.trans (H.below.mono HJ.out.bel.size))) Try.underlying39 rfl acInfo ?_)
          | (go_at_call 13; refine (kD _ (HJ.out.on hP H.below)).mono ?_; rintro e w2 ⟨rfl, J2⟩; clear HJ H; have HJ := Lib.hid J2; clear J2; have H := Mem.start w2))
        clear kD
        obtain ⟨s, N, hN, h2⟩ := HJ.out
        obtain ⟨vr, h3⟩ := h2.fix
        obtain ⟨Ar, cr, hvr, hlc, hcm⟩ := h3.row.2.1.shape
        have hfa := h3.facts hP
        obtain ⟨L, hL⟩ : ∃ L, s.l = L := ⟨_, rfl⟩
        obtain ⟨m, hm⟩ : ∃ m, L.length = m := ⟨_, rfl⟩
        rw [hL, hm] at hvr hlc
        rw [hL, hm] at hfa
        subst hvr
        have hm5 : m ≤ 5000 := by omega
        obtain ⟨S, hS1⟩ : ∃ S, Fi.bytes L = S := ⟨_, rfl⟩
        have HM := Lib.hid (And.intro hm (And.intro hL hfa.2.2.1))
        have hbx : ∀ wx, (∃ T K, St P (DocV (.slice Ar m cr)) w wx T K p s N r s N) → Held wx r 44 #[.slice Ar m cr, .int .i64 s.n, .int .i64 s.b] := fun wx ⟨T, K, own, own2, h⟩ => DAt.box h.a2
        have kA := fun W T K (hk : Kept T K) (h : St P (DocV (.slice Ar m cr)) w W T K p s N r s N) => allP hP (DocV.pt (.slice Ar m cr)) hk h (by omega)
        have kB := fun W T K (hk : Kept T K) (h : St P (DocV (.slice Ar m cr)) w W T K p s N r s N) => bytesP hP (DocV.pt (.slice Ar m cr)) hk h (by omega)
        unfold ToldP at kA
        rw [hL] at kA kB
        rw [hS1] at kB
        have kS := fun W A1 a1 (h1 : Que W (.slice A1 m a1) L) (h2 : Que W (.slice Ar m cr) L) => same_r A1 Ar m a1 m cr L L W h1 h2 HM.out.1 HM.out.1 hm5 hm5
        have kBr := fun W (h2 : Que W (.slice Ar m cr) L) => bytes_r Ar m cr L W h2 HM.out.1 hm5 HM.out.2.2
        simp only [decide_true] at kS
        simp only [hS1] at kBr
        have O := Lib.hid h3
        have HN := Lib.hid hN
        clear h2 h3 hm hL hS1 hfa hN HJ
        have O5 := (O.out.on hP.pt (DocV.pt _) (Kept.no _) H.below).on hP.pt (DocV.pt _) (Kept.no _) (Mem.start _).drew.below
        refine (wpIn_wide (n := 6)).1 (wpIn_region_G (fun wx => ∃ T K, St P (DocV (.slice Ar m cr)) w wx T K p s N r s N) 22 22 rfl (by kernel_rfl) (fun _ => ?_))
        have hS : ∃ T K, St P (DocV (.slice Ar m cr)) w _ T K p s N r s N := ⟨_, _, O5⟩
        clear O H
        refine wpAnyR_take (i := 0) (v := (.bool true)) rfl rfl (by kernel_rfl) (by kernel_rfl) (by kernel_rfl) (fun _ _ _ h => h) (Nat.le_refl _) ⟨by rfl, fun w _ => (by go_simp; try (first | rfl | simp)), fun _ => rfl⟩ hS ?_
        simp only [List.getElem_toArray, List.getElem_cons_zero, List.getElem_cons_succ, Act.put, List.setIfInBounds_toArray, List.set_cons_zero, List.set_cons_succ]
        refine wpAnyR_take (i := 1) (v := (.bool false)) rfl rfl (by kernel_rfl) (by kernel_rfl) (by kernel_rfl) (fun _ _ _ h => h) (Nat.le_refl _) ⟨by rfl, fun w _ => (by go_simp; try (first | rfl | simp)), fun _ => rfl⟩ hS ?_
        simp only [List.getElem_toArray, List.getElem_cons_zero, List.getElem_cons_succ, Act.put, List.setIfInBounds_toArray, List.set_cons_zero, List.set_cons_succ]
        refine wpAnyR_take (i := 2) (v := (.bool false)) rfl rfl (by kernel_rfl) (by kernel_rfl) (by kernel_rfl) (fun _ _ _ h => h) (Nat.le_refl _) ⟨by rfl, fun w _ => (by go_simp; try (first | rfl | simp)), fun _ => rfl⟩ hS ?_
        simp only [List.getElem_toArray, List.getElem_cons_zero, List.getElem_cons_succ, Act.put, List.setIfInBounds_toArray, List.set_cons_zero, List.set_cons_succ]
        refine wpAnyR_take (i := 3) (v := (.pointer (some ⟨p, 0, none⟩))) rfl rfl (by kernel_rfl) (by kernel_rfl) (by kernel_rfl) (fun _ _ _ h => h) (Nat.le_refl _) ⟨by rfl, fun w _ => (by go_simp; try (first | rfl | simp)), fun _ => rfl⟩ hS ?_
        simp only [List.getElem_toArray, List.getElem_cons_zero, List.getElem_cons_succ, Act.put, List.setIfInBounds_toArray, List.set_cons_zero, List.set_cons_succ]
        refine wpAnyR_take (i := 5) (v := (.pointer (some ⟨r, 0, none⟩))) rfl rfl (by kernel_rfl) (by kernel_rfl) (by kernel_rfl) (fun _ _ _ h => h) (Nat.le_refl _) ⟨by rfl, fun w _ => (by go_simp; try (first | rfl | simp)), fun _ => rfl⟩ hS ?_
        simp only [List.getElem_toArray, List.getElem_cons_zero, List.getElem_cons_succ, Act.put, List.setIfInBounds_toArray, List.set_cons_zero, List.set_cons_succ]
        refine wpAnyR_take (i := 6) (v := (.pointer (some ⟨r, 0, none⟩))) rfl rfl (by kernel_rfl) (by kernel_rfl) (by kernel_rfl) (fun _ _ _ h => h) (Nat.le_refl _) ⟨by rfl, fun w _ => (by go_simp; try (first | rfl | simp)), fun _ => rfl⟩ hS ?_
        simp only [List.getElem_toArray, List.getElem_cons_zero, List.getElem_cons_succ, Act.put, List.setIfInBounds_toArray, List.set_cons_zero, List.set_cons_succ]
        refine wpAnyR_take (i := 7) (v := (.pointer (some ⟨r, 0, none⟩))) rfl rfl (by kernel_rfl) (by kernel_rfl) (by kernel_rfl) (fun _ _ _ h => h) (Nat.le_refl _) ⟨by rfl, fun w _ => (by go_simp; try (first | rfl | simp)), fun _ => rfl⟩ hS ?_
        simp only [List.getElem_toArray, List.getElem_cons_zero, List.getElem_cons_succ, Act.put, List.setIfInBounds_toArray, List.set_cons_zero, List.set_cons_succ]
        refine wpAnyR_take (i := 8) (v := (.slice Ar m cr)) rfl rfl (by kernel_rfl) (by kernel_rfl) (by kernel_rfl) (fun _ _ _ h => h) (Nat.le_refl _) (yields_fld (fun w h => hbx w h) (by exact rfl) (by exact rfl) (by exact rfl) (by first | exact Try.underlying32 | exact Try.underlying3 | exact Try.underlying41) rfl (by exact rfl)) hS ?_
        simp only [List.getElem_toArray, List.getElem_cons_zero, List.getElem_cons_succ, Act.put, List.setIfInBounds_toArray, List.set_cons_zero, List.set_cons_succ]
        refine wpAnyG_one (i := 4) (by kernel_rfl) rfl (fun K hK => ?_)
        go_simp
        refine ⟨trivial, (callsIn_wide.2 (kA _ _ _ (Kept.no _) O5)).mono ?_⟩
        rintro e w5 ⟨va, rfl, O6⟩
        obtain ⟨A1, a1, hva, _, _⟩ := O6.kp.2.shape
        rw [HM.out.1] at hva
        subst hva
        refine hK _ _ (.inr ⟨_, _, O6⟩) ?_
        clear hK K hS O5
        have O5 := O6
        clear O6
        have hS : ∃ T K, St P (DocV (.slice Ar m cr)) w _ T K p s N r s N := ⟨_, _, O5⟩
        try simp only [List.getElem_toArray, List.getElem_cons_zero, List.getElem_cons_succ, Act.put, List.setIfInBounds_toArray, List.set_cons_zero, List.set_cons_succ]
        refine wpAnyG_one (i := 9) (by kernel_rfl) rfl (fun K hK => ?_)
        go_simp
        refine ⟨trivial, (callsIn_wide.2 (kS _ _ _ O5.kp.2 (by have := O5.row.2.1; rw [HM.out.2.1] at this; exact this))).mono ?_⟩
        rintro e w5 ⟨rfl, hb⟩
        have O6 := O5.on hP.pt (DocV.pt _) ((Kept.no _).que _ _) hb
        refine hK _ _ (.inr ⟨_, _, O6⟩) ?_
        clear hK K hS O5 hb
        have O5 := O6
        clear O6
        have hS : ∃ T K, St P (DocV (.slice Ar m cr)) w _ T K p s N r s N := ⟨_, _, O5⟩
        try simp only [List.getElem_toArray, List.getElem_cons_zero, List.getElem_cons_succ, Act.put, List.setIfInBounds_toArray, List.set_cons_zero, List.set_cons_succ]
        refine wpAnyR_take (i := 10) (v := (.bool false)) rfl rfl (by kernel_rfl) (by kernel_rfl) (by kernel_rfl) (fun _ _ _ h => h) (Nat.le_refl _) ⟨by rfl, fun w _ => (by go_simp; try (first | rfl | simp)), fun _ => rfl⟩ hS ?_
        simp only [List.getElem_toArray, List.getElem_cons_zero, List.getElem_cons_succ, Act.put, List.setIfInBounds_toArray, List.set_cons_zero, List.set_cons_succ]
        refine wpAnyR_take (i := 11) (v := (.bool false)) rfl rfl (by kernel_rfl) (by kernel_rfl) (by kernel_rfl) (fun _ _ _ h => h) (Nat.le_refl _) ⟨by rfl, fun w _ => (by go_simp; try (first | rfl | simp)), fun _ => rfl⟩ hS ?_
        simp only [List.getElem_toArray, List.getElem_cons_zero, List.getElem_cons_succ, Act.put, List.setIfInBounds_toArray, List.set_cons_zero, List.set_cons_succ]
        refine wpAnyR_take (i := 12) (v := (.bool false)) rfl rfl (by kernel_rfl) (by kernel_rfl) (by kernel_rfl) (fun _ _ _ h => h) (Nat.le_refl _) ⟨by rfl, fun w _ => (by go_simp; try (first | rfl | simp)), fun _ => rfl⟩ hS ?_
        simp only [List.getElem_toArray, List.getElem_cons_zero, List.getElem_cons_succ, Act.put, List.setIfInBounds_toArray, List.set_cons_zero, List.set_cons_succ]
        refine wpAnyR_take (i := 13) (v := (.pointer (some ⟨p, 0, none⟩))) rfl rfl (by kernel_rfl) (by kernel_rfl) (by kernel_rfl) (fun _ _ _ h => h) (Nat.le_refl _) ⟨by rfl, fun w _ => (by go_simp; try (first | rfl | simp)), fun _ => rfl⟩ hS ?_
        simp only [List.getElem_toArray, List.getElem_cons_zero, List.getElem_cons_succ, Act.put, List.setIfInBounds_toArray, List.set_cons_zero, List.set_cons_succ]
        refine wpAnyR_take (i := 15) (v := (.pointer (some ⟨r, 0, none⟩))) rfl rfl (by kernel_rfl) (by kernel_rfl) (by kernel_rfl) (fun _ _ _ h => h) (Nat.le_refl _) ⟨by rfl, fun w _ => (by go_simp; try (first | rfl | simp)), fun _ => rfl⟩ hS ?_
        simp only [List.getElem_toArray, List.getElem_cons_zero, List.getElem_cons_succ, Act.put, List.setIfInBounds_toArray, List.set_cons_zero, List.set_cons_succ]
        refine wpAnyR_take (i := 16) (v := (.pointer (some ⟨r, 0, none⟩))) rfl rfl (by kernel_rfl) (by kernel_rfl) (by kernel_rfl) (fun _ _ _ h => h) (Nat.le_refl _) ⟨by rfl, fun w _ => (by go_simp; try (first | rfl | simp)), fun _ => rfl⟩ hS ?_
        simp only [List.getElem_toArray, List.getElem_cons_zero, List.getElem_cons_succ, Act.put, List.setIfInBounds_toArray, List.set_cons_zero, List.set_cons_succ]
        refine wpAnyR_take (i := 17) (v := (.pointer (some ⟨r, 0, none⟩))) rfl rfl (by kernel_rfl) (by kernel_rfl) (by kernel_rfl) (fun _ _ _ h => h) (Nat.le_refl _) ⟨by rfl, fun w _ => (by go_simp; try (first | rfl | simp)), fun _ => rfl⟩ hS ?_
        simp only [List.getElem_toArray, List.getElem_cons_zero, List.getElem_cons_succ, Act.put, List.setIfInBounds_toArray, List.set_cons_zero, List.set_cons_succ]
        refine wpAnyR_take (i := 18) (v := (.slice Ar m cr)) rfl rfl (by kernel_rfl) (by kernel_rfl) (by kernel_rfl) (fun _ _ _ h => h) (Nat.le_refl _) (yields_fld (fun w h => hbx w h) (by exact rfl) (by exact rfl) (by exact rfl) (by first | exact Try.underlying32 | exact Try.underlying3 | exact Try.underlying41) rfl (by exact rfl)) hS ?_
        simp only [List.getElem_toArray, List.getElem_cons_zero, List.getElem_cons_succ, Act.put, List.setIfInBounds_toArray, List.set_cons_zero, List.set_cons_succ]
        refine wpAnyG_one (i := 14) (by kernel_rfl) rfl (fun K hK => ?_)
        go_simp
        refine ⟨trivial, (callsIn_wide.2 (kB _ _ _ ((Kept.no _).que _ _) O5)).mono ?_⟩
        rintro e w5 ⟨rfl, O6⟩
        refine hK _ _ (.inr ⟨_, _, O6⟩) ?_
        clear hK K hS O5
        have O5 := O6
        clear O6
        have hS : ∃ T K, St P (DocV (.slice Ar m cr)) w _ T K p s N r s N := ⟨_, _, O5⟩
        try simp only [List.getElem_toArray, List.getElem_cons_zero, List.getElem_cons_succ, Act.put, List.setIfInBounds_toArray, List.set_cons_zero, List.set_cons_succ]
        refine wpAnyG_one (i := 19) (by kernel_rfl) rfl (fun K hK => ?_)
        go_simp
        refine ⟨trivial, (callsIn_wide.2 (kBr _ (by have := O5.row.2.1; rw [HM.out.2.1] at this; exact this))).mono ?_⟩
        rintro e w5 ⟨rfl, hb⟩
        have O6 := O5.on hP.pt (DocV.pt _) ((Kept.no _).que _ _) hb
        refine hK _ _ (.inr ⟨_, _, O6⟩) ?_
        clear hK K hS O5 hb
        have O5 := O6
        clear O6
        have hS : ∃ T K, St P (DocV (.slice Ar m cr)) w _ T K p s N r s N := ⟨_, _, O5⟩
        try simp only [List.getElem_toArray, List.getElem_cons_zero, List.getElem_cons_succ, Act.put, List.setIfInBounds_toArray, List.set_cons_zero, List.set_cons_succ]
        refine wpAnyR_take (i := 20) (v := (.bool false)) rfl rfl (by kernel_rfl) (by kernel_rfl) (by kernel_rfl) (fun _ _ _ h => h) (Nat.le_refl _) ⟨by rfl, fun w _ => (by go_simp; try (first | rfl | simp)), fun _ => rfl⟩ hS ?_
        simp only [List.getElem_toArray, List.getElem_cons_zero, List.getElem_cons_succ, Act.put, List.setIfInBounds_toArray, List.set_cons_zero, List.set_cons_succ]
        refine wpAnyR_take (i := 21) (v := (.bool false)) rfl rfl (by kernel_rfl) (by kernel_rfl) (by kernel_rfl) (fun _ _ _ h => h) (Nat.le_refl _) ⟨by rfl, fun w _ => (by go_simp; try (first | rfl | simp)), fun _ => rfl⟩ hS ?_
        simp only [List.getElem_toArray, List.getElem_cons_zero, List.getElem_cons_succ, Act.put, List.setIfInBounds_toArray, List.set_cons_zero, List.set_cons_succ]
        refine wpAnyG_done (by kernel_rfl) ?_ _
        clear hS
        have HO5 := Lib.hid O5
        clear O5
        go_wp2
        go_roundw
        case rel => exact ⟨k + 1, by omega, by omega, by go_num, Lib.hid ⟨s, N, by have := HN.out; omega, HO5.out.unfix.none⟩⟩
        case measure => simp [intOf]; omega
      · by_cases hl2 : k < len
        · have t1 : decide ((k : Int) < (len : Int)) = true := decide_eq_true (by omega)
          have t2 : decide ((k : Int) < 80) = false := decide_eq_false (by omega)
          go_wp2
          go_ret
          exact ⟨rfl, HJ.out.bel⟩
        · have t1 : decide ((k : Int) < (len : Int)) = false := decide_eq_false (by omega)
          go_wp2
          go_ret
          exact ⟨rfl, HJ.out.bel⟩
end
end Go.Proofs.Ytlnlkodpndjimaa.Fi
end
