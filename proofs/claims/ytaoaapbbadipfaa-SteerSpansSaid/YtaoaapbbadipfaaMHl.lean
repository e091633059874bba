/-
  The laws' did, walked. Conditions: as the interface says; the act lies where its value says. SteerDoes, walked. Conditions: as the interface says; the acts lie where their slice says.
-/
import Derived.Test.YtaoaapbbadipfaaMHk
/- The laws' did, walked. Conditions: as the interface says; the act lies where its value says. -/
section
namespace Go.Proofs.Ytaoaapbbadipfaa
set_option linter.unusedSimpArgs false
set_option linter.unusedVariables false
set_option maxRecDepth 100000
open Go.ChangeShapes Go.WideShapes Go.ChangeAt Go.RowKit

theorem acInfo : (Try.prog.info? 44).map (·.size) = some 13 := by kernel_rfl
abbrev avA (x : AV) : Array Value := (avC x).toArray
theorem act_pkt {W : World} {b : Nat} {x : AV} (h : Held W b 44 (avA x)) : W.rangeAt b 1 (pkCs x.q) := fun j v hv => by
  rw [h.cell (1 + j)]
  match j, hv with
  | 0, hv => exact hv
  | 1, hv => exact hv
  | 2, hv => exact hv
  | 3, hv => exact hv
  | 4, hv => exact hv
  | 5, hv => exact hv
  | 6, hv => exact hv
  | 7, hv => exact hv
  | 8, hv => exact hv
theorem act_flow {W : World} {b : Nat} {x : AV} (h : Held W b 44 (avA x)) : W.rangeAt b 5 [.int .u32 x.q.f.a, .int .u32 x.q.f.b, .int .u16 x.q.f.sp, .int .u16 x.q.f.dp, .int .u8 x.q.f.q] := fun j v hv => by
  rw [h.cell (5 + j)]
  match j, hv with
  | 0, hv => exact hv
  | 1, hv => exact hv
  | 2, hv => exact hv
  | 3, hv => exact hv
  | 4, hv => exact hv
theorem u64_tmod (d : Int) (k : Nat) (hk : 0 < k) : ∃ v : Nat, (IntKind.u64.wrap d).tmod (k : Int) = (v : Int) ∧ v < k := by
  rw [IntKind.wrap_u64]
  obtain ⟨a, ha⟩ := Int.eq_ofNat_of_zero_le (show 0 ≤ d % 18446744073709551616 by omega)
  rw [ha]
  refine ⟨a % k, ?_, Nat.mod_lt _ hk⟩
  rw [← Int.ofNat_tmod]
/-- a struct is loaded from the middle of a block, in a drawn region, under any condition -/
theorem yields_midR {P : Program} {ops : Array Oper} {o : Oper} {a : Act} {R : World → Prop} {b j : Nat} {ty : TypeId} {x : Operand} {d : TypeDesc} {cs : List Value} (hc : ∀ w, R w → w.rangeAt b j cs) (hw : Region.wanted o (yielded ops a.tmps) = true) (ho : o.op = .load ty x) (hx : opnd a x = some (.pointer (some ⟨b, j, none⟩)))
    (hu : P.underlying ty = some d) (hd : d.isRow = true) (hi : (P.info? ty).map (·.size) = some cs.length) : YieldsG P ops R o (.agg cs.toArray) a := by
  refine ⟨hw, fun w H => ?_, fun w => ?_⟩
  · unfold execOp
    simp only [ho, opnd_eval hx, Instr.loadAt, Instr.sureAddr, Sem.run_bind, Sem.run_pure, Result.andThen_ok, run_loadVar_mid w b j ty cs d (hc w H) hu hd hi]
  · unfold Oper.about
    rw [ho]
theorem pack_more {P1 P2 : PT} {W0 W W' : World} {T : Nat → Prop} {K : World → Prop} {p1 N1 p2 N2 : Nat} {s1 s2 : SS} (o1 : PtOk P1) (o2 : PtOk P2) (hk : Kept T K) (O : St P1 P2 W0 W T K p1 s1 N1 p2 s2 N2) {b : Nat} {ty : TypeId} {cs : Array Value} (H : Mem W W' [(b, ty, cs)]) :
    ∃ T' K', Kept T' K' ∧ (∀ X, K' X → K X ∧ Held X b ty cs) ∧ (∀ i, T i → T' i) ∧ St P1 P2 W0 W' T' K' p1 s1 N1 p2 s2 N2 :=
  ⟨_, _, hk.box b ty cs, fun X h => h, fun i hi => .inl hi, O.box o1 o2 hk H⟩
theorem region_R {P : Program} {ops : Array Oper} {Q : Exit → Act → World → Prop} {id : Nat} {a : Act} {w : World} (R : World → Prop) (hR : R w.drew) (m : Nat) (hsz : ops.size = m) (hm : P.follows .mixedOrders = true)
    (h : ∀ w2, R w2 → wpAnyG Fence.wide 6 P .any ops Q R m m (Array.replicate m false) a w2) : (Code.region id ops true).wp P Q a w :=
  (wpIn_wide (n := 6)).1 (wpIn_region_G R m m hsz hm fun _ => h w.drew hR)
/-- the law's two steers, alike -/
def Two (P : PT) (w : World) (T : Nat → Prop) (K : World → Prop) (p r : Nat) (s : SS) (N : Nat) (V : World) : Prop := St P RT w V T K p s N r s N
section
variable {P : PT}
set_option maxHeartbeats 1000000 in
theorem did_w (hP : PSteer P) (w : World) (T : Nat → Prop) (K : World → Prop) (hk : Kept T K) (p r : Nat) (s : SS) (N : Nat) (hN : N ≤ 100) (x : AV) (hx : x.Fits w) (W : World) (hO : Two P w T K p r s N W) :
    Calls Try.prog 15 #[.pointer (some ⟨p, 0, none⟩), .pointer (some ⟨r, 0, none⟩), .agg (avA x)] W fun e w' => e = .returned (.bool true) ∧ ∃ s' N', N' ≤ N + 1 ∧ Two P w T K p r s' N' w' := by
  have H := Mem.start W
  obtain ⟨n, hn⟩ : ∃ n, x.l.length = n := ⟨_, rfl⟩
  obtain ⟨m, hm⟩ : ∃ m, min n 70 = m := ⟨_, rfl⟩
  have hl := hx.hl
  have hc := hx.hc
  rw [hn] at hl
  have hmx : maxLen ≤ 9223372036854775807 := by decide
  have hif : (if (70 : Int) < (n : Int) then (70 : Int) else (n : Int)) = (m : Int) := by split <;> omega
  have HIF := Lib.hid hif
  have c0 : (avA x)[0]? = some (.int .i64 x.d) := rfl
  have c10 : (avA x)[10]? = some (.slice x.A n x.cap) := by rw [← hn]; rfl
  obtain ⟨cap, hcap⟩ : ∃ c, x.cap = c := ⟨_, rfl⟩
  obtain ⟨A, hA⟩ : ∃ c, x.A = c := ⟨_, rfl⟩
  obtain ⟨d, hd⟩ : ∃ c, x.d = c := ⟨_, rfl⟩
  rw [hcap] at hl hc
  rw [hA, hcap] at c10
  rw [hd] at c0
  have HX := Lib.hid (And.intro hx (And.intro hn (And.intro hcap hA)))
  clear hx hn hif hcap hA hd
  go_enter Try.func15, Try.ntmps15
  go_upto_region 1 with (first
    | ((with_reducible show wpList _ _ _ _ _ (World.alloc _ (.cells _ _))); refine mem_newb (l := []) H ?_; intro bx w3 hbk H2; try rw [← hbk]; clear hbk H; have H := H2; clear H2; simp only [List.cons_append, List.nil_append, List.set_cons_zero, List.set_cons_succ, List.setIfInBounds_toArray] at H))
  go_upto_region 2 with (first
    | ((with_reducible show wpList _ _ _ (⟨_, .load _ _, _, _, _, _⟩ :: _) _ _); refine mem_loadf (i := 0) H (by first | exact wanted_none rfl | exact wanted_some rfl rfl rfl rfl) (by exact rfl) (by exact rfl) (by exact rfl) (by first | exact Try.underlying3 | exact Try.underlying29) rfl (by exact c10) ?_)
    | ((with_reducible show wpList _ _ _ (⟨_, .load _ _, _, _, _, _⟩ :: _) _ _); refine mem_loadf (i := 0) H (by first | exact wanted_none rfl | exact wanted_some rfl rfl rfl rfl) (by exact rfl) (by exact rfl) (by exact rfl) (by first | exact Try.underlying3 | exact Try.underlying29) rfl (by exact c0) ?_))
  rw [HIF.out, Int.toNat_natCast]
  clear HIF
  go_upto_region 3 with (first
    | ((with_reducible show wpList _ _ _ (⟨_, .load _ _, _, _, _, _⟩ :: _) _ _); refine mem_loadf (i := 0) H (by first | exact wanted_none rfl | exact wanted_some rfl rfl rfl rfl) (by exact rfl) (by exact rfl) (by exact rfl) (by first | exact Try.underlying3 | exact Try.underlying29) rfl (by exact c10) ?_)
    | ((with_reducible show wpList _ _ _ (⟨_, .load _ _, _, _, _, _⟩ :: _) _ _); refine mem_loadf (i := 0) H (by first | exact wanted_none rfl | exact wanted_some rfl rfl rfl rfl) (by exact rfl) (by exact rfl) (by exact rfl) (by first | exact Try.underlying3 | exact Try.underlying29) rfl (by exact c0) ?_))
  obtain ⟨v, hv, hv5⟩ : ∃ v : Nat, (IntKind.u64.wrap d).tmod 5 = (v : Int) ∧ v < 5 := u64_tmod d 5 (by omega)
  rw [hv]
  obtain ⟨T1, K1, hk1, hK1, hT1, O1⟩ := pack_more hP.pt RT.pt hk hO H
  have HK := Lib.hid hk1
  have HF := Lib.hid (fun X h => (hK1 X h).2)
  have HB := Lib.hid (fun (W' : World) (s' : SS) (N' : Nat) (h : St P RT w W' T1 K1 p s' N' r s' N') => (show Two P w T K p r s' N' W' from h.less hP.pt RT.pt hT1 (fun h => (hK1 _ h).1)))
  have O := Lib.hid O1
  clear H hk1 hK1 hT1 O1 hO hv hk
  have H := Mem.start w3
  have c3 : (avA x).toList[3]? = some (.int .i64 x.q.prio) := rfl
  have c4 : (avA x).toList[4]? = some (.int .i64 x.q.cpu) := rfl
  have c11 : (avA x).toList[11]? = some (.int .i64 x.n) := rfl
  have c12 : (avA x).toList[12]? = some (.int .i64 x.m) := rfl
  obtain ⟨pr, hpr⟩ : ∃ c, x.q.prio = c := ⟨_, rfl⟩
  obtain ⟨cp, hcp⟩ : ∃ c, x.q.cpu = c := ⟨_, rfl⟩
  obtain ⟨an, han⟩ : ∃ c, x.n = c := ⟨_, rfl⟩
  obtain ⟨am, ham⟩ : ∃ c, x.m = c := ⟨_, rfl⟩
  rw [hpr] at c3
  rw [hcp] at c4
  rw [han] at c11
  rw [ham] at c12
  have HX2 := Lib.hid (And.intro hpr (And.intro hcp (And.intro han ham)))
  clear c0 c10 hl hc hmx hpr hcp han ham
  obtain ⟨z, hz⟩ : ∃ z, hashI x.q.f s.salt = z := ⟨_, rfl⟩
  have hm' : m = n ∧ n ≤ 70 ∨ m = 70 ∧ 70 < n := by omega
  have HMM := Lib.hid hm'
  clear hm hm'
  match v, hv5 with
  | 0, _ =>
    have kC := fun W (h : St P RT w W T1 K1 p s N r s N) => h.chooseP hP RT.pt HK.out (by omega) x.q HX.out.1.q
    rw [hz] at kC
    obtain ⟨s', hs'⟩ : ∃ y, s.choose z x.q.prio x.q.cpu = y := ⟨_, rfl⟩
    obtain ⟨V, hV⟩ : ∃ y, s.chooseV z x.q.prio x.q.cpu = y := ⟨_, rfl⟩
    obtain ⟨E, hE⟩ : ∃ y, SS.chooseE x.q.prio x.q.cpu = y := ⟨_, rfl⟩
    have kR := fun W (h : St P RT w W T1 K1 p s' (N + 1) r s N) => h.chooseR hP.pt HK.out (by omega) x.q HX.out.1.q
    rw [hz] at kR
    rw [hs', hV, hE] at kC kR
    clear hs' hV hE hz
    go_upto_region 5 with (first
      | go_skip
      | ((with_reducible show wpList _ _ _ (⟨_, .load 42 _, _, _, _, _⟩ :: _) _ _); refine wpList_load_mid rfl _ _ rfl bx 1 rfl _ _ (act_pkt ((HF.out _ O.out.kp).below H.below (HF.out _ O.out.kp).lt)) Try.underlying42 rfl pkInfo ?_)
      | (go_at_call 19; refine (kC _ (O.out.on hP.pt RT.pt HK.out H.below)).mono ?_; rintro e w2 ⟨rfl, O2⟩; clear O H; have O := Lib.hid O2; clear O2; have H := Mem.start w2))
    go_upto_region 6 with (first
      | go_skip
      | ((with_reducible show wpList _ _ _ (⟨_, .load 42 _, _, _, _, _⟩ :: _) _ _); refine wpList_load_mid rfl _ _ rfl bx 1 rfl _ _ (act_pkt ((HF.out _ O.out.kp).below H.below (HF.out _ O.out.kp).lt)) Try.underlying42 rfl pkInfo ?_)
      | (go_at_call 30; refine (kR _ (O.out.on hP.pt RT.pt HK.out H.below)).mono ?_; rintro e w2 ⟨rfl, O2⟩; clear O H; have O := Lib.hid O2; clear O2; have H := Mem.start w2))
    go_wp2
    go_ret
    exact ⟨by simp, s', N + 1, Nat.le_refl _, HB.out _ _ _ (O.out.on hP.pt RT.pt HK.out H.below)⟩
  | 1, _ =>
    have kP := fun W (h : St P RT w W T1 K1 p s N r s N) => h.doneP hP RT.pt HK.out (by omega) x.q.f HX.out.1.q.f
    have kP2 := fun W (s2 : SS) (h : St P RT w W T1 K1 p s N r s2 N) => h.doneP hP RT.pt HK.out (by omega) x.q.f HX.out.1.q.f
    have kR := fun W (s2 : SS) (h : St P RT w W T1 K1 p s2 N r s N) => h.doneR hP.pt HK.out (by omega) x.q.f HX.out.1.q.f
    rw [hz] at kP kP2 kR
    obtain ⟨s', hs'⟩ : ∃ y, s.done z = y := ⟨_, rfl⟩
    obtain ⟨E, hE⟩ : ∃ y, s.doneE z = y := ⟨_, rfl⟩
    rw [hs', hE] at kP kP2 kR
    clear hs' hE hz kP
    go_upto_region 8 with fail
    have O5 : St P RT w _ T1 K1 p s N r s N := (O.out.on hP.pt RT.pt HK.out H.below).on hP.pt RT.pt HK.out (Mem.start _).drew.below
    refine (wpIn_wide (n := 6)).1 (wpIn_region_G (fun wx => ∃ sp sr, St P RT w wx T1 K1 p sp N r sr N) 12 12 rfl (by kernel_rfl) (fun _ => ?_))
    have hS : ∃ sp sr, St P RT w _ T1 K1 p sp N r sr N := ⟨s, s, O5⟩
    have hhx : ∀ wx, (∃ sp sr, St P RT w wx T1 K1 p sp N r sr N) → Held wx bx 44 (avA x) := fun wx ⟨sp, sr, h⟩ => HF.out _ h.kp
    clear O H
    refine wpAnyR_take (i := 0) (v := (.pointer (some ⟨p, 0, none⟩))) rfl rfl (by kernel_rfl) (by kernel_rfl) (by kernel_rfl) (fun _ _ _ h => h) (Nat.le_refl _) ⟨by rfl, fun w _ => (by go_simp; try (first | rfl | omega)), fun _ => rfl⟩ hS ?_
    simp only [List.getElem_toArray, List.getElem_cons_zero, List.getElem_cons_succ, Act.put, List.setIfInBounds_toArray, List.set_cons_zero, List.set_cons_succ]
    refine wpAnyR_take (i := 1) (v := (.pointer (some ⟨bx, 1, none⟩))) rfl rfl (by kernel_rfl) (by kernel_rfl) (by kernel_rfl) (fun _ _ _ h => h) (Nat.le_refl _) ⟨by rfl, fun w _ => (by go_simp; try (first | rfl | omega)), fun _ => rfl⟩ hS ?_
    simp only [List.getElem_toArray, List.getElem_cons_zero, List.getElem_cons_succ, Act.put, List.setIfInBounds_toArray, List.set_cons_zero, List.set_cons_succ]
    refine wpAnyR_take (i := 2) (v := (.pointer (some ⟨bx, 5, none⟩))) rfl rfl (by kernel_rfl) (by kernel_rfl) (by kernel_rfl) (fun _ _ _ h => h) (Nat.le_refl _) ⟨by rfl, fun w _ => (by go_simp; try (first | rfl | omega)), fun _ => rfl⟩ hS ?_
    simp only [List.getElem_toArray, List.getElem_cons_zero, List.getElem_cons_succ, Act.put, List.setIfInBounds_toArray, List.set_cons_zero, List.set_cons_succ]
    refine wpAnyR_take (i := 3) (v := (.agg #[.int .u32 x.q.f.a, .int .u32 x.q.f.b, .int .u16 x.q.f.sp, .int .u16 x.q.f.dp, .int .u8 x.q.f.q])) rfl rfl (by kernel_rfl) (by kernel_rfl) (by kernel_rfl) (fun _ _ _ h => h) (Nat.le_refl _) (yields_midR (fun w h => act_flow (hhx w h)) (by exact rfl) (by exact rfl) (by exact rfl) Try.underlying40 rfl Hs.flowInfo) hS ?_
    simp only [List.getElem_toArray, List.getElem_cons_zero, List.getElem_cons_succ, Act.put, List.setIfInBounds_toArray, List.set_cons_zero, List.set_cons_succ]
    refine wpAnyR_take (i := 5) (v := (.pointer (some ⟨r, 0, none⟩))) rfl rfl (by kernel_rfl) (by kernel_rfl) (by kernel_rfl) (fun _ _ _ h => h) (Nat.le_refl _) ⟨by rfl, fun w _ => (by go_simp; try (first | rfl | omega)), fun _ => rfl⟩ hS ?_
    simp only [List.getElem_toArray, List.getElem_cons_zero, List.getElem_cons_succ, Act.put, List.setIfInBounds_toArray, List.set_cons_zero, List.set_cons_succ]
    refine wpAnyR_take (i := 6) (v := (.pointer (some ⟨bx, 1, none⟩))) rfl rfl (by kernel_rfl) (by kernel_rfl) (by kernel_rfl) (fun _ _ _ h => h) (Nat.le_refl _) ⟨by rfl, fun w _ => (by go_simp; try (first | rfl | omega)), fun _ => rfl⟩ hS ?_
    simp only [List.getElem_toArray, List.getElem_cons_zero, List.getElem_cons_succ, Act.put, List.setIfInBounds_toArray, List.set_cons_zero, List.set_cons_succ]
    refine wpAnyR_take (i := 7) (v := (.pointer (some ⟨bx, 5, none⟩))) rfl rfl (by kernel_rfl) (by kernel_rfl) (by kernel_rfl) (fun _ _ _ h => h) (Nat.le_refl _) ⟨by rfl, fun w _ => (by go_simp; try (first | rfl | omega)), fun _ => rfl⟩ hS ?_
    simp only [List.getElem_toArray, List.getElem_cons_zero, List.getElem_cons_succ, Act.put, List.setIfInBounds_toArray, List.set_cons_zero, List.set_cons_succ]
    refine wpAnyR_take (i := 8) (v := (.agg #[.int .u32 x.q.f.a, .int .u32 x.q.f.b, .int .u16 x.q.f.sp, .int .u16 x.q.f.dp, .int .u8 x.q.f.q])) rfl rfl (by kernel_rfl) (by kernel_rfl) (by kernel_rfl) (fun _ _ _ h => h) (Nat.le_refl _) (yields_midR (fun w h => act_flow (hhx w h)) (by exact rfl) (by exact rfl) (by exact rfl) Try.underlying40 rfl Hs.flowInfo) hS ?_
    simp only [List.getElem_toArray, List.getElem_cons_zero, List.getElem_cons_succ, Act.put, List.setIfInBounds_toArray, List.set_cons_zero, List.set_cons_succ]
    refine wpAnyG_one (i := 4) (by kernel_rfl) rfl (fun K hK => ?_)
    go_simp
    refine ⟨trivial, (callsIn_wide.2 (kP2 _ s O5)).mono ?_⟩
    rintro e w5 ⟨rfl, O6⟩
    refine hK _ _ (.inr ⟨_, _, O6⟩) ?_
    clear hK K hS O5
    have O5 := O6
    clear O6
    have hS : ∃ sp sr, St P RT w _ T1 K1 p sp N r sr N := ⟨_, _, O5⟩
    try simp only [List.getElem_toArray, List.getElem_cons_zero, List.getElem_cons_succ, Act.put, List.setIfInBounds_toArray, List.set_cons_zero, List.set_cons_succ]
    refine wpAnyG_one (i := 9) (by kernel_rfl) rfl (fun K hK => ?_)
    go_simp
    refine ⟨trivial, (callsIn_wide.2 (kR _ s' O5)).mono ?_⟩
    rintro e w5 ⟨rfl, O6⟩
    refine hK _ _ (.inr ⟨_, _, O6⟩) ?_
    clear hK K hS O5
    have O5 := O6
    clear O6
    have hS : ∃ sp sr, St P RT w _ T1 K1 p sp N r sr N := ⟨_, _, O5⟩
    try simp only [List.getElem_toArray, List.getElem_cons_zero, List.getElem_cons_succ, Act.put, List.setIfInBounds_toArray, List.set_cons_zero, List.set_cons_succ]
    refine wpAnyR_take (i := 10) (v := (.bool true)) rfl rfl (by kernel_rfl) (by kernel_rfl) (by kernel_rfl) (fun _ _ _ h => h) (Nat.le_refl _) ⟨by rfl, fun w _ => (by go_simp; try (first | rfl | simp)), fun _ => rfl⟩ hS ?_
    simp only [List.getElem_toArray, List.getElem_cons_zero, List.getElem_cons_succ, Act.put, List.setIfInBounds_toArray, List.set_cons_zero, List.set_cons_succ]
    refine wpAnyG_one (i := 11) (by kernel_rfl) rfl (fun K hK => ?_)
    go_simp
    refine hK _ _ (.inr hS) ?_
    clear hK K
    refine wpAnyG_done (by kernel_rfl) ?_ _
    clear hS
    have HO5 := Lib.hid O5
    clear O5
    go_wp2
    go_ret
    exact ⟨rfl, s', N, Nat.le_succ N, HB.out _ _ _ HO5.out⟩
  | 2, _ =>
    have hml : (x.l.take m).length = m := by have := HMM.out; rw [List.length_take, HX.out.2.1]; omega
    have hrw := fun W (h : Below w.heap.size w W) => ((RowI.take HX.out.1.row m).same h.block).mono h.size
    rw [HX.out.2.2.2] at hrw
    have hnl := HX.out.1.hnil
    rw [HX.out.2.2.2, HX.out.2.2.1] at hnl
    have hlc : m ≤ cap := by have := HMM.out; have := HX.out.1.hl; rw [HX.out.2.1, HX.out.2.2.1] at this; omega
    have hcx : cap ≤ maxLen := by have := HX.out.1.hc; rw [HX.out.2.2.1] at this; exact this
    have hn64 : I64 an := by have := HX.out.1.n; rw [HX2.out.2.2.1] at this; exact this
    have hli : ∀ y, y ∈ x.l.take m → I64 y := fun y hy => HX.out.1.hi y (List.mem_of_mem_take hy)
    have kP2 := fun W (s2 : SS) (h : St P RT w W T1 K1 p s N r s2 N) => h.mapP hP RT.pt HK.out an A cap (x.l.take m) hn64 (by have := HMM.out; omega) (by omega) hcx (hrw W h.bel) hli hnl
    have kR := fun W (s2 : SS) (h : St P RT w W T1 K1 p s2 N r s N) => h.mapR hP.pt HK.out an A cap (x.l.take m) hn64 (by have := HMM.out; omega) (by omega) hcx (hrw W h.bel) hli hnl
    rw [hml] at kP2 kR
    obtain ⟨s', hs'⟩ : ∃ y, s.map an (x.l.take m) = y := ⟨_, rfl⟩
    obtain ⟨E, hE⟩ : ∃ y, s.mapE an (x.l.take m) = y := ⟨_, rfl⟩
    rw [hs', hE] at kP2 kR
    clear hs' hE hml hrw hnl hlc hcx hn64 hli hz
    go_upto_region 10 with fail
    have O5 : St P RT w _ T1 K1 p s N r s N := (O.out.on hP.pt RT.pt HK.out H.below).on hP.pt RT.pt HK.out (Mem.start _).drew.below
    refine (wpIn_wide (n := 6)).1 (wpIn_region_G (fun wx => ∃ sp sr, St P RT w wx T1 K1 p sp N r sr N) 12 12 rfl (by kernel_rfl) (fun _ => ?_))
    have hS : ∃ sp sr, St P RT w _ T1 K1 p sp N r sr N := ⟨s, s, O5⟩
    have hhx : ∀ wx, (∃ sp sr, St P RT w wx T1 K1 p sp N r sr N) → Held wx bx 44 (avA x) := fun wx ⟨sp, sr, h⟩ => HF.out _ h.kp
    clear O H
    refine wpAnyR_take (i := 0) (v := (.pointer (some ⟨p, 0, none⟩))) rfl rfl (by kernel_rfl) (by kernel_rfl) (by kernel_rfl) (fun _ _ _ h => h) (Nat.le_refl _) ⟨by rfl, fun w _ => (by go_simp; try (first | rfl | omega)), fun _ => rfl⟩ hS ?_
    simp only [List.getElem_toArray, List.getElem_cons_zero, List.getElem_cons_succ, Act.put, List.setIfInBounds_toArray, List.set_cons_zero, List.set_cons_succ]
    refine wpAnyR_take (i := 1) (v := (.pointer (some ⟨bx, 11, none⟩))) rfl rfl (by kernel_rfl) (by kernel_rfl) (by kernel_rfl) (fun _ _ _ h => h) (Nat.le_refl _) ⟨by rfl, fun w _ => (by go_simp; try (first | rfl | omega)), fun _ => rfl⟩ hS ?_
    simp only [List.getElem_toArray, List.getElem_cons_zero, List.getElem_cons_succ, Act.put, List.setIfInBounds_toArray, List.set_cons_zero, List.set_cons_succ]
    refine wpAnyR_take (i := 2) (v := (.int .i64 an)) rfl rfl (by kernel_rfl) (by kernel_rfl) (by kernel_rfl) (fun _ _ _ h => h) (Nat.le_refl _) (yields_fld (fun w h => hhx w h) (by exact rfl) (by exact rfl) (by exact rfl) Try.underlying3 rfl (by exact c11)) hS ?_
    simp only [List.getElem_toArray, List.getElem_cons_zero, List.getElem_cons_succ, Act.put, List.setIfInBounds_toArray, List.set_cons_zero, List.set_cons_succ]
    refine wpAnyR_take (i := 3) (v := (.slice A m cap)) rfl rfl (by kernel_rfl) (by kernel_rfl) (by kernel_rfl) (fun _ _ _ h => h) (Nat.le_refl _) ⟨by rfl, fun w _ => (by go_simp; try (first | rfl | omega)), fun _ => rfl⟩ hS ?_
    simp only [List.getElem_toArray, List.getElem_cons_zero, List.getElem_cons_succ, Act.put, List.setIfInBounds_toArray, List.set_cons_zero, List.set_cons_succ]
    refine wpAnyR_take (i := 5) (v := (.pointer (some ⟨r, 0, none⟩))) rfl rfl (by kernel_rfl) (by kernel_rfl) (by kernel_rfl) (fun _ _ _ h => h) (Nat.le_refl _) ⟨by rfl, fun w _ => (by go_simp; try (first | rfl | omega)), fun _ => rfl⟩ hS ?_
    simp only [List.getElem_toArray, List.getElem_cons_zero, List.getElem_cons_succ, Act.put, List.setIfInBounds_toArray, List.set_cons_zero, List.set_cons_succ]
    refine wpAnyR_take (i := 6) (v := (.pointer (some ⟨bx, 11, none⟩))) rfl rfl (by kernel_rfl) (by kernel_rfl) (by kernel_rfl) (fun _ _ _ h => h) (Nat.le_refl _) ⟨by rfl, fun w _ => (by go_simp; try (first | rfl | omega)), fun _ => rfl⟩ hS ?_
    simp only [List.getElem_toArray, List.getElem_cons_zero, List.getElem_cons_succ, Act.put, List.setIfInBounds_toArray, List.set_cons_zero, List.set_cons_succ]
    refine wpAnyR_take (i := 7) (v := (.int .i64 an)) rfl rfl (by kernel_rfl) (by kernel_rfl) (by kernel_rfl) (fun _ _ _ h => h) (Nat.le_refl _) (yields_fld (fun w h => hhx w h) (by exact rfl) (by exact rfl) (by exact rfl) Try.underlying3 rfl (by exact c11)) hS ?_
    simp only [List.getElem_toArray, List.getElem_cons_zero, List.getElem_cons_succ, Act.put, List.setIfInBounds_toArray, List.set_cons_zero, List.set_cons_succ]
    refine wpAnyR_take (i := 8) (v := (.slice A m cap)) rfl rfl (by kernel_rfl) (by kernel_rfl) (by kernel_rfl) (fun _ _ _ h => h) (Nat.le_refl _) ⟨by rfl, fun w _ => (by go_simp; try (first | rfl | omega)), fun _ => rfl⟩ hS ?_
    simp only [List.getElem_toArray, List.getElem_cons_zero, List.getElem_cons_succ, Act.put, List.setIfInBounds_toArray, List.set_cons_zero, List.set_cons_succ]
    refine wpAnyG_one (i := 4) (by kernel_rfl) rfl (fun K hK => ?_)
    go_simp
    refine ⟨trivial, (callsIn_wide.2 (kP2 _ s O5)).mono ?_⟩
    rintro e w5 ⟨rfl, O6⟩
    refine hK _ _ (.inr ⟨_, _, O6⟩) ?_
    clear hK K hS O5
    have O5 := O6
    clear O6
    have hS : ∃ sp sr, St P RT w _ T1 K1 p sp N r sr N := ⟨_, _, O5⟩
    try simp only [List.getElem_toArray, List.getElem_cons_zero, List.getElem_cons_succ, Act.put, List.setIfInBounds_toArray, List.set_cons_zero, List.set_cons_succ]
    refine wpAnyG_one (i := 9) (by kernel_rfl) rfl (fun K hK => ?_)
    go_simp
    refine ⟨trivial, (callsIn_wide.2 (kR _ s' O5)).mono ?_⟩
    rintro e w5 ⟨rfl, O6⟩
    refine hK _ _ (.inr ⟨_, _, O6⟩) ?_
    clear hK K hS O5
    have O5 := O6
    clear O6
    have hS : ∃ sp sr, St P RT w _ T1 K1 p sp N r sr N := ⟨_, _, O5⟩
    try simp only [List.getElem_toArray, List.getElem_cons_zero, List.getElem_cons_succ, Act.put, List.setIfInBounds_toArray, List.set_cons_zero, List.set_cons_succ]
    refine wpAnyR_take (i := 10) (v := (.bool true)) rfl rfl (by kernel_rfl) (by kernel_rfl) (by kernel_rfl) (fun _ _ _ h => h) (Nat.le_refl _) ⟨by rfl, fun w _ => (by go_simp; try (first | rfl | simp)), fun _ => rfl⟩ hS ?_
    simp only [List.getElem_toArray, List.getElem_cons_zero, List.getElem_cons_succ, Act.put, List.setIfInBounds_toArray, List.set_cons_zero, List.set_cons_succ]
    refine wpAnyG_one (i := 11) (by kernel_rfl) rfl (fun K hK => ?_)
    go_simp
    refine hK _ _ (.inr hS) ?_
    clear hK K
    refine wpAnyG_done (by kernel_rfl) ?_ _
    clear hS
    have HO5 := Lib.hid O5
    clear O5
    go_wp2
    go_ret
    exact ⟨rfl, s', N, Nat.le_succ N, HB.out _ _ _ HO5.out⟩
  | 3, _ =>
    have kE := fun W (h : St P RT w W T1 K1 p s N r s N) => h.even hP.pt RT.pt HK.out an am
    obtain ⟨t, ht⟩ : ∃ t, evT an am = t := ⟨_, rfl⟩
    have htr := evT_right an am
    have htl := evT_len an am
    rw [ht] at kE htr htl
    clear ht hz
    go_upto_region 13 with (first
      | go_skip
      | ((with_reducible show wpList _ _ _ (⟨_, .load 3 _, _, _, _, _⟩ :: _) _ _); refine load_fld ((HF.out _ O.out.kp).below H.below (HF.out _ O.out.kp).lt) (by first | exact wanted_none rfl | exact wanted_some rfl rfl rfl rfl) (by exact rfl) (by exact rfl) Try.underlying3 rfl (by exact c11) ?_)
      | ((with_reducible show wpList _ _ _ (⟨_, .load 3 _, _, _, _, _⟩ :: _) _ _); refine load_fld ((HF.out _ O.out.kp).below H.below (HF.out _ O.out.kp).lt) (by first | exact wanted_none rfl | exact wanted_some rfl rfl rfl rfl) (by exact rfl) (by exact rfl) Try.underlying3 rfl (by exact c12) ?_)
      | (go_at_call 13; refine (kE _ (O.out.on hP.pt RT.pt HK.out H.below)).mono ?_; rintro e w2 ⟨A1, A2, c1, c2, rfl, O2⟩; clear O H; have O := Lib.hid O2; clear O2; have H := Mem.start w2)
      | ((with_reducible show wpList _ _ _ _ _ (World.alloc _ (.cells _ _))); refine mem_newb (l := []) H ?_; intro bt w3 hbk H2; try rw [← hbk]; clear hbk H; have H := H2; clear H2; simp only [List.cons_append, List.nil_append, List.set_cons_zero, List.set_cons_succ, List.setIfInBounds_toArray] at H)
      | ((with_reducible show wpList _ _ _ (⟨_, .store 32 _ _, _, _, _, _⟩ :: _) _ _); refine mem_store (i := 0) H (by first | exact wanted_none rfl | exact wanted_some rfl rfl rfl rfl) (by exact rfl) (by exact rfl) (by exact rfl) (by exact rfl) (by exact tbInfo) (by exact rfl) (by exact rfl) ?_; intro w2 H2; clear H; have H := H2; clear H2; simp only [List.cons_append, List.nil_append, List.set_cons_zero, List.set_cons_succ, List.setIfInBounds_toArray] at H))
    obtain ⟨T2, K2, hk2, hK2, hT2, O2⟩ := pack_more hP.pt RT.pt (HK.out.tb A1 A2 c1 c2 t) O.out H
    have HK3 := Lib.hid hk2
    have HF2 := Lib.hid (fun X h => And.intro (hK2 X h).1.2 (hK2 X h).2)
    have HT2 := Lib.hid (fun i (hi : tbS A1 A2 i) => hT2 i (.inr hi))
    have HB2 := Lib.hid (fun (W' : World) (s' : SS) (N' : Nat) (h : St P RT w W' T2 K2 p s' N' r s' N') => HB.out W' s' N' (h.less hP.pt RT.pt (fun i hi => hT2 i (.inl hi)) (fun h => (hK2 _ h).1.1)))
    have kP2 := fun W (s2 : SS) (h : St P RT w W T2 K2 p s N r s2 N) => h.tableP hP RT.pt HK3.out A1 A2 c1 c2 t (HF2.out _ h.kp).1 htl (fun _ => HT2.out)
    have kR := fun W (s2 : SS) (h : St P RT w W T2 K2 p s2 N r s N) => h.tableR hP.pt HK3.out A1 A2 c1 c2 t (HF2.out _ h.kp).1 htl (fun _ => HT2.out)
    obtain ⟨s', hs'⟩ : ∃ y, s.table t = y := ⟨_, rfl⟩
    obtain ⟨E, hE⟩ : ∃ y, tabE t = y := ⟨_, rfl⟩
    rw [hs', hE] at kP2 kR
    clear O H hk2 hK2 hT2 hs' hE htr htl HB HF kE
    have O := Lib.hid O2
    clear O2
    have O5 : St P RT w _ T2 K2 p s N r s N := O.out.on hP.pt RT.pt HK3.out (Mem.start _).drew.below
    refine (wpIn_wide (n := 6)).1 (wpIn_region_G (fun wx => ∃ sp sr, St P RT w wx T2 K2 p sp N r sr N) 8 8 rfl (by kernel_rfl) (fun _ => ?_))
    have hS : ∃ sp sr, St P RT w _ T2 K2 p sp N r sr N := ⟨s, s, O5⟩
    have hhx : ∀ wx, (∃ sp sr, St P RT w wx T2 K2 p sp N r sr N) → TbAt wx.heap.size wx A1 A2 c1 c2 t ∧ Held wx bt 32 (tbC A1 A2 c1 c2 t) := fun wx ⟨sp, sr, h⟩ => HF2.out _ h.kp
    clear O
    refine wpAnyR_take (i := 0) (v := (.pointer (some ⟨p, 0, none⟩))) rfl rfl (by kernel_rfl) (by kernel_rfl) (by kernel_rfl) (fun _ _ _ h => h) (Nat.le_refl _) ⟨by rfl, fun w _ => (by go_simp; try (first | rfl | omega)), fun _ => rfl⟩ hS ?_
    simp only [List.getElem_toArray, List.getElem_cons_zero, List.getElem_cons_succ, Act.put, List.setIfInBounds_toArray, List.set_cons_zero, List.set_cons_succ]
    refine wpAnyR_take (i := 1) (v := (.agg (tbC A1 A2 c1 c2 t))) rfl rfl (by kernel_rfl) (by kernel_rfl) (by kernel_rfl) (fun _ _ _ h => h) (Nat.le_refl _) (yields_held (fun w h => (hhx w h).2) (by exact rfl) (by exact rfl) (by exact rfl) Try.underlying32 rfl (by exact tbInfo)) hS ?_
    simp only [List.getElem_toArray, List.getElem_cons_zero, List.getElem_cons_succ, Act.put, List.setIfInBounds_toArray, List.set_cons_zero, List.set_cons_succ]
    refine wpAnyR_take (i := 3) (v := (.pointer (some ⟨r, 0, none⟩))) rfl rfl (by kernel_rfl) (by kernel_rfl) (by kernel_rfl) (fun _ _ _ h => h) (Nat.le_refl _) ⟨by rfl, fun w _ => (by go_simp; try (first | rfl | omega)), fun _ => rfl⟩ hS ?_
    simp only [List.getElem_toArray, List.getElem_cons_zero, List.getElem_cons_succ, Act.put, List.setIfInBounds_toArray, List.set_cons_zero, List.set_cons_succ]
    refine wpAnyR_take (i := 4) (v := (.agg (tbC A1 A2 c1 c2 t))) rfl rfl (by kernel_rfl) (by kernel_rfl) (by kernel_rfl) (fun _ _ _ h => h) (Nat.le_refl _) (yields_held (fun w h => (hhx w h).2) (by exact rfl) (by exact rfl) (by exact rfl) Try.underlying32 rfl (by exact tbInfo)) hS ?_
    simp only [List.getElem_toArray, List.getElem_cons_zero, List.getElem_cons_succ, Act.put, List.setIfInBounds_toArray, List.set_cons_zero, List.set_cons_succ]
    refine wpAnyG_one (i := 2) (by kernel_rfl) rfl (fun K hK => ?_)
    go_simp
    refine ⟨trivial, (callsIn_wide.2 (kP2 _ s O5)).mono ?_⟩
    rintro e w5 ⟨rfl, O6⟩
    refine hK _ _ (.inr ⟨_, _, O6⟩) ?_
    clear hK K hS O5
    have O5 := O6
    clear O6
    have hS : ∃ sp sr, St P RT w _ T2 K2 p sp N r sr N := ⟨_, _, O5⟩
    try simp only [List.getElem_toArray, List.getElem_cons_zero, List.getElem_cons_succ, Act.put, List.setIfInBounds_toArray, List.set_cons_zero, List.set_cons_succ]
    refine wpAnyG_one (i := 5) (by kernel_rfl) rfl (fun K hK => ?_)
    go_simp
    refine ⟨trivial, (callsIn_wide.2 (kR _ s' O5)).mono ?_⟩
    rintro e w5 ⟨rfl, O6⟩
    refine hK _ _ (.inr ⟨_, _, O6⟩) ?_
    clear hK K hS O5
    have O5 := O6
    clear O6
    have hS : ∃ sp sr, St P RT w _ T2 K2 p sp N r sr N := ⟨_, _, O5⟩
    try simp only [List.getElem_toArray, List.getElem_cons_zero, List.getElem_cons_succ, Act.put, List.setIfInBounds_toArray, List.set_cons_zero, List.set_cons_succ]
    refine wpAnyR_take (i := 6) (v := (.bool true)) rfl rfl (by kernel_rfl) (by kernel_rfl) (by kernel_rfl) (fun _ _ _ h => h) (Nat.le_refl _) ⟨by rfl, fun w _ => (by go_simp; try (first | rfl | simp)), fun _ => rfl⟩ hS ?_
    simp only [List.getElem_toArray, List.getElem_cons_zero, List.getElem_cons_succ, Act.put, List.setIfInBounds_toArray, List.set_cons_zero, List.set_cons_succ]
    refine wpAnyG_one (i := 7) (by kernel_rfl) rfl (fun K hK => ?_)
    go_simp
    refine hK _ _ (.inr hS) ?_
    clear hK K
    refine wpAnyG_done (by kernel_rfl) ?_ _
    clear hS
    have HO5 := Lib.hid O5
    clear O5
    go_wp2
    go_ret
    exact ⟨rfl, s', N, Nat.le_succ N, HB2.out _ _ _ HO5.out⟩
  | 4, _ =>
    have hp64 : I64 pr := by have := HX.out.1.q.prio; rw [HX2.out.1] at this; exact this
    have hc64 : I64 cp := by have := HX.out.1.q.cpu; rw [HX2.out.2.1] at this; exact this
    have kx := fun W h => St.candP (P := P) (P2 := RT) (W0 := w) (W := W) (T := T1) (K := K1) (p1 := p) (N1 := N) (s1 := s) (p2 := r) (s2 := s) (N2 := N) hP RT.pt HK.out h pr cp hp64 hc64
    obtain ⟨rd, ow, xr, hQr⟩ : ∃ rd ow xr, RAt w3 rd ow r s N xr := by
      obtain ⟨rd, own, rd2, own2, h⟩ := O.out
      obtain ⟨xr, hxr⟩ := h.a2
      exact ⟨_, _, xr, hxr⟩
    have hV96 : (s.candV pr cp).length ≤ 4096 := by
      rcases hc : cOk pr cp with _ | _
      · rw [SS.candV, hc]; simp
      · obtain ⟨pr1, C, rfl, rfl, hpr1, hC⟩ := cOk_parts hc
        have := (cand_in hQr.right hQr.m64 (pr := (pr1 : Int)) (by omega) hC).1
        rw [SS.candV, hc]
        exact Nat.le_trans this.2 (by omega)
    obtain ⟨V, hV⟩ : ∃ y, s.candV pr cp = y := ⟨_, rfl⟩
    obtain ⟨E, hE⟩ : ∃ y, SS.candE pr cp = y := ⟨_, rfl⟩
    rw [hV] at hV96
    rw [hV, hE] at kx
    unfold CandP at kx
    have HVE := Lib.hid (And.intro hV hE)
    clear hV hE hQr hz
    go_upto_region 15 with (first
      | go_skip
      | ((with_reducible show wpList _ _ _ (⟨_, .load 3 _, _, _, _, _⟩ :: _) _ _); refine load_fld ((HF.out _ O.out.kp).below H.below (HF.out _ O.out.kp).lt) (by first | exact wanted_none rfl | exact wanted_some rfl rfl rfl rfl) (by exact rfl) (by exact rfl) Try.underlying3 rfl (by exact c3) ?_)
      | ((with_reducible show wpList _ _ _ (⟨_, .load 3 _, _, _, _, _⟩ :: _) _ _); refine load_fld ((HF.out _ O.out.kp).below H.below (HF.out _ O.out.kp).lt) (by first | exact wanted_none rfl | exact wanted_some rfl rfl rfl rfl) (by exact rfl) (by exact rfl) Try.underlying3 rfl (by exact c4) ?_)
      | (go_at_call 20; refine (kx _ (O.out.on hP.pt RT.pt HK.out H.below)).mono ?_; rintro e w2 ⟨vx, rfl, O2⟩; clear O H; have O := Lib.hid O2; clear O2; have H := Mem.start w2))
    have HKx := Lib.hid (HK.out.sl vx V)
    have HFx := Lib.hid (fun X (h : K1 X ∧ SlI X.heap.size X vx V) => HF.out X h.1)
    have ky := fun W h => St.candR (P2 := P) (W0 := w) (W := W) (p1 := r) (N1 := N) (s1 := s) (p2 := p) (s2 := s) (N2 := N) hP.pt HKx.out h pr cp hp64 hc64
    rw [HVE.out.1, HVE.out.2] at ky
    unfold CandP at ky
    clear kx HF
    go_upto_region 16 with (first
      | go_skip
      | ((with_reducible show wpList _ _ _ (⟨_, .load 3 _, _, _, _, _⟩ :: _) _ _); refine load_fld ((HFx.out _ O.out.kp).below H.below (HFx.out _ O.out.kp).lt) (by first | exact wanted_none rfl | exact wanted_some rfl rfl rfl rfl) (by exact rfl) (by exact rfl) Try.underlying3 rfl (by exact c3) ?_)
      | ((with_reducible show wpList _ _ _ (⟨_, .load 3 _, _, _, _, _⟩ :: _) _ _); refine load_fld ((HFx.out _ O.out.kp).below H.below (HFx.out _ O.out.kp).lt) (by first | exact wanted_none rfl | exact wanted_some rfl rfl rfl rfl) (by exact rfl) (by exact rfl) Try.underlying3 rfl (by exact c4) ?_)
      | (go_at_call 26; refine (ky _ (O.out.on hP.pt RT.pt HKx.out H.below)).mono ?_; rintro e w2 ⟨vy, rfl, O2⟩; clear O H; have O := Lib.hid O2; clear O2; have H := Mem.start w2))
    have HKy := Lib.hid (HKx.out.sl vy V)
    have ks := fun W (h : Below w2.heap.size w2 W) => same_sl vx vy V W hV96 (O.out.on hP.pt RT.pt HKy.out h).kp.1.2 (O.out.on hP.pt RT.pt HKy.out h).kp.2
    have HO := Lib.hid (show ∀ W, Below w2.heap.size w2 W → St P RT w W T1 K1 p s N r s N from fun W h => (O.out.on hP.pt RT.pt HKy.out h).less hP.pt RT.pt (fun i hi => .inl (.inl hi)) (fun h => h.1.1))
    clear O HKx HKy ky
    go_wp2_with (first
      | (go_at_call 27; refine (ks _ H.below).mono ?_; rintro e w6 ⟨rfl, hb⟩; have H2 := H.call hb; clear H hb; have H := H2; clear H2))
    go_ret
    exact ⟨by simp, s, N, Nat.le_succ N, HB.out _ _ _ (HO.out _ H.below)⟩
end
end Go.Proofs.Ytaoaapbbadipfaa
end
/- SteerDoes, walked. Conditions: as the interface says; the acts lie where their slice says. -/
section
namespace Go.Proofs.Ytaoaapbbadipfaa
set_option linter.unusedSimpArgs false
set_option linter.unusedVariables false
set_option maxRecDepth 100000
open Go.ChangeShapes Go.WideShapes Go.ChangeAt Go.RowKit

/-- where the law's steers lie, between two acts -/
def DoesJ (P : PT) (w : World) (p r k : Nat) (V : World) : Prop := ∃ s N, N ≤ k ∧ Two P w (fun _ => False) (fun _ => True) p r s N V
section
variable {P : PT} {w W : World} {p r k : Nat}
theorem DoesJ.on (hP : PSteer P) (h : DoesJ P w p r k W) {V : World} (hb : Below W.heap.size W V) : DoesJ P w p r k V := by
  obtain ⟨s, N, h1, h2⟩ := h
  exact ⟨s, N, h1, St.on hP.pt RT.pt (Kept.no _) h2 hb⟩
theorem DoesJ.bel (h : DoesJ P w p r k W) : Below w.heap.size w W := by
  obtain ⟨s, N, h1, h2⟩ := h
  exact St.bel h2
theorem DoesJ.did (hP : PSteer P) (h : DoesJ P w p r k W) (hk : k ≤ 100) (x : AV) (hx : x.Fits w) : Calls Try.prog 15 #[.pointer (some ⟨p, 0, none⟩), .pointer (some ⟨r, 0, none⟩), .agg (avC x).toArray] W fun e w' => e = .returned (.bool true) ∧ DoesJ P w p r (k + 1) w' := by
  obtain ⟨s, N, h1, h2⟩ := h
  refine (did_w hP w _ _ (Kept.no _) p r s N (by omega) x hx W h2).mono ?_
  rintro e w' ⟨rfl, s', N', h3, h4⟩
  exact ⟨rfl, s', N', by omega, h4⟩
/-- what both tell of a flow -/
theorem DoesJ.out (hP : PSteer P) (h : DoesJ P w p r k W) (hk : k ≤ 101) (d : Hs.FV) (hd : d.Fits) : ∃ a b : Int, ∃ J : World → Prop, (∀ V, J V → DoesJ P w p r k V) ∧ J W ∧ (∀ V V', J V → Below V.heap.size V V' → J V') ∧
    (∀ V, J V → Calls Try.prog 16 #[.pointer (some ⟨p, 0, none⟩), Hs.fv d] V fun e w' => e = .returned (.tuple #[.int .i64 a, .int .i64 b]) ∧ J w') ∧
    (∀ V, J V → Calls Try.prog 17 #[.pointer (some ⟨r, 0, none⟩), Hs.fv d] V fun e w' => e = .returned (.tuple #[.int .i64 a, .int .i64 b]) ∧ J w') := by
  obtain ⟨s, N, h1, h2⟩ := h
  refine ⟨s.outQ (hashI d s.salt), s.outN (hashI d s.salt), fun V => St P RT w V (fun _ => False) (fun _ => True) p s N r s N, fun V hV => ⟨s, N, h1, hV⟩, h2, fun V V' hV hb => St.on hP.pt RT.pt (Kept.no _) hV hb, fun V hV => St.outP hP RT.pt (Kept.no _) hV (by omega) d hd, fun V hV => St.outR hP.pt (Kept.no _) hV (by omega) d hd⟩
set_option maxHeartbeats 1000000 in
theorem does_w (hP : PSteer P) (n m salt : Int) (hs : 0 ≤ salt ∧ salt ≤ 4294967295) (A : Option Addr) (len cap : Nat) (xs : Nat → AV) (hl : len ≤ cap) (hc : cap ≤ maxLen) (w : World) (hA : ActsA w A len xs) : Calls Try.prog 3 #[.int .i64 n, .int .i64 m, .int .u32 salt, .slice A len cap] w fun e w' => e = .returned (.bool true) ∧ Below w.heap.size w w' := by
  have H := Mem.start w
  have HK := Lib.hid (Kept.no (fun _ : Nat => False))
  have O := Lib.hid ((St.start w ss0).none NoT.pt NoT.pt)
  have HA := Lib.hid hA
  unfold maxLen at hc
  clear hA
  go_enter Try.func3, Try.ntmps3
  go_upto_region 3 with (first
    | go_skip
    | (go_at_call 11; with_reducible refine (shown9 hP _).mono ?_; rintro e w2 ⟨rfl, hb⟩; have H2 := H.call hb; clear H hb; have H := H2; clear H2)
    | (go_at_call 13; refine ((O.out.on NoT.pt NoT.pt HK.out H.below).even NoT.pt NoT.pt HK.out n m).mono ?_; rintro e w2 ⟨A1, A2, c1', c2', rfl, O2⟩; clear O H; have O := Lib.hid O2; clear O2; have H := Mem.start w2)
    | (go_at_call 12; refine (((O.out.on NoT.pt NoT.pt (HK.out.tb A1 A2 c1' c2' (evT n m)) H.below).newP hP NoT.pt (HK.out.tb A1 A2 c1' c2' (evT n m)) A1 A2 c1' c2' (evT n m) salt (by omega) (O.out.on NoT.pt NoT.pt (HK.out.tb A1 A2 c1' c2' (evT n m)) H.below).kp.2 (evT_right n m) (fun i hi => .inr hi))).mono ?_; rintro e w2 ⟨p, rfl, O2⟩; clear O H; have O := Lib.hid (O2.none hP.pt NoT.pt); clear O2; have H := Mem.start w2))
  go_upto_region 4 with (first
    | go_skip
    | (go_at_call 13; refine ((O.out.on hP.pt NoT.pt HK.out H.below).even hP.pt NoT.pt HK.out n m).mono ?_; rintro e w2 ⟨B1, B2, d1', d2', rfl, O2⟩; clear O H; have O := Lib.hid O2; clear O2; have H := Mem.start w2)
    | (go_at_call 14; refine ((O.out.on hP.pt NoT.pt (HK.out.tb B1 B2 d1' d2' (evT n m)) H.below).newR hP.pt (HK.out.tb B1 B2 d1' d2' (evT n m)) B1 B2 d1' d2' (evT n m) salt (by omega) (O.out.on hP.pt NoT.pt (HK.out.tb B1 B2 d1' d2' (evT n m)) H.below).kp.2 (evT_right n m) (fun i hi => .inr hi)).mono ?_; rintro e w2 ⟨r, rfl, O2⟩; clear O H; have O := Lib.hid (O2.none hP.pt RT.pt); clear O2; have H := Mem.start w2))
  have J0 : DoesJ P w p r 0 w2 := ⟨_, 0, Nat.le_refl _, O.out⟩
  have HJ := Lib.hid J0
  clear J0 O HK
  go_wp2
  go_loopw [14] (fun iv wr => ∃ k : Nat, k ≤ len ∧ k ≤ 60 ∧ iv = .int .i64 k ∧ Hid (DoesJ P w p r k wr)) (fun iv _ => len - (intOf iv).toNat)
  case atStart => exact ⟨0, Nat.zero_le _, Nat.zero_le _, rfl, Lib.hid (HJ.out.on hP H.below)⟩
  case round =>
    clear HJ H
    obtain ⟨k, hk, hk60, rfl, HJ⟩ := hrel
    have H := Mem.start wr
    by_cases hlt : k < len ∧ k < 60
    · obtain ⟨b, off, hA, hb, hx⟩ := HA.out.plain avC_len (by decide) (by omega)
      obtain ⟨hfit, hcells⟩ := hx k hlt.1
      have t1 : decide ((k : Int) < (len : Int)) = true := decide_eq_true (by omega)
      have t2 : decide ((k : Int) < 60) = true := decide_eq_true (by omega)
      have HB := Lib.hid (fun (W : World) (h : Below w.heap.size w W) => show W.rangeAt b (off + k * 13) (avC (xs k)) from fun j v hj => by
        have h2 := hcells j v hj
        rw [← h2]
        unfold World.cell?
        rw [h.block b hb])
      obtain ⟨x, hxx⟩ : ∃ x, xs k = x := ⟨_, rfl⟩
      rw [hxx] at HB hfit
      have HX := Lib.hid hfit
      have HFl := Lib.hid (fun (W : World) (h : Below w.heap.size w W) => show W.rangeAt b (off + k * 13 + 5) [.int .u32 x.q.f.a, .int .u32 x.q.f.b, .int .u16 x.q.f.sp, .int .u16 x.q.f.dp, .int .u8 x.q.f.q] from fun j v hj => by
        have h3 := HB.out W h (5 + j) v (by
          match j, hj with
          | 0, hj => exact hj
          | 1, hj => exact hj
          | 2, hj => exact hj
          | 3, hj => exact hj
          | 4, hj => exact hj)
        rw [show off + k * 13 + 5 + j = off + k * 13 + (5 + j) by omega]
        exact h3)
      have kD := fun W h => DoesJ.did (P := P) (w := w) (W := W) (p := p) (r := r) (k := k) hP h (by omega) x HX.out
      subst hA
      clear hfit hcells hxx hx
      go_upto_region 10 with (first
        | go_skip
        | ((with_reducible show wpList _ _ _ (⟨_, .load 44 _, _, _, _, _⟩ :: _) _ _); refine wpList_load_mid rfl _ _ rfl b (off + k * 13) rfl _ _ (HB.out _ (HJ.out.bel.trans (H.below.mono HJ.out.bel.size))) Try.underlying44 rfl acInfo ?_)
        | (go_at_call 15; refine (kD _ (HJ.out.on hP H.below)).mono ?_; rintro e w2 ⟨rfl, J2⟩; clear HJ H; have HJ := Lib.hid J2; clear J2; have H := Mem.start w2))
      obtain ⟨qa, qb, J, hJ1, hJ2, hJ3, hJ4, hJ5⟩ := HJ.out.out hP (by omega) x.q.f HX.out.q.f
      have HJ1 := Lib.hid hJ1
      have HJ3 := Lib.hid hJ3
      have JJ := Lib.hid (And.intro (hJ3 _ _ hJ2 H.below) (HJ.out.bel.trans (H.below.mono HJ.out.bel.size)))
      clear HJ hJ1 hJ2 hJ3 H kD
      have H := Mem.start w2
      go_upto_region 11 with (first
        | go_skip
        | ((with_reducible show wpList _ _ _ (⟨_, .load 40 _, _, _, _, _⟩ :: _) _ _); refine wpList_load_mid rfl _ _ rfl b (off + k * 13 + 5) rfl _ _ (HFl.out _ (JJ.out.2.trans (H.below.mono JJ.out.2.size))) Try.underlying40 rfl Hs.flowInfo ?_)
        | (go_at_call 16; refine (hJ4 _ (HJ3.out _ _ JJ.out.1 H.below)).mono ?_; rintro e w4 ⟨rfl, J2⟩; have J3 := Lib.hid (And.intro J2 (DoesJ.bel (HJ1.out _ J2))); clear J2 JJ H; have JJ := J3; clear J3; have H := Mem.start w4))
      go_upto_region 12 with (first
        | go_skip
        | ((with_reducible show wpList _ _ _ (⟨_, .load 40 _, _, _, _, _⟩ :: _) _ _); refine wpList_load_mid rfl _ _ rfl b (off + k * 13 + 5) rfl _ _ (HFl.out _ (JJ.out.2.trans (H.below.mono JJ.out.2.size))) Try.underlying40 rfl Hs.flowInfo ?_)
        | (go_at_call 17; refine (hJ5 _ (HJ3.out _ _ JJ.out.1 H.below)).mono ?_; rintro e w4 ⟨rfl, J2⟩; have J3 := Lib.hid (And.intro J2 (DoesJ.bel (HJ1.out _ J2))); clear J2 JJ H; have JJ := J3; clear J3; have H := Mem.start w4))
      go_wp2
      go_roundw
      case rel => exact ⟨k + 1, by omega, by omega, by go_num, Lib.hid (HJ1.out _ (HJ3.out _ _ JJ.out.1 H.below))⟩
      case measure => simp [intOf]; omega
    · by_cases hl2 : k < len
      · have t1 : decide ((k : Int) < (len : Int)) = true := decide_eq_true (by omega)
        have t2 : decide ((k : Int) < 60) = false := decide_eq_false (by omega)
        go_wp2
        go_ret
        exact ⟨rfl, HJ.out.bel⟩
      · have t1 : decide ((k : Int) < (len : Int)) = false := decide_eq_false (by omega)
        go_wp2
        go_ret
        exact ⟨rfl, HJ.out.bel⟩
end
end Go.Proofs.Ytaoaapbbadipfaa
end
