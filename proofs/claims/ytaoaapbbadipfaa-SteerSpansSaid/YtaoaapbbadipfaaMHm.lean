/-
  SteerSpans, walked. Conditions: as the interface says; the acts lie where their slice says.
-/
import Derived.Test.YtaoaapbbadipfaaMHl
/- SteerSpans, walked. Conditions: as the interface says; the acts lie where their slice says. -/
section
namespace Go.Proofs.Ytaoaapbbadipfaa
set_option linter.unusedSimpArgs false
set_option linter.unusedVariables false
set_option maxRecDepth 100000
open Go.ChangeShapes Go.WideShapes Go.ChangeAt Go.RowKit

/-- where the law's steer lies, between two acts -/
def SpJ (P : PT) (w : World) (T : Nat → Prop) (K : World → Prop) (t : TB) (p k : Nat) (V : World) : Prop := ∃ s N, s.t = t ∧ N ≤ k ∧ St P NoT w V T K p s N 0 ss0 0
theorem SpJ.bel {P : PT} {w W : World} {T : Nat → Prop} {K : World → Prop} {t : TB} {p k : Nat} (h : SpJ P w T K t p k W) : Below w.heap.size w W := by
  obtain ⟨s, N, h1, h2, h3⟩ := h
  exact St.bel h3
theorem map_t (s : SS) (c : Int) (l : List Int) : (s.map c l).t = s.t := by
  unfold SS.map
  cases s.mapOk c l <;> rfl
theorem done_t (s : SS) (n : Int) : (s.done n).t = s.t := by
  unfold SS.done
  cases s.outN n == 0 <;> rfl
theorem choose_t (s : SS) (n p c : Int) : (s.choose n p c).t = s.t := by
  unfold SS.choose
  cases cOk p c <;> rfl
/-- what a chosen queue is -/
theorem chosen {s : SS} (hr : s.t.right = true) (hm : ∀ c, c < 64 → (s.maps c).length ≤ 64 ∧ ∀ q, q ∈ s.maps c → 0 ≤ q ∧ q < 64) (hf : ∀ n q o, s.fl n = some (q, o) → 0 ≤ o) {z : Int} (hz : 0 ≤ z ∧ z ≤ 4294967295) {p c : Int} (hc : cOk p c = true) :
    ∃ X Y : Nat, s.t.spnV p = ((X : Int), (Y : Int)) ∧ s.t.clsE p = 0 ∧ X + Y ≤ 64 ∧ (X : Int) ≤ s.chooseV z p c ∧ s.chooseV z p c < (X : Int) + (Y : Int) ∧ (s.candV p c).length ≤ 64 ∧
      ((0 < s.outN z ∧ (X : Int) ≤ s.outQ z ∧ s.outQ z < (X : Int) + (Y : Int) ∧ s.chooseV z p c = s.outQ z) ∨ ((¬ 0 < s.outN z ∨ ¬ (X : Int) ≤ s.outQ z ∨ ¬ s.outQ z < (X : Int) + (Y : Int)) ∧ s.chooseV z p c ∈ s.candV p c)) := by
  obtain ⟨pr, C, rfl, rfl, hpr, hC⟩ := cOk_parts hc
  obtain ⟨e1, e2, X, Y, hsp, hY, hXY, hq⟩ := spn_ok hr (p := (pr : Int)) (by omega)
  obtain ⟨hcn, hcq⟩ := cand_in hr hm (pr := (pr : Int)) (by omega) hC
  have hst := stays_eq s z (pr : Int)
  have hcv : s.chooseV z (pr : Int) (C : Int) = s.queue z (pr : Int) (C : Int) := by rw [SS.chooseV, hc]; rfl
  have hcd : s.candV (pr : Int) (C : Int) = s.cand (pr : Int) (C : Int) := by rw [SS.candV, hc]; rfl
  rw [hcv, hcd]
  have hin : ∀ y, y ∈ s.cand (pr : Int) (C : Int) → (X : Int) ≤ y ∧ y < (X : Int) + (Y : Int) := fun y hy => by
    rw [SS.cand, hsp] at hy
    unfold candL at hy
    split at hy
    · obtain ⟨i, hi, rfl⟩ := List.mem_map.1 hy
      have := List.mem_range.1 hi
      simp only [Int.toNat_natCast] at this
      simp only
      omega
    · have := (List.mem_filter.1 hy).2
      simp only [inS, Bool.and_eq_true, decide_eq_true_eq] at this
      exact this
  have hO : s.outN z = fO s.fl z := rfl
  have hO0 : 0 ≤ fO s.fl z := by
    unfold fO
    rcases e : s.fl z with _ | ⟨a, b⟩
    · exact Int.le_refl _
    · exact hf z a b e
  refine ⟨X, Y, by rw [e1, hsp], e2, by omega, ?_⟩
  by_cases h0 : fO s.fl z = 0
  · have e : s.queue z (pr : Int) (C : Int) = pickQ (s.cand (pr : Int) (C : Int)) z := by
      rw [SS.queue, hst, h0]
      rfl
    have hp := pick_in hcn hz
    rw [← e] at hp
    exact ⟨(hin _ hp).1, (hin _ hp).2, hcn.2, .inr ⟨.inl (by rw [hO, h0]; omega), hp⟩⟩
  · obtain ⟨h1, h2⟩ := out_some (s := s) (n := z) h0
    have hb : (fO s.fl z == 0) = false := by simpa using h0
    rcases hi : inS (s.spn (pr : Int)) (fQ s.fl z) with _ | _
    · have e : s.queue z (pr : Int) (C : Int) = pickQ (s.cand (pr : Int) (C : Int)) z := by
        rw [SS.queue, hst, hb, hi]
        rfl
      have hp := pick_in hcn hz
      rw [← e] at hp
      refine ⟨(hin _ hp).1, (hin _ hp).2, hcn.2, .inr ⟨.inr ?_, hp⟩⟩
      rw [hsp] at hi
      rw [h2]
      simp only [inS, Bool.and_eq_false_iff, decide_eq_false_iff_not] at hi
      exact hi
    · have e : s.queue z (pr : Int) (C : Int) = s.outQ z := by
        rw [SS.queue, hst, hb, hi]
        rfl
      rw [hsp] at hi
      simp only [inS, Bool.and_eq_true, decide_eq_true_eq] at hi
      rw [e, h2]
      exact ⟨hi.1, hi.2, hcn.2, .inl ⟨by rw [hO]; omega, hi.1, hi.2, rfl⟩⟩
section
variable {P : PT}
set_option maxHeartbeats 2000000 in
theorem spans9_w (hP : PSteer P) (n m : Int) (A : Option Addr) (len cap : Nat) (xs : Nat → AV) (hl : len ≤ cap) (hc : cap ≤ maxLen) (w : World) (hA : ActsA w A len xs) : Calls Try.prog 5 #[.int .i64 n, .int .i64 m, .slice A len cap] w fun e w' => e = .returned (.bool true) ∧ Below w.heap.size w w' := by
  have H := Mem.start w
  have O := Lib.hid ((St.start w ss0).none NoT.pt NoT.pt)
  have HA := Lib.hid hA
  unfold maxLen at hc
  obtain ⟨t, hte⟩ : ∃ t, evT n m = t := ⟨_, rfl⟩
  have kE := fun W (h : St NoT NoT w W (fun _ => False) (fun _ => True) 0 ss0 0 0 ss0 0) => h.even NoT.pt NoT.pt (Kept.no _) n m
  have hr := evT_right n m
  rw [hte] at kE hr
  clear hA hte
  go_enter Try.func5, Try.ntmps5
  go_upto_region 3 with (first
    | go_skip
    | (go_at_call 11; with_reducible refine (shown9 hP _).mono ?_; rintro e w2 ⟨rfl, hb⟩; have H2 := H.call hb; clear H hb; have H := H2; clear H2)
    | (go_at_call 13; refine (kE _ (O.out.on NoT.pt NoT.pt (Kept.no _) H.below)).mono ?_; rintro e w2 ⟨A1, A2, c1', c2', rfl, O2⟩; clear O H; have O := Lib.hid O2; clear O2; have H := Mem.start w2)
    | ((with_reducible show wpList _ _ _ _ _ (World.alloc _ (.cells _ _))); refine mem_newb H ?_; intro bt w3 hbk H2; try rw [← hbk]; clear hbk H; have H := H2; clear H2; simp only [List.cons_append, List.nil_append, List.set_cons_zero, List.set_cons_succ, List.setIfInBounds_toArray] at H)
    | ((with_reducible show wpList _ _ _ (⟨_, .store 32 _ _, _, _, _, _⟩ :: _) _ _); refine mem_store (i := 0) H (by first | exact wanted_none rfl | exact wanted_some rfl rfl rfl rfl) (by exact rfl) (by exact rfl) (by exact rfl) (by exact rfl) (by exact tbInfo) (by exact rfl) (by exact rfl) ?_; intro w2 H2; clear H; have H := H2; clear H2; simp only [List.cons_append, List.nil_append, List.set_cons_zero, List.set_cons_succ, List.setIfInBounds_toArray] at H))
  obtain ⟨T1, K1, hk1, hK1, hT1, O3⟩ := pack_tb O.out H
  clear O H
  have O := Lib.hid O3
  have HK := Lib.hid hk1
  have HF := Lib.hid hK1
  have HT := Lib.hid hT1
  clear O3 hk1 hK1 hT1 kE
  have H := Mem.start w2
  go_upto_region 4 with (first
    | go_skip
    | ((with_reducible show wpList _ _ _ (⟨_, .load 32 _, _, _, _, _⟩ :: _) _ _); refine load_held (HF.out _ O.out.kp).2 (by first | exact wanted_none rfl | exact wanted_some rfl rfl rfl rfl) (by exact rfl) (by exact rfl) Try.underlying32 rfl (by exact tbInfo) ?_)
    | (go_at_call 12; refine (O.out.newP hP NoT.pt HK.out A1 A2 c1' c2' t 9 (by omega) (HF.out _ O.out.kp).1 hr HT.out).mono ?_; rintro e w2 ⟨p, rfl, O2⟩; clear O H; have O := Lib.hid O2; clear O2; have H := Mem.start w2))
  have J0 : SpJ P w T1 K1 t p 0 w2 := ⟨_, 0, rfl, Nat.le_refl _, O.out⟩
  have HJ := Lib.hid J0
  have HRT := Lib.hid hr
  clear J0 O H HT hr
  go_wp2
  go_loopw [11] (fun iv wr => ∃ k : Nat, k ≤ len ∧ k ≤ 60 ∧ iv = .int .i64 k ∧ Hid (SpJ P w T1 K1 t p k wr)) (fun iv _ => len - (intOf iv).toNat)
  case atStart => exact ⟨0, Nat.zero_le _, Nat.zero_le _, rfl, HJ⟩
  case round =>
    clear HJ
    obtain ⟨k, hk, hk60, rfl, HJ⟩ := hrel
    have H := Mem.start wr
    by_cases hlt : k < len ∧ k < 60
    · obtain ⟨b, off, hA, hb, hx⟩ := HA.out.plain avC_len (by decide) (by omega)
      obtain ⟨hfit, hcells⟩ := hx k hlt.1
      have t1 : decide ((k : Int) < (len : Int)) = true := decide_eq_true (by omega)
      have t2 : decide ((k : Int) < 60) = true := decide_eq_true (by omega)
      have HB := Lib.hid (fun (W : World) (h : Below w.heap.size w W) => show W.rangeAt b (off + k * 13) (avC (xs k)) from fun j v hj => by
        have h2 := hcells j v hj
        rw [← h2]
        unfold World.cell?
        rw [h.block b hb])
      obtain ⟨x, hxx⟩ : ∃ x, xs k = x := ⟨_, rfl⟩
      rw [hxx] at HB hfit
      have HX := Lib.hid hfit
      subst hA
      clear hfit hcells hxx hx hb
      go_upto_region 8 with (first
        | go_skip
        | ((with_reducible show wpList _ _ _ (⟨_, .load 44 _, _, _, _, _⟩ :: _) _ _); refine wpList_load_mid rfl _ _ rfl b (off + k * 13) rfl _ _ (HB.out _ (HJ.out.bel.trans (H.below.mono HJ.out.bel.size))) Try.underlying44 rfl acInfo ?_)
        | ((with_reducible show wpList _ _ _ _ _ (World.alloc _ (.cells _ _))); refine mem_newb H ?_; intro bx w3 hbk H2; try rw [← hbk]; clear hbk H; have H := H2; clear H2; simp only [List.cons_append, List.nil_append, List.set_cons_zero, List.set_cons_succ, List.setIfInBounds_toArray] at H)
        | ((with_reducible show wpList _ _ _ (⟨_, .store 44 _ _, _, _, _, _⟩ :: _) _ _); refine mem_store (i := 0) H (by first | exact wanted_none rfl | exact wanted_some rfl rfl rfl rfl) (by exact rfl) (by exact rfl) (by exact rfl) (by exact rfl) (by exact acInfo) (by exact rfl) (by exact rfl) ?_; intro w2 H2; clear H; have H := H2; clear H2; simp only [List.cons_append, List.nil_append, List.set_cons_zero, List.set_cons_succ, List.setIfInBounds_toArray] at H))
      obtain ⟨s, N, hst, hNk, hO⟩ := HJ.out
      obtain ⟨T2, K2, hk2, hK2, hT2, O2⟩ := pack_more hP.pt NoT.pt HK.out hO H
      have HK2 := Lib.hid hk2
      have HF2 := Lib.hid (fun X h => And.intro (HF.out X (hK2 X h).1) (hK2 X h).2)
      have HE := Lib.hid (fun (W' : World) (s' : SS) (N' : Nat) (hs' : s'.t = t) (hN' : N' ≤ N + 1) (h : St P NoT w W' T2 K2 p s' N' 0 ss0 0) => (show SpJ P w T1 K1 t p (k + 1) W' from ⟨s', N', hs', by omega, h.less hP.pt NoT.pt hT2 (fun h => (hK2 _ h).1)⟩))
      have O := Lib.hid O2
      have hok : s.t.right = true ∧ (∀ c, c < 64 → (s.maps c).length ≤ 64 ∧ ∀ q, q ∈ s.maps c → 0 ≤ q ∧ q < 64) ∧ ∀ n q o, s.fl n = some (q, o) → 0 ≤ o := by
        obtain ⟨rd, own, rd2, own2, h⟩ := O2
        obtain ⟨h1, _, h3, h4⟩ := hP.ok h.a1
        exact ⟨h1, h3, fun n q o e => (h4 n q o e).2.1⟩
      have HOK := Lib.hid hok
      have HST := Lib.hid hst
      have hN : N ≤ 60 := by omega
      clear HJ H hk2 hK2 hT2 O2 hO hok hst HB
      have H := Mem.start w2
      obtain ⟨d, hd⟩ : ∃ d, x.d = d := ⟨_, rfl⟩
      have c0 : (avA x).toList[0]? = some (.int .i64 d) := by rw [← hd]; rfl
      obtain ⟨v, hv, hv3⟩ : ∃ v : Nat, (IntKind.u64.wrap d).tmod 3 = (v : Int) ∧ v < 3 := u64_tmod d 3 (by omega)
      obtain ⟨z, hz⟩ : ∃ z, hashI x.q.f s.salt = z := ⟨_, rfl⟩
      have hzb : 0 ≤ z ∧ z ≤ 4294967295 := by rw [← hz]; exact hashI_bd _ _
      clear hd
      match v, hv3 with
      | 1, _ =>
        have kD := fun W (h : St P NoT w W T2 K2 p s N 0 ss0 0) => h.doneP hP NoT.pt HK2.out (by omega) x.q.f HX.out.q.f
        rw [hz] at kD
        go_upto_region 9 with (first
          | go_skip
          | ((with_reducible show wpList _ _ _ (⟨_, .load 3 _, _, _, _, _⟩ :: _) _ _); refine load_fld ((HF2.out _ O.out.kp).2.below H.below (HF2.out _ O.out.kp).2.lt) (by first | exact wanted_none rfl | exact wanted_some rfl rfl rfl rfl) (by exact rfl) (by exact rfl) Try.underlying3 rfl (by exact c0) ?_))
        try rw [hv]
        clear hv
        go_wp2_with (first
          | go_skip
          | ((with_reducible show wpList _ _ _ (⟨_, .load 40 _, _, _, _, _⟩ :: _) _ _); refine wpList_load_mid rfl _ _ rfl bx 5 rfl _ _ (act_flow ((HF2.out _ O.out.kp).2.below H.below (HF2.out _ O.out.kp).2.lt)) Try.underlying40 rfl Hs.flowInfo ?_)
          | (go_at_call 22; refine (kD _ (O.out.on hP.pt NoT.pt HK2.out H.below)).mono ?_; rintro e w2 ⟨rfl, O2⟩; clear O H; have O := Lib.hid O2; clear O2; have H := Mem.start w2))
        go_roundw
        case rel => exact ⟨k + 1, by omega, by omega, by go_num, Lib.hid (HE.out _ _ _ (by rw [done_t]; exact HST.out) (Nat.le_succ N) (O.out.on hP.pt NoT.pt HK2.out H.below))⟩
        case measure => simp [intOf]; omega
      | 2, _ =>
        obtain ⟨n1, hn1⟩ : ∃ n, x.l.length = n := ⟨_, rfl⟩
        obtain ⟨m1, hm1⟩ : ∃ m, min n1 70 = m := ⟨_, rfl⟩
        have HIF := Lib.hid (show (if (70 : Int) < (n1 : Int) then (70 : Int) else (n1 : Int)) = (m1 : Int) by split <;> omega)
        have hml : (x.l.take m1).length = m1 := by rw [List.length_take, hn1]; omega
        have hrw := fun W (h : Below w.heap.size w W) => ((RowI.take HX.out.row m1).same h.block).mono h.size
        obtain ⟨cp, hcp⟩ : ∃ c, x.cap = c := ⟨_, rfl⟩
        obtain ⟨AA, hAA⟩ : ∃ c, x.A = c := ⟨_, rfl⟩
        obtain ⟨an, han⟩ : ∃ c, x.n = c := ⟨_, rfl⟩
        have hnl := HX.out.hnil
        have hlc := HX.out.hl
        have hcx := HX.out.hc
        have hn64 := HX.out.n
        rw [hAA, hcp] at hnl
        rw [hn1, hcp] at hlc
        rw [hcp] at hcx
        rw [han] at hn64
        rw [hAA] at hrw
        have hli : ∀ y, y ∈ x.l.take m1 → I64 y := fun y hy => HX.out.hi y (List.mem_of_mem_take hy)
        have kM := fun W (h : St P NoT w W T2 K2 p s N 0 ss0 0) => h.mapP hP NoT.pt HK2.out an AA cp (x.l.take m1) hn64 (by omega) (by omega) hcx (hrw W h.bel) hli hnl
        rw [hml] at kM
        have q10 : (avA x)[10]? = some (.slice AA n1 cp) := by rw [← hn1, ← hcp, ← hAA]; rfl
        have q11 : (avA x)[11]? = some (.int .i64 an) := by rw [← han]; rfl
        have hm1b : m1 ≤ n1 ∧ m1 ≤ cp := by omega
        have hmx : maxLen ≤ 9223372036854775807 := by decide
        clear hml hrw hnl hn64 hli hn1 hm1 hcp hAA han hz
        go_upto_region 10 with (first
          | go_skip
          | ((with_reducible show wpList _ _ _ (⟨_, .load 3 _, _, _, _, _⟩ :: _) _ _); refine load_fld ((HF2.out _ O.out.kp).2.below H.below (HF2.out _ O.out.kp).2.lt) (by first | exact wanted_none rfl | exact wanted_some rfl rfl rfl rfl) (by exact rfl) (by exact rfl) Try.underlying3 rfl (by exact c0) ?_))
        try rw [hv]
        go_upto_region 11 with (first
          | go_skip
          | ((with_reducible show wpList _ _ _ (⟨_, .load 3 _, _, _, _, _⟩ :: _) _ _); refine load_fld ((HF2.out _ O.out.kp).2.below H.below (HF2.out _ O.out.kp).2.lt) (by first | exact wanted_none rfl | exact wanted_some rfl rfl rfl rfl) (by exact rfl) (by exact rfl) Try.underlying3 rfl (by exact c0) ?_))
        try rw [hv]
        clear hv
        have G := (HF2.out _ O.out.kp).2.below H.below (HF2.out _ O.out.kp).2.lt
        have w10 := (G.cell 10).trans q10
        have w11 := (G.cell 11).trans q11
        have hbx := G.lt
        have hOn := O.out.on hP.pt NoT.pt HK2.out H.below
        clear O H G q10 q11
        have H := Mem.start w2
        refine region_memk H 10 11 rfl (by kernel_rfl) (fun wr0 hcl hS => ?_)
        clear H
        refine wpAnyG_pure (i := 0) (v := (.pointer (some ⟨p, 0, none⟩))) rfl rfl (by kernel_rfl) (by kernel_rfl) (by kernel_rfl) (fun _ _ _ h => h) (by decide) ⟨by rfl, fun w _ => (by go_simp; try (first | (simp only [IntKind.wrap_u32]; done) | rfl)), fun _ => rfl⟩ (.inr hS) ?_
        have hc1 := hcl.step (i := 0) (by kernel_rfl)
        clear hcl; have hcl := hc1; clear hc1; simp only [List.getElem_toArray, List.getElem_cons_zero, List.getElem_cons_succ, Act.put, List.setIfInBounds_toArray, List.set_cons_zero, List.set_cons_succ]
        refine wpAnyG_pure (i := 1) (v := (.pointer (some ⟨bx, 11, none⟩))) rfl rfl (by kernel_rfl) (by kernel_rfl) (by kernel_rfl) (fun _ _ _ h => h) (by decide) ⟨by rfl, fun w _ => (by go_simp; try (first | (simp only [IntKind.wrap_u32]; done) | rfl)), fun _ => rfl⟩ (.inr hS) ?_
        have hc1 := hcl.step (i := 1) (by kernel_rfl)
        clear hcl; have hcl := hc1; clear hc1; simp only [List.getElem_toArray, List.getElem_cons_zero, List.getElem_cons_succ, Act.put, List.setIfInBounds_toArray, List.set_cons_zero, List.set_cons_succ]
        refine wpAnyG_take (i := 2) 6 (v := (.int .i64 an)) rfl rfl (by kernel_rfl) (by kernel_rfl) (by kernel_rfl) (fun _ _ _ h => h) (by kernel_rfl) (by decide) hcl (yields_old w11 hbx (by exact rfl) (by exact rfl) (by exact rfl) Try.underlying3 rfl) hS (fun hc1 => ?_)
        clear hcl; have hcl := hc1; clear hc1; simp only [List.getElem_toArray, List.getElem_cons_zero, List.getElem_cons_succ, Act.put, List.setIfInBounds_toArray, List.set_cons_zero, List.set_cons_succ]
        refine wpAnyG_pure (i := 3) (v := (.pointer (some ⟨bx, 10, none⟩))) rfl rfl (by kernel_rfl) (by kernel_rfl) (by kernel_rfl) (fun _ _ _ h => h) (by decide) ⟨by rfl, fun w _ => (by go_simp; try (first | (simp only [IntKind.wrap_u32]; done) | rfl)), fun _ => rfl⟩ (.inr hS) ?_
        have hc1 := hcl.step (i := 3) (by kernel_rfl)
        clear hcl; have hcl := hc1; clear hc1; simp only [List.getElem_toArray, List.getElem_cons_zero, List.getElem_cons_succ, Act.put, List.setIfInBounds_toArray, List.set_cons_zero, List.set_cons_succ]
        refine wpAnyG_take (i := 4) 6 (v := (.slice AA n1 cp)) rfl rfl (by kernel_rfl) (by kernel_rfl) (by kernel_rfl) (fun _ _ _ h => h) (by kernel_rfl) (by decide) hcl (yields_old w10 hbx (by exact rfl) (by exact rfl) (by exact rfl) Try.underlying29 rfl) hS (fun hc1 => ?_)
        clear hcl; have hcl := hc1; clear hc1; simp only [List.getElem_toArray, List.getElem_cons_zero, List.getElem_cons_succ, Act.put, List.setIfInBounds_toArray, List.set_cons_zero, List.set_cons_succ]
        refine wpAnyG_pure (i := 5) (v := (.pointer (some ⟨bx, 10, none⟩))) rfl rfl (by kernel_rfl) (by kernel_rfl) (by kernel_rfl) (fun _ _ _ h => h) (by decide) ⟨by rfl, fun w _ => (by go_simp; try (first | (simp only [IntKind.wrap_u32]; done) | rfl)), fun _ => rfl⟩ (.inr hS) ?_
        have hc1 := hcl.step (i := 5) (by kernel_rfl)
        clear hcl; have hcl := hc1; clear hc1; simp only [List.getElem_toArray, List.getElem_cons_zero, List.getElem_cons_succ, Act.put, List.setIfInBounds_toArray, List.set_cons_zero, List.set_cons_succ]
        refine wpAnyG_take (i := 6) 6 (v := (.slice AA n1 cp)) rfl rfl (by kernel_rfl) (by kernel_rfl) (by kernel_rfl) (fun _ _ _ h => h) (by kernel_rfl) (by decide) hcl (yields_old w10 hbx (by exact rfl) (by exact rfl) (by exact rfl) Try.underlying29 rfl) hS (fun hc1 => ?_)
        clear hcl; have hcl := hc1; clear hc1; simp only [List.getElem_toArray, List.getElem_cons_zero, List.getElem_cons_succ, Act.put, List.setIfInBounds_toArray, List.set_cons_zero, List.set_cons_succ]
        refine wpAnyG_pure (i := 7) (v := (.int .i64 (n1 : Int))) rfl rfl (by kernel_rfl) (by kernel_rfl) (by kernel_rfl) (fun _ _ _ h => h) (by decide) ⟨by rfl, fun w _ => (by go_simp; try (first | (simp only [IntKind.wrap_u32]; done) | rfl)), fun _ => rfl⟩ (.inr hS) ?_
        have hc1 := hcl.step (i := 7) (by kernel_rfl)
        clear hcl; have hcl := hc1; clear hc1; simp only [List.getElem_toArray, List.getElem_cons_zero, List.getElem_cons_succ, Act.put, List.setIfInBounds_toArray, List.set_cons_zero, List.set_cons_succ]
        refine wpAnyG_pure (i := 8) (v := (.int .i64 (m1 : Int))) rfl rfl (by kernel_rfl) (by kernel_rfl) (by kernel_rfl) (fun _ _ _ h => h) (by decide) ⟨by rfl, fun w _ => (by go_simp; try (first | (simp only [IntKind.wrap_u32]; done) | rfl | (rw [HIF.out]) | simp [HIF.out])), fun _ => rfl⟩ (.inr hS) ?_
        have hc1 := hcl.step (i := 8) (by kernel_rfl)
        clear hcl; have hcl := hc1; clear hc1; simp only [List.getElem_toArray, List.getElem_cons_zero, List.getElem_cons_succ, Act.put, List.setIfInBounds_toArray, List.set_cons_zero, List.set_cons_succ]
        refine wpAnyG_pure (i := 9) (v := (.slice AA m1 cp)) rfl rfl (by kernel_rfl) (by kernel_rfl) (by kernel_rfl) (fun _ _ _ h => h) (by decide) ⟨by rfl, fun w _ => (by go_simp; try (first | (simp only [IntKind.wrap_u32]; done) | rfl)), fun _ => rfl⟩ (.inr hS) ?_
        have hc1 := hcl.step (i := 9) (by kernel_rfl)
        clear hcl; have hcl := hc1; clear hc1; simp only [List.getElem_toArray, List.getElem_cons_zero, List.getElem_cons_succ, Act.put, List.setIfInBounds_toArray, List.set_cons_zero, List.set_cons_succ]
        refine wpAnyG_one (i := 10) (by kernel_rfl) rfl (fun K hK => ?_)
        go_simp
        refine ⟨trivial, (callsIn_wide.2 (kM _ (hOn.on hP.pt NoT.pt HK2.out hS.below))).mono ?_⟩
        rintro e w5 ⟨rfl, O2⟩
        refine hK _ _ (.inl (by kernel_rfl)) ?_
        have O := Lib.hid O2
        clear hK K hS hcl O2 hOn kM w10 w11
        refine wpAnyG_done (by kernel_rfl) ?_ _
        go_wp2
        go_roundw
        case rel => exact ⟨k + 1, by omega, by omega, by go_num, Lib.hid (HE.out _ _ _ (by rw [map_t]; exact HST.out) (Nat.le_succ N) O.out)⟩
        case measure => simp [intOf]; omega
      | 0, _ =>
        have c3 : (avA x).toList[3]? = some (.int .i64 x.q.prio) := rfl
        have c4 : (avA x).toList[4]? = some (.int .i64 x.q.cpu) := rfl
        have hqf := HX.out.q
        obtain ⟨pr, hpr⟩ : ∃ c, x.q.prio = c := ⟨_, rfl⟩
        obtain ⟨cp, hcp⟩ : ∃ c, x.q.cpu = c := ⟨_, rfl⟩
        rw [hpr] at c3
        rw [hcp] at c4
        have hp64 : I64 pr := by rw [← hpr]; exact hqf.prio
        have hc64 : I64 cp := by rw [← hcp]; exact hqf.cpu
        have kU := fun W (h : St P NoT w W T2 K2 p s N 0 ss0 0) => h.outP hP NoT.pt HK2.out (by omega) x.q.f hqf.f
        have kx := fun W h => St.candP (P := P) (P2 := NoT) (W0 := w) (W := W) (T := T2) (K := K2) (p1 := p) (N1 := N) (s1 := s) (p2 := 0) (s2 := ss0) (N2 := 0) hP NoT.pt HK2.out h pr cp hp64 hc64
        have kC0 := fun vx V W h => St.chooseP (P := P) (P2 := NoT) (W0 := w) (W := W) (T := fun i => T2 i ∨ blk vx i) (K := fun X => K2 X ∧ SlI X.heap.size X vx V) (p1 := p) (N1 := N) (s1 := s) (p2 := 0) (s2 := ss0) (N2 := 0) hP NoT.pt (HK2.out.sl vx V) h (by omega) x.q hqf
        have hch := fun hc => chosen HOK.out.1 HOK.out.2.1 HOK.out.2.2 hzb (p := pr) (c := cp) hc
        rw [hz] at kU
        simp only [hz, hpr, hcp] at kC0
        obtain ⟨Vh, hVh⟩ : ∃ y, s.outQ z = y := ⟨_, rfl⟩
        obtain ⟨Vo, hVo⟩ : ∃ y, s.outN z = y := ⟨_, rfl⟩
        obtain ⟨V, hV⟩ : ∃ y, s.candV pr cp = y := ⟨_, rfl⟩
        obtain ⟨qv, hqv⟩ : ∃ y, s.chooseV z pr cp = y := ⟨_, rfl⟩
        obtain ⟨s', hs'⟩ : ∃ y, s.choose z pr cp = y := ⟨_, rfl⟩
        have hst' : s'.t = t := by rw [← hs', choose_t]; exact HST.out
        have hEE : SS.chooseE pr cp = SS.candE pr cp := rfl
        obtain ⟨E, hE⟩ : ∃ y, SS.candE pr cp = y := ⟨_, rfl⟩
        rw [hVh, hVo] at kU
        rw [hV, hE] at kx
        simp only [hqv, hs', hEE, hE] at kC0
        unfold CandP at kx
        simp only [hVh, hVo, hV, hqv, HST.out] at hch
        have HCH := Lib.hid hch
        have HST2 := Lib.hid hst'
        have hEc : E = if cOk pr cp = true then 0 else 2 := by
          rw [← hE, SS.candE]
          cases cOk pr cp <;> rfl
        have HEC := Lib.hid hEc
        have HPC := Lib.hid (And.intro hpr hcp)
        clear hz hzb hch hVh hVo hV hqv hs' hst' hEE hE hEc hqf hpr hcp hp64 hc64
        go_upto_region 10 with (first
          | go_skip
          | ((with_reducible show wpList _ _ _ (⟨_, .load 3 _, _, _, _, _⟩ :: _) _ _); refine load_fld ((HF2.out _ O.out.kp).2.below H.below (HF2.out _ O.out.kp).2.lt) (by first | exact wanted_none rfl | exact wanted_some rfl rfl rfl rfl) (by exact rfl) (by exact rfl) Try.underlying3 rfl (by exact c0) ?_))
        try rw [hv]
        go_upto_region 12 with (first
          | go_skip
          | ((with_reducible show wpList _ _ _ (⟨_, .load 3 _, _, _, _, _⟩ :: _) _ _); refine load_fld ((HF2.out _ O.out.kp).2.below H.below (HF2.out _ O.out.kp).2.lt) (by first | exact wanted_none rfl | exact wanted_some rfl rfl rfl rfl) (by exact rfl) (by exact rfl) Try.underlying3 rfl (by exact c0) ?_))
        try rw [hv]
        clear hv
        go_upto_region 13 with (first
          | go_skip
          | ((with_reducible show wpList _ _ _ (⟨_, .load 40 _, _, _, _, _⟩ :: _) _ _); refine wpList_load_mid rfl _ _ rfl bx 5 rfl _ _ (act_flow ((HF2.out _ O.out.kp).2.below H.below (HF2.out _ O.out.kp).2.lt)) Try.underlying40 rfl Hs.flowInfo ?_)
          | (go_at_call 16; refine (kU _ (O.out.on hP.pt NoT.pt HK2.out H.below)).mono ?_; rintro e w2 ⟨rfl, O2⟩; clear O H; have O := Lib.hid O2; clear O2; have H := Mem.start w2))
        go_upto_region 14 with (first
          | go_skip
          | ((with_reducible show wpList _ _ _ (⟨_, .load 3 _, _, _, _, _⟩ :: _) _ _); refine load_fld ((HF2.out _ O.out.kp).2.below H.below (HF2.out _ O.out.kp).2.lt) (by first | exact wanted_none rfl | exact wanted_some rfl rfl rfl rfl) (by exact rfl) (by exact rfl) Try.underlying3 rfl (by exact c3) ?_)
          | ((with_reducible show wpList _ _ _ (⟨_, .load 3 _, _, _, _, _⟩ :: _) _ _); refine load_fld ((HF2.out _ O.out.kp).2.below H.below (HF2.out _ O.out.kp).2.lt) (by first | exact wanted_none rfl | exact wanted_some rfl rfl rfl rfl) (by exact rfl) (by exact rfl) Try.underlying3 rfl (by exact c4) ?_)
          | (go_at_call 20; refine (kx _ (O.out.on hP.pt NoT.pt HK2.out H.below)).mono ?_; rintro e w2 ⟨vx, rfl, O2⟩; clear O H; have O := Lib.hid O2; clear O2; have H := Mem.start w2))
        have HK3 := Lib.hid (HK2.out.sl vx V)
        have HF3 := Lib.hid (fun X (h : K2 X ∧ SlI X.heap.size X vx V) => And.intro (HF2.out X h.1) h.2)
        have kC := fun W h => kC0 vx V W h
        clear kU kx kC0
        go_upto_region 15 with (first
          | go_skip
          | ((with_reducible show wpList _ _ _ (⟨_, .load 42 _, _, _, _, _⟩ :: _) _ _); refine wpList_load_mid rfl _ _ rfl bx 1 rfl _ _ (act_pkt ((HF3.out _ O.out.kp).1.2.below H.below (HF3.out _ O.out.kp).1.2.lt)) Try.underlying42 rfl pkInfo ?_)
          | (go_at_call 19; refine (kC _ (O.out.on hP.pt NoT.pt HK3.out H.below)).mono ?_; rintro e w2 ⟨rfl, O2⟩; clear O H; have O := Lib.hid O2; clear O2; have H := Mem.start w2))
        have HE3 := Lib.hid (fun (W' : World) (h : St P NoT w W' (fun i => T2 i ∨ blk vx i) (fun X => K2 X ∧ SlI X.heap.size X vx V) p s' (N + 1) 0 ss0 0) => HE.out W' s' (N + 1) HST2.out (Nat.le_refl _) (h.less hP.pt NoT.pt (fun i hi => .inl hi) (fun h => h.1)))
        clear kC
        rcases hcc : cOk pr cp with _ | _
        · have hE2 : E = 2 := by rw [HEC.out, hcc]; rfl
          subst hE2
          clear hcc
          go_wp2
          go_roundw
          case rel => exact ⟨k + 1, by omega, by omega, by go_num, Lib.hid (HE3.out _ (O.out.on hP.pt NoT.pt HK3.out H.below))⟩
          case measure => simp [intOf]; omega
        · have hE0 : E = 0 := by rw [HEC.out, hcc]; rfl
          subst hE0
          obtain ⟨X, Y, e1, e2, hXY, hq1, hq2, hV64, hcase⟩ := HCH.out hcc
          have kS := fun W h => spanOf_r A1 A2 c1' c2' t pr W h
          rw [e1, e2] at kS
          obtain ⟨Ax, dx, hvx, hdx, hdm, hrow⟩ := (HF3.out _ O.out.kp).2
          obtain ⟨L, hL⟩ : ∃ L, V.length = L := ⟨_, rfl⟩
          rw [hL] at hvx hdx hV64
          have HL := Lib.hid hL
          have HRow0 := Lib.hid hrow
          have HVX := Lib.hid hvx
          have t5 : decide (qv < (X : Int)) = false := decide_eq_false (by omega)
          have t6 : decide ((X : Int) + (Y : Int) ≤ qv) = false := decide_eq_false (by omega)
          have hdm' : dx ≤ 9223372036854775807 := hdm
          rw [hvx]
          clear e1 e2 hcc hL hrow hvx hdm hq1 hq2
          go_upto_region 19 with (first
            | go_skip
            | ((with_reducible show wpList _ _ _ (⟨_, .load 32 _, _, _, _, _⟩ :: _) _ _); refine load_held ((HF3.out _ O.out.kp).1.1.2.below H.below (HF3.out _ O.out.kp).1.1.2.lt) (by first | exact wanted_none rfl | exact wanted_some rfl rfl rfl rfl) (by exact rfl) (by exact rfl) Try.underlying32 rfl (by exact tbInfo) ?_)
            | ((with_reducible show wpList _ _ _ (⟨_, .load 3 _, _, _, _, _⟩ :: _) _ _); refine load_fld ((HF3.out _ O.out.kp).1.2.below H.below (HF3.out _ O.out.kp).1.2.lt) (by first | exact wanted_none rfl | exact wanted_some rfl rfl rfl rfl) (by exact rfl) (by exact rfl) Try.underlying3 rfl (by exact c3) ?_)
            | (go_at_call 24; refine (kS _ (((HF3.out _ O.out.kp).1.1.1).mem H)).mono ?_; rintro e w6 ⟨rfl, hb⟩; have H2 := H.call hb; clear H hb; have H := H2; clear H2)
            | ((with_reducible show wpList _ _ _ _ _ (World.alloc _ (.cells _ _))); refine mem_newb (l := []) H ?_; intro bs w3 hbk H2; try rw [← hbk]; clear hbk H; have H := H2; clear H2; simp only [List.cons_append, List.nil_append, List.set_cons_zero, List.set_cons_succ, List.setIfInBounds_toArray] at H)
            | ((with_reducible show wpList _ _ _ (⟨_, .store 59 _ _, _, _, _, _⟩ :: _) _ _); refine mem_store (i := 0) H (by first | exact wanted_none rfl | exact wanted_some rfl rfl rfl rfl) (by exact rfl) (by exact rfl) (by exact rfl) (by exact rfl) (by exact spInfo) (by exact rfl) (by exact rfl) ?_; intro w3 H2; clear H; have H := H2; clear H2; simp only [List.cons_append, List.nil_append, List.set_cons_zero, List.set_cons_succ, List.setIfInBounds_toArray] at H))
          have HRow := Lib.hid ((HRow0.out.same H.below.block).mono H.below.size)
          have hO4 := O.out.on hP.pt NoT.pt HK3.out H.below
          clear O HRow0
          have O := Lib.hid hO4
          have G5 := H.at 0 rfl
          clear H hO4 kS
          have H : Mem w3 w3 [] := Mem.start w3
          go_upto_region 21 with (first
              | ((with_reducible show wpList _ _ _ (⟨_, .load 3 _, _, _, _, _⟩ :: _) _ _); refine load_fld G5 (by first | exact wanted_none rfl | exact wanted_some rfl rfl rfl rfl) (by exact rfl) (by exact rfl) Try.underlying3 rfl (by exact rfl) ?_))
          rcases hcase with ⟨hc1, hc2, hc3, hc4⟩ | ⟨hno, hmem⟩
          · have t7 : decide ((0 : Int) < Vo) = true := decide_eq_true hc1
            have t8 : decide ((X : Int) ≤ Vh) = true := decide_eq_true hc2
            have t9 : decide (Vh < (X : Int) + (Y : Int)) = true := decide_eq_true hc3
            subst hc4
            clear hc1 hc2 hc3
            go_upto_region 22 with (first
              | ((with_reducible show wpList _ _ _ (⟨_, .load 3 _, _, _, _, _⟩ :: _) _ _); refine load_fld G5 (by first | exact wanted_none rfl | exact wanted_some rfl rfl rfl rfl) (by exact rfl) (by exact rfl) Try.underlying3 rfl (by exact rfl) ?_))
            go_upto_region 24 with fail
            go_loopw [22, 23] (fun iv kv wr2 => ∃ j : Nat, j ≤ L ∧ kv = .int .i64 j ∧ iv = .bool (decide (qv ∈ V.take j)) ∧ Hid (Below w3.heap.size w3 wr2)) (fun _ kv _ => L - (intOf kv).toNat)
            case atStart => exact ⟨0, Nat.zero_le _, rfl, by simp, Lib.hid H.below⟩
            case round =>
              clear H
              rename_i wr2
              obtain ⟨j, hj, rfl, rfl, HBj⟩ := hrel
              by_cases hjl : j < L
              · obtain ⟨y, hy⟩ : ∃ y, V[j]? = some y := ⟨V[j]'(by rw [HL.out]; exact hjl), List.getElem?_eq_getElem _⟩
                obtain ⟨g, o2, rfl, hg, g0⟩ := HRow.out j y hy
                have g1 : wr.cell? ⟨g, o2 + j, none⟩ = some (.int .i64 y) := by
                  rw [← g0]
                  unfold World.cell?
                  rw [HBj.out.block g hg]
                have HY := Lib.hid (show decide (qv ∈ V.take (j + 1)) = (decide (qv ∈ V.take j) || (y == qv)) by
                  rw [List.take_add_one, hy]
                  by_cases h1 : qv ∈ V.take j
                  · simp [h1]
                  · by_cases h2 : y = qv
                    · simp [h1, h2]
                    · have h3 : ¬ qv = y := fun e => h2 e.symm
                      simp [h1, h2, h3])
                clear hy g0
                obtain ⟨bb, hbb⟩ : ∃ bb, decide (qv ∈ V.take j) = bb := ⟨_, rfl⟩
                rw [hbb]
                have HY2 := Lib.hid (HY.out.trans (by rw [hbb]))
                clear HY hbb
                cases bb
                · obtain ⟨b3, hb3⟩ : ∃ b3, (y == qv) = b3 := ⟨_, rfl⟩
                  have HY3 := Lib.hid (show decide (qv ∈ V.take (j + 1)) = b3 from HY2.out.trans (by rw [hb3, Bool.false_or]))
                  clear HY2
                  go_wp2
                  go_roundw
                  case rel => exact ⟨j + 1, by omega, by go_num, by rw [HY3.out], HBj⟩
                  case measure => simp [intOf]; omega
                · have HY3 := Lib.hid (show decide (qv ∈ V.take (j + 1)) = true from HY2.out.trans (Bool.true_or _))
                  clear HY2
                  go_wp2
                  go_roundw
                  case rel => exact ⟨j + 1, by omega, by go_num, by rw [HY3.out], HBj⟩
                  case measure => simp [intOf]; omega
              · obtain rfl : j = L := by omega
                have hall : V.take j = V := List.take_of_length_le (by rw [HL.out]; exact Nat.le_refl _)
                rw [hall]
                generalize decide (_ ∈ V) = bq
                go_wp2
                go_roundw
                case rel => exact ⟨k + 1, by omega, by omega, by go_num, Lib.hid (HE3.out _ (O.out.on hP.pt NoT.pt HK3.out HBj.out))⟩
                case measure => simp [intOf]; omega
          · have HME := Lib.hid hmem
            clear hmem
            by_cases hc1 : 0 < Vo
            · have t7 : decide ((0 : Int) < Vo) = true := decide_eq_true hc1
              by_cases hc2 : (X : Int) ≤ Vh
              · have t8 : decide ((X : Int) ≤ Vh) = true := decide_eq_true hc2
                have t9 : decide (Vh < (X : Int) + (Y : Int)) = false := decide_eq_false (by omega)
                clear hno hc1 hc2
                go_upto_region 22 with (first
              | ((with_reducible show wpList _ _ _ (⟨_, .load 3 _, _, _, _, _⟩ :: _) _ _); refine load_fld G5 (by first | exact wanted_none rfl | exact wanted_some rfl rfl rfl rfl) (by exact rfl) (by exact rfl) Try.underlying3 rfl (by exact rfl) ?_))
                go_upto_region 24 with fail
                go_loopw [22, 23] (fun iv kv wr2 => ∃ j : Nat, j ≤ L ∧ kv = .int .i64 j ∧ iv = .bool (decide (qv ∈ V.take j)) ∧ Hid (Below w3.heap.size w3 wr2)) (fun _ kv _ => L - (intOf kv).toNat)
                case atStart => exact ⟨0, Nat.zero_le _, rfl, by simp, Lib.hid H.below⟩
                case round =>
                  clear H
                  rename_i wr2
                  obtain ⟨j, hj, rfl, rfl, HBj⟩ := hrel
                  by_cases hjl : j < L
                  · obtain ⟨y, hy⟩ : ∃ y, V[j]? = some y := ⟨V[j]'(by rw [HL.out]; exact hjl), List.getElem?_eq_getElem _⟩
                    obtain ⟨g, o2, rfl, hg, g0⟩ := HRow.out j y hy
                    have g1 : wr.cell? ⟨g, o2 + j, none⟩ = some (.int .i64 y) := by
                      rw [← g0]
                      unfold World.cell?
                      rw [HBj.out.block g hg]
                    have HY := Lib.hid (show decide (qv ∈ V.take (j + 1)) = (decide (qv ∈ V.take j) || (y == qv)) by
                      rw [List.take_add_one, hy]
                      by_cases h1 : qv ∈ V.take j
                      · simp [h1]
                      · by_cases h2 : y = qv
                        · simp [h1, h2]
                        · have h3 : ¬ qv = y := fun e => h2 e.symm
                          simp [h1, h2, h3])
                    clear hy g0
                    obtain ⟨bb, hbb⟩ : ∃ bb, decide (qv ∈ V.take j) = bb := ⟨_, rfl⟩
                    rw [hbb]
                    have HY2 := Lib.hid (HY.out.trans (by rw [hbb]))
                    clear HY hbb
                    cases bb
                    · obtain ⟨b3, hb3⟩ : ∃ b3, (y == qv) = b3 := ⟨_, rfl⟩
                      have HY3 := Lib.hid (show decide (qv ∈ V.take (j + 1)) = b3 from HY2.out.trans (by rw [hb3, Bool.false_or]))
                      clear HY2
                      go_wp2
                      go_roundw
                      case rel => exact ⟨j + 1, by omega, by go_num, by rw [HY3.out], HBj⟩
                      case measure => simp [intOf]; omega
                    · have HY3 := Lib.hid (show decide (qv ∈ V.take (j + 1)) = true from HY2.out.trans (Bool.true_or _))
                      clear HY2
                      go_wp2
                      go_roundw
                      case rel => exact ⟨j + 1, by omega, by go_num, by rw [HY3.out], HBj⟩
                      case measure => simp [intOf]; omega
                  · obtain rfl : j = L := by omega
                    have hall : V.take j = V := List.take_of_length_le (by rw [HL.out]; exact Nat.le_refl _)
                    rw [hall]
                    rw [decide_eq_true HME.out]
                    go_wp2
                    go_roundw
                    case rel => exact ⟨k + 1, by omega, by omega, by go_num, Lib.hid (HE3.out _ (O.out.on hP.pt NoT.pt HK3.out HBj.out))⟩
                    case measure => simp [intOf]; omega
              · have t8 : decide ((X : Int) ≤ Vh) = false := decide_eq_false hc2
                clear hno hc1 hc2
                go_upto_region 22 with (first
              | ((with_reducible show wpList _ _ _ (⟨_, .load 3 _, _, _, _, _⟩ :: _) _ _); refine load_fld G5 (by first | exact wanted_none rfl | exact wanted_some rfl rfl rfl rfl) (by exact rfl) (by exact rfl) Try.underlying3 rfl (by exact rfl) ?_))
                go_upto_region 24 with fail
                go_loopw [22, 23] (fun iv kv wr2 => ∃ j : Nat, j ≤ L ∧ kv = .int .i64 j ∧ iv = .bool (decide (qv ∈ V.take j)) ∧ Hid (Below w3.heap.size w3 wr2)) (fun _ kv _ => L - (intOf kv).toNat)
                case atStart => exact ⟨0, Nat.zero_le _, rfl, by simp, Lib.hid H.below⟩
                case round =>
                  clear H
                  rename_i wr2
                  obtain ⟨j, hj, rfl, rfl, HBj⟩ := hrel
                  by_cases hjl : j < L
                  · obtain ⟨y, hy⟩ : ∃ y, V[j]? = some y := ⟨V[j]'(by rw [HL.out]; exact hjl), List.getElem?_eq_getElem _⟩
                    obtain ⟨g, o2, rfl, hg, g0⟩ := HRow.out j y hy
                    have g1 : wr.cell? ⟨g, o2 + j, none⟩ = some (.int .i64 y) := by
                      rw [← g0]
                      unfold World.cell?
                      rw [HBj.out.block g hg]
                    have HY := Lib.hid (show decide (qv ∈ V.take (j + 1)) = (decide (qv ∈ V.take j) || (y == qv)) by
                      rw [List.take_add_one, hy]
                      by_cases h1 : qv ∈ V.take j
                      · simp [h1]
                      · by_cases h2 : y = qv
                        · simp [h1, h2]
                        · have h3 : ¬ qv = y := fun e => h2 e.symm
                          simp [h1, h2, h3])
                    clear hy g0
                    obtain ⟨bb, hbb⟩ : ∃ bb, decide (qv ∈ V.take j) = bb := ⟨_, rfl⟩
                    rw [hbb]
                    have HY2 := Lib.hid (HY.out.trans (by rw [hbb]))
                    clear HY hbb
                    cases bb
                    · obtain ⟨b3, hb3⟩ : ∃ b3, (y == qv) = b3 := ⟨_, rfl⟩
                      have HY3 := Lib.hid (show decide (qv ∈ V.take (j + 1)) = b3 from HY2.out.trans (by rw [hb3, Bool.false_or]))
                      clear HY2
                      go_wp2
                      go_roundw
                      case rel => exact ⟨j + 1, by omega, by go_num, by rw [HY3.out], HBj⟩
                      case measure => simp [intOf]; omega
                    · have HY3 := Lib.hid (show decide (qv ∈ V.take (j + 1)) = true from HY2.out.trans (Bool.true_or _))
                      clear HY2
                      go_wp2
                      go_roundw
                      case rel => exact ⟨j + 1, by omega, by go_num, by rw [HY3.out], HBj⟩
                      case measure => simp [intOf]; omega
                  · obtain rfl : j = L := by omega
                    have hall : V.take j = V := List.take_of_length_le (by rw [HL.out]; exact Nat.le_refl _)
                    rw [hall]
                    rw [decide_eq_true HME.out]
                    go_wp2
                    go_roundw
                    case rel => exact ⟨k + 1, by omega, by omega, by go_num, Lib.hid (HE3.out _ (O.out.on hP.pt NoT.pt HK3.out HBj.out))⟩
                    case measure => simp [intOf]; omega
            · have t7 : decide ((0 : Int) < Vo) = false := decide_eq_false hc1
              clear hno hc1
              go_upto_region 22 with (first
              | ((with_reducible show wpList _ _ _ (⟨_, .load 3 _, _, _, _, _⟩ :: _) _ _); refine load_fld G5 (by first | exact wanted_none rfl | exact wanted_some rfl rfl rfl rfl) (by exact rfl) (by exact rfl) Try.underlying3 rfl (by exact rfl) ?_))
              go_upto_region 24 with fail
              go_loopw [22, 23] (fun iv kv wr2 => ∃ j : Nat, j ≤ L ∧ kv = .int .i64 j ∧ iv = .bool (decide (qv ∈ V.take j)) ∧ Hid (Below w3.heap.size w3 wr2)) (fun _ kv _ => L - (intOf kv).toNat)
              case atStart => exact ⟨0, Nat.zero_le _, rfl, by simp, Lib.hid H.below⟩
              case round =>
                clear H
                rename_i wr2
                obtain ⟨j, hj, rfl, rfl, HBj⟩ := hrel
                by_cases hjl : j < L
                · obtain ⟨y, hy⟩ : ∃ y, V[j]? = some y := ⟨V[j]'(by rw [HL.out]; exact hjl), List.getElem?_eq_getElem _⟩
                  obtain ⟨g, o2, rfl, hg, g0⟩ := HRow.out j y hy
                  have g1 : wr.cell? ⟨g, o2 + j, none⟩ = some (.int .i64 y) := by
                    rw [← g0]
                    unfold World.cell?
                    rw [HBj.out.block g hg]
                  have HY := Lib.hid (show decide (qv ∈ V.take (j + 1)) = (decide (qv ∈ V.take j) || (y == qv)) by
                    rw [List.take_add_one, hy]
                    by_cases h1 : qv ∈ V.take j
                    · simp [h1]
                    · by_cases h2 : y = qv
                      · simp [h1, h2]
                      · have h3 : ¬ qv = y := fun e => h2 e.symm
                        simp [h1, h2, h3])
                  clear hy g0
                  obtain ⟨bb, hbb⟩ : ∃ bb, decide (qv ∈ V.take j) = bb := ⟨_, rfl⟩
                  rw [hbb]
                  have HY2 := Lib.hid (HY.out.trans (by rw [hbb]))
                  clear HY hbb
                  cases bb
                  · obtain ⟨b3, hb3⟩ : ∃ b3, (y == qv) = b3 := ⟨_, rfl⟩
                    have HY3 := Lib.hid (show decide (qv ∈ V.take (j + 1)) = b3 from HY2.out.trans (by rw [hb3, Bool.false_or]))
                    clear HY2
                    go_wp2
                    go_roundw
                    case rel => exact ⟨j + 1, by omega, by go_num, by rw [HY3.out], HBj⟩
                    case measure => simp [intOf]; omega
                  · have HY3 := Lib.hid (show decide (qv ∈ V.take (j + 1)) = true from HY2.out.trans (Bool.true_or _))
                    clear HY2
                    go_wp2
                    go_roundw
                    case rel => exact ⟨j + 1, by omega, by go_num, by rw [HY3.out], HBj⟩
                    case measure => simp [intOf]; omega
                · obtain rfl : j = L := by omega
                  have hall : V.take j = V := List.take_of_length_le (by rw [HL.out]; exact Nat.le_refl _)
                  rw [hall]
                  rw [decide_eq_true HME.out]
                  go_wp2
                  go_roundw
                  case rel => exact ⟨k + 1, by omega, by omega, by go_num, Lib.hid (HE3.out _ (O.out.on hP.pt NoT.pt HK3.out HBj.out))⟩
                  case measure => simp [intOf]; omega
    · by_cases hl2 : k < len
      · have t1 : decide ((k : Int) < (len : Int)) = true := decide_eq_true (by omega)
        have t2 : decide ((k : Int) < 60) = false := decide_eq_false (by omega)
        go_wp2
        go_ret
        exact ⟨rfl, HJ.out.bel⟩
      · have t1 : decide ((k : Int) < (len : Int)) = false := decide_eq_false (by omega)
        go_wp2
        go_ret
        exact ⟨rfl, HJ.out.bel⟩
end
end Go.Proofs.Ytaoaapbbadipfaa
end
