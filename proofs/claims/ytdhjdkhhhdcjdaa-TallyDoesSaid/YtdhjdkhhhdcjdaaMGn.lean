/-
  TallyDoes, walked. Conditions: as the interface says; the acts lie where their slice says.
-/
import Derived.Test.YtdhjdkhhhdcjdaaMGh
import Derived.Test.YtdhjdkhhhdcjdaaMGk
/- TallyDoes, walked. Conditions: as the interface says; the acts lie where their slice says. -/
section
namespace Go.Proofs.Ytdhjdkhhhdcjdaa.Ta
set_option linter.unusedSimpArgs false
set_option linter.unusedVariables false
set_option maxRecDepth 100000
open Go.Joins Go.Deep Go.ChangeShapes Go.WideShapes Go.ChangeAt Go.RowKit

/-- where the law's tallies lie, between two acts -/
def DoesJ (P : PT) (w : World) (p r ra rb k : Nat) (V : World) : Prop := ∃ (s : TS) (N : Nat) (R : RD), N ≤ 2 * k ∧ Two P w T0 K0 p r (some (R.to ra)) (some (R.to rb)) s N V
section
variable {P : PT} {w W : World} {p r ra rb k : Nat}
theorem DoesJ.on (hP : PTally P) (h : DoesJ P w p r ra rb k W) {V : World} (hb : Below W.heap.size W V) : DoesJ P w p r ra rb k V := by
  obtain ⟨s, N, R, h1, h2⟩ := h
  exact ⟨s, N, R, h1, St.on hP.pt DocAt.pt kept0 h2 hb⟩
theorem DoesJ.bel (h : DoesJ P w p r ra rb k W) : Below w.heap.size w W := by
  obtain ⟨s, N, R, h1, h2⟩ := h
  exact St.bel h2
theorem DoesJ.did (hP : PTally P) (h : DoesJ P w p r ra rb k W) (hk : k ≤ 100) (x : AX) (hx : x.Fits) : Calls Try.prog 16 #[.pointer (some ⟨p, 0, none⟩), .pointer (some ⟨r, 0, none⟩), .agg (axC x).toArray] W fun e w' => e = .returned (.bool true) ∧ DoesJ P w p r ra rb (k + 1) w' := by
  obtain ⟨s, N, R, h1, h2⟩ := h
  refine (did_w hP w _ _ kept0 p r _ _ s N (by omega) x hx W h2).mono ?_
  rintro e w' ⟨rfl, s', N', h3, h4⟩
  exact ⟨rfl, s', N', R, by omega, h4⟩
theorem stepE_to (s : TS) (o : Option RD) (R : RD) (b : Nat) : stepE (s.rat o) (R.to b) = stepE s R := rfl
theorem stepV_to (s : TS) (o : Option RD) (R : RD) (b : Nat) : stepV (s.rat o) (R.to b) = stepV s R := rfl
theorem stepOk_to (s : TS) (o : Option RD) (R : RD) (b : Nat) : stepOk (s.rat o) (R.to b) = stepOk s R := rfl
theorem stepP2 (hP : PTally P) {T : Nat → Prop} {K : World → Prop} (hk : Kept T K) {s : TS} {N : Nat} (hN : N ≤ 1000) {R : RD} {o2 : Option RD} (h : Two P w T K p r (some (R.to ra)) o2 s N W) : Calls Try.prog 14 #[.pointer (some ⟨ra, 0, none⟩)] W fun e w' => e = .returned (.tuple #[cv (stepV s R), .bool (stepOk s R), .int .i64 (stepE s R)]) ∧ Two P w T K p r (some ((stepR s R).to ra)) o2 s N w' := by
  have h1 := stepL hP DocAt.pt hk h (by omega) (R.to ra) rfl
  rw [stepR_to, stepE_to, stepV_to, stepOk_to] at h1
  exact h1
theorem stepR2 (hP : PTally P) {T : Nat → Prop} {K : World → Prop} (hk : Kept T K) {s : TS} {N : Nat} {R : RD} {o1 : Option RD} (h : Two P w T K p r o1 (some (R.to rb)) s N W) : Calls Try.prog 15 #[.pointer (some ⟨rb, 0, none⟩)] W fun e w' => e = .returned (.tuple #[cv (stepV s R), .bool (stepOk s R), .int .i64 (stepE s R)]) ∧ Two P w T K p r o1 (some ((stepR s R).to rb)) s N w' := by
  have h1 := stepRR hP.pt hk h (R.to rb) rfl
  rw [stepR_to, stepE_to, stepV_to, stepOk_to] at h1
  exact h1
set_option maxHeartbeats 4000000 in
theorem does_w (hP : PTally P) (n : Int) (hn : I64 n) (A : Option Addr) (len cap : Nat) (xs : Nat → AX) (hl : len ≤ cap) (hc : cap ≤ maxLen) (w : World) (hA : ActsX w A len xs) : Calls Try.prog 3 #[.int .i64 n, .slice A len cap] w fun e w' => e = .returned (.bool true) ∧ Below w.heap.size w w' := by
  have H := Mem.start w
  have HA := Lib.hid hA
  unfold maxLen at hc
  clear hA
  cases hok : okQ n with
  | false =>
    have kn := fun w => hP.new_no n hn hok w
    have kr := fun w => new_no_d n hok w
    clear hok
    go_enter Try.func3, Try.ntmps3
    go_wp2_with (first
    | go_skip
    | (go_at_call 10; refine (shown12 hP _).mono ?_; rintro e w2 ⟨rfl, hb⟩; have H2 := H.call hb; clear H hb; have H := H2; clear H2)
    | (go_at_call 11; refine (kn _).mono ?_; rintro e w2 ⟨rfl, hb⟩; have H2 := H.call hb; clear H hb; have H := H2; clear H2)
    | (go_at_call 12; refine (kr _).mono ?_; rintro e w2 ⟨rfl, hb⟩; have H2 := H.call hb; clear H hb; have H := H2; clear H2))
    go_ret
    exact ⟨by simp, H.below⟩
  | true =>
    clear H
    have HL := Lib.hid (show 0 < (zeroT n).s.length from (FitsT.zero n hok).n1)
    have HOK := Lib.hid hok
    clear hok
    have H := Mem.start w
    have hk := kept0
    have O := Lib.hid (show St NoT NoT w w T0 K0 0 z0 0 0 z0 0 from St.start w z0)
    have HF := Lib.hid (fun (X : World) (_ : K0 X) => True.intro)
    go_enter Try.func3, Try.ntmps3
    go_upto_region 2 with (first
    | (go_at_call 10; refine (shown12 hP _).mono ?_; rintro e w2 ⟨rfl, hb⟩; have O2 := St.on NoT.pt NoT.pt hk O.out hb; clear O H hb; have O := Lib.hid O2; clear O2; have H := Mem.start w2))
    go_upto_region 3 with (first
    | go_skip
    | (go_at_call 11; refine (O.out.newL hP NoT.pt hk n HOK.out).mono ?_; rintro e w2 ⟨p, rfl, O2⟩; clear O H; have O := Lib.hid O2; clear O2; have H := Mem.start w2))
    go_upto_region 6 with (first
    | go_skip
    | (go_at_call 12; refine (newR hP.pt hk O.out n HOK.out).mono ?_; rintro e w2 ⟨r, rfl, O2⟩; clear O H; have O := Lib.hid O2; clear O2; have H := Mem.start w2))
    go_upto_region 7 with (first
    | go_skip
    | (go_at_call 13; refine (readerL hP DocAt.pt hk O.out (by omega) 0 HL.out rfl).mono ?_; rintro e w2 ⟨ra, rfl, O2⟩; clear O H; have O := Lib.hid O2; clear O2; have H := Mem.start w2))
    go_upto_region 8 with (first
    | go_skip
    | ((with_reducible show wpList _ _ _ _ _ (World.alloc _ (.cells _ _))); refine mem_newb (l := []) H ?_; intro rb w3 hbk H2; try rw [← hbk]; clear hbk H; have H := H2; clear H2; simp only [List.cons_append, List.nil_append, List.set_cons_zero, List.set_cons_succ, List.setIfInBounds_toArray] at H))
    have J0 : DoesJ P w p r ra rb 0 _ := ⟨zeroT n, 0, ⟨0, 0, 0, 0, []⟩, Nat.le_refl _, readerR hP.pt hk O.out rfl HL.out H⟩
    have HJ := Lib.hid J0
    clear J0 O H HF hk
    go_wp2
    go_loopw [13] (fun iv wr => ∃ j : Nat, j ≤ len ∧ j ≤ 80 ∧ iv = .int .i64 j ∧ Hid (DoesJ P w p r ra rb j wr)) (fun iv _ => len - (intOf iv).toNat)
    case atStart => exact ⟨0, Nat.zero_le _, Nat.zero_le _, rfl, Lib.hid HJ.out⟩
    case round =>
      clear HJ
      obtain ⟨j, hj, hj80, rfl, HJ⟩ := hrel
      have H := mem_of HJ.out.bel
      by_cases hlt : j < len ∧ j < 80
      · obtain ⟨bA, off, hA, hb, hx⟩ := HA.out.plain axC_len (by decide) (by omega)
        obtain ⟨hfit, hcells⟩ := hx j hlt.1
        have t1 : decide ((j : Int) < (len : Int)) = true := decide_eq_true (by omega)
        have t2 : decide ((j : Int) < 80) = true := decide_eq_true (by omega)
        have HB := Lib.hid (fun (W : World) (h : Below w.heap.size w W) => show W.rangeAt bA (off + j * 10) (axC (xs j)) from fun i v hv => by
          have h2 := hcells i v hv
          rw [← h2]
          unfold World.cell?
          rw [h.block bA hb])
        obtain ⟨x, hxx⟩ : ∃ x, xs j = x := ⟨_, rfl⟩
        rw [hxx] at HB hfit
        have c0 : wr.cell? ⟨bA, off + j * 10, none⟩ = some (.int .i64 x.d) := HB.out wr HJ.out.bel 0 _ rfl
        obtain ⟨d, hd⟩ : ∃ c, x.d = c := ⟨_, rfl⟩
        rw [hd] at c0
        have HX := Lib.hid hfit
        subst hA
        clear hfit hcells hxx hx hd
        have HCN := Lib.hid hlt
        have hj1 : ¬ ((j : Int) < 0) := by omega
        have hj2 : ¬ len ≤ j := by omega
        obtain ⟨v, hv, hv7⟩ : ∃ v : Nat, (IntKind.u64.wrap d).tmod 7 = (v : Int) ∧ v < 7 := u64_tmod d 7 (by omega)
        by_cases h6 : v = 6
        · have tt : ((IntKind.u64.wrap d).tmod 7 == 6) = true := by rw [hv, h6]; rfl
          obtain ⟨s, N, R, hN, h2⟩ := HJ.out
          have HN := Lib.hid hN
          have O := Lib.hid h2
          have HK := Lib.hid kept0
          have HF := Lib.hid (fun (X : World) (_ : K0 X) => True.intro)
          have hN2 : N ≤ 1000 := by omega
          have kP := fun T' K' (hk : Kept T' K') W (h : Two P w T' K' p r (some (R.to ra)) (some (R.to rb)) s N W) => stepP2 hP hk hN2 h
          have kR := fun T' K' (hk : Kept T' K') W (h : Two P w T' K' p r (some ((stepR s R).to ra)) (some (R.to rb)) s N W) => stepR2 hP hk h
          generalize stepV s R = V at kP kR
          generalize stepOk s R = B at kP kR
          generalize stepE s R = E at kP kR
          clear h2 hN HJ hv h6 hv7 hlt
          go_upto_region 13 with (first
    | go_skip
    | (go_at_call 14; refine (kP _ _ HK.out _ O.out).mono ?_; rintro e w2 ⟨rfl, O2⟩; clear O H; have O := Lib.hid O2; clear O2; have H := Mem.start w2)
    | ((with_reducible show wpList _ _ _ _ _ (World.alloc _ (.cells _ _))); refine mem_newb (l := []) H ?_; intro b1 w3 hbk H2; try rw [← hbk]; clear hbk H; have H := H2; clear H2; simp only [List.cons_append, List.nil_append, List.set_cons_zero, List.set_cons_succ, List.setIfInBounds_toArray] at H)
    | ((with_reducible show wpList _ _ _ (⟨_, .store 42 _ _, _, _, _, _⟩ :: _) _ _); refine mem_store (i := 0) H (by first | exact wanted_none rfl | exact wanted_some rfl rfl rfl rfl) (by exact rfl) (by exact rfl) (by exact rfl) (by exact rfl) (by exact cInfo) (by exact rfl) (by exact rfl) ?_; intro w2 H2; clear H; have H := H2; clear H2; simp only [List.cons_append, List.nil_append, List.set_cons_zero, List.set_cons_succ, List.setIfInBounds_toArray] at H))
          obtain ⟨T2, K2, hk2, hK2, hT2, O2⟩ := pack_more hP.pt DocAt.pt HK.out O.out H
          have HF2 := Lib.hid (fun (X : World) (h : K2 X) => And.intro (hK2 X h).2 (HF.out X (hK2 X h).1))
          clear H O HK HF hK2 hT2
          have HK := Lib.hid hk2
          have O := Lib.hid O2
          have HF := HF2
          clear hk2 O2 HF2
          have H := True.intro
          go_upto_region 14 with (first
    | go_skip
    | (go_at_call 15; refine (kR _ _ HK.out _ O.out).mono ?_; rintro e w2 ⟨rfl, O2⟩; clear O H; have O := Lib.hid O2; clear O2; have H := Mem.start w2)
    | ((with_reducible show wpList _ _ _ _ _ (World.alloc _ (.cells _ _))); refine mem_newb (l := []) H ?_; intro b2 w3 hbk H2; try rw [← hbk]; clear hbk H; have H := H2; clear H2; simp only [List.cons_append, List.nil_append, List.set_cons_zero, List.set_cons_succ, List.setIfInBounds_toArray] at H)
    | ((with_reducible show wpList _ _ _ (⟨_, .store 42 _ _, _, _, _, _⟩ :: _) _ _); refine mem_store (i := 0) H (by first | exact wanted_none rfl | exact wanted_some rfl rfl rfl rfl) (by exact rfl) (by exact rfl) (by exact rfl) (by exact rfl) (by exact cInfo) (by exact rfl) (by exact rfl) ?_; intro w2 H2; clear H; have H := H2; clear H2; simp only [List.cons_append, List.nil_append, List.set_cons_zero, List.set_cons_succ, List.setIfInBounds_toArray] at H))
          obtain ⟨T3, K3, hk3, hK3, hT3, O3⟩ := pack_more hP.pt DocAt.pt HK.out O.out H
          have HF3 := Lib.hid (fun (X : World) (h : K3 X) => And.intro (hK3 X h).2 (HF.out X (hK3 X h).1))
          clear H O HK HF hK3 hT3
          have HK := Lib.hid hk3
          have O := Lib.hid O3
          have HF := HF3
          clear hk3 O3 HF3
          have H := True.intro
          have g1 := (HF.out _ O.out.kp).2.1
          have g2 := (HF.out _ O.out.kp).1
          have HO := O
          clear H O kP kR
          go_wp2_with (first
    | go_skip
    | ((with_reducible show wpList _ _ _ (⟨_, .load 42 _, _, _, _, _⟩ :: _) _ _); refine load_held g1 (by first | exact wanted_none rfl | exact wanted_some rfl rfl rfl rfl) (by exact rfl) (by exact rfl) Try.underlying42 rfl cInfo ?_)
    | ((with_reducible show wpList _ _ _ (⟨_, .load 42 _, _, _, _, _⟩ :: _) _ _); refine load_held g2 (by first | exact wanted_none rfl | exact wanted_some rfl rfl rfl rfl) (by exact rfl) (by exact rfl) Try.underlying42 rfl cInfo ?_)
    | ((with_reducible show wpList _ _ _ (⟨_, .binOp .neq 42 _ _ _, _, _, _, _⟩ :: _) _ _); refine wpList_neq (by first | exact wanted_none rfl | exact wanted_some rfl rfl rfl rfl) (by exact rfl) (by exact rfl) (by exact rfl) (decide_eq_true rfl) ?_))
          go_roundw
          case rel => exact ⟨j + 1, by have := HCN.out; omega, by have := HCN.out; omega, by go_num, Lib.hid ⟨s, N, stepR s R, by have := HN.out; omega, HO.out.less (fun _ h => h.elim) (fun _ => trivial)⟩⟩
          case measure => simp [intOf]; have := HCN.out; omega
        · have tt : ((IntKind.u64.wrap d).tmod 7 == 6) = false := by rw [hv]; simp; omega
          have kD := fun W h => DoesJ.did (P := P) (w := w) (W := W) (p := p) (r := r) (ra := ra) (rb := rb) (k := j) hP h (by omega) x HX.out
          clear hv h6 hv7 hlt
          go_wp2_with (first
    | go_skip
    | ((with_reducible show wpList _ _ _ (⟨_, .load 44 _, _, _, _, _⟩ :: _) _ _); refine wpList_load_mid rfl _ _ rfl bA (off + j * 10) rfl _ _ (HB.out _ HJ.out.bel) Try.underlying44 rfl acInfo ?_)
    | (go_at_call 16; refine (kD _ HJ.out).mono ?_; rintro e w2 ⟨rfl, J2⟩; clear HJ H; have HJ := Lib.hid J2; clear J2; have H := Mem.start w2))
          go_roundw
          case rel => exact ⟨j + 1, by have := HCN.out; omega, by have := HCN.out; omega, by go_num, HJ⟩
          case measure => simp [intOf]; have := HCN.out; omega
      · by_cases hl2 : j < len
        · have t1 : decide ((j : Int) < (len : Int)) = true := decide_eq_true (by omega)
          have t2 : decide ((j : Int) < 80) = false := decide_eq_false (by omega)
          go_wp2
          go_ret
          exact ⟨rfl, HJ.out.bel⟩
        · have t1 : decide ((j : Int) < (len : Int)) = false := decide_eq_false (by omega)
          go_wp2
          go_ret
          exact ⟨rfl, HJ.out.bel⟩
end
end Go.Proofs.Ytdhjdkhhhdcjdaa.Ta
end
