/-
  TallyAdds, walked. Conditions: as the interface says. Opening an array of six numbers, as a statement's input. Conditions: the value is of its type.
-/
import Derived.Test.YtdhjdkhhhdcjdaaMGc
import Derived.Test.YtdhjdkhhhdcjdaaMGb
import Derived.OpenShut
/- TallyAdds, walked. Conditions: as the interface says. -/
section
namespace Go.Proofs.Ytdhjdkhhhdcjdaa.Ta
set_option linter.unusedSimpArgs false
set_option linter.unusedVariables false
set_option maxRecDepth 100000
open Go.Joins Go.Deep Go.ChangeShapes Go.WideShapes Go.ChangeAt Go.RowKit

/-- one queue -/
abbrev X1 (c : C6) (s : Int) : TS := ⟨[c], [s], none⟩
abbrev u6 (l : C6) : Value := .agg #[.int .u32 l.c0, .int .u32 l.c1, .int .u32 l.c2, .int .u32 l.c3, .int .u32 l.c4, .int .u32 l.c5]
def U32s (l : C6) : Prop := ∀ i, i < 6 → 0 ≤ l.get i ∧ l.get i ≤ 4294967295
theorem row32_get (c : C6) {i : Nat} (h : i < 6) : (#[.int .u32 c.c0, .int .u32 c.c1, .int .u32 c.c2, .int .u32 c.c3, .int .u32 c.c4, .int .u32 c.c5] : Array Value)[i]? = some (.int .u32 (c.get i)) := by
  match i, h with
  | 0, _ => rfl
  | 1, _ => rfl
  | 2, _ => rfl
  | 3, _ => rfl
  | 4, _ => rfl
  | 5, _ => rfl
theorem x1_open (c : C6) : openE (X1 c 0) 0 = 0 ∧ openS (X1 c 0) 0 = X1 c 1 := ⟨rfl, rfl⟩
theorem x1_add (c : C6) (l : C6) {k : Nat} (hk : k < 6) : addE (X1 (c.upto l k) 1) 0 (k : Int) = 0 ∧ addS (X1 (c.upto l k) 1) 0 (k : Int) (l.get k) = X1 (c.upto l (k + 1)) 1 := by
  have hF : hasF (k : Int) = true := by simp [hasF]; omega
  have e : addE (X1 (c.upto l k) 1) 0 (k : Int) = 0 := by
    unfold addE
    rw [hF]
    rfl
  refine ⟨e, ?_⟩
  rw [addS, if_pos e, Int.toNat_natCast]
  show X1 ((c.upto l k).put k (w64 ((c.upto l k).get k + l.get k))) 1 = _
  rw [upto_get c l k hk, upto_next]
theorem u32_u64 {x : Int} (h : 0 ≤ x ∧ x ≤ 4294967295) : U64 x := ⟨h.1, by omega⟩
theorem u32s_fits {l : C6} (h : U32s l) : l.Fits := fun i hi => u32_u64 (h i hi)
section
variable {P : PT}
abbrev PP (P : PT) (W0 W : World) (T : Nat → Prop) (K : World → Prop) (p : Nat) (s : TS) (N : Nat) (q : Nat) (s2 : TS) (N2 : Nat) : Prop := St P P W0 W T K p s N q s2 N2
set_option maxHeartbeats 4000000 in
theorem adds_w (hP : PTally P) (l : C6) (hl : U32s l) (w : World) : Calls Try.prog 8 #[u6 l] w fun e w' => e = .returned (.bool true) ∧ Below w.heap.size w w' := by
  have hlf := Lib.hid (u32s_fits hl)
  have HU := Lib.hid hl
  have H := Mem.start w
  have hk := kept0
  have O := Lib.hid (show St NoT NoT w w T0 K0 0 z0 0 0 z0 0 from St.start w z0)
  have HF := Lib.hid (fun (X : World) (_ : K0 X) => True.intro)
  clear hl
  go_enter Try.func8, Try.ntmps8
  go_upto_region 1 with (first
    | ((with_reducible show wpList _ _ _ _ _ (World.alloc _ (.cells _ _))); refine mem_newb (l := []) H ?_; intro bl w3 hbk H2; try rw [← hbk]; clear hbk H; have H := H2; clear H2; simp only [List.cons_append, List.nil_append, List.set_cons_zero, List.set_cons_succ, List.setIfInBounds_toArray] at H))
  obtain ⟨T1, K1, hk1, hK1, hT1, O1⟩ := pack_more NoT.pt NoT.pt hk O.out H
  have F1 := Lib.hid (fun (X : World) (h : K1 X) => And.intro (hK1 X h).2 (HF.out X (hK1 X h).1))
  clear H O hk HF hK1 hT1
  have hk := hk1
  have O := Lib.hid O1
  have HF := F1
  clear hk1 O1 F1
  have H := True.intro
  go_upto_region 2 with (first
    | (go_at_call 10; refine (shown12 hP _).mono ?_; rintro e w2 ⟨rfl, hb⟩; have O2 := St.on NoT.pt NoT.pt hk O.out hb; clear O H hb; have O := Lib.hid O2; clear O2; have H := Mem.start w2))
  go_upto_region 3 with (first
    | (go_at_call 11; refine (O.out.newL hP NoT.pt hk 1 (by decide)).mono ?_; rintro e w2 ⟨p, rfl, O2⟩; clear O H; have O := Lib.hid (show SN P w w2 T1 K1 p (X1 zero6 0) 0 from O2); clear O2; have H := Mem.start w2))
  go_upto_region 4 with (first
    | (go_at_call 19; refine (told (openL hP NoT.pt hk O.out (by omega) 0 (by omega)) (v' := .int .i64 0) (R' := fun w' => SN P w w' T1 K1 p (X1 (zero6.upto l 0) 1) 2) (rfl) (fun _ h => by rw [upto_zero]; exact h)).mono ?_; rintro e w2 ⟨rfl, O2⟩; clear O H; have O := Lib.hid O2; clear O2; have H := Mem.start w2))
  clear H
  go_wp2
  go_loopw [7] (fun iv wr => ∃ k : Nat, k ≤ 6 ∧ iv = .int .i64 k ∧ Hid (SN P w wr T1 K1 p (X1 (zero6.upto l k) 1) 2)) (fun iv _ => 6 - (intOf iv).toNat)
  case atStart => exact ⟨0, Nat.zero_le _, rfl, Lib.hid O.out⟩
  case round =>
    clear O
    obtain ⟨k, hk6, rfl, O⟩ := hrel
    have H := Mem.start wr
    by_cases hlt : k < 6
    · have t1 : decide ((k : Int) < 6) = true := decide_eq_true (by omega)
      have i0 : ¬ ((k : Int) < 0) := by omega
      have i1 : ¬ (6 : Nat) ≤ k := by omega
      have hx := x1_add zero6 l hlt
      have hv := HU.out k hlt
      have gl : Held wr bl _ _ := (HF.out _ O.out.kp).1
      have c0 : wr.cell? ⟨bl, k, none⟩ = some (.int .u32 (l.get k)) := (gl.cell k).trans (row32_get l hlt)
      clear gl
      go_wp2_with (first
    | go_skip
    | (go_at_call 20; refine (told (addL hP NoT.pt hk O.out (by omega) 0 (k : Int) (l.get k) (by omega) (by omega) hv) (v' := .int .i64 0) (R' := fun w' => SN P w w' T1 K1 p (X1 (zero6.upto l (k + 1)) 1) 2) (by rw [hx.1]) (fun _ h => by rw [hx.2] at h; exact h)).mono ?_; rintro e w2 ⟨rfl, O2⟩; clear O H; have O := Lib.hid O2; clear O2; have H := Mem.start w2))
      go_roundw
      case rel => exact ⟨k + 1, by omega, by go_num, O⟩
      case measure => simp [intOf]; omega
    · obtain rfl : k = 6 := by omega
      have O2 := O.out
      rw [upto_six] at O2
      clear O
      have O := Lib.hid O2
      clear O2
      go_upto_region 10 with (first
    | go_skip
    | (go_at_call 21; refine (told (shutL hP NoT.pt hk O.out (by omega) 0 (by omega)) (v' := .int .i64 0) (R' := fun w' => SN P w w' T1 K1 p (X1 (zero6.add l) 2) 4) (rfl) (fun _ h => h)).mono ?_; rintro e w2 ⟨rfl, O2⟩; clear O H; have O := Lib.hid O2; clear O2; have H := Mem.start w2))
      go_upto_region 11 with (first
    | (go_at_call 11; refine ((St.symm O.out).newL hP hP.pt hk 1 (by decide)).mono ?_; rintro e w2 ⟨u, rfl, O2⟩; clear O H; have O := Lib.hid (show PP P w w2 T1 K1 u (X1 zero6 0) 0 p (X1 (zero6.add l) 2) 4 from O2); clear O2; have H := Mem.start w2))
      have gl : Held w2 bl _ _ := (HF.out _ O.out.kp).1
      have c0 : w2.cell? ⟨bl, 0, none⟩ = some (.int .u32 l.c0) := gl.cell 0
      have c1 : w2.cell? ⟨bl, 1, none⟩ = some (.int .u32 l.c1) := gl.cell 1
      have c2 : w2.cell? ⟨bl, 2, none⟩ = some (.int .u32 l.c2) := gl.cell 2
      have c3 : w2.cell? ⟨bl, 3, none⟩ = some (.int .u32 l.c3) := gl.cell 3
      have c4 : w2.cell? ⟨bl, 4, none⟩ = some (.int .u32 l.c4) := gl.cell 4
      have c5 : w2.cell? ⟨bl, 5, none⟩ = some (.int .u32 l.c5) := gl.cell 5
      have d0 : IntKind.u64.wrap l.c0 = l.c0 := w64_id (u32_u64 (HU.out 0 (by omega)))
      have d1 : IntKind.u64.wrap l.c1 = l.c1 := w64_id (u32_u64 (HU.out 1 (by omega)))
      have d2 : IntKind.u64.wrap l.c2 = l.c2 := w64_id (u32_u64 (HU.out 2 (by omega)))
      have d3 : IntKind.u64.wrap l.c3 = l.c3 := w64_id (u32_u64 (HU.out 3 (by omega)))
      have d4 : IntKind.u64.wrap l.c4 = l.c4 := w64_id (u32_u64 (HU.out 4 (by omega)))
      have d5 : IntKind.u64.wrap l.c5 = l.c5 := w64_id (u32_u64 (HU.out 5 (by omega)))
      clear gl
      go_upto_region 12 with (first
    | (go_at_call 22; refine (told (noteL hP hP.pt hk O.out (by omega) 0 l (by omega) hlf.out) (v' := .int .i64 0) (R' := fun w' => PP P w w' T1 K1 u (X1 (zero6.add l) 2) 2 p (X1 (zero6.add l) 2) 4) (rfl) (fun _ h => h)).mono ?_; rintro e w2 ⟨rfl, O2⟩; clear O H; have O := Lib.hid O2; clear O2; have H := Mem.start w2; clear c0 c1 c2 c3 c4 c5 d0 d1 d2 d3 d4 d5))
      go_upto_region 13 with (first
    | (go_at_call 17; refine (told (readL hP hP.pt hk (St.symm O.out) (by omega) 0 (by omega)) (v' := .tuple #[cv (zero6.add l), .int .i64 0]) (R' := fun w' => PP P w w' T1 K1 p (X1 (zero6.add l) 2) 4 u (X1 (zero6.add l) 2) 2) (rfl) (fun _ h => h)).mono ?_; rintro e w2 ⟨rfl, O2⟩; clear O H; have O := Lib.hid O2; clear O2; have H := Mem.start w2)
    | ((with_reducible show wpList _ _ _ _ _ (World.alloc _ (.cells _ _))); refine mem_newb (l := []) H ?_; intro ba w3 hbk H2; try rw [← hbk]; clear hbk H; have H := H2; clear H2; simp only [List.cons_append, List.nil_append, List.set_cons_zero, List.set_cons_succ, List.setIfInBounds_toArray] at H)
    | ((with_reducible show wpList _ _ _ (⟨_, .store 42 _ _, _, _, _, _⟩ :: _) _ _); refine mem_store (i := 0) H (by first | exact wanted_none rfl | exact wanted_some rfl rfl rfl rfl) (by exact rfl) (by exact rfl) (by exact rfl) (by exact rfl) (by exact cInfo) (by exact rfl) (by exact rfl) ?_; intro w2 H2; clear H; have H := H2; clear H2; simp only [List.cons_append, List.nil_append, List.set_cons_zero, List.set_cons_succ, List.setIfInBounds_toArray] at H))
      obtain ⟨T2, K2, hk2, hK2, hT2, O2⟩ := pack_more hP.pt hP.pt hk O.out H
      have F2 := Lib.hid (fun (X : World) (h : K2 X) => And.intro (hK2 X h).2 (HF.out X (hK2 X h).1))
      clear H O hk HF hK2 hT2
      have hk := hk2
      have O := Lib.hid O2
      have HF := F2
      clear hk2 O2 F2
      have H := True.intro
      go_upto_region 14 with (first
    | (go_at_call 17; refine (told (readL hP hP.pt hk (St.symm O.out) (by omega) 0 (by omega)) (v' := .tuple #[cv (zero6.add l), .int .i64 0]) (R' := fun w' => PP P w w' T2 K2 u (X1 (zero6.add l) 2) 2 p (X1 (zero6.add l) 2) 4) (rfl) (fun _ h => h)).mono ?_; rintro e w2 ⟨rfl, O2⟩; clear O H; have O := Lib.hid O2; clear O2; have H := Mem.start w2)
    | ((with_reducible show wpList _ _ _ _ _ (World.alloc _ (.cells _ _))); refine mem_newb (l := []) H ?_; intro bb w3 hbk H2; try rw [← hbk]; clear hbk H; have H := H2; clear H2; simp only [List.cons_append, List.nil_append, List.set_cons_zero, List.set_cons_succ, List.setIfInBounds_toArray] at H)
    | ((with_reducible show wpList _ _ _ (⟨_, .store 42 _ _, _, _, _, _⟩ :: _) _ _); refine mem_store (i := 0) H (by first | exact wanted_none rfl | exact wanted_some rfl rfl rfl rfl) (by exact rfl) (by exact rfl) (by exact rfl) (by exact rfl) (by exact cInfo) (by exact rfl) (by exact rfl) ?_; intro w2 H2; clear H; have H := H2; clear H2; simp only [List.cons_append, List.nil_append, List.set_cons_zero, List.set_cons_succ, List.setIfInBounds_toArray] at H))
      obtain ⟨T3, K3, hk3, hK3, hT3, O3⟩ := pack_more hP.pt hP.pt hk O.out H
      have F3 := Lib.hid (fun (X : World) (h : K3 X) => And.intro (hK3 X h).2 (HF.out X (hK3 X h).1))
      clear H O hk HF hK3 hT3
      have hk := hk3
      have O := Lib.hid O3
      have HF := F3
      clear hk3 O3 F3
      have H := True.intro
      have gb := (HF.out _ O.out.kp).1
      have ga := (HF.out _ O.out.kp).2.1
      have a0 : World.cell? _ ⟨ba, 0, none⟩ = some (.int .u64 (zero6.add l).c0) := ga.cell 0
      have a1 : World.cell? _ ⟨ba, 1, none⟩ = some (.int .u64 (zero6.add l).c1) := ga.cell 1
      have a2 : World.cell? _ ⟨ba, 2, none⟩ = some (.int .u64 (zero6.add l).c2) := ga.cell 2
      have a3 : World.cell? _ ⟨ba, 3, none⟩ = some (.int .u64 (zero6.add l).c3) := ga.cell 3
      have a4 : World.cell? _ ⟨ba, 4, none⟩ = some (.int .u64 (zero6.add l).c4) := ga.cell 4
      have a5 : World.cell? _ ⟨ba, 5, none⟩ = some (.int .u64 (zero6.add l).c5) := ga.cell 5
      have b0 : World.cell? _ ⟨bb, 0, none⟩ = some (.int .u64 (zero6.add l).c0) := gb.cell 0
      have b1 : World.cell? _ ⟨bb, 1, none⟩ = some (.int .u64 (zero6.add l).c1) := gb.cell 1
      have b2 : World.cell? _ ⟨bb, 2, none⟩ = some (.int .u64 (zero6.add l).c2) := gb.cell 2
      have b3 : World.cell? _ ⟨bb, 3, none⟩ = some (.int .u64 (zero6.add l).c3) := gb.cell 3
      have b4 : World.cell? _ ⟨bb, 4, none⟩ = some (.int .u64 (zero6.add l).c4) := gb.cell 4
      have b5 : World.cell? _ ⟨bb, 5, none⟩ = some (.int .u64 (zero6.add l).c5) := gb.cell 5
      clear ga gb HF
      go_wp2_with (first
    | go_skip
    | ((with_reducible show wpList _ _ _ (⟨_, .binOp .eql 42 _ _ _, _, _, _, _⟩ :: _) _ _); refine wpList_eql (by first | exact wanted_none rfl | exact wanted_some rfl rfl rfl rfl) (by exact rfl) (by exact rfl) (by exact rfl) (r := true) (by simp) ?_)
    | (go_at_call 20; refine (told (addL hP hP.pt hk (St.symm O.out) (by omega) 0 0 1 (by omega) (by omega) (by omega)) (v' := .int .i64 120) (R' := fun w' => PP P w w' T3 K3 p (X1 (zero6.add l) 2) 4 u (X1 (zero6.add l) 2) 2) (rfl) (fun _ h => h)).mono ?_; rintro e w2 ⟨rfl, O2⟩; clear O H; have O := Lib.hid O2; clear O2; have H := Mem.start w2)
    | (go_at_call 21; refine (told (shutL hP hP.pt hk O.out (by omega) 0 (by omega)) (v' := .int .i64 120) (R' := fun w' => PP P w w' T3 K3 p (X1 (zero6.add l) 2) 6 u (X1 (zero6.add l) 2) 2) (rfl) (fun _ h => h)).mono ?_; rintro e w2 ⟨rfl, O2⟩; clear O H; have O := Lib.hid O2; clear O2; have H := Mem.start w2))
      go_ret
      exact ⟨by simp, O.out.bel⟩
end
end Go.Proofs.Ytdhjdkhhhdcjdaa.Ta
end
/- Opening an array of six numbers, as a statement's input. Conditions: the value is of its type. -/
section
namespace Go.Proofs.Ytdhjdkhhhdcjdaa.Ta
set_option linter.unusedSimpArgs false
set_option linter.unusedVariables false
set_option maxRecDepth 100000
open Go.ChangeShapes Go.WideShapes Go.ChangeAt Go.RowKit

section
variable {H : Type} {enc : TypeId × Value → H} {P : Program} {w : World} {base : Nat} {spare : Nat → Bool} {held : Bool}
theorem okWide_array {P : Program} {w : World} {r : Reach} {base : Nat} {t e : TypeId} {v : Value} {n : Nat} (ht : P.underlying t = some (.array n e)) (h : Value.okWide P w r base t v) : ∃ cs, v = .agg cs ∧ cs.size = P.cellsOf t := by
  simp only [Value.okWide, ht] at h
  obtain ⟨cs, h1, h2, _⟩ := h
  exact ⟨cs, h1, h2⟩
theorem u32s_of {a b c d e f : Int} (h0 : 0 ≤ a ∧ a ≤ 4294967295) (h1 : 0 ≤ b ∧ b ≤ 4294967295) (h2 : 0 ≤ c ∧ c ≤ 4294967295) (h3 : 0 ≤ d ∧ d ≤ 4294967295) (h4 : 0 ≤ e ∧ e ≤ 4294967295) (h5 : 0 ≤ f ∧ f ≤ 4294967295) : U32s ⟨a, b, c, d, e, f⟩ := fun i hi => by
  match i, hi with
  | 0, _ => exact h0
  | 1, _ => exact h1
  | 2, _ => exact h2
  | 3, _ => exact h3
  | 4, _ => exact h4
  | 5, _ => exact h5
theorem open_u6 {r : Reach} {b0 : Nat} {v : Value} {x : DataW H} {p : List MemPlace} (hv : Value.okWide Try.prog w r b0 59 v) (h : DataW.Trod enc Try.prog w base spare held 59 v x p) : ∃ l : C6, v = u6 l ∧ U32s l := by
  obtain ⟨cs, rfl, hsz⟩ := okWide_array Try.underlying59 hv
  obtain ⟨l⟩ := cs
  obtain ⟨fuel, hf⟩ := h
  obtain ⟨xs, m, _, _, hlen, hxl, hg⟩ := DataW.trod_array Try.underlying59 (show DataW.trod enc Try.prog w base spare held fuel 59 l = some _ by simpa [Value.cells] using hf)
  rw [show Try.prog.cellsOf 59 = 6 by kernel_rfl] at hlen
  rw [show Try.prog.cellsOf 39 = 1 by kernel_rfl] at hg
  match l, hlen with
  | [c0, c1, c2, c3, c4, c5], _ =>
    match xs, hxl with
    | [y0, y1, y2, y3, y4, y5], _ =>
      obtain ⟨n0, e0, _, w0⟩ := DataW.trod_int Try.underlying39 (show DataW.trod enc Try.prog w base spare held m 39 [c0] = some y0 from hg 0 (by omega))
      obtain ⟨n1, e1, _, w1⟩ := DataW.trod_int Try.underlying39 (show DataW.trod enc Try.prog w base spare held m 39 [c1] = some y1 from hg 1 (by omega))
      obtain ⟨n2, e2, _, w2⟩ := DataW.trod_int Try.underlying39 (show DataW.trod enc Try.prog w base spare held m 39 [c2] = some y2 from hg 2 (by omega))
      obtain ⟨n3, e3, _, w3⟩ := DataW.trod_int Try.underlying39 (show DataW.trod enc Try.prog w base spare held m 39 [c3] = some y3 from hg 3 (by omega))
      obtain ⟨n4, e4, _, w4⟩ := DataW.trod_int Try.underlying39 (show DataW.trod enc Try.prog w base spare held m 39 [c4] = some y4 from hg 4 (by omega))
      obtain ⟨n5, e5, _, w5⟩ := DataW.trod_int Try.underlying39 (show DataW.trod enc Try.prog w base spare held m 39 [c5] = some y5 from hg 5 (by omega))
      simp at e0 e1 e2 e3 e4 e5
      subst e0 e1 e2 e3 e4 e5
      exact ⟨⟨n0, n1, n2, n3, n4, n5⟩, rfl, u32s_of (bd_u32 w0) (bd_u32 w1) (bd_u32 w2) (bd_u32 w3) (bd_u32 w4) (bd_u32 w5)⟩
end
end Go.Proofs.Ytdhjdkhhhdcjdaa.Ta
end
