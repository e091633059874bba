/-
  CellsDo, walked. Conditions: as the interface says; the acts lie where their slice says.
-/
import Derived.Test.YtoajgaljccaccaaMGn
/- CellsDo, walked. Conditions: as the interface says; the acts lie where their slice says. -/
section
namespace Go.Proofs.Ytoajgaljccaccaa.Ce
set_option linter.unusedSimpArgs false
set_option linter.unusedVariables false
set_option maxRecDepth 100000
open Go.ChangeShapes Go.WideShapes Go.ChangeAt Go.RowKit

theorem yields_cellR {P : Program} {ops : Array Oper} {o : Oper} {a : Act} {R : World → Prop} {b j : Nat} {ty : TypeId} {x : Operand} {d : TypeDesc} {v : Value} (hR : ∀ w, R w → w.cell? ⟨b, j, none⟩ = some v) (hw : Region.wanted o (yielded ops a.tmps) = true) (ho : o.op = .load ty x) (hx : opnd a x = some (.pointer (some ⟨b, j, none⟩)))
    (hu : P.underlying ty = some d) (hd : (match d with | .struct _ | .array _ _ => true | _ => false) = false) : YieldsG P ops R o v a := by
  refine ⟨hw, fun w h => ?_, fun w => ?_⟩
  · have hc : w.cell? ⟨b, j, none⟩ = some v := hR w h
    have hagg : (isAgg ty).run P w = .ok false w := by
      unfold isAgg
      rw [Sem.run_bind, run_underlying hu w]
      cases d <;> simp_all
    unfold execOp
    simp only [ho, opnd_eval hx, Instr.loadAt, Instr.sureAddr, Sem.run_bind, Sem.run_pure, Result.andThen_ok, loadVar, hagg]
    simp [go_sem, hc]
  · unfold Oper.about
    rw [ho]
/-- where the law's cells lie, between two acts -/
def DoesJ (P : PT) (w : World) (p r k : Nat) (V : World) : Prop := ∃ s N, N ≤ k ∧ Two P w (fun _ => False) (fun _ => True) p r s N V
section
variable {P : PT} {w W : World} {p r k : Nat}
theorem DoesJ.on (hP : PCells P) (h : DoesJ P w p r k W) {V : World} (hb : Below W.heap.size W V) : DoesJ P w p r k V := by
  obtain ⟨s, N, h1, h2⟩ := h
  exact ⟨s, N, h1, St.on hP.pt DocAt.pt (Kept.no _) h2 hb⟩
theorem DoesJ.bel (h : DoesJ P w p r k W) : Below w.heap.size w W := by
  obtain ⟨s, N, h1, h2⟩ := h
  exact St.bel h2
theorem DoesJ.did (hP : PCells P) (h : DoesJ P w p r k W) (hk : k ≤ 100) (x : AX) (hx : x.Fits) : Calls Try.prog 13 #[.pointer (some ⟨p, 0, none⟩), .pointer (some ⟨r, 0, none⟩), .agg (axC x).toArray] W fun e w' => e = .returned (.bool true) ∧ DoesJ P w p r (k + 1) w' := by
  obtain ⟨s, N, h1, h2⟩ := h
  refine (did_w hP w _ _ (Kept.no _) p r s N (by omega) x hx W h2).mono ?_
  rintro e w' ⟨rfl, s', N', h3, h4⟩
  exact ⟨rfl, s', N', by omega, h4⟩
set_option maxHeartbeats 4000000 in
theorem does_w (hP : PCells P) (n m k : Int) (hn : I64 n) (hm : I64 m) (hk : I64 k) (A : Option Addr) (len cap : Nat) (xs : Nat → AX) (hl : len ≤ cap) (hc : cap ≤ maxLen) (w : World) (hA : ActsX w A len xs) : Calls Try.prog 3 #[.int .i64 n, .int .i64 m, .int .i64 k, .slice A len cap] w fun e w' => e = .returned (.bool true) ∧ Below w.heap.size w w' := by
  have H := Mem.start w
  have HA := Lib.hid hA
  unfold maxLen at hc
  clear hA
  by_cases q0 : n > 20
  · go_enter Try.func3, Try.ntmps3
    go_wp2_with (first
    | go_skip
    | (go_at_call 10; refine (shown11 hP _).mono ?_; rintro e w2 ⟨rfl, hb⟩; have H2 := H.call hb; clear H hb; have H := H2; clear H2))
    go_ret
    exact ⟨rfl, H.below⟩
  by_cases q1 : m > 20
  · go_enter Try.func3, Try.ntmps3
    go_wp2_with (first
    | go_skip
    | (go_at_call 10; refine (shown11 hP _).mono ?_; rintro e w2 ⟨rfl, hb⟩; have H2 := H.call hb; clear H hb; have H := H2; clear H2))
    go_ret
    exact ⟨rfl, H.below⟩
  by_cases q2 : k > 20
  · go_enter Try.func3, Try.ntmps3
    go_wp2_with (first
    | go_skip
    | (go_at_call 10; refine (shown11 hP _).mono ?_; rintro e w2 ⟨rfl, hb⟩; have H2 := H.call hb; clear H hb; have H := H2; clear H2))
    go_ret
    exact ⟨rfl, H.below⟩
  cases hok : okNew n m k with
  | false =>
    have kn := fun w => hP.new_no n m k hn hm hk hok w
    have kr := fun w => new_no n m k hok w
    clear hok
    go_enter Try.func3, Try.ntmps3
    go_wp2_with (first
    | go_skip
    | (go_at_call 10; refine (shown11 hP _).mono ?_; rintro e w2 ⟨rfl, hb⟩; have H2 := H.call hb; clear H hb; have H := H2; clear H2)
    | (go_at_call 11; refine (kn _).mono ?_; rintro e w2 ⟨rfl, hb⟩; have H2 := H.call hb; clear H hb; have H := H2; clear H2)
    | (go_at_call 12; refine (kr _).mono ?_; rintro e w2 ⟨rfl, hb⟩; have H2 := H.call hb; clear H hb; have H := H2; clear H2))
    go_ret
    exact ⟨by simp, H.below⟩
  | true =>
    have O := Lib.hid (St.start w ⟨[], [], []⟩)
    have HOK := Lib.hid hok
    clear hok
    go_enter Try.func3, Try.ntmps3
    go_upto_region 2 with (first
    | (go_at_call 10; refine (shown11s hP w _ O.out).mono ?_; rintro e w2 ⟨rfl, O2⟩; clear O H; have O := Lib.hid O2; clear O2; have H := Mem.start w2))
    go_upto_region 5 with (first
    | go_skip
    | (go_at_call 11; refine (O.out.newP hP NoT.pt (Kept.no _) n m k HOK.out).mono ?_; rintro e w2 ⟨p, rfl, O2⟩; clear O H; have O := Lib.hid O2; clear O2; have H := Mem.start w2))
    go_upto_region 6 with (first
    | go_skip
    | (go_at_call 12; refine (O.out.newR hP.pt (Kept.no _) n m k HOK.out).mono ?_; rintro e w2 ⟨r, rfl, O2⟩; clear O H; have O := Lib.hid O2; clear O2; have H := Mem.start w2))
    have J0 : DoesJ P w p r 0 w2 := ⟨_, 0, Nat.le_refl _, O.out⟩
    have HJ := Lib.hid J0
    clear J0 O
    go_wp2
    go_loopw [14] (fun iv wr => ∃ j : Nat, j ≤ len ∧ j ≤ 80 ∧ iv = .int .i64 j ∧ Hid (DoesJ P w p r j wr)) (fun iv _ => len - (intOf iv).toNat)
    case atStart => exact ⟨0, Nat.zero_le _, Nat.zero_le _, rfl, Lib.hid (HJ.out.on hP H.below)⟩
    case round =>
      clear HJ H
      obtain ⟨j, hj, hj80, rfl, HJ⟩ := hrel
      have H := mem_of HJ.out.bel
      by_cases hlt : j < len ∧ j < 80
      · obtain ⟨bA, off, hA, hb, hx⟩ := HA.out.plain axC_len (by decide) (by omega)
        obtain ⟨hfit, hcells⟩ := hx j hlt.1
        have t1 : decide ((j : Int) < (len : Int)) = true := decide_eq_true (by omega)
        have t2 : decide ((j : Int) < 80) = true := decide_eq_true (by omega)
        have c1 : w.cell? ⟨bA, off + j * 5 + 1, none⟩ = some (.int .i64 (xs j).i) := hcells 1 _ rfl
        have HB := Lib.hid (fun (W : World) (h : Below w.heap.size w W) => show W.rangeAt bA (off + j * 5) (axC (xs j)) from fun i v hv => by
          have h2 := hcells i v hv
          rw [← h2]
          unfold World.cell?
          rw [h.block bA hb])
        obtain ⟨x, hxx⟩ : ∃ x, xs j = x := ⟨_, rfl⟩
        rw [hxx] at HB hfit c1
        have HX := Lib.hid hfit
        have kD := fun W h => DoesJ.did (P := P) (w := w) (W := W) (p := p) (r := r) (k := j) hP h (by omega) x HX.out
        subst hA
        clear hfit hcells hxx hx
        go_upto_region 12 with (first
    | go_skip
    | ((with_reducible show wpList _ _ _ (⟨_, .load 33 _, _, _, _, _⟩ :: _) _ _); refine wpList_load_mid rfl _ _ rfl bA (off + j * 5) rfl _ _ (HB.out _ HJ.out.bel) Try.underlying33 rfl acInfo ?_)
    | (go_at_call 13; refine (kD _ HJ.out).mono ?_; rintro e w2 ⟨rfl, J2⟩; clear HJ H; have HJ := Lib.hid J2; clear J2; have H := Mem.start w2))
        clear kD
        obtain ⟨s, N, hN, h2⟩ := HJ.out
        have HN := Lib.hid hN
        have O := Lib.hid h2
        have H := mem_of h2.bel
        clear h2 hN HJ
        have k1 := fun W (h : Two P w (fun _ => False) (fun _ => True) p r s N W) => loadP hP DocAt.pt (Kept.no _) h (by have := HN.out; omega) x.i HX.out.i
        have k2 := fun W (h : Two P w (fun _ => False) (fun _ => True) p r s N W) => loadR hP.pt (Kept.no _) h (by have := HN.out; omega) x.i HX.out.i
        have k3 := fun W (h : Two P w (fun _ => False) (fun _ => True) p r s N W) => holderP hP DocAt.pt (Kept.no _) h (by have := HN.out; omega) x.i HX.out.i
        have k4 := fun W (h : Two P w (fun _ => False) (fun _ => True) p r s N W) => holderR hP.pt (Kept.no _) h (by have := HN.out; omega) x.i HX.out.i
        generalize loadV s x.i = V at k1 k2
        generalize cellE (has s.c x.i) = E at k1 k2
        generalize holder s x.i = D at k3 k4
        go_upto_region 13 with (first
    | go_skip
    | ((with_reducible show wpList _ _ _ (⟨_, .load 3 _, _, _, _, _⟩ :: _) _ _); refine mem_loado H c1 hb (by first | exact wanted_none rfl | exact wanted_some rfl rfl rfl rfl) (by exact rfl) (by exact rfl) Try.underlying3 rfl ?_)
    | (go_at_call 14; refine (k1 _ O.out).mono ?_; rintro e w2 ⟨rfl, O2⟩; clear O H; have O := Lib.hid O2; have H := mem_of O2.bel; clear O2))
        go_upto_region 14 with (first
    | go_skip
    | ((with_reducible show wpList _ _ _ (⟨_, .load 3 _, _, _, _, _⟩ :: _) _ _); refine mem_loado H c1 hb (by first | exact wanted_none rfl | exact wanted_some rfl rfl rfl rfl) (by exact rfl) (by exact rfl) Try.underlying3 rfl ?_)
    | (go_at_call 15; refine (k2 _ O.out).mono ?_; rintro e w2 ⟨rfl, O2⟩; clear O H; have O := Lib.hid O2; have H := mem_of O2.bel; clear O2))
        have O5 := St.on hP.pt DocAt.pt (Kept.no _) O.out (Mem.start _).drew.below
        refine (wpIn_wide (n := 6)).1 (wpIn_region_G (fun wx => Two P w (fun _ => False) (fun _ => True) p r s N wx) 29 29 rfl (by kernel_rfl) (fun _ => ?_))
        have hS : Two P w (fun _ => False) (fun _ => True) p r s N _ := O5
        clear O H
        refine wpAnyR_take (i := 0) (v := (.bool true)) rfl rfl (by kernel_rfl) (by kernel_rfl) (by kernel_rfl) (fun _ _ _ h => h) (Nat.le_refl _) ⟨by rfl, fun w _ => (by go_simp; try (first | rfl | simp)), fun _ => rfl⟩ hS ?_
        simp only [List.getElem_toArray, List.getElem_cons_zero, List.getElem_cons_succ, Act.put, List.setIfInBounds_toArray, List.set_cons_zero, List.set_cons_succ]
        refine wpAnyR_take (i := 1) (v := (.bool false)) rfl rfl (by kernel_rfl) (by kernel_rfl) (by kernel_rfl) (fun _ _ _ h => h) (Nat.le_refl _) ⟨by rfl, fun w _ => (by go_simp; try (first | rfl | simp)), fun _ => rfl⟩ hS ?_
        simp only [List.getElem_toArray, List.getElem_cons_zero, List.getElem_cons_succ, Act.put, List.setIfInBounds_toArray, List.set_cons_zero, List.set_cons_succ]
        refine wpAnyR_take (i := 2) (v := (.bool false)) rfl rfl (by kernel_rfl) (by kernel_rfl) (by kernel_rfl) (fun _ _ _ h => h) (Nat.le_refl _) ⟨by rfl, fun w _ => (by go_simp; try (first | rfl | simp)), fun _ => rfl⟩ hS ?_
        simp only [List.getElem_toArray, List.getElem_cons_zero, List.getElem_cons_succ, Act.put, List.setIfInBounds_toArray, List.set_cons_zero, List.set_cons_succ]
        refine wpAnyR_take (i := 3) (v := (.int .i64 V)) rfl rfl (by kernel_rfl) (by kernel_rfl) (by kernel_rfl) (fun _ _ _ h => h) (Nat.le_refl _) ⟨by rfl, fun w _ => (by go_simp; try (first | rfl | simp)), fun _ => rfl⟩ hS ?_
        simp only [List.getElem_toArray, List.getElem_cons_zero, List.getElem_cons_succ, Act.put, List.setIfInBounds_toArray, List.set_cons_zero, List.set_cons_succ]
        refine wpAnyR_take (i := 4) (v := (.int .i64 V)) rfl rfl (by kernel_rfl) (by kernel_rfl) (by kernel_rfl) (fun _ _ _ h => h) (Nat.le_refl _) ⟨by rfl, fun w _ => (by go_simp; try (first | rfl | simp)), fun _ => rfl⟩ hS ?_
        simp only [List.getElem_toArray, List.getElem_cons_zero, List.getElem_cons_succ, Act.put, List.setIfInBounds_toArray, List.set_cons_zero, List.set_cons_succ]
        refine wpAnyR_take (i := 5) (v := (.bool false)) rfl rfl (by kernel_rfl) (by kernel_rfl) (by kernel_rfl) (fun _ _ _ h => h) (Nat.le_refl _) ⟨by rfl, fun w _ => (by go_simp; try (first | rfl | simp)), fun _ => rfl⟩ hS ?_
        simp only [List.getElem_toArray, List.getElem_cons_zero, List.getElem_cons_succ, Act.put, List.setIfInBounds_toArray, List.set_cons_zero, List.set_cons_succ]
        refine wpAnyR_take (i := 6) (v := (.bool false)) rfl rfl (by kernel_rfl) (by kernel_rfl) (by kernel_rfl) (fun _ _ _ h => h) (Nat.le_refl _) ⟨by rfl, fun w _ => (by go_simp; try (first | rfl | simp)), fun _ => rfl⟩ hS ?_
        simp only [List.getElem_toArray, List.getElem_cons_zero, List.getElem_cons_succ, Act.put, List.setIfInBounds_toArray, List.set_cons_zero, List.set_cons_succ]
        refine wpAnyR_take (i := 7) (v := (.bool false)) rfl rfl (by kernel_rfl) (by kernel_rfl) (by kernel_rfl) (fun _ _ _ h => h) (Nat.le_refl _) ⟨by rfl, fun w _ => (by go_simp; try (first | rfl | simp)), fun _ => rfl⟩ hS ?_
        simp only [List.getElem_toArray, List.getElem_cons_zero, List.getElem_cons_succ, Act.put, List.setIfInBounds_toArray, List.set_cons_zero, List.set_cons_succ]
        refine wpAnyR_take (i := 8) (v := (.int .i64 E)) rfl rfl (by kernel_rfl) (by kernel_rfl) (by kernel_rfl) (fun _ _ _ h => h) (Nat.le_refl _) ⟨by rfl, fun w _ => (by go_simp; try (first | rfl | simp)), fun _ => rfl⟩ hS ?_
        simp only [List.getElem_toArray, List.getElem_cons_zero, List.getElem_cons_succ, Act.put, List.setIfInBounds_toArray, List.set_cons_zero, List.set_cons_succ]
        refine wpAnyR_take (i := 9) (v := (.int .i64 E)) rfl rfl (by kernel_rfl) (by kernel_rfl) (by kernel_rfl) (fun _ _ _ h => h) (Nat.le_refl _) ⟨by rfl, fun w _ => (by go_simp; try (first | rfl | simp)), fun _ => rfl⟩ hS ?_
        simp only [List.getElem_toArray, List.getElem_cons_zero, List.getElem_cons_succ, Act.put, List.setIfInBounds_toArray, List.set_cons_zero, List.set_cons_succ]
        refine wpAnyR_take (i := 10) (v := (.bool false)) rfl rfl (by kernel_rfl) (by kernel_rfl) (by kernel_rfl) (fun _ _ _ h => h) (Nat.le_refl _) ⟨by rfl, fun w _ => (by go_simp; try (first | rfl | simp)), fun _ => rfl⟩ hS ?_
        simp only [List.getElem_toArray, List.getElem_cons_zero, List.getElem_cons_succ, Act.put, List.setIfInBounds_toArray, List.set_cons_zero, List.set_cons_succ]
        refine wpAnyR_take (i := 11) (v := (.bool false)) rfl rfl (by kernel_rfl) (by kernel_rfl) (by kernel_rfl) (fun _ _ _ h => h) (Nat.le_refl _) ⟨by rfl, fun w _ => (by go_simp; try (first | rfl | simp)), fun _ => rfl⟩ hS ?_
        simp only [List.getElem_toArray, List.getElem_cons_zero, List.getElem_cons_succ, Act.put, List.setIfInBounds_toArray, List.set_cons_zero, List.set_cons_succ]
        refine wpAnyR_take (i := 12) (v := (.bool false)) rfl rfl (by kernel_rfl) (by kernel_rfl) (by kernel_rfl) (fun _ _ _ h => h) (Nat.le_refl _) ⟨by rfl, fun w _ => (by go_simp; try (first | rfl | simp)), fun _ => rfl⟩ hS ?_
        simp only [List.getElem_toArray, List.getElem_cons_zero, List.getElem_cons_succ, Act.put, List.setIfInBounds_toArray, List.set_cons_zero, List.set_cons_succ]
        refine wpAnyR_take (i := 13) (v := (.pointer (some ⟨p, 0, none⟩))) rfl rfl (by kernel_rfl) (by kernel_rfl) (by kernel_rfl) (fun _ _ _ h => h) (Nat.le_refl _) ⟨by rfl, fun w _ => (by go_simp; try (first | rfl | simp)), fun _ => rfl⟩ hS ?_
        simp only [List.getElem_toArray, List.getElem_cons_zero, List.getElem_cons_succ, Act.put, List.setIfInBounds_toArray, List.set_cons_zero, List.set_cons_succ]
        refine wpAnyR_take (i := 14) (v := (.slice (some ⟨bA, off, none⟩) len cap)) rfl rfl (by kernel_rfl) (by kernel_rfl) (by kernel_rfl) (fun _ _ _ h => h) (Nat.le_refl _) ⟨by rfl, fun w _ => (by go_simp; try (first | rfl | simp)), fun _ => rfl⟩ hS ?_
        simp only [List.getElem_toArray, List.getElem_cons_zero, List.getElem_cons_succ, Act.put, List.setIfInBounds_toArray, List.set_cons_zero, List.set_cons_succ]
        refine wpAnyR_take (i := 15) (v := (.int .i64 j)) rfl rfl (by kernel_rfl) (by kernel_rfl) (by kernel_rfl) (fun _ _ _ h => h) (Nat.le_refl _) ⟨by rfl, fun w _ => (by go_simp; try (first | rfl | simp)), fun _ => rfl⟩ hS ?_
        simp only [List.getElem_toArray, List.getElem_cons_zero, List.getElem_cons_succ, Act.put, List.setIfInBounds_toArray, List.set_cons_zero, List.set_cons_succ]
        refine wpAnyR_take (i := 16) (v := (.pointer (some ⟨bA, off + j * 5, none⟩))) rfl rfl (by kernel_rfl) (by kernel_rfl) (by kernel_rfl) (fun _ _ _ h => h) (Nat.le_refl _) ⟨by rfl, fun w _ => (by go_simp; try (first | rfl | (simp [hlt.1]; done) | (simp; omega))), fun _ => rfl⟩ hS ?_
        simp only [List.getElem_toArray, List.getElem_cons_zero, List.getElem_cons_succ, Act.put, List.setIfInBounds_toArray, List.set_cons_zero, List.set_cons_succ]
        refine wpAnyR_take (i := 17) (v := (.pointer (some ⟨bA, off + j * 5 + 1, none⟩))) rfl rfl (by kernel_rfl) (by kernel_rfl) (by kernel_rfl) (fun _ _ _ h => h) (Nat.le_refl _) ⟨by rfl, fun w _ => (by go_simp; try (first | rfl | simp)), fun _ => rfl⟩ hS ?_
        simp only [List.getElem_toArray, List.getElem_cons_zero, List.getElem_cons_succ, Act.put, List.setIfInBounds_toArray, List.set_cons_zero, List.set_cons_succ]
        refine wpAnyR_take (i := 18) (v := (.int .i64 x.i)) rfl rfl (by kernel_rfl) (by kernel_rfl) (by kernel_rfl) (fun _ _ _ h => h) (Nat.le_refl _) (yields_cellR (b := bA) (j := off + j * 5 + 1) (fun wx h => ((mem_of h.bel).old (p := ⟨bA, off + j * 5 + 1, none⟩) hb).trans c1) (by exact rfl) (by exact rfl) (by exact rfl) Try.underlying3 rfl) hS ?_
        simp only [List.getElem_toArray, List.getElem_cons_zero, List.getElem_cons_succ, Act.put, List.setIfInBounds_toArray, List.set_cons_zero, List.set_cons_succ]
        refine wpAnyR_take (i := 20) (v := (.pointer (some ⟨r, 0, none⟩))) rfl rfl (by kernel_rfl) (by kernel_rfl) (by kernel_rfl) (fun _ _ _ h => h) (Nat.le_refl _) ⟨by rfl, fun w _ => (by go_simp; try (first | rfl | simp)), fun _ => rfl⟩ hS ?_
        simp only [List.getElem_toArray, List.getElem_cons_zero, List.getElem_cons_succ, Act.put, List.setIfInBounds_toArray, List.set_cons_zero, List.set_cons_succ]
        refine wpAnyR_take (i := 21) (v := (.slice (some ⟨bA, off, none⟩) len cap)) rfl rfl (by kernel_rfl) (by kernel_rfl) (by kernel_rfl) (fun _ _ _ h => h) (Nat.le_refl _) ⟨by rfl, fun w _ => (by go_simp; try (first | rfl | simp)), fun _ => rfl⟩ hS ?_
        simp only [List.getElem_toArray, List.getElem_cons_zero, List.getElem_cons_succ, Act.put, List.setIfInBounds_toArray, List.set_cons_zero, List.set_cons_succ]
        refine wpAnyR_take (i := 22) (v := (.int .i64 j)) rfl rfl (by kernel_rfl) (by kernel_rfl) (by kernel_rfl) (fun _ _ _ h => h) (Nat.le_refl _) ⟨by rfl, fun w _ => (by go_simp; try (first | rfl | simp)), fun _ => rfl⟩ hS ?_
        simp only [List.getElem_toArray, List.getElem_cons_zero, List.getElem_cons_succ, Act.put, List.setIfInBounds_toArray, List.set_cons_zero, List.set_cons_succ]
        refine wpAnyR_take (i := 23) (v := (.pointer (some ⟨bA, off + j * 5, none⟩))) rfl rfl (by kernel_rfl) (by kernel_rfl) (by kernel_rfl) (fun _ _ _ h => h) (Nat.le_refl _) ⟨by rfl, fun w _ => (by go_simp; try (first | rfl | (simp [hlt.1]; done) | (simp; omega))), fun _ => rfl⟩ hS ?_
        simp only [List.getElem_toArray, List.getElem_cons_zero, List.getElem_cons_succ, Act.put, List.setIfInBounds_toArray, List.set_cons_zero, List.set_cons_succ]
        refine wpAnyR_take (i := 24) (v := (.pointer (some ⟨bA, off + j * 5 + 1, none⟩))) rfl rfl (by kernel_rfl) (by kernel_rfl) (by kernel_rfl) (fun _ _ _ h => h) (Nat.le_refl _) ⟨by rfl, fun w _ => (by go_simp; try (first | rfl | simp)), fun _ => rfl⟩ hS ?_
        simp only [List.getElem_toArray, List.getElem_cons_zero, List.getElem_cons_succ, Act.put, List.setIfInBounds_toArray, List.set_cons_zero, List.set_cons_succ]
        refine wpAnyR_take (i := 25) (v := (.int .i64 x.i)) rfl rfl (by kernel_rfl) (by kernel_rfl) (by kernel_rfl) (fun _ _ _ h => h) (Nat.le_refl _) (yields_cellR (b := bA) (j := off + j * 5 + 1) (fun wx h => ((mem_of h.bel).old (p := ⟨bA, off + j * 5 + 1, none⟩) hb).trans c1) (by exact rfl) (by exact rfl) (by exact rfl) Try.underlying3 rfl) hS ?_
        simp only [List.getElem_toArray, List.getElem_cons_zero, List.getElem_cons_succ, Act.put, List.setIfInBounds_toArray, List.set_cons_zero, List.set_cons_succ]
        refine wpAnyG_one (i := 19) (by kernel_rfl) rfl (fun K hK => ?_)
        go_simp
        refine ⟨trivial, (callsIn_wide.2 (k3 _ O5)).mono ?_⟩
        rintro e w5 ⟨rfl, O6⟩
        refine hK _ _ (.inr O6) ?_
        clear hK K hS O5
        have O5 := O6
        clear O6
        have hS : Two P w (fun _ => False) (fun _ => True) p r s N _ := O5
        try simp only [List.getElem_toArray, List.getElem_cons_zero, List.getElem_cons_succ, Act.put, List.setIfInBounds_toArray, List.set_cons_zero, List.set_cons_succ]
        refine wpAnyG_one (i := 26) (by kernel_rfl) rfl (fun K hK => ?_)
        go_simp
        refine ⟨trivial, (callsIn_wide.2 (k4 _ O5)).mono ?_⟩
        rintro e w5 ⟨rfl, O6⟩
        refine hK _ _ (.inr O6) ?_
        clear hK K hS O5
        have O5 := O6
        clear O6
        have hS : Two P w (fun _ => False) (fun _ => True) p r s N _ := O5
        try simp only [List.getElem_toArray, List.getElem_cons_zero, List.getElem_cons_succ, Act.put, List.setIfInBounds_toArray, List.set_cons_zero, List.set_cons_succ]
        refine wpAnyR_take (i := 27) (v := (.bool false)) rfl rfl (by kernel_rfl) (by kernel_rfl) (by kernel_rfl) (fun _ _ _ h => h) (Nat.le_refl _) ⟨by rfl, fun w _ => (by go_simp; try (first | rfl | simp)), fun _ => rfl⟩ hS ?_
        simp only [List.getElem_toArray, List.getElem_cons_zero, List.getElem_cons_succ, Act.put, List.setIfInBounds_toArray, List.set_cons_zero, List.set_cons_succ]
        refine wpAnyR_take (i := 28) (v := (.bool false)) rfl rfl (by kernel_rfl) (by kernel_rfl) (by kernel_rfl) (fun _ _ _ h => h) (Nat.le_refl _) ⟨by rfl, fun w _ => (by go_simp; try (first | rfl | simp)), fun _ => rfl⟩ hS ?_
        simp only [List.getElem_toArray, List.getElem_cons_zero, List.getElem_cons_succ, Act.put, List.setIfInBounds_toArray, List.set_cons_zero, List.set_cons_succ]
        refine wpAnyG_done (by kernel_rfl) ?_ _
        clear hS
        have HO5 := Lib.hid O5
        clear O5
        go_wp2
        go_roundw
        case rel => exact ⟨j + 1, by omega, by omega, by go_num, Lib.hid ⟨s, N, by have := HN.out; omega, HO5.out⟩⟩
        case measure => simp [intOf]; omega
      · by_cases hl2 : j < len
        · have t1 : decide ((j : Int) < (len : Int)) = true := decide_eq_true (by omega)
          have t2 : decide ((j : Int) < 80) = false := decide_eq_false (by omega)
          go_wp2
          go_ret
          exact ⟨rfl, HJ.out.bel⟩
        · have t1 : decide ((j : Int) < (len : Int)) = false := decide_eq_false (by omega)
          go_wp2
          go_ret
          exact ⟨rfl, HJ.out.bel⟩
end
end Go.Proofs.Ytoajgaljccaccaa.Ce
end
