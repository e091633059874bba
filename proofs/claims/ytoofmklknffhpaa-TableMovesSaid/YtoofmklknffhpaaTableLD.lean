/-
  TableMoves, walked over the contracts of the program's functions. Conditions: the tables lie where their values say.
-/
import Derived.Test.YtoofmklknffhpaaTableLC
namespace Go.Proofs.Ytoofmklknffhpaa
set_option linter.unusedSimpArgs false
set_option linter.unusedVariables false
open Go.ChangeShapes Go.WideShapes Go.ChangeAt Go.RowKit

theorem moved_len (a b : TB) : (movedL a b).length ≤ 64 := by
  unfold movedL
  split
  · have := movedTo_len a b 16
    omega
  · simp
set_option maxRecDepth 100000 in
set_option maxHeartbeats 2000000 in
theorem moves_w (A1 A2 A3 A4 : Option Addr) (c1 c2 c3 c4 : Nat) (a b : TB) (w : World) (ha : TbAt w.heap.size w A1 A2 c1 c2 a) (hb : TbAt w.heap.size w A3 A4 c3 c4 b) : Calls Try.prog 6 #[.agg (tbC A1 A2 c1 c2 a), .agg (tbC A3 A4 c3 c4 b)] w fun e w' => e = .returned (.bool true) ∧ Below w.heap.size w w' := by
  have H := Mem.start w
  have Ta := Lib.hid ha
  have Tb := Lib.hid hb
  have hfa := cut_few a
  have hfb := cut_few b
  have ca := fun w h => cut_p A1 A2 c1 c2 a w h
  have cb := fun w h => cut_p A3 A4 c3 c4 b w h
  obtain ⟨a', ha'⟩ : ∃ t', a.cut = t' := ⟨_, rfl⟩
  obtain ⟨b', hb'⟩ : ∃ t', b.cut = t' := ⟨_, rfl⟩
  have ha2 := ha.cut
  have hb2 := hb.cut
  rw [ha'] at hfa ca ha2
  rw [hb'] at hfb cb hb2
  have Sa := Lib.hid ha2
  have Sb := Lib.hid hb2
  clear ha hb ha2 hb2 ha' hb'
  have k1 := fun w h h' => moved_p A1 A2 A3 A4 c1 c2 c3 c4 a' b' w h h' hfa hfb
  have k2 := fun w h h' => moved_r A1 A2 A3 A4 c1 c2 c3 c4 a' b' w h h'
  have hn4 := moved_len a' b'
  obtain ⟨E, hE⟩ : ∃ E, movedE a' b' = E := ⟨_, rfl⟩
  obtain ⟨l, hl⟩ : ∃ l, movedL a' b' = l := ⟨_, rfl⟩
  rw [hl] at hn4
  obtain ⟨n, hn⟩ : ∃ n, l.length = n := ⟨_, rfl⟩
  rw [hn] at hn4
  rw [hE] at k1 k2
  unfold GivesInts at k1 k2
  simp only [hl] at k1 k2
  simp only [hn] at k1 k2
  clear hn hE hl hfa hfb
  go_enter Try.func6, Try.ntmps6
  go_upto_region 1 with (first
    | ((with_reducible show wpList _ _ _ _ _ (World.alloc _ (.cells _ _))); refine mem_newb (l := []) H ?_; intro ba w3 hbk H2; try rw [← hbk]; clear hbk H; have H := H2; clear H2; simp only [List.cons_append, List.nil_append, List.set_cons_zero, List.set_cons_succ, List.setIfInBounds_toArray] at H)
    | ((with_reducible show wpList _ _ _ _ _ (World.alloc _ (.cells _ _))); refine mem_newb (l := [_]) H ?_; intro bb w3 hbk H2; try rw [← hbk]; clear hbk H; have H := H2; clear H2; simp only [List.cons_append, List.nil_append, List.set_cons_zero, List.set_cons_succ, List.setIfInBounds_toArray] at H))
  go_upto_region 2 with (first
    | (go_at_call 11; with_reducible refine (shown_p _).mono ?_; rintro e w2 ⟨rfl, hb⟩; have H2 := H.call hb; clear H hb; have H := H2; clear H2))
  have HBa := Lib.hid (H.at 0 rfl)
  have HBb := Lib.hid (H.at 1 rfl)
  have Ta2 := Lib.hid (Ta.out.mem H)
  have Tb2 := Lib.hid (Tb.out.mem H)
  have Sa2 := Lib.hid (Sa.out.mem H)
  have Sb2 := Lib.hid (Sb.out.mem H)
  have HH := Lib.hid H
  clear H
  refine region_mem (Mem.start w2) 10 rfl (by kernel_rfl) (fun wr hS => ?_)
  refine wpAnyR_take (i := 0) (v := (.agg (tbC A1 A2 c1 c2 a))) rfl rfl (by kernel_rfl) (by kernel_rfl) (by kernel_rfl) (fun _ _ _ h => h) (Nat.le_refl _) (yields_held (fun w h => (HBa.out.below (Mem.below h) HBa.out.lt)) (by exact rfl) (by exact rfl) (by exact rfl) Try.underlying25 rfl (by exact tbInfo)) hS ?_
  simp only [List.getElem_toArray, List.getElem_cons_zero, List.getElem_cons_succ, Act.put, List.setIfInBounds_toArray, List.set_cons_zero, List.set_cons_succ]
  refine wpAnyR_take (i := 2) (v := (.agg (tbC A3 A4 c3 c4 b))) rfl rfl (by kernel_rfl) (by kernel_rfl) (by kernel_rfl) (fun _ _ _ h => h) (Nat.le_refl _) (yields_held (fun w h => (HBb.out.below (Mem.below h) HBb.out.lt)) (by exact rfl) (by exact rfl) (by exact rfl) Try.underlying25 rfl (by exact tbInfo)) hS ?_
  simp only [List.getElem_toArray, List.getElem_cons_zero, List.getElem_cons_succ, Act.put, List.setIfInBounds_toArray, List.set_cons_zero, List.set_cons_succ]
  refine wpAnyG_one (i := 1) (by kernel_rfl) rfl (fun K hK => ?_)
  go_simp
  refine ⟨trivial, (callsIn_wide.2 (ca _ (Ta2.out.mem hS))).mono ?_⟩
  rintro e w5 ⟨rfl, hb⟩
  have hS5 := hS.call hb
  refine hK _ _ (.inr hS5) ?_
  clear hK K hS hb
  have hS := hS5
  clear hS5
  try simp only [List.getElem_toArray, List.getElem_cons_zero, List.getElem_cons_succ, Act.put, List.setIfInBounds_toArray, List.set_cons_zero, List.set_cons_succ]
  refine wpAnyG_one (i := 3) (by kernel_rfl) rfl (fun K hK => ?_)
  go_simp
  refine ⟨trivial, (callsIn_wide.2 (cb _ (Tb2.out.mem hS))).mono ?_⟩
  rintro e w5 ⟨rfl, hb⟩
  have hS5 := hS.call hb
  refine hK _ _ (.inr hS5) ?_
  clear hK K hS hb
  have hS := hS5
  clear hS5
  try simp only [List.getElem_toArray, List.getElem_cons_zero, List.getElem_cons_succ, Act.put, List.setIfInBounds_toArray, List.set_cons_zero, List.set_cons_succ]
  refine wpAnyG_one (i := 4) (by kernel_rfl) rfl (fun K hK => ?_)
  go_simp
  refine ⟨trivial, (callsIn_wide.2 (k1 _ (Sa2.out.mem hS) (Sb2.out.mem hS))).mono ?_⟩
  rintro e w5 ⟨v1, rfl, R, hb⟩
  obtain ⟨Av1, dv1, rfl, hdv1, LL⟩ := lies_of_own R
  have Lv1 := Lib.hid LL
  have hS5 := hS.call hb
  refine hK _ _ (.inr hS5) ?_
  clear hK K hS hb R LL
  have hS := hS5
  clear hS5
  try simp only [List.getElem_toArray, List.getElem_cons_zero, List.getElem_cons_succ, Act.put, List.setIfInBounds_toArray, List.set_cons_zero, List.set_cons_succ]
  refine wpAnyR_take (i := 5) (v := (.tuple #[.slice Av1 n dv1, .int .i64 E])) rfl rfl (by kernel_rfl) (by kernel_rfl) (by kernel_rfl) (fun _ _ _ h => h) (Nat.le_refl _) ⟨by rfl, fun w _ => (by go_simp; try (first | rfl | omega)), fun _ => rfl⟩ hS ?_
  simp only [List.getElem_toArray, List.getElem_cons_zero, List.getElem_cons_succ, Act.put, List.setIfInBounds_toArray, List.set_cons_zero, List.set_cons_succ]
  refine wpAnyR_take (i := 6) (v := (.slice Av1 n dv1)) rfl rfl (by kernel_rfl) (by kernel_rfl) (by kernel_rfl) (fun _ _ _ h => h) (Nat.le_refl _) ⟨by rfl, fun w _ => (by go_simp; try (first | rfl | omega)), fun _ => rfl⟩ hS ?_
  simp only [List.getElem_toArray, List.getElem_cons_zero, List.getElem_cons_succ, Act.put, List.setIfInBounds_toArray, List.set_cons_zero, List.set_cons_succ]
  refine wpAnyR_take (i := 7) (v := (.int .i64 E)) rfl rfl (by kernel_rfl) (by kernel_rfl) (by kernel_rfl) (fun _ _ _ h => h) (Nat.le_refl _) ⟨by rfl, fun w _ => (by go_simp; try (first | rfl | omega)), fun _ => rfl⟩ hS ?_
  simp only [List.getElem_toArray, List.getElem_cons_zero, List.getElem_cons_succ, Act.put, List.setIfInBounds_toArray, List.set_cons_zero, List.set_cons_succ]
  refine wpAnyR_take (i := 8) (v := (.slice Av1 n dv1)) rfl rfl (by kernel_rfl) (by kernel_rfl) (by kernel_rfl) (fun _ _ _ h => h) (Nat.le_refl _) ⟨by rfl, fun w _ => (by go_simp; try (first | rfl | omega)), fun _ => rfl⟩ hS ?_
  simp only [List.getElem_toArray, List.getElem_cons_zero, List.getElem_cons_succ, Act.put, List.setIfInBounds_toArray, List.set_cons_zero, List.set_cons_succ]
  refine wpAnyG_one (i := 9) (by kernel_rfl) rfl (fun K hK => ?_)
  go_simp
  refine hK _ _ (.inr hS) ?_
  clear hK K
  refine wpAnyG_done (by kernel_rfl) ?_ _
  have H := HH.out.call hS.below
  clear HBa HBb Ta2 Tb2 Sa2 Sb2 HH hS
  go_wp2
  have HBa := Lib.hid (H.at 0 rfl)
  have HBb := Lib.hid (H.at 1 rfl)
  have Ta2 := Lib.hid (Ta.out.mem H)
  have Tb2 := Lib.hid (Tb.out.mem H)
  have Sa2 := Lib.hid (Sa.out.mem H)
  have Sb2 := Lib.hid (Sb.out.mem H)
  have HH := Lib.hid H
  clear H
  refine region_mem (Mem.start w5) 10 rfl (by kernel_rfl) (fun wr hS => ?_)
  refine wpAnyR_take (i := 0) (v := (.agg (tbC A1 A2 c1 c2 a))) rfl rfl (by kernel_rfl) (by kernel_rfl) (by kernel_rfl) (fun _ _ _ h => h) (Nat.le_refl _) (yields_held (fun w h => (HBa.out.below (Mem.below h) HBa.out.lt)) (by exact rfl) (by exact rfl) (by exact rfl) Try.underlying25 rfl (by exact tbInfo)) hS ?_
  simp only [List.getElem_toArray, List.getElem_cons_zero, List.getElem_cons_succ, Act.put, List.setIfInBounds_toArray, List.set_cons_zero, List.set_cons_succ]
  refine wpAnyR_take (i := 2) (v := (.agg (tbC A3 A4 c3 c4 b))) rfl rfl (by kernel_rfl) (by kernel_rfl) (by kernel_rfl) (fun _ _ _ h => h) (Nat.le_refl _) (yields_held (fun w h => (HBb.out.below (Mem.below h) HBb.out.lt)) (by exact rfl) (by exact rfl) (by exact rfl) Try.underlying25 rfl (by exact tbInfo)) hS ?_
  simp only [List.getElem_toArray, List.getElem_cons_zero, List.getElem_cons_succ, Act.put, List.setIfInBounds_toArray, List.set_cons_zero, List.set_cons_succ]
  refine wpAnyG_one (i := 1) (by kernel_rfl) rfl (fun K hK => ?_)
  go_simp
  refine ⟨trivial, (callsIn_wide.2 (ca _ (Ta2.out.mem hS))).mono ?_⟩
  rintro e w5 ⟨rfl, hb⟩
  have hS5 := hS.call hb
  refine hK _ _ (.inr hS5) ?_
  clear hK K hS hb
  have hS := hS5
  clear hS5
  try simp only [List.getElem_toArray, List.getElem_cons_zero, List.getElem_cons_succ, Act.put, List.setIfInBounds_toArray, List.set_cons_zero, List.set_cons_succ]
  refine wpAnyG_one (i := 3) (by kernel_rfl) rfl (fun K hK => ?_)
  go_simp
  refine ⟨trivial, (callsIn_wide.2 (cb _ (Tb2.out.mem hS))).mono ?_⟩
  rintro e w5 ⟨rfl, hb⟩
  have hS5 := hS.call hb
  refine hK _ _ (.inr hS5) ?_
  clear hK K hS hb
  have hS := hS5
  clear hS5
  try simp only [List.getElem_toArray, List.getElem_cons_zero, List.getElem_cons_succ, Act.put, List.setIfInBounds_toArray, List.set_cons_zero, List.set_cons_succ]
  refine wpAnyG_one (i := 4) (by kernel_rfl) rfl (fun K hK => ?_)
  go_simp
  refine ⟨trivial, (callsIn_wide.2 (k2 _ (Sa2.out.mem hS) (Sb2.out.mem hS))).mono ?_⟩
  rintro e w5 ⟨v2, rfl, R, hb⟩
  obtain ⟨Av2, dv2, rfl, hdv2, LL⟩ := lies_of_own R
  have Lv2 := Lib.hid LL
  have hS5 := hS.call hb
  refine hK _ _ (.inr hS5) ?_
  clear hK K hS hb R LL
  have hS := hS5
  clear hS5
  try simp only [List.getElem_toArray, List.getElem_cons_zero, List.getElem_cons_succ, Act.put, List.setIfInBounds_toArray, List.set_cons_zero, List.set_cons_succ]
  refine wpAnyR_take (i := 5) (v := (.tuple #[.slice Av2 n dv2, .int .i64 E])) rfl rfl (by kernel_rfl) (by kernel_rfl) (by kernel_rfl) (fun _ _ _ h => h) (Nat.le_refl _) ⟨by rfl, fun w _ => (by go_simp; try (first | rfl | omega)), fun _ => rfl⟩ hS ?_
  simp only [List.getElem_toArray, List.getElem_cons_zero, List.getElem_cons_succ, Act.put, List.setIfInBounds_toArray, List.set_cons_zero, List.set_cons_succ]
  refine wpAnyR_take (i := 6) (v := (.slice Av2 n dv2)) rfl rfl (by kernel_rfl) (by kernel_rfl) (by kernel_rfl) (fun _ _ _ h => h) (Nat.le_refl _) ⟨by rfl, fun w _ => (by go_simp; try (first | rfl | omega)), fun _ => rfl⟩ hS ?_
  simp only [List.getElem_toArray, List.getElem_cons_zero, List.getElem_cons_succ, Act.put, List.setIfInBounds_toArray, List.set_cons_zero, List.set_cons_succ]
  refine wpAnyR_take (i := 7) (v := (.int .i64 E)) rfl rfl (by kernel_rfl) (by kernel_rfl) (by kernel_rfl) (fun _ _ _ h => h) (Nat.le_refl _) ⟨by rfl, fun w _ => (by go_simp; try (first | rfl | omega)), fun _ => rfl⟩ hS ?_
  simp only [List.getElem_toArray, List.getElem_cons_zero, List.getElem_cons_succ, Act.put, List.setIfInBounds_toArray, List.set_cons_zero, List.set_cons_succ]
  refine wpAnyR_take (i := 8) (v := (.slice Av2 n dv2)) rfl rfl (by kernel_rfl) (by kernel_rfl) (by kernel_rfl) (fun _ _ _ h => h) (Nat.le_refl _) ⟨by rfl, fun w _ => (by go_simp; try (first | rfl | omega)), fun _ => rfl⟩ hS ?_
  simp only [List.getElem_toArray, List.getElem_cons_zero, List.getElem_cons_succ, Act.put, List.setIfInBounds_toArray, List.set_cons_zero, List.set_cons_succ]
  refine wpAnyG_one (i := 9) (by kernel_rfl) rfl (fun K hK => ?_)
  go_simp
  refine hK _ _ (.inr hS) ?_
  clear hK K
  refine wpAnyG_done (by kernel_rfl) ?_ _
  have H := HH.out.call hS.below
  have LL := Lib.hid (lies_below Lv1.out hS.below)
  clear Lv1
  have Lv1 := LL
  clear LL
  clear HBa HBb Ta2 Tb2 Sa2 Sb2 HH hS
  go_wp2_with (first
    | (go_at_call 17; refine (same_p _ _ n dv1 dv2 _ _ (by omega) (lies_below Lv1.out (below_draws _ 0)) (lies_below Lv2.out (below_draws _ 0)) hdv1 hdv2).mono ?_; rintro e w2 ⟨rfl, hb⟩; have H2 := H.call hb; clear H hb; have H := H2; clear H2))
  go_ret
  exact ⟨by simp, H.below⟩
end Go.Proofs.Ytoofmklknffhpaa
