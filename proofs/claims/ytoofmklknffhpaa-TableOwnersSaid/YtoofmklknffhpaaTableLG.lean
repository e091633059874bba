/-
  TableOwners, walked over the contracts of the program's functions. Conditions: the table lies where its value says.
-/
import Derived.Test.YtoofmklknffhpaaTableLC
namespace Go.Proofs.Ytoofmklknffhpaa
set_option linter.unusedSimpArgs false
set_option linter.unusedVariables false
open Go.ChangeShapes Go.WideShapes Go.ChangeAt Go.RowKit

/-- a queue of a span -/
theorem owners_of {t : TB} (hr : t.right = true) {i : Nat} {s : Int × Int} (hs : t.sp[i]? = some s) {k : Nat} (hk : (k : Int) < s.2) : t.ownV (s.1 + k) = i ∧ t.ownE (s.1 + k) = 0 := by
  have ho := (TB.right_iff t).1 hr
  have hb := ho.s _ (List.mem_of_getElem? hs)
  obtain ⟨X, hX⟩ := Int.eq_ofNat_of_zero_le (show 0 ≤ s.1 + k by omega)
  have hin : inB (X : Int) s = true := by
    simp only [inB, Bool.and_eq_true, decide_eq_true_eq]
    omega
  have h := own_of_in (ho.o X (by omega)) hs hin
  rw [hX]
  constructor
  · rw [TB.ownV, if_pos ⟨hr, by omega, by omega⟩]
    exact h
  · rw [TB.ownE, if_pos hr, if_pos (by omega)]
theorem idle_mem {t : TB} (hr : t.right = true) {k : Nat} (hk : (k : Int) < t.q) : ((k : Int) ∈ t.idle) ↔ t.ownV k = -1 := by
  have hq := ((TB.right_iff t).1 hr).q
  rw [TB.idle, if_pos hr, TB.ownV, if_pos ⟨hr, by omega, hk⟩, ← ownAt_neg]
  unfold idleTo
  simp only [List.mem_map, List.mem_filter, List.mem_range, decide_eq_true_eq]
  constructor
  · rintro ⟨j, ⟨h1, h2⟩, h3⟩
    have : j = k := by
      have h3' : (j : Int) = k := h3
      omega
    rw [this] at h2
    exact h2
  · intro h
    exact ⟨k, ⟨by omega, h⟩, rfl⟩
set_option maxRecDepth 100000 in
set_option maxHeartbeats 2000000 in
theorem owners_w (A1 A2 : Option Addr) (c1 c2 : Nat) (t : TB) (w : World) (ht : TbAt w.heap.size w A1 A2 c1 c2 t) : Calls Try.prog 7 #[.agg (tbC A1 A2 c1 c2 t)] w fun e w' => e = .returned (.bool true) ∧ Below w.heap.size w w' := by
  have H := Mem.start w
  have T := Lib.hid ht
  have hf := cut_few t
  have cc := fun w h => cut_p A1 A2 c1 c2 t w h
  obtain ⟨t', ht'⟩ : ∃ t', t.cut = t' := ⟨_, rfl⟩
  have hT2 := ht.cut
  rw [ht'] at hf cc hT2
  have S := Lib.hid hT2
  clear ht hT2 ht'
  have cr := fun w h => right_p A1 A2 c1 c2 t' w h hf
  unfold RightP at cr
  rcases hr : t'.right with _ | _
  · rw [hr] at cr
    clear hr hf
    go_enter Try.func7, Try.ntmps7
    go_upto_region 1 with (first
    | ((with_reducible show wpList _ _ _ _ _ (World.alloc _ (.cells _ _))); refine mem_newb H ?_; intro b w3 hbk H2; try rw [← hbk]; clear hbk H; have H := H2; clear H2; simp only [List.cons_append, List.nil_append, List.set_cons_zero, List.set_cons_succ, List.setIfInBounds_toArray] at H))
    go_upto_region 3 with (first
    | ((with_reducible show wpList _ _ _ (⟨_, .load 25 _, _, _, _, _⟩ :: _) _ _); refine mem_load (i := 0) H (by first | exact wanted_none rfl | exact wanted_some rfl rfl rfl rfl) (by exact rfl) (by exact rfl) (by exact rfl) Try.underlying25 rfl (by exact tbInfo) ?_)
    | (go_at_call 11; with_reducible refine (shown_p _).mono ?_; rintro e w2 ⟨rfl, hb⟩; have H2 := H.call hb; clear H hb; have H := H2; clear H2)
    | (go_at_call 12; with_reducible refine (cc _ (T.out.mem H)).mono ?_; rintro e w2 ⟨rfl, hb⟩; have H2 := H.call hb; clear H hb; have H := H2; clear H2)
    | ((with_reducible show wpList _ _ _ (⟨_, .store 25 _ _, _, _, _, _⟩ :: _) _ _); refine mem_store (i := 0) H (by first | exact wanted_none rfl | exact wanted_some rfl rfl rfl rfl) (by exact rfl) (by exact rfl) (by exact rfl) (by exact rfl) (by exact tbInfo) (by exact rfl) (by exact rfl) ?_; intro w2 H2; clear H; have H := H2; clear H2; simp only [List.cons_append, List.nil_append, List.set_cons_zero, List.set_cons_succ, List.setIfInBounds_toArray] at H))
    go_wp2_with (first
    | go_skip
    | ((with_reducible show wpList _ _ _ (⟨_, .load 25 _, _, _, _, _⟩ :: _) _ _); refine mem_load (i := 0) H (by first | exact wanted_none rfl | exact wanted_some rfl rfl rfl rfl) (by exact rfl) (by exact rfl) (by exact rfl) Try.underlying25 rfl (by exact tbInfo) ?_)
    | (go_at_call 15; with_reducible refine (cr _ (S.out.mem H)).mono ?_; rintro e w2 ⟨rfl, hb⟩; have H2 := H.call hb; clear H hb; have H := H2; clear H2))
    go_ret
    exact ⟨by simp, H.below⟩
  rw [hr] at cr
  have ki := fun w h => idle_p A1 A2 c1 c2 t' w h hf
  have hE : t'.idleE = 0 := if_pos hr
  rw [hE] at ki
  unfold GivesInts at ki
  have hn4 := idle_len t' hf
  have ow := fun p w h => owner_p A1 A2 c1 c2 t' p w h hf
  have HK := Lib.hid ((TB.right_iff t').1 hr)
  have hq := HK.out.q
  have HO := Lib.hid (fun i s (hs : t'.sp[i]? = some s) k hk => owners_of hr hs (k := k) hk)
  have HI := Lib.hid (fun k hk => idle_mem hr (k := k) hk)
  have HE := Lib.hid (show ∀ k : Nat, (k : Int) < t'.q → t'.ownE k = 0 from fun k hk => by rw [TB.ownE, if_pos hr, if_pos (by omega)])
  have l1 := S.out.l1
  have l2 := S.out.l2
  have m2 := S.out.m2
  unfold maxLen at m2
  clear hr hf hE
  unfold tbC at *
  go_enter Try.func7, Try.ntmps7
  go_upto_region 1 with (first
    | ((with_reducible show wpList _ _ _ _ _ (World.alloc _ (.cells _ _))); refine mem_newb H ?_; intro b w3 hbk H2; try rw [← hbk]; clear hbk H; have H := H2; clear H2; simp only [List.cons_append, List.nil_append, List.set_cons_zero, List.set_cons_succ, List.setIfInBounds_toArray] at H))
  go_upto_region 3 with (first
    | ((with_reducible show wpList _ _ _ (⟨_, .load 25 _, _, _, _, _⟩ :: _) _ _); refine mem_load (i := 0) H (by first | exact wanted_none rfl | exact wanted_some rfl rfl rfl rfl) (by exact rfl) (by exact rfl) (by exact rfl) Try.underlying25 rfl (by exact tbInfo) ?_)
    | (go_at_call 11; with_reducible refine (shown_p _).mono ?_; rintro e w2 ⟨rfl, hb⟩; have H2 := H.call hb; clear H hb; have H := H2; clear H2)
    | (go_at_call 12; with_reducible refine (cc _ (T.out.mem H)).mono ?_; rintro e w2 ⟨rfl, hb⟩; have H2 := H.call hb; clear H hb; have H := H2; clear H2)
    | ((with_reducible show wpList _ _ _ (⟨_, .store 25 _ _, _, _, _, _⟩ :: _) _ _); refine mem_store (i := 0) H (by first | exact wanted_none rfl | exact wanted_some rfl rfl rfl rfl) (by exact rfl) (by exact rfl) (by exact rfl) (by exact rfl) (by exact tbInfo) (by exact rfl) (by exact rfl) ?_; intro w2 H2; clear H; have H := H2; clear H2; simp only [List.cons_append, List.nil_append, List.set_cons_zero, List.set_cons_succ, List.setIfInBounds_toArray] at H))
  go_upto_region 5 with (first
    | ((with_reducible show wpList _ _ _ (⟨_, .load 25 _, _, _, _, _⟩ :: _) _ _); refine mem_load (i := 0) H (by first | exact wanted_none rfl | exact wanted_some rfl rfl rfl rfl) (by exact rfl) (by exact rfl) (by exact rfl) Try.underlying25 rfl (by exact tbInfo) ?_)
    | (go_at_call 15; go_loud (with_reducible refine (cr _ (S.out.mem H)).mono ?_); rintro e w2 ⟨rfl, hb⟩; have H2 := H.call hb; clear H hb; have H := H2; clear H2))
  go_wp2
  clear cr cc
  go_loopw [4] (fun v wr => ∃ i : Nat, i ≤ t'.sp.length ∧ v = .int .i64 i ∧ Mem w wr [(b, 25, #[.int .i64 t'.q, .slice A1 t'.cl.length c1, .slice A2 t'.sp.length c2])]) (fun v _ => t'.sp.length - (intOf v).toNat)
  case atStart => exact ⟨0, Nat.zero_le _, rfl, H⟩
  case round =>
    clear H
    obtain ⟨i, hi, rfl, H⟩ := hrel
    by_cases hlt : i < t'.sp.length
    · go_wp2_with (first
      | ((with_reducible show wpList _ _ _ (⟨_, .load _ _, _, _, _, _⟩ :: _) _ _); refine mem_loadf (i := 0) H (by first | exact wanted_none rfl | exact wanted_some rfl rfl rfl rfl) (by exact rfl) (by exact rfl) (by exact rfl) (by first | exact Try.underlying3 | exact Try.underlying22 | exact Try.underlying23) rfl (by exact rfl) ?_))
      obtain ⟨s, hs⟩ : ∃ s, t'.sp[i]? = some s := ⟨t'.sp[i]'hlt, List.getElem?_eq_getElem _⟩
      obtain ⟨b3, o3, hA2, hB, ca0, cb0⟩ := S.out.sp i s hs
      subst hA2
      have hb := HK.out.s _ (List.mem_of_getElem? hs)
      obtain ⟨X, hX⟩ := Int.eq_ofNat_of_zero_le hb.1
      obtain ⟨Y, hY⟩ := Int.eq_ofNat_of_zero_le (show 0 ≤ s.2 by omega)
      have HS := Lib.hid hs
      rw [hX] at ca0 hb
      rw [hY] at cb0 hb
      have HX := Lib.hid (And.intro hX hY)
      have CB := Lib.hid cb0
      clear hs hX hY cb0
      go_loopw [5] (fun v wr => ∃ k : Nat, k ≤ Y ∧ v = .int .i64 k ∧ Mem w wr [(b, 25, #[.int .i64 t'.q, .slice A1 t'.cl.length c1, .slice (some ⟨b3, o3, none⟩) t'.sp.length c2])]) (fun v _ => Y - (intOf v).toNat)
      case atStart => exact ⟨0, Nat.zero_le _, rfl, H⟩
      case round =>
        clear H
        obtain ⟨k, hk, rfl, H⟩ := hrel
        have cb := (H.old hB).trans CB.out
        by_cases hlk : k < Y
        · have ho := HO.out i s HS.out k (by have := HX.out.2; omega)
          rw [HX.out.1] at ho
          have ko := fun w h => ow ((X : Int) + k) w h
          rw [ho.1, ho.2] at ko
          clear ho
          go_wp2_with (first
          | ((with_reducible show wpList _ _ _ (⟨_, .load _ _, _, _, _, _⟩ :: _) _ _); refine mem_loadf (i := 0) H (by first | exact wanted_none rfl | exact wanted_some rfl rfl rfl rfl) (by exact rfl) (by exact rfl) (by exact rfl) (by first | exact Try.underlying3 | exact Try.underlying22 | exact Try.underlying23) rfl (by exact rfl) ?_))
          refine region_mem H 15 rfl (by kernel_rfl) (fun wr2 hS => ?_)
          clear H
          refine wpAnyR_take (i := 0) (v := (.agg #[.int .i64 t'.q, .slice A1 t'.cl.length c1, .slice (some ⟨b3, o3, none⟩) t'.sp.length c2])) rfl rfl (by kernel_rfl) (by kernel_rfl) (by kernel_rfl) (fun _ _ _ h => h) (Nat.le_refl _) (yields_held (fun w h => h.at 0 rfl) (by exact rfl) (by exact rfl) (by exact rfl) Try.underlying25 rfl (by exact tbInfo)) hS ?_
          simp only [List.getElem_toArray, List.getElem_cons_zero, List.getElem_cons_succ, Act.put, List.setIfInBounds_toArray, List.set_cons_zero, List.set_cons_succ]
          refine wpAnyR_take (i := 1) (v := (.pointer (some ⟨b, 2, none⟩))) rfl rfl (by kernel_rfl) (by kernel_rfl) (by kernel_rfl) (fun _ _ _ h => h) (Nat.le_refl _) ⟨by rfl, fun w _ => (by go_simp; try (first | rfl | omega)), fun _ => rfl⟩ hS ?_
          simp only [List.getElem_toArray, List.getElem_cons_zero, List.getElem_cons_succ, Act.put, List.setIfInBounds_toArray, List.set_cons_zero, List.set_cons_succ]
          refine wpAnyR_take (i := 2) (v := (.slice (some ⟨b3, o3, none⟩) t'.sp.length c2)) rfl rfl (by kernel_rfl) (by kernel_rfl) (by kernel_rfl) (fun _ _ _ h => h) (Nat.le_refl _) (yields_fld (fun w h => h.at 0 rfl) (by exact rfl) (by exact rfl) (by exact rfl) Try.underlying23 rfl (by exact rfl)) hS ?_
          simp only [List.getElem_toArray, List.getElem_cons_zero, List.getElem_cons_succ, Act.put, List.setIfInBounds_toArray, List.set_cons_zero, List.set_cons_succ]
          refine wpAnyR_take (i := 3) (v := (.int .i64 (i : Int))) rfl rfl (by kernel_rfl) (by kernel_rfl) (by kernel_rfl) (fun _ _ _ h => h) (Nat.le_refl _) ⟨by rfl, fun w _ => (by go_simp; try (first | rfl | omega)), fun _ => rfl⟩ hS ?_
          simp only [List.getElem_toArray, List.getElem_cons_zero, List.getElem_cons_succ, Act.put, List.setIfInBounds_toArray, List.set_cons_zero, List.set_cons_succ]
          refine wpAnyR_take (i := 4) (v := (.pointer (some ⟨b3, o3 + i * 2, none⟩))) rfl rfl (by kernel_rfl) (by kernel_rfl) (by kernel_rfl) (fun _ _ _ h => h) (Nat.le_refl _) ⟨by rfl, fun w _ => (by go_simp; try (first | rfl | omega)), fun _ => rfl⟩ hS ?_
          simp only [List.getElem_toArray, List.getElem_cons_zero, List.getElem_cons_succ, Act.put, List.setIfInBounds_toArray, List.set_cons_zero, List.set_cons_succ]
          refine wpAnyR_take (i := 5) (v := (.pointer (some ⟨b3, o3 + i * 2, none⟩))) rfl rfl (by kernel_rfl) (by kernel_rfl) (by kernel_rfl) (fun _ _ _ h => h) (Nat.le_refl _) ⟨by rfl, fun w _ => (by go_simp; try (first | rfl | omega)), fun _ => rfl⟩ hS ?_
          simp only [List.getElem_toArray, List.getElem_cons_zero, List.getElem_cons_succ, Act.put, List.setIfInBounds_toArray, List.set_cons_zero, List.set_cons_succ]
          refine wpAnyR_take (i := 6) (v := (.int .i64 (X : Int))) rfl rfl (by kernel_rfl) (by kernel_rfl) (by kernel_rfl) (fun _ _ _ h => h) (Nat.le_refl _) (yields_old ca0 hB (by exact rfl) (by exact rfl) (by exact rfl) Try.underlying3 rfl) hS ?_
          simp only [List.getElem_toArray, List.getElem_cons_zero, List.getElem_cons_succ, Act.put, List.setIfInBounds_toArray, List.set_cons_zero, List.set_cons_succ]
          refine wpAnyR_take (i := 7) (v := (.int .i64 (k : Int))) rfl rfl (by kernel_rfl) (by kernel_rfl) (by kernel_rfl) (fun _ _ _ h => h) (Nat.le_refl _) ⟨by rfl, fun w _ => (by go_simp; try (first | rfl | omega)), fun _ => rfl⟩ hS ?_
          simp only [List.getElem_toArray, List.getElem_cons_zero, List.getElem_cons_succ, Act.put, List.setIfInBounds_toArray, List.set_cons_zero, List.set_cons_succ]
          refine wpAnyR_take (i := 8) (v := (.int .i64 ((X : Int) + k))) rfl rfl (by kernel_rfl) (by kernel_rfl) (by kernel_rfl) (fun _ _ _ h => h) (Nat.le_refl _) ⟨by rfl, fun w _ => (by go_simp; try exact IntWalk.i64_in _ (by omega)), fun _ => rfl⟩ hS ?_
          simp only [List.getElem_toArray, List.getElem_cons_zero, List.getElem_cons_succ, Act.put, List.setIfInBounds_toArray, List.set_cons_zero, List.set_cons_succ]
          refine wpAnyG_one (i := 9) (by kernel_rfl) rfl (fun K hK => ?_)
          go_simp
          refine ⟨trivial, (callsIn_wide.2 (ko _ (S.out.mem hS))).mono ?_⟩
          rintro e w5 ⟨rfl, hb⟩
          have hS5 := hS.call hb
          refine hK _ _ (.inr hS5) ?_
          clear hK K hS hb
          have hS := hS5
          clear hS5
          try simp only [List.getElem_toArray, List.getElem_cons_zero, List.getElem_cons_succ, Act.put, List.setIfInBounds_toArray, List.set_cons_zero, List.set_cons_succ]
          refine wpAnyR_take (i := 10) (v := (.tuple #[.int .i64 (i : Int), .int .i64 0])) rfl rfl (by kernel_rfl) (by kernel_rfl) (by kernel_rfl) (fun _ _ _ h => h) (Nat.le_refl _) ⟨by rfl, fun w _ => (by go_simp; try (first | rfl | omega)), fun _ => rfl⟩ hS ?_
          simp only [List.getElem_toArray, List.getElem_cons_zero, List.getElem_cons_succ, Act.put, List.setIfInBounds_toArray, List.set_cons_zero, List.set_cons_succ]
          refine wpAnyR_take (i := 11) (v := (.int .i64 (i : Int))) rfl rfl (by kernel_rfl) (by kernel_rfl) (by kernel_rfl) (fun _ _ _ h => h) (Nat.le_refl _) ⟨by rfl, fun w _ => (by go_simp; try (first | rfl | omega)), fun _ => rfl⟩ hS ?_
          simp only [List.getElem_toArray, List.getElem_cons_zero, List.getElem_cons_succ, Act.put, List.setIfInBounds_toArray, List.set_cons_zero, List.set_cons_succ]
          refine wpAnyR_take (i := 12) (v := (.int .i64 0)) rfl rfl (by kernel_rfl) (by kernel_rfl) (by kernel_rfl) (fun _ _ _ h => h) (Nat.le_refl _) ⟨by rfl, fun w _ => (by go_simp; try (first | rfl | omega)), fun _ => rfl⟩ hS ?_
          simp only [List.getElem_toArray, List.getElem_cons_zero, List.getElem_cons_succ, Act.put, List.setIfInBounds_toArray, List.set_cons_zero, List.set_cons_succ]
          refine wpAnyR_take (i := 13) (v := (.int .i64 (i : Int))) rfl rfl (by kernel_rfl) (by kernel_rfl) (by kernel_rfl) (fun _ _ _ h => h) (Nat.le_refl _) ⟨by rfl, fun w _ => (by go_simp; try (first | rfl | omega)), fun _ => rfl⟩ hS ?_
          simp only [List.getElem_toArray, List.getElem_cons_zero, List.getElem_cons_succ, Act.put, List.setIfInBounds_toArray, List.set_cons_zero, List.set_cons_succ]
          refine wpAnyG_one (i := 14) (by kernel_rfl) rfl (fun K hK => ?_)
          go_simp
          refine hK _ _ (.inr hS) ?_
          clear hK K
          refine wpAnyG_done (by kernel_rfl) ?_ _
          have H := hS
          clear hS
          go_wp2
          go_roundw
          case rel => exact ⟨k + 1, by omega, by go_num, H⟩
          case measure => simp [intOf]; omega
        · obtain rfl : k = Y := by omega
          go_wp2_with (first
          | ((with_reducible show wpList _ _ _ (⟨_, .load _ _, _, _, _, _⟩ :: _) _ _); refine mem_loadf (i := 0) H (by first | exact wanted_none rfl | exact wanted_some rfl rfl rfl rfl) (by exact rfl) (by exact rfl) (by exact rfl) (by first | exact Try.underlying3 | exact Try.underlying22 | exact Try.underlying23) rfl (by exact rfl) ?_))
          go_roundw
          case rel => exact ⟨i + 1, by omega, by go_num, H⟩
          case measure => simp [intOf]; omega
    · go_upto_region 15 with (first
        | ((with_reducible show wpList _ _ _ (⟨_, .load _ _, _, _, _, _⟩ :: _) _ _); refine mem_loadf (i := 0) H (by first | exact wanted_none rfl | exact wanted_some rfl rfl rfl rfl) (by exact rfl) (by exact rfl) (by exact rfl) (by first | exact Try.underlying3 | exact Try.underlying22 | exact Try.underlying23) rfl (by exact rfl) ?_)
        | ((with_reducible show wpList _ _ _ (⟨_, .load 25 _, _, _, _, _⟩ :: _) _ _); refine mem_load (i := 0) H (by first | exact wanted_none rfl | exact wanted_some rfl rfl rfl rfl) (by exact rfl) (by exact rfl) (by exact rfl) Try.underlying25 rfl (by exact tbInfo) ?_)
        | (go_at_call 13; refine (ki _ (S.out.mem H)).mono ?_; rintro e w2 ⟨v1, rfl, R, hb⟩; have H2 := H.call hb; obtain ⟨Av1, dv1, rfl, hdv1, Lv1⟩ := lies_of_own R; have LL := Lib.hid Lv1; clear Lv1; have Lv1 := LL; clear LL; clear H R hb; have H := H2; clear H2))
      go_wp2
      go_loopw [10] (fun v wr => ∃ k : Nat, (k : Int) ≤ t'.q ∧ v = .int .i64 k ∧ Hid (Lies wr Av1 t'.idle.length (ints t'.idle)) ∧ Mem w wr [(b, 25, #[.int .i64 t'.q, .slice A1 t'.cl.length c1, .slice A2 t'.sp.length c2])]) (fun v _ => t'.q.toNat - (intOf v).toNat)
      case atStart => exact ⟨0, by omega, rfl, Lv1, H⟩
      case round =>
        clear H Lv1
        obtain ⟨k, hk, rfl, Lv1, H⟩ := hrel
        by_cases hlk : (k : Int) < t'.q
        · have ko := fun w h => ow (k : Int) w h
          rw [HE.out k hlk] at ko
          obtain ⟨d, hd⟩ : ∃ d, t'.ownV k = d := ⟨_, rfl⟩
          have hi2 := HI.out k hlk
          simp only [hd] at ko hi2
          have kh := fun w L => has_p Av1 t'.idle.length dv1 t'.idle (k : Int) w (by omega) L hdv1
          by_cases hd1 : d = -1
          · rw [decide_eq_true (hi2.2 hd1)] at kh
            have td : (d == -1) = true := by rw [beq_iff_eq]; exact hd1
            clear hi2 hd hd1
            go_wp2_with (first
            | ((with_reducible show wpList _ _ _ (⟨_, .load 25 _, _, _, _, _⟩ :: _) _ _); refine mem_load (i := 0) H (by first | exact wanted_none rfl | exact wanted_some rfl rfl rfl rfl) (by exact rfl) (by exact rfl) (by exact rfl) Try.underlying25 rfl (by exact tbInfo) ?_)
            | ((with_reducible show wpList _ _ _ (⟨_, .load _ _, _, _, _, _⟩ :: _) _ _); refine mem_loadf (i := 0) H (by first | exact wanted_none rfl | exact wanted_some rfl rfl rfl rfl) (by exact rfl) (by exact rfl) (by exact rfl) (by first | exact Try.underlying3 | exact Try.underlying22 | exact Try.underlying23) rfl (by exact rfl) ?_)
            | (go_at_call 22; with_reducible refine (ko _ (S.out.mem H)).mono ?_; rintro e w2 ⟨rfl, hb⟩; have H2 := H.call hb; have LL := Lib.hid (lies_below Lv1.out hb); clear H hb Lv1; have H := H2; have Lv1 := LL; clear H2 LL)
            | (go_at_call 29; refine (kh _ Lv1.out).mono ?_; rintro e w2 ⟨rfl, rfl⟩))
            go_roundw
            case rel => exact ⟨k + 1, by omega, by go_num, Lv1, H⟩
            case measure => simp [intOf]; omega
          · rw [decide_eq_false (fun h => hd1 (hi2.1 h))] at kh
            have td : (d == -1) = false := by rw [beq_eq_false_iff_ne]; exact hd1
            clear hi2 hd hd1
            go_wp2_with (first
            | ((with_reducible show wpList _ _ _ (⟨_, .load 25 _, _, _, _, _⟩ :: _) _ _); refine mem_load (i := 0) H (by first | exact wanted_none rfl | exact wanted_some rfl rfl rfl rfl) (by exact rfl) (by exact rfl) (by exact rfl) Try.underlying25 rfl (by exact tbInfo) ?_)
            | ((with_reducible show wpList _ _ _ (⟨_, .load _ _, _, _, _, _⟩ :: _) _ _); refine mem_loadf (i := 0) H (by first | exact wanted_none rfl | exact wanted_some rfl rfl rfl rfl) (by exact rfl) (by exact rfl) (by exact rfl) (by first | exact Try.underlying3 | exact Try.underlying22 | exact Try.underlying23) rfl (by exact rfl) ?_)
            | (go_at_call 22; with_reducible refine (ko _ (S.out.mem H)).mono ?_; rintro e w2 ⟨rfl, hb⟩; have H2 := H.call hb; have LL := Lib.hid (lies_below Lv1.out hb); clear H hb Lv1; have H := H2; have Lv1 := LL; clear H2 LL)
            | (go_at_call 29; refine (kh _ Lv1.out).mono ?_; rintro e w2 ⟨rfl, rfl⟩))
            go_roundw
            case rel => exact ⟨k + 1, by omega, by go_num, Lv1, H⟩
            case measure => simp [intOf]; omega
        · go_wp2_with (first
          | ((with_reducible show wpList _ _ _ (⟨_, .load _ _, _, _, _, _⟩ :: _) _ _); refine mem_loadf (i := 0) H (by first | exact wanted_none rfl | exact wanted_some rfl rfl rfl rfl) (by exact rfl) (by exact rfl) (by exact rfl) (by first | exact Try.underlying3 | exact Try.underlying22 | exact Try.underlying23) rfl (by exact rfl) ?_))
          go_ret
          exact ⟨by simp, H.below⟩
end Go.Proofs.Ytoofmklknffhpaa
