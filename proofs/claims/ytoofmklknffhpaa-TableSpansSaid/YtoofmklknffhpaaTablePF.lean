/-
  The program's Idle. Conditions: the table lies where its value says.
-/
import Derived.Test.YtoofmklknffhpaaTablePE
import Derived.Test.YtoofmklknffhpaaTableG
namespace Go.Proofs.Ytoofmklknffhpaa
set_option linter.unusedSimpArgs false
set_option linter.unusedVariables false
open Go.ChangeShapes Go.WideShapes Go.ChangeAt Go.RowKit Go.Shelf

theorem ownAt_neg {l : List (Int × Int)} {q : Int} : ownAt l q 0 < 0 ↔ ownAt l q 0 = -1 := by
  rcases ownAt_spec l q 0 with ⟨k, s, _, _, _, he, _⟩ | ⟨he, _⟩
  · rw [he]
    omega
  · rw [he]
    omega
set_option maxRecDepth 100000 in
set_option maxHeartbeats 2000000 in
theorem idle_p (A1 A2 : Option Addr) (c1 c2 : Nat) (t : TB) (w : World) (ht : TbAt w.heap.size w A1 A2 c1 c2 t) (hf : Few t) : Calls Try.prog 13 #[.agg (tbC A1 A2 c1 c2 t)] w (GivesInts w t.idle t.idleE) := by
  have H := Mem.start w
  have T := Lib.hid ht
  have cr := fun w h => right_p A1 A2 c1 c2 t w h hf
  have l1 := ht.l1
  have l2 := ht.l2
  clear ht hf
  rcases hr : t.right with _ | _
  · rw [hr] at cr
    have e1 : t.idle = [] := by simp [TB.idle, hr]
    have e2 : t.idleE = 80 := by simp [TB.idleE, hr]
    rw [e1, e2]
    clear hr e1 e2
    unfold RightP tbC at *
    go_enter Try.func13, Try.ntmps13
    go_upto_region 1 with (first
    | ((with_reducible show wpList _ _ _ _ _ (World.alloc _ (.cells _ _))); refine mem_newb H ?_; intro b w3 hbk H2; try rw [← hbk]; clear hbk H; have H := H2; clear H2; simp only [List.cons_append, List.nil_append, List.set_cons_zero, List.set_cons_succ, List.setIfInBounds_toArray] at H))
    go_wp2_with (first
    | go_skip
    | ((with_reducible show wpList _ _ _ (⟨_, .load 25 _, _, _, _, _⟩ :: _) _ _); refine mem_load (i := 0) H (by first | exact wanted_none rfl | exact wanted_some rfl rfl rfl rfl) (by exact rfl) (by exact rfl) (by exact rfl) Try.underlying25 rfl (by exact tbInfo) ?_)
    | (go_at_call 15; with_reducible refine (cr _ (T.out.mem H)).mono ?_; rintro e w2 ⟨rfl, hb⟩; have H2 := H.call hb; clear H hb; have H := H2; clear H2))
    refine bodyPost_ret (results_two rfl _ _ _) rfl ?_
    exact ⟨_, rfl, World.ownsRow_nil _ _ _ _, H.below⟩
  rw [hr] at cr
  have hk := (TB.right_iff t).1 hr
  have hoks := right_parts hr
  have hq := hk.q
  obtain ⟨q, cl, sp⟩ := t
  simp only at *
  obtain ⟨Q, rfl⟩ := Int.eq_ofNat_of_zero_le (show 0 ≤ q by omega)
  have e1 : TB.idle ⟨Q, cl, sp⟩ = idleTo sp Q := by rw [TB.idle, if_pos hr, Int.toNat_natCast]
  have e2 : TB.idleE ⟨Q, cl, sp⟩ = 0 := if_pos hr
  rw [e1, e2]
  have ha := hoks.1
  have HO2 := Lib.hid hoks.2
  obtain ⟨i0, hi, hz0, hz1, hz2⟩ := infoInt_parts
  clear hr e1 e2 hk hoks
  unfold RightP tbC at *
  simp only at *
  go_enter Try.func13, Try.ntmps13
  go_upto_region 1 with (first
    | ((with_reducible show wpList _ _ _ _ _ (World.alloc _ (.cells _ _))); refine mem_newb H ?_; intro b w3 hbk H2; try rw [← hbk]; clear hbk H; have H := H2; clear H2; simp only [List.cons_append, List.nil_append, List.set_cons_zero, List.set_cons_succ, List.setIfInBounds_toArray] at H))
  go_upto_region 4 with (first
    | ((with_reducible show wpList _ _ _ (⟨_, .load 25 _, _, _, _, _⟩ :: _) _ _); refine mem_load (i := 0) H (by first | exact wanted_none rfl | exact wanted_some rfl rfl rfl rfl) (by exact rfl) (by exact rfl) (by exact rfl) Try.underlying25 rfl (by exact tbInfo) ?_)
    | (go_at_call 15; with_reducible refine (cr _ (T.out.mem H)).mono ?_; rintro e w2 ⟨rfl, hb⟩; have H2 := H.call hb; clear H hb; have H := H2; clear H2)
    | (go_at_call 30; refine (owners_p A1 A2 c1 c2 ⟨(Q : Int), cl, sp⟩ _ (T.out.mem H) hq ha).mono ?_; rintro e w2 ⟨f, v, rfl, hO, hb⟩; have H2 := H.call hb; clear H hb; have H := H2; clear H2)
    | ((with_reducible show wpList _ _ _ _ _ (World.alloc _ (.cells _ _))); refine mem_newb (l := [_]) H ?_; intro ba w3 hbk H2; try rw [← hbk]; clear hbk H; have H := H2; clear H2; simp only [List.cons_append, List.nil_append, List.set_cons_zero, List.set_cons_succ, List.setIfInBounds_toArray] at H)
    | ((with_reducible show wpList _ _ _ (⟨_, .store 46 _ _, _, _, _, _⟩ :: _) _ _); refine mem_store (i := 1) H (by first | exact wanted_none rfl | exact wanted_some rfl rfl rfl rfl) (by exact rfl) (by exact rfl) (by exact rfl) (by exact rfl) (by exact infoBy _) (by exact rfl) (byV_one _) ?_; intro w2 H2; clear H; have H := H2; clear H2; simp only [List.cons_append, List.nil_append, List.set_cons_zero, List.set_cons_succ, List.setIfInBounds_toArray] at H))
  have hv : ∀ q : Nat, f q = ownAt sp q 0 := hO.2 (hO.1.trans HO2.out)
  have HV := Lib.hid hv
  have hq64 : Q ≤ 64 := by omega
  clear hv hO ha
  go_wp2_with (first
    | ((with_reducible show wpList _ _ _ (⟨_, .load _ _, _, _, _, _⟩ :: _) _ _); refine mem_loadf (i := 0) H (by first | exact wanted_none rfl | exact wanted_some rfl rfl rfl rfl) (by exact rfl) (by exact rfl) (by exact rfl) (by first | exact Try.underlying3 | exact Try.underlying22 | exact Try.underlying23) rfl (by exact rfl) ?_))
  have hbb := (H.at 0 rfl).lt
  have hba := (H.at 1 rfl).lt
  have hsz := H.below.size
  obtain ⟨B, hBq⟩ : ∃ B, w2.heap.size = B := ⟨_, rfl⟩
  have R : w2.ownsRow B 3 1 (.slice none 0 0) (idleTo sp 0).length (ints (idleTo sp 0)) := World.ownsRow_nil w2 B 3 1
  have hB2 : B ≤ w2.heap.size := by omega
  have hbB : b < B ∧ ba < B ∧ w.heap.size ≤ B := by omega
  clear hBq hbb hsz hba
  go_loopw [6, 21] (fun v i wr => ∃ k : Nat, k ≤ Q ∧ i = .int .i64 k ∧ wr.ownsRow B 3 1 v (idleTo sp k).length (ints (idleTo sp k)) ∧ B ≤ wr.heap.size ∧ Mem w wr [(b, 25, #[.int .i64 (Q : Int), .slice A1 cl.length c1, .slice A2 sp.length c2]), (ba, 46, byV f)]) (fun _ i _ => Q - (intOf i).toNat)
  case atStart => exact ⟨0, Nat.zero_le _, rfl, R, hB2, H⟩
  case round =>
    clear H R hB2
    obtain ⟨k, hk, rfl, R, hB2, H⟩ := hrel
    by_cases hlt : k < Q
    · have hLk := idleTo_len sp k
      obtain ⟨d, hd⟩ : ∃ d, ownAt sp k 0 = d := ⟨_, rfl⟩
      have hby : (byV f).toList[k]? = some (.int .i64 d) := by rw [byV_at _ (by omega), HV.out, hd]
      by_cases hd0 : d = -1
      · have HI := Lib.hid (idleTo_yes (sp := sp) (k := k) (by omega))
        subst hd0
        clear hd
        go_wp2_with (first
          | ((with_reducible show wpList _ _ _ (⟨_, .load 3 (.tmp 24), _, _, _, _⟩ :: _) _ _); refine mem_loadf (i := 1) H (by first | exact wanted_none rfl | exact wanted_some rfl rfl rfl rfl) (by exact rfl) (by exact rfl) (by exact rfl) Try.underlying3 rfl (by exact hby) ?_)
          | (at_builtin; refine wpList_append_own _ rfl _ _ 22 rfl B 3 i0 (.int .i64 0) 1 8 Try.underlying22 hi hz0 hz1 hz2 rfl (by decide) _ _ _ rfl (R.alloc _) ⟨wr.heap.size, 0, none⟩ 1 1 [.int .i64 (k : Int)] rfl rfl (cell_one_new _ _ _) (by simp [Value.oneCell']) (by simp [maxLen]; omega) (by omega) (by simp; omega) ?_; intro v' w1 hown' hgrow _))
        have hrl := row_lt R
        have H4 : Mem w w1 _ := (H.skip _).grown hgrow (fun r hr => (hrl r hr).1) (fun p hp => by
          simp only [List.mem_cons, List.not_mem_nil, or_false] at hp
          rcases hp with rfl | rfl
          · exact hbB.1
          · exact hbB.2.1) hbB.2.2
        have hB3 : B ≤ w1.heap.size := by have := hgrow.size; simp at this; omega
        go_roundw
        case rel => exact ⟨k + 1, by omega, by go_num, by rw [HI.out, List.length_append]; simpa [ints] using hown', hB3, H4⟩
        case measure => simp [intOf]; omega
      · have t1 : (d == -1) = false := by simpa using hd0
        have hn : ¬ ownAt sp k 0 < 0 := fun h => hd0 (hd.symm.trans (ownAt_neg.1 h))
        have HI := Lib.hid (idleTo_no (sp := sp) (k := k) hn)
        clear hd hn
        go_wp2_with (first
          | ((with_reducible show wpList _ _ _ (⟨_, .load 3 (.tmp 24), _, _, _, _⟩ :: _) _ _); refine mem_loadf (i := 1) H (by first | exact wanted_none rfl | exact wanted_some rfl rfl rfl rfl) (by exact rfl) (by exact rfl) (by exact rfl) Try.underlying3 rfl (by exact hby) ?_))
        go_roundw
        case rel => exact ⟨k + 1, by omega, by go_num, by rw [HI.out]; exact R, hB2, H⟩
        case measure => simp [intOf]; omega
    · obtain rfl : k = Q := by omega
      go_wp2
      refine bodyPost_ret (results_two rfl _ _ _) rfl ?_
      exact ⟨_, rfl, row_base R hbB.2.2, H.below⟩
end Go.Proofs.Ytoofmklknffhpaa
