/-
  Rows of numbers that a call makes; the document's Same of numbers, Idle. Conditions: the table lies where its value says.
-/
import Derived.Test.YtoofmklknffhpaaTableE
import Derived.Maps.AppendAt
import Derived.WalkMore
import Derived.OwnWalk
namespace Go.Proofs.Ytoofmklknffhpaa
set_option linter.unusedSimpArgs false
set_option linter.unusedVariables false
open Go.ChangeShapes Go.WideShapes Go.ChangeAt Go.RowKit

theorem infoInt : (Try.prog.info? 3).map (fun i => (i.zero, i.size, i.bytes)) = some (some (.int .i64 0), 1, 8) := by kernel_rfl
theorem infoInt_parts : ∃ i, Try.prog.info? 3 = some i ∧ i.zero = some (.int .i64 0) ∧ i.size = 1 ∧ i.bytes = 8 := by
  have h := infoInt
  rcases hi : Try.prog.info? 3 with _ | i
  · rw [hi] at h; cases h
  · rw [hi] at h
    simp at h
    exact ⟨i, rfl, h.1, h.2.1, h.2.2⟩
abbrev ints (l : List Int) : List Value := l.map (Value.int .i64)
theorem row_keep {w w' : World} {base b2 : Nat} {ty : TypeId} {sz : Nat} {v : Value} {n : Nat} {xs : List Value} (h : w.ownsRow base ty sz v n xs) (hb : Below b2 w w') (hlt : ∀ r, v.ownBlock = some r → r < b2) : w'.ownsRow base ty sz v n xs := by
  refine ⟨h.1, ?_⟩
  rcases h.2 with h1 | ⟨g, cap, cur, rfl, h1, h2, h3⟩
  · exact .inl h1
  · exact .inr ⟨g, cap, cur, rfl, h1, (hb.block g (hlt g rfl)).trans h2, h3⟩
theorem row_lt {w : World} {base : Nat} {ty : TypeId} {sz : Nat} {v : Value} {n : Nat} {xs : List Value} (h : w.ownsRow base ty sz v n xs) : ∀ r, v.ownBlock = some r → base ≤ r ∧ r < w.heap.size := fun r hr => by
  rcases h.2 with ⟨rfl, _⟩ | ⟨g, cap, cur, rfl, h1, h2, _⟩
  · cases hr
  · cases hr
    exact ⟨h1, (Array.getElem?_eq_some_iff.1 h2).1⟩
theorem row_call {w w' : World} {base : Nat} {ty : TypeId} {sz : Nat} {v : Value} {n : Nat} {xs : List Value} (h : w.ownsRow base ty sz v n xs) (hb : Below w.heap.size w w') : w'.ownsRow base ty sz v n xs := row_keep h hb fun r hr => (row_lt h r hr).2
theorem row_base {w : World} {base base' : Nat} {ty : TypeId} {sz : Nat} {v : Value} {n : Nat} {xs : List Value} (h : w.ownsRow base ty sz v n xs) (hb : base' ≤ base) : w.ownsRow base' ty sz v n xs := by
  refine ⟨h.1, ?_⟩
  rcases h.2 with h1 | ⟨g, cap, cur, rfl, h1, h2, h3⟩
  · exact .inl h1
  · exact .inr ⟨g, cap, cur, rfl, by omega, h2, h3⟩
/-- boxes below a row stay while it grows -/
theorem Mem.grown {w0 W W' : World} {l : List (Nat × TypeId × Array Value)} {v : Value} {B : Nat} (h : Mem w0 W l) (hg : W.grownBy W' v.ownBlock) (hB : ∀ r, v.ownBlock = some r → B ≤ r) (hl : ∀ p, p ∈ l → p.1 < B) (hw : w0.heap.size ≤ B) : Mem w0 W' l := by
  refine ⟨h.below.grown hg h.below.size (fun j ej => Nat.le_trans hw (hB j ej)), fun p hp => ⟨(h.held p hp).1, ?_⟩, h.inc⟩
  have g := (h.held p hp).2
  refine Eq.trans ?_ g
  exact hg.block p.1 g.lt (fun e => by
    have := hB p.1 e.symm
    have := hl p hp
    omega)
/-- a slice that reads as a list of cells, nil let in -/
def Lies (w : World) (A : Option Addr) (n : Nat) (xs : List Value) : Prop := xs.length = n ∧ (0 < n → ∃ g, A = some ⟨g, 0, none⟩ ∧ g < w.heap.size ∧ ∀ j, j < n → w.cell? ⟨g, j, none⟩ = xs[j]?)
theorem lies_of_own {w : World} {base : Nat} {e : TypeId} {v : Value} {n : Nat} {xs : List Value} (h : w.ownsRow base e 1 v n xs) : ∃ A c, v = .slice A n c ∧ n ≤ c ∧ Lies w A n xs := by
  have hl : xs.length = n := by simpa using h.1
  rcases h.2 with ⟨hv, h0⟩ | ⟨g, cap, cur, hv, hb, hh, hrest⟩
  · exact ⟨none, 0, by rw [hv, h0], by omega, hl, fun h => by omega⟩
  · refine ⟨some ⟨g, 0, none⟩, cap, hv, ?_, hl, fun _ => ⟨g, rfl, (Array.getElem?_eq_some_iff.1 hh).1, fun j hj => ?_⟩⟩
    · exact hrest.1
    · subst hv
      exact World.ownsRow.cellAt h j (by omega)
theorem lies_below {w w' : World} {A : Option Addr} {n : Nat} {xs : List Value} (h : Lies w A n xs) (hb : Below w.heap.size w w') : Lies w' A n xs :=
  ⟨h.1, fun hn => let ⟨g, e, hg, hc⟩ := h.2 hn; ⟨g, e, Nat.lt_of_lt_of_le hg hb.size, fun j hj => (hb.cell (p := ⟨g, j, none⟩) hg).trans (hc j hj)⟩⟩
theorem below_draws (w : World) (n : Nat) : Below w.heap.size w (w.drewN n) := ⟨rfl, rfl, rfl, Nat.le_refl _, fun _ _ => rfl⟩
set_option maxRecDepth 100000 in
set_option maxHeartbeats 1000000 in
theorem same_p (A B : Option Addr) (n c c' : Nat) (xs : List Int) (w : World) (hn : n ≤ 4096) (hA : Lies w A n (ints xs)) (hB : Lies w B n (ints xs)) (hc : n ≤ c) (hc' : n ≤ c') :
    Calls Try.prog 17 #[.slice A n c, .slice B n c'] w fun e w' => e = .returned (.bool true) ∧ Below w.heap.size w w' := by
  have HA := Lib.hid hA
  have HB := Lib.hid hB
  clear hA hB
  go_enter Try.func17, Try.ntmps17
  go_wp2
  go_loopw [5] (fun i wr => ∃ k : Nat, k ≤ n ∧ i = .int .i64 k ∧ ∃ m, wr = w.drewN m) (fun i _ => n - (intOf i).toNat)
  case atStart => exact ⟨0, Nat.zero_le _, rfl, 0, rfl⟩
  case round =>
    obtain ⟨k, hk, rfl, m, rfl⟩ := hrel
    by_cases hlt : k < n
    · obtain ⟨g, rfl, _, hg⟩ := HA.out.2 (by omega)
      obtain ⟨g', rfl, _, hg'⟩ := HB.out.2 (by omega)
      have hl : k < xs.length := by have := HA.out.1; simp [ints] at this; omega
      have h1 : w.cell? ⟨g, k, none⟩ = some (.int .i64 xs[k]) := by rw [hg k hlt]; simp [hl]
      have h2 : w.cell? ⟨g', k, none⟩ = some (.int .i64 xs[k]) := by rw [hg' k hlt]; simp [hl]
      clear hg hg'
      go_wp2
      go_quiet (fail)
      go_wp2
      go_roundw
      case rel => exact ⟨k + 1, by omega, by go_num, m + nq, by simp⟩
      case measure => simp [intOf]; omega
    · go_wp2
      go_ret
      exact ⟨rfl, below_draws w m⟩
/-- the queues below k that have no class -/
def idleTo (sp : List (Int × Int)) (k : Nat) : List Int := ((List.range k).filter (fun i : Nat => decide (ownAt sp (i : Int) 0 < 0))).map Int.ofNat
theorem idleTo_yes {sp : List (Int × Int)} {k : Nat} (h : ownAt sp k 0 < 0) : idleTo sp (k + 1) = idleTo sp k ++ [(k : Int)] := by
  simp [idleTo, List.range_succ, List.filter_append, h]
theorem idleTo_no {sp : List (Int × Int)} {k : Nat} (h : ¬ ownAt sp k 0 < 0) : idleTo sp (k + 1) = idleTo sp k := by
  simp [idleTo, List.range_succ, List.filter_append, h]
theorem idleTo_len (sp : List (Int × Int)) (k : Nat) : (idleTo sp k).length ≤ k := by
  unfold idleTo
  rw [List.length_map]
  exact Nat.le_trans (List.length_filter_le _ _) (by simp)
def TB.idle (t : TB) : List Int := if t.right = true then idleTo t.sp t.q.toNat else []
def TB.idleE (t : TB) : Int := if t.right = true then 0 else 80
/-- what Idle, Moved and their like give: a row of numbers of their own -/
def GivesInts (w : World) (L : List Int) (E : Int) (e : Ending) (w' : World) : Prop := ∃ v, e = .returned (.tuple #[v, .int .i64 E]) ∧ w'.ownsRow w.heap.size 3 1 v L.length (ints L) ∧ Below w.heap.size w w'
set_option maxRecDepth 100000 in
set_option maxHeartbeats 1000000 in
theorem idle_r (A1 A2 : Option Addr) (c1 c2 : Nat) (t : TB) (w : World) (ht : TbAt w.heap.size w A1 A2 c1 c2 t) : Calls Try.prog 14 #[.agg (tbC A1 A2 c1 c2 t)] w (GivesInts w t.idle t.idleE) := by
  have H := Mem.start w
  have T := Lib.hid ht
  have cr := fun w h => right_r A1 A2 c1 c2 t w h
  have l1 := ht.l1
  have l2 := ht.l2
  clear ht
  rcases hr : t.right with _ | _
  · rw [hr] at cr
    have e1 : t.idle = [] := by simp [TB.idle, hr]
    have e2 : t.idleE = 80 := by simp [TB.idleE, hr]
    rw [e1, e2]
    clear hr e1 e2
    unfold RightR tbC at *
    go_enter Try.func14, Try.ntmps14
    go_upto_region 1 with (first
    | ((with_reducible show wpList _ _ _ _ _ (World.alloc _ (.cells _ _))); refine mem_newb H ?_; intro b w3 hbk H2; try rw [← hbk]; clear hbk H; have H := H2; clear H2; simp only [List.cons_append, List.nil_append, List.set_cons_zero, List.set_cons_succ, List.setIfInBounds_toArray] at H))
    go_wp2_with (first
    | go_skip
    | ((with_reducible show wpList _ _ _ (⟨_, .load 25 _, _, _, _, _⟩ :: _) _ _); refine mem_load (i := 0) H (by first | exact wanted_none rfl | exact wanted_some rfl rfl rfl rfl) (by exact rfl) (by exact rfl) (by exact rfl) Try.underlying25 rfl (by exact tbInfo) ?_)
    | (go_at_call 16; with_reducible refine (cr _ (T.out.mem H)).mono ?_; rintro e w2 ⟨rfl, hb⟩; have H2 := H.call hb; clear H hb; have H := H2; clear H2))
    refine bodyPost_ret (results_two rfl _ _ _) rfl ?_
    exact ⟨_, rfl, World.ownsRow_nil _ _ _ _, H.below⟩
  rw [hr] at cr
  have hk := (TB.right_iff t).1 hr
  have hq := hk.q
  obtain ⟨q, cl, sp⟩ := t
  simp only at *
  obtain ⟨Q, rfl⟩ := Int.eq_ofNat_of_zero_le (show 0 ≤ q by omega)
  have e1 : TB.idle ⟨Q, cl, sp⟩ = idleTo sp Q := by rw [TB.idle, if_pos hr, Int.toNat_natCast]
  have e2 : TB.idleE ⟨Q, cl, sp⟩ = 0 := if_pos hr
  rw [e1, e2]
  have co := fun (j : Nat) (hj : j < Q) w h => owner_r0 A1 A2 c1 c2 ⟨Q, cl, sp⟩ (j : Int) (by omega) w h hk.small (by have := hk.n; simp only at this ⊢; omega)
  obtain ⟨i0, hi, hz0, hz1, hz2⟩ := infoInt_parts
  clear hr e1 e2 hk
  unfold RightR tbC at *
  simp only at *
  go_enter Try.func14, Try.ntmps14
  go_upto_region 1 with (first
    | ((with_reducible show wpList _ _ _ _ _ (World.alloc _ (.cells _ _))); refine mem_newb H ?_; intro b w3 hbk H2; try rw [← hbk]; clear hbk H; have H := H2; clear H2; simp only [List.cons_append, List.nil_append, List.set_cons_zero, List.set_cons_succ, List.setIfInBounds_toArray] at H))
  go_wp2_with (first
    | go_skip
    | ((with_reducible show wpList _ _ _ (⟨_, .load 25 _, _, _, _, _⟩ :: _) _ _); refine mem_load (i := 0) H (by first | exact wanted_none rfl | exact wanted_some rfl rfl rfl rfl) (by exact rfl) (by exact rfl) (by exact rfl) Try.underlying25 rfl (by exact tbInfo) ?_)
    | (go_at_call 16; with_reducible refine (cr _ (T.out.mem H)).mono ?_; rintro e w2 ⟨rfl, hb⟩; have H2 := H.call hb; clear H hb; have H := H2; clear H2))
  have hbb := (H.at 0 rfl).lt
  have hsz := H.below.size
  obtain ⟨B, hBq⟩ : ∃ B, w2.heap.size = B := ⟨_, rfl⟩
  have R : w2.ownsRow B 3 1 (.slice none 0 0) (idleTo sp 0).length (ints (idleTo sp 0)) := World.ownsRow_nil w2 B 3 1
  have hB2 : B ≤ w2.heap.size := by omega
  have hbB : b < B ∧ w.heap.size ≤ B := by omega
  clear hBq hbb hsz
  go_loopw [5, 6] (fun v i wr => ∃ k : Nat, k ≤ Q ∧ i = .int .i64 k ∧ wr.ownsRow B 3 1 v (idleTo sp k).length (ints (idleTo sp k)) ∧ B ≤ wr.heap.size ∧ Mem w wr [(b, 25, #[.int .i64 (Q : Int), .slice A1 cl.length c1, .slice A2 sp.length c2])]) (fun _ i _ => Q - (intOf i).toNat)
  case atStart => exact ⟨0, Nat.zero_le _, rfl, R, hB2, H⟩
  case round =>
    clear H R hB2
    obtain ⟨k, hk, rfl, R, hB2, H⟩ := hrel
    by_cases hlt : k < Q
    · have ck := fun w h => co k hlt w h
      have hLk := idleTo_len sp k
      obtain ⟨d, hd⟩ : ∃ d, ownAt sp k 0 = d := ⟨_, rfl⟩
      simp only [hd] at ck
      by_cases hd0 : d < 0
      · have t1 : decide (d < 0) = true := decide_eq_true hd0
        have HI := Lib.hid (idleTo_yes (sp := sp) (k := k) (by omega))
        clear hd
        go_wp2_with (first
          | ((with_reducible show wpList _ _ _ (⟨_, .load 25 _, _, _, _, _⟩ :: _) _ _); refine mem_load (i := 0) H (by first | exact wanted_none rfl | exact wanted_some rfl rfl rfl rfl) (by exact rfl) (by exact rfl) (by exact rfl) Try.underlying25 rfl (by exact tbInfo) ?_)
          | ((with_reducible show wpList _ _ _ (⟨_, .load _ _, _, _, _, _⟩ :: _) _ _); refine mem_loadf (i := 0) H (by first | exact wanted_none rfl | exact wanted_some rfl rfl rfl rfl) (by exact rfl) (by exact rfl) (by exact rfl) (by first | exact Try.underlying3 | exact Try.underlying22 | exact Try.underlying23) rfl (by exact rfl) ?_)
          | (go_at_call 31; with_reducible refine (ck _ (T.out.mem H)).mono ?_; rintro e w2 ⟨rfl, hb⟩; have H2 := H.call hb; have R2 := row_call R hb; have hgr := hb.size; clear H R hb; have H := H2; have R := R2; clear H2 R2)
          | (at_builtin; refine wpList_append_own _ rfl _ _ 22 rfl B 3 i0 (.int .i64 0) 1 8 Try.underlying22 hi hz0 hz1 hz2 rfl (by decide) _ _ _ rfl (R.alloc _) ⟨w2.heap.size, 0, none⟩ 1 1 [.int .i64 (k : Int)] rfl rfl (cell_one_new _ _ _) (by simp [Value.oneCell']) (by simp [maxLen]; omega) (by omega) (by simp; omega) ?_; intro v' w1 hown' hgrow _))
        have hrl := row_lt R
        have H4 : Mem w w1 _ := (H.skip _).grown hgrow (fun r hr => (hrl r hr).1) (fun p hp => by rw [List.mem_singleton.1 hp]; exact hbB.1) hbB.2
        have hB3 : B ≤ w1.heap.size := by have := hgr; have := hgrow.size; simp at this; omega
        go_roundw
        case rel => exact ⟨k + 1, by omega, by go_num, by rw [HI.out, List.length_append]; simpa [ints] using hown', hB3, H4⟩
        case measure => simp [intOf]; omega
      · have t1 : decide (d < 0) = false := decide_eq_false hd0
        have HI := Lib.hid (idleTo_no (sp := sp) (k := k) (by omega))
        clear hd
        go_wp2_with (first
          | ((with_reducible show wpList _ _ _ (⟨_, .load 25 _, _, _, _, _⟩ :: _) _ _); refine mem_load (i := 0) H (by first | exact wanted_none rfl | exact wanted_some rfl rfl rfl rfl) (by exact rfl) (by exact rfl) (by exact rfl) Try.underlying25 rfl (by exact tbInfo) ?_)
          | ((with_reducible show wpList _ _ _ (⟨_, .load _ _, _, _, _, _⟩ :: _) _ _); refine mem_loadf (i := 0) H (by first | exact wanted_none rfl | exact wanted_some rfl rfl rfl rfl) (by exact rfl) (by exact rfl) (by exact rfl) (by first | exact Try.underlying3 | exact Try.underlying22 | exact Try.underlying23) rfl (by exact rfl) ?_)
          | (go_at_call 31; with_reducible refine (ck _ (T.out.mem H)).mono ?_; rintro e w2 ⟨rfl, hb⟩; have H2 := H.call hb; have R2 := row_call R hb; have hgr := hb.size; clear H R hb; have H := H2; have R := R2; clear H2 R2))
        have hB3 : B ≤ w2.heap.size := by have := hgr; omega
        go_roundw
        case rel => exact ⟨k + 1, by omega, by go_num, by rw [HI.out]; exact R, hB3, H⟩
        case measure => simp [intOf]; omega
    · obtain rfl : k = Q := by omega
      go_wp2_with (first
        | ((with_reducible show wpList _ _ _ (⟨_, .load 25 _, _, _, _, _⟩ :: _) _ _); refine mem_load (i := 0) H (by first | exact wanted_none rfl | exact wanted_some rfl rfl rfl rfl) (by exact rfl) (by exact rfl) (by exact rfl) Try.underlying25 rfl (by exact tbInfo) ?_)
        | ((with_reducible show wpList _ _ _ (⟨_, .load _ _, _, _, _, _⟩ :: _) _ _); refine mem_loadf (i := 0) H (by first | exact wanted_none rfl | exact wanted_some rfl rfl rfl rfl) (by exact rfl) (by exact rfl) (by exact rfl) (by first | exact Try.underlying3 | exact Try.underlying22 | exact Try.underlying23) rfl (by exact rfl) ?_))
      refine bodyPost_ret (results_two rfl _ _ _) rfl ?_
      exact ⟨_, rfl, row_base R hbB.2, H.below⟩
end Go.Proofs.Ytoofmklknffhpaa
