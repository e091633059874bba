/-
  The laws' own shown; CellsNone, walked. Conditions: as the interface says.
-/
import Derived.Test.YtoajgaljccaccaaMGc
/- The laws' own shown; CellsNone, walked. Conditions: as the interface says. -/
section
namespace Go.Proofs.Ytoajgaljccaccaa.Ce
set_option linter.unusedSimpArgs false
set_option linter.unusedVariables false
set_option maxRecDepth 100000
open Go.ChangeShapes Go.WideShapes Go.ChangeAt Go.RowKit

abbrev SN (P : PT) (W0 W : World) (p : Nat) (s : CC) (N : Nat) : Prop := St P NoT W0 W (fun _ => False) (fun _ => True) p s N 0 ⟨[], [], []⟩ 0
theorem told {f : Nat} {args : Array Value} {W : World} {v v' : Value} {R R' : World → Prop} (h : Calls Try.prog f args W fun e w' => e = .returned v ∧ R w') (hv : v = v') (hR : ∀ w, R w → R' w) : Calls Try.prog f args W fun e w' => e = .returned v' ∧ R' w' :=
  h.mono fun e w' ⟨h1, h2⟩ => ⟨hv ▸ h1, hR w' h2⟩
/-- New's error -/
def newE (n m k : Int) : Int := if okNew n m k = true then 0 else 2
section
variable {P : PT}
theorem newP_b (hP : PCells P) (n m k : Int) (hn : I64 n) (hm : I64 m) (hk : I64 k) (W : World) : Calls Try.prog 11 #[.int .i64 n, .int .i64 m, .int .i64 k] W fun e w' => ∃ q, e = .returned (.tuple #[.pointer q, .int .i64 (newE n m k)]) ∧ Below W.heap.size W w' := by
  cases ho : okNew n m k with
  | true => exact (hP.new_yes n m k ho W).mono fun e w' ⟨p, own, he, _, hb, _⟩ => ⟨_, by rw [newE, if_pos ho]; exact he, hb⟩
  | false => exact (hP.new_no n m k hn hm hk ho W).mono fun e w' ⟨he, hb⟩ => ⟨_, by rw [newE, ho]; exact he, hb⟩
theorem newR_b (n m k : Int) (W : World) : Calls Try.prog 12 #[.int .i64 n, .int .i64 m, .int .i64 k] W fun e w' => ∃ q, e = .returned (.tuple #[.pointer q, .int .i64 (newE n m k)]) ∧ Below W.heap.size W w' := by
  cases ho : okNew n m k with
  | true => exact (new_yes n m k ho W).mono fun e w' ⟨p, own, he, _, hb, _⟩ => ⟨_, by rw [newE, if_pos ho]; exact he, hb⟩
  | false => exact (new_no n m k ho W).mono fun e w' ⟨he, hb⟩ => ⟨_, by rw [newE, ho]; exact he, hb⟩
theorem shown11 (hP : PCells P) (w : World) : Calls Try.prog 10 #[] w fun e w' => e = .returned (.bool true) ∧ Below w.heap.size w w' := by
  have H := Mem.start w
  have O := Lib.hid (St.start w ⟨[], [], []⟩)
  go_enter Try.func10, Try.ntmps10
  go_upto_region 2 with (first
    | (go_at_call 11; refine (O.out.newP hP NoT.pt (Kept.no _) 1 1 1 (by decide)).mono ?_; rintro e w2 ⟨p, rfl, O2⟩; clear O H; have O := Lib.hid (show SN P w w2 p (zeroC 1 1 1) 0 from O2); clear O2; have H := Mem.start w2))
  go_upto_region 3 with (first
    | (go_at_call 23; refine (told (lockP hP NoT.pt (Kept.no _) O.out (by omega) 0 3 (by omega) (by omega) ) (v' := .int .i64 0) (R' := fun w' => SN P w w' p ⟨[0], [4], [0]⟩ 0) rfl (fun _ h => h)).mono ?_; rintro e w2 ⟨rfl, O2⟩; clear O H; have O := Lib.hid O2; clear O2; have H := Mem.start w2))
  go_upto_region 4 with (first
    | (go_at_call 23; refine (told (lockP hP NoT.pt (Kept.no _) O.out (by omega) 0 4 (by omega) (by omega) ) (v' := .int .i64 110) (R' := fun w' => SN P w w' p ⟨[0], [4], [0]⟩ 0) rfl (fun _ h => h)).mono ?_; rintro e w2 ⟨rfl, O2⟩; clear O H; have O := Lib.hid O2; clear O2; have H := Mem.start w2))
  go_upto_region 5 with (first
    | (go_at_call 24; refine (told (unlockP hP NoT.pt (Kept.no _) O.out (by omega) 0 4 (by omega) (by omega) ) (v' := .int .i64 110) (R' := fun w' => SN P w w' p ⟨[0], [4], [0]⟩ 0) rfl (fun _ h => h)).mono ?_; rintro e w2 ⟨rfl, O2⟩; clear O H; have O := Lib.hid O2; clear O2; have H := Mem.start w2))
  go_upto_region 6 with (first
    | (go_at_call 24; refine (told (unlockP hP NoT.pt (Kept.no _) O.out (by omega) 0 3 (by omega) (by omega) ) (v' := .int .i64 0) (R' := fun w' => SN P w w' p ⟨[0], [0], [0]⟩ 0) rfl (fun _ h => h)).mono ?_; rintro e w2 ⟨rfl, O2⟩; clear O H; have O := Lib.hid O2; clear O2; have H := Mem.start w2))
  go_upto_region 7 with (first
    | (go_at_call 11; refine (hP.new_no (-1) 0 0 (by omega) (by omega) (by omega) (by decide) _).mono ?_; rintro e w2 ⟨rfl, hb⟩; have O2 := St.on hP.pt NoT.pt (Kept.no _) O.out hb; clear O H hb; have O := Lib.hid O2; clear O2; have H := Mem.start w2))
  go_wp2_with (first
    | go_skip
    | (go_at_call 16; refine (told (holderP hP NoT.pt (Kept.no _) O.out (by omega) 0 (by omega) ) (v' := .int .i64 (-1)) (R' := fun w' => SN P w w' p ⟨[0], [0], [0]⟩ 0) rfl (fun _ h => h)).mono ?_; rintro e w2 ⟨rfl, O2⟩; clear O H; have O := Lib.hid O2; clear O2; have H := Mem.start w2))
  go_ret
  exact ⟨by simp, O.out.bel⟩
set_option maxHeartbeats 2000000 in
theorem none_w (hP : PCells P) (n m k : Int) (hn : I64 n) (hm : I64 m) (hk : I64 k) (x : AX) (hx : x.Fits) (w : World) : Calls Try.prog 4 #[.int .i64 n, .int .i64 m, .int .i64 k, ax x] w fun e w' => e = .returned (.bool true) ∧ Below w.heap.size w w' := by
  have H := Mem.start w
  have kP := newP_b hP n m k hn hm hk
  have kR := newR_b n m k
  generalize newE n m k = E at kP kR
  clear hn hm hk hx
  go_enter Try.func4, Try.ntmps4
  go_upto_region 1 with (first
    | ((with_reducible show wpList _ _ _ _ _ (World.alloc _ (.cells _ _))); refine mem_newb (l := []) H ?_; intro bx w3 hbk H2; try rw [← hbk]; clear hbk H; have H := H2; clear H2; simp only [List.cons_append, List.nil_append, List.set_cons_zero, List.set_cons_succ, List.setIfInBounds_toArray] at H))
  go_upto_region 2 with (first
    | (go_at_call 10; refine (shown11 hP _).mono ?_; rintro e w2 ⟨rfl, hb⟩; have H2 := H.call hb; clear H hb; have H := H2; clear H2))
  go_upto_region 3 with (first
    | (go_at_call 11; refine (kP _).mono ?_; rintro e w2 ⟨q, rfl, hb⟩; have H2 := H.call hb; clear H hb; have H := H2; clear H2))
  go_upto_region 4 with (first
    | (go_at_call 12; refine (kR _).mono ?_; rintro e w2 ⟨q, rfl, hb⟩; have H2 := H.call hb; clear H hb; have H := H2; clear H2))
  go_upto_region 6 with (first
    | go_skip
    | ((with_reducible show wpList _ _ _ (⟨_, .load _ _, _, _, _, _⟩ :: _) _ _); refine mem_loadf (i := 0) H (by first | exact wanted_none rfl | exact wanted_some rfl rfl rfl rfl) (by exact rfl) (by exact rfl) (by exact rfl) (by first | exact Try.underlying3 | exact Try.underlying2) rfl (by exact rfl) ?_)
    | (go_at_call 14; refine (hP.nload _ _).mono ?_; rintro e w2 ⟨rfl, hb⟩; have H2 := H.call hb; clear H hb; have H := H2; clear H2))
  go_upto_region 7 with (first
    | go_skip
    | ((with_reducible show wpList _ _ _ (⟨_, .load _ _, _, _, _, _⟩ :: _) _ _); refine mem_loadf (i := 0) H (by first | exact wanted_none rfl | exact wanted_some rfl rfl rfl rfl) (by exact rfl) (by exact rfl) (by exact rfl) (by first | exact Try.underlying3 | exact Try.underlying2) rfl (by exact rfl) ?_)
    | (go_at_call 18; refine (hP.nadd _ _ _).mono ?_; rintro e w2 ⟨rfl, hb⟩; have H2 := H.call hb; clear H hb; have H := H2; clear H2))
  go_upto_region 8 with (first
    | go_skip
    | ((with_reducible show wpList _ _ _ (⟨_, .load _ _, _, _, _, _⟩ :: _) _ _); refine mem_loadf (i := 0) H (by first | exact wanted_none rfl | exact wanted_some rfl rfl rfl rfl) (by exact rfl) (by exact rfl) (by exact rfl) (by first | exact Try.underlying3 | exact Try.underlying2) rfl (by exact rfl) ?_)
    | (go_at_call 19; refine (hP.nswap _ _ _ _).mono ?_; rintro e w2 ⟨rfl, hb⟩; have H2 := H.call hb; clear H hb; have H := H2; clear H2))
  go_upto_region 9 with (first
    | go_skip
    | ((with_reducible show wpList _ _ _ (⟨_, .load _ _, _, _, _, _⟩ :: _) _ _); refine mem_loadf (i := 0) H (by first | exact wanted_none rfl | exact wanted_some rfl rfl rfl rfl) (by exact rfl) (by exact rfl) (by exact rfl) (by first | exact Try.underlying3 | exact Try.underlying2) rfl (by exact rfl) ?_)
    | (go_at_call 20; refine (hP.nbegin _ _).mono ?_; rintro e w2 ⟨rfl, hb⟩; have H2 := H.call hb; clear H hb; have H := H2; clear H2))
  go_upto_region 10 with (first
    | go_skip
    | ((with_reducible show wpList _ _ _ (⟨_, .load _ _, _, _, _, _⟩ :: _) _ _); refine mem_loadf (i := 0) H (by first | exact wanted_none rfl | exact wanted_some rfl rfl rfl rfl) (by exact rfl) (by exact rfl) (by exact rfl) (by first | exact Try.underlying3 | exact Try.underlying2) rfl (by exact rfl) ?_)
    | (go_at_call 21; refine (hP.nfin _ _ _).mono ?_; rintro e w2 ⟨rfl, hb⟩; have H2 := H.call hb; clear H hb; have H := H2; clear H2))
  go_wp2_with (first
    | go_skip
    | ((with_reducible show wpList _ _ _ (⟨_, .load _ _, _, _, _, _⟩ :: _) _ _); refine mem_loadf (i := 0) H (by first | exact wanted_none rfl | exact wanted_some rfl rfl rfl rfl) (by exact rfl) (by exact rfl) (by exact rfl) (by first | exact Try.underlying3 | exact Try.underlying2) rfl (by exact rfl) ?_)
    | (go_at_call 14; refine (hP.nload _ _).mono ?_; rintro e w2 ⟨rfl, hb⟩; have H2 := H.call hb; clear H hb; have H := H2; clear H2)
    | (go_at_call 22; refine (hP.nstore _ _ _).mono ?_; rintro e w2 ⟨rfl, hb⟩; have H2 := H.call hb; clear H hb; have H := H2; clear H2)
    | (go_at_call 18; refine (hP.nadd _ _ _).mono ?_; rintro e w2 ⟨rfl, hb⟩; have H2 := H.call hb; clear H hb; have H := H2; clear H2)
    | (go_at_call 19; refine (hP.nswap _ _ _ _).mono ?_; rintro e w2 ⟨rfl, hb⟩; have H2 := H.call hb; clear H hb; have H := H2; clear H2)
    | (go_at_call 23; refine (hP.nlock _ _ _).mono ?_; rintro e w2 ⟨rfl, hb⟩; have H2 := H.call hb; clear H hb; have H := H2; clear H2)
    | (go_at_call 24; refine (hP.nunlock _ _ _).mono ?_; rintro e w2 ⟨rfl, hb⟩; have H2 := H.call hb; clear H hb; have H := H2; clear H2)
    | (go_at_call 16; refine (hP.nholder _ _).mono ?_; rintro e w2 ⟨rfl, hb⟩; have H2 := H.call hb; clear H hb; have H := H2; clear H2)
    | (go_at_call 25; refine (hP.nchange _ _).mono ?_; rintro e w2 ⟨rfl, hb⟩; have H2 := H.call hb; clear H hb; have H := H2; clear H2)
    | (go_at_call 26; refine (hP.nsettle _ _).mono ?_; rintro e w2 ⟨rfl, hb⟩; have H2 := H.call hb; clear H hb; have H := H2; clear H2)
    | (go_at_call 20; refine (hP.nbegin _ _).mono ?_; rintro e w2 ⟨rfl, hb⟩; have H2 := H.call hb; clear H hb; have H := H2; clear H2)
    | (go_at_call 21; refine (hP.nfin _ _ _).mono ?_; rintro e w2 ⟨rfl, hb⟩; have H2 := H.call hb; clear H hb; have H := H2; clear H2))
  go_ret
  exact ⟨by simp, H.below⟩
end
end Go.Proofs.Ytoajgaljccaccaa.Ce
end
