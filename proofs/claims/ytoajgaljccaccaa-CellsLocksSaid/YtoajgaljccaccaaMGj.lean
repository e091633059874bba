/-
  CellsSwaps, CellsApart, walked. Conditions: as the interface says.
-/
import Derived.Test.YtoajgaljccaccaaMGi
/- CellsSwaps, CellsApart, walked. Conditions: as the interface says. -/
section
namespace Go.Proofs.Ytoajgaljccaccaa.Ce
set_option linter.unusedSimpArgs false
set_option linter.unusedVariables false
set_option maxRecDepth 100000
open Go.ChangeShapes Go.WideShapes Go.ChangeAt Go.RowKit

theorem wrap64_i64 (x : Int) : I64 (wrap64 x) := by
  rw [← IntWalk.i64_left]
  exact wrap_i64 x
theorem neg_sum (x : Int) (hx : I64 x) : IntKind.i64.wrap (x + wrap64 (-x)) = 0 := by
  obtain ⟨h1, h2⟩ := hx
  rw [IntWalk.i64_left]
  unfold wrap64
  omega
theorem shown11s {P : PT} (hP : PCells P) (w W : World) (O : St NoT NoT w W (fun _ => False) (fun _ => True) 0 ⟨[], [], []⟩ 0 0 ⟨[], [], []⟩ 0) : Calls Try.prog 10 #[] W fun e w' => e = .returned (.bool true) ∧ St NoT NoT w w' (fun _ => False) (fun _ => True) 0 ⟨[], [], []⟩ 0 0 ⟨[], [], []⟩ 0 :=
  (shown11 hP W).mono fun e w' ⟨he, hb⟩ => ⟨he, O.on NoT.pt NoT.pt (Kept.no _) hb⟩
section
variable {P : PT}
set_option maxHeartbeats 2000000 in
theorem swaps_eq (hP : PCells P) (a b v : Int) (ha : I64 a) (hb : I64 b) (hv : I64 v) (h : a = b) (w : World) : Calls Try.prog 7 #[.int .i64 a, .int .i64 b, .int .i64 v] w fun e w' => e = .returned (.bool true) ∧ Below w.heap.size w w' := by
  have H := Mem.start w
  have O := Lib.hid (St.start w ⟨[], [], []⟩)
  subst h
  have tq : (a == a) = true := by simp
  have e1 : storeS (zeroC 3 0 0) 1 a = ⟨[0, a, 0], [], []⟩ := rfl
  have e2 : swapV ⟨[0, a, 0], [], []⟩ 1 a = true := by simp [swapV, has, val]
  have e3 : swapS ⟨[0, a, 0], [], []⟩ 1 a v = ⟨[0, v, 0], [], []⟩ := by rw [swapS, e2]; rfl
  have e4 : loadV ⟨[0, v, 0], [], []⟩ 1 = v := rfl
  have e5 : addV ⟨[0, v, 0], [], []⟩ 1 (wrap64 (-v)) = 0 := (show IntKind.i64.wrap (v + wrap64 (-v)) = 0 from neg_sum v hv)
  have e6 : addS ⟨[0, v, 0], [], []⟩ 1 (wrap64 (-v)) = ⟨[0, 0, 0], [], []⟩ := (show (⟨[0, IntKind.i64.wrap (v + wrap64 (-v)), 0], [], []⟩ : CC) = _ by rw [neg_sum v hv])
  go_enter Try.func7, Try.ntmps7
  go_upto_region 2 with (first
    | (go_at_call 10; refine (shown11s hP w _ O.out).mono ?_; rintro e w2 ⟨rfl, O2⟩; clear O H; have O := Lib.hid O2; clear O2; have H := Mem.start w2))
  go_upto_region 3 with (first
    | (go_at_call 11; refine (O.out.newP hP NoT.pt (Kept.no _) 3 0 0 (by decide)).mono ?_; rintro e w2 ⟨p, rfl, O2⟩; clear O H; have O := Lib.hid (show SN P w w2 p (zeroC 3 0 0) 0 from O2); clear O2; have H := Mem.start w2))
  go_upto_region 4 with (first
    | (go_at_call 22; refine (told (storeP hP NoT.pt (Kept.no _) O.out (by omega) 1 a (by omega) ha) (v' := .int .i64 0) (R' := fun w' => SN P w w' p ⟨[0, a, 0], [], []⟩ 0) (rfl) (fun _ h => by rw [e1] at h; exact h)).mono ?_; rintro e w2 ⟨rfl, O2⟩; clear O H; have O := Lib.hid O2; clear O2; have H := Mem.start w2))
  go_upto_region 5 with (first
    | (go_at_call 19; refine (told (swapP hP NoT.pt (Kept.no _) O.out (by omega) 1 a v (by omega) ha hv) (v' := .tuple #[.bool true, .int .i64 0]) (R' := fun w' => SN P w w' p ⟨[0, v, 0], [], []⟩ 0) (by rw [e2]; rfl) (fun _ h => by rw [e3] at h; exact h)).mono ?_; rintro e w2 ⟨rfl, O2⟩; clear O H; have O := Lib.hid O2; clear O2; have H := Mem.start w2))
  go_upto_region 6 with (first
    | (go_at_call 14; refine (told (loadP hP NoT.pt (Kept.no _) O.out (by omega) 1 (by omega)) (v' := .tuple #[.int .i64 v, .int .i64 0]) (R' := fun w' => SN P w w' p ⟨[0, v, 0], [], []⟩ 0) (by rw [e4]; rfl) (fun _ h => h)).mono ?_; rintro e w2 ⟨rfl, O2⟩; clear O H; have O := Lib.hid O2; clear O2; have H := Mem.start w2))
  go_upto_region 7 with (first
    | (go_at_call 18; refine (told (addP hP NoT.pt (Kept.no _) O.out (by omega) 1 (wrap64 (-v)) (by omega) (wrap64_i64 _)) (v' := .tuple #[.int .i64 0, .int .i64 0]) (R' := fun w' => SN P w w' p ⟨[0, 0, 0], [], []⟩ 0) (by rw [e5]; rfl) (fun _ h => by rw [e6] at h; exact h)).mono ?_; rintro e w2 ⟨rfl, O2⟩; clear O H; have O := Lib.hid O2; clear O2; have H := Mem.start w2))
  go_upto_region 8 with (first
    | (go_at_call 14; refine (told (loadP hP NoT.pt (Kept.no _) O.out (by omega) 0 (by omega)) (v' := .tuple #[.int .i64 0, .int .i64 0]) (R' := fun w' => SN P w w' p ⟨[0, 0, 0], [], []⟩ 0) (rfl) (fun _ h => h)).mono ?_; rintro e w2 ⟨rfl, O2⟩; clear O H; have O := Lib.hid O2; clear O2; have H := Mem.start w2))
  go_wp2
  go_ret
  exact ⟨by simp [tq], O.out.bel⟩
set_option maxHeartbeats 2000000 in
theorem swaps_ne (hP : PCells P) (a b v : Int) (ha : I64 a) (hb : I64 b) (hv : I64 v) (h : ¬ a = b) (w : World) : Calls Try.prog 7 #[.int .i64 a, .int .i64 b, .int .i64 v] w fun e w' => e = .returned (.bool true) ∧ Below w.heap.size w w' := by
  have H := Mem.start w
  have O := Lib.hid (St.start w ⟨[], [], []⟩)
  have tq : (a == b) = false := by simpa using h
  have e1 : storeS (zeroC 3 0 0) 1 a = ⟨[0, a, 0], [], []⟩ := rfl
  have e2 : swapV ⟨[0, a, 0], [], []⟩ 1 b = false := by simp [swapV, has, val, h]
  have e3 : swapS ⟨[0, a, 0], [], []⟩ 1 b v = ⟨[0, a, 0], [], []⟩ := by rw [swapS, e2]; rfl
  have e4 : loadV ⟨[0, a, 0], [], []⟩ 1 = a := rfl
  have e5 : addV ⟨[0, a, 0], [], []⟩ 1 (wrap64 (-a)) = 0 := (show IntKind.i64.wrap (a + wrap64 (-a)) = 0 from neg_sum a ha)
  have e6 : addS ⟨[0, a, 0], [], []⟩ 1 (wrap64 (-a)) = ⟨[0, 0, 0], [], []⟩ := (show (⟨[0, IntKind.i64.wrap (a + wrap64 (-a)), 0], [], []⟩ : CC) = _ by rw [neg_sum a ha])
  go_enter Try.func7, Try.ntmps7
  go_upto_region 2 with (first
    | (go_at_call 10; refine (shown11s hP w _ O.out).mono ?_; rintro e w2 ⟨rfl, O2⟩; clear O H; have O := Lib.hid O2; clear O2; have H := Mem.start w2))
  go_upto_region 3 with (first
    | (go_at_call 11; refine (O.out.newP hP NoT.pt (Kept.no _) 3 0 0 (by decide)).mono ?_; rintro e w2 ⟨p, rfl, O2⟩; clear O H; have O := Lib.hid (show SN P w w2 p (zeroC 3 0 0) 0 from O2); clear O2; have H := Mem.start w2))
  go_upto_region 4 with (first
    | (go_at_call 22; refine (told (storeP hP NoT.pt (Kept.no _) O.out (by omega) 1 a (by omega) ha) (v' := .int .i64 0) (R' := fun w' => SN P w w' p ⟨[0, a, 0], [], []⟩ 0) (rfl) (fun _ h => by rw [e1] at h; exact h)).mono ?_; rintro e w2 ⟨rfl, O2⟩; clear O H; have O := Lib.hid O2; clear O2; have H := Mem.start w2))
  go_upto_region 5 with (first
    | (go_at_call 19; refine (told (swapP hP NoT.pt (Kept.no _) O.out (by omega) 1 b v (by omega) hb hv) (v' := .tuple #[.bool false, .int .i64 0]) (R' := fun w' => SN P w w' p ⟨[0, a, 0], [], []⟩ 0) (by rw [e2]; rfl) (fun _ h => by rw [e3] at h; exact h)).mono ?_; rintro e w2 ⟨rfl, O2⟩; clear O H; have O := Lib.hid O2; clear O2; have H := Mem.start w2))
  go_upto_region 6 with (first
    | (go_at_call 14; refine (told (loadP hP NoT.pt (Kept.no _) O.out (by omega) 1 (by omega)) (v' := .tuple #[.int .i64 a, .int .i64 0]) (R' := fun w' => SN P w w' p ⟨[0, a, 0], [], []⟩ 0) (by rw [e4]; rfl) (fun _ h => h)).mono ?_; rintro e w2 ⟨rfl, O2⟩; clear O H; have O := Lib.hid O2; clear O2; have H := Mem.start w2))
  go_upto_region 7 with (first
    | (go_at_call 18; refine (told (addP hP NoT.pt (Kept.no _) O.out (by omega) 1 (wrap64 (-a)) (by omega) (wrap64_i64 _)) (v' := .tuple #[.int .i64 0, .int .i64 0]) (R' := fun w' => SN P w w' p ⟨[0, 0, 0], [], []⟩ 0) (by rw [e5]; rfl) (fun _ h => by rw [e6] at h; exact h)).mono ?_; rintro e w2 ⟨rfl, O2⟩; clear O H; have O := Lib.hid O2; clear O2; have H := Mem.start w2))
  go_upto_region 8 with (first
    | (go_at_call 14; refine (told (loadP hP NoT.pt (Kept.no _) O.out (by omega) 0 (by omega)) (v' := .tuple #[.int .i64 0, .int .i64 0]) (R' := fun w' => SN P w w' p ⟨[0, 0, 0], [], []⟩ 0) (rfl) (fun _ h => h)).mono ?_; rintro e w2 ⟨rfl, O2⟩; clear O H; have O := Lib.hid O2; clear O2; have H := Mem.start w2))
  go_wp2
  go_ret
  exact ⟨by simp [tq], O.out.bel⟩
theorem swaps_w (hP : PCells P) (a b v : Int) (ha : I64 a) (hb : I64 b) (hv : I64 v) (w : World) : Calls Try.prog 7 #[.int .i64 a, .int .i64 b, .int .i64 v] w fun e w' => e = .returned (.bool true) ∧ Below w.heap.size w w' := by
  by_cases h : a = b
  · exact swaps_eq hP a b v ha hb hv h w
  · exact swaps_ne hP a b v ha hb hv h w
abbrev Z20 : CC := zeroC 20 20 20
theorem rep {N n : Nat} (h : n < N) : has (List.replicate N 0) n = true ∧ val (List.replicate N 0) n = 0 := by
  constructor
  · simp only [has, List.length_replicate, Bool.and_eq_true, decide_eq_true_eq]
    omega
  · simp only [val, Int.toNat_natCast, List.getD_eq_getElem?_getD, List.getElem?_replicate]
    simp [h]
theorem z20 {j : Int} (h0 : 0 ≤ j) (h1 : j ≤ 19) : has Z20.c j = true ∧ has Z20.l j = true ∧ has Z20.s j = true ∧ val Z20.c j = 0 ∧ val Z20.l j = 0 ∧ val Z20.s j = 0 := by
  obtain ⟨n, rfl⟩ := Int.eq_ofNat_of_zero_le h0
  obtain ⟨a, b⟩ := rep (N := 20) (n := n) (by omega)
  exact ⟨a, a, a, b, b, b⟩
set_option maxHeartbeats 4000000 in
theorem apart_w (hP : PCells P) (i k v a : Int) (hi : I64 i) (hk : I64 k) (hv : I64 v) (ha : I64 a) (w : World) : Calls Try.prog 9 #[.int .i64 i, .int .i64 k, .int .i64 v, .int .i64 a] w fun e w' => e = .returned (.bool true) ∧ Below w.heap.size w w' := by
  have H := Mem.start w
  by_cases q0 : i < 0
  · go_enter Try.func9, Try.ntmps9
    go_wp2_with (first
    | go_skip
    | (go_at_call 10; refine (shown11 hP _).mono ?_; rintro e w2 ⟨rfl, hb⟩; have H2 := H.call hb; clear H hb; have H := H2; clear H2))
    go_ret
    exact ⟨rfl, H.below⟩
  by_cases q1 : i > 19
  · go_enter Try.func9, Try.ntmps9
    go_wp2_with (first
    | go_skip
    | (go_at_call 10; refine (shown11 hP _).mono ?_; rintro e w2 ⟨rfl, hb⟩; have H2 := H.call hb; clear H hb; have H := H2; clear H2))
    go_ret
    exact ⟨rfl, H.below⟩
  by_cases q2 : k < 0
  · go_enter Try.func9, Try.ntmps9
    go_wp2_with (first
    | go_skip
    | (go_at_call 10; refine (shown11 hP _).mono ?_; rintro e w2 ⟨rfl, hb⟩; have H2 := H.call hb; clear H hb; have H := H2; clear H2))
    go_ret
    exact ⟨rfl, H.below⟩
  by_cases q3 : k > 19
  · go_enter Try.func9, Try.ntmps9
    go_wp2_with (first
    | go_skip
    | (go_at_call 10; refine (shown11 hP _).mono ?_; rintro e w2 ⟨rfl, hb⟩; have H2 := H.call hb; clear H hb; have H := H2; clear H2))
    go_ret
    exact ⟨rfl, H.below⟩
  by_cases q4 : i = k
  · have tq : (i == k) = true := by simpa using q4
    go_enter Try.func9, Try.ntmps9
    go_wp2_with (first
    | go_skip
    | (go_at_call 10; refine (shown11 hP _).mono ?_; rintro e w2 ⟨rfl, hb⟩; have H2 := H.call hb; clear H hb; have H := H2; clear H2))
    go_ret
    exact ⟨rfl, H.below⟩
  by_cases q5 : a < 0
  · go_enter Try.func9, Try.ntmps9
    go_wp2_with (first
    | go_skip
    | (go_at_call 10; refine (shown11 hP _).mono ?_; rintro e w2 ⟨rfl, hb⟩; have H2 := H.call hb; clear H hb; have H := H2; clear H2))
    go_ret
    exact ⟨rfl, H.below⟩
  by_cases q6 : a > 63
  · go_enter Try.func9, Try.ntmps9
    go_wp2_with (first
    | go_skip
    | (go_at_call 10; refine (shown11 hP _).mono ?_; rintro e w2 ⟨rfl, hb⟩; have H2 := H.call hb; clear H hb; have H := H2; clear H2))
    go_ret
    exact ⟨rfl, H.below⟩
  have tq : (i == k) = false := by simpa using q4
  have O := Lib.hid (St.start w ⟨[], [], []⟩)
  obtain ⟨i1, i2, i3, i4, i5, i6⟩ := z20 (j := i) (by omega) (by omega)
  obtain ⟨k1, k2, k3, k4, k5, k6⟩ := z20 (j := k) (by omega) (by omega)
  have ea : actor a = true := by simp [actor]; omega
  obtain ⟨S1, hS1⟩ : ∃ S, S = ({ Z20 with c := put Z20.c i v } : CC) := ⟨_, rfl⟩
  obtain ⟨S2, hS2⟩ : ∃ S, S = ({ S1 with l := put Z20.l i (a + 1) } : CC) := ⟨_, rfl⟩
  obtain ⟨S3, hS3⟩ : ∃ S, S = ({ S2 with s := put Z20.s i 1 } : CC) := ⟨_, rfl⟩
  have e1 : storeS (zeroC 20 20 20) i v = S1 := by rw [storeS, if_pos i1, hS1]
  have e1' : cellE (has (zeroC 20 20 20).c i) = 0 := by rw [cellE, if_pos i1]
  have e2' : lockE S1 i a = 0 := by rw [lockE, hS1]; simp only [i2, ea, i5]; rfl
  have e2 : lockS S1 i a = S2 := by rw [lockS, if_pos e2', hS2, hS1]
  have e3' : stepE S2 i 0 = 0 := by rw [stepE, hS2, hS1]; simp only [i3, i6]; rfl
  have e3 : stepS S2 i 0 = S3 := by rw [stepS, if_pos e3', hS3, hS2, hS1]; simp only [i6]; rfl
  have e4 : loadV S3 k = 0 := by rw [loadV, hS3, hS2, hS1]; simp only [has_put, k1, if_true]; rw [val_other i1 k1 q4]; exact k4
  have e4' : cellE (has S3.c k) = 0 := by rw [cellE, hS3, hS2, hS1]; simp only [has_put, k1, if_true]
  have e5 : beginV S3 k = 0 := by rw [beginV, hS3, hS2, hS1]; simp only [has_put, k3]; rw [val_other i3 k3 q4, k6]; rfl
  have e5' : beginE S3 k = 0 := by rw [beginE, hS3, hS2, hS1]; simp only [has_put, k3]; rw [val_other i3 k3 q4, k6]; rfl
  have e6 : holder S3 k = -1 := by rw [holder, hS3, hS2, hS1]; simp only [has_put, k2, if_true]; rw [val_other i2 k2 q4, k5]; rfl
  have e7 : lockE S3 k a = 0 := by rw [lockE, hS3, hS2, hS1]; simp only [has_put, k2, ea]; rw [val_other i2 k2 q4, k5]; rfl
  clear hS1 hS2 hS3 i1 i2 i3 i4 i5 i6 k1 k2 k3 k4 k5 k6 ea
  go_enter Try.func9, Try.ntmps9
  go_upto_region 2 with (first
    | (go_at_call 10; refine (shown11s hP w _ O.out).mono ?_; rintro e w2 ⟨rfl, O2⟩; clear O H; have O := Lib.hid O2; clear O2; have H := Mem.start w2))
  go_upto_region 5 with (first
    | go_skip
    | (go_at_call 11; refine (O.out.newP hP NoT.pt (Kept.no _) 20 20 20 (by decide)).mono ?_; rintro e w2 ⟨p, rfl, O2⟩; clear O H; have O := Lib.hid (show SN P w w2 p (zeroC 20 20 20) 0 from O2); clear O2; have H := Mem.start w2))
  go_upto_region 6 with (first
    | (go_at_call 22; refine (told (storeP hP NoT.pt (Kept.no _) O.out (by omega) i v hi hv) (v' := .int .i64 0) (R' := fun w' => SN P w w' p S1 0) (by rw [e1']) (fun _ h => by rw [e1] at h; exact h)).mono ?_; rintro e w2 ⟨rfl, O2⟩; clear O H; have O := Lib.hid O2; clear O2; have H := Mem.start w2))
  go_upto_region 7 with (first
    | (go_at_call 23; refine (told (lockP hP NoT.pt (Kept.no _) O.out (by omega) i a hi ha) (v' := .int .i64 0) (R' := fun w' => SN P w w' p S2 0) (by rw [e2']) (fun _ h => by rw [e2] at h; exact h)).mono ?_; rintro e w2 ⟨rfl, O2⟩; clear O H; have O := Lib.hid O2; clear O2; have H := Mem.start w2))
  go_upto_region 8 with (first
    | (go_at_call 25; refine (told (changeP hP NoT.pt (Kept.no _) O.out (by omega) i hi) (v' := .int .i64 0) (R' := fun w' => SN P w w' p S3 1) (by rw [e3']) (fun _ h => by rw [e3] at h; exact h)).mono ?_; rintro e w2 ⟨rfl, O2⟩; clear O H; have O := Lib.hid O2; clear O2; have H := Mem.start w2))
  go_upto_region 9 with (first
    | (go_at_call 14; refine (told (loadP hP NoT.pt (Kept.no _) O.out (by omega) k hk) (v' := .tuple #[.int .i64 0, .int .i64 0]) (R' := fun w' => SN P w w' p S3 1) (by rw [e4, e4']) (fun _ h => h)).mono ?_; rintro e w2 ⟨rfl, O2⟩; clear O H; have O := Lib.hid O2; clear O2; have H := Mem.start w2))
  go_upto_region 10 with (first
    | (go_at_call 20; refine (told (beginP hP NoT.pt (Kept.no _) O.out (by omega) k hk) (v' := .tuple #[.int .i64 0, .int .i64 0]) (R' := fun w' => SN P w w' p S3 1) (by rw [e5, e5']) (fun _ h => h)).mono ?_; rintro e w2 ⟨rfl, O2⟩; clear O H; have O := Lib.hid O2; clear O2; have H := Mem.start w2))
  go_wp2_with (first
    | go_skip
    | (go_at_call 16; refine (told (holderP hP NoT.pt (Kept.no _) O.out (by omega) k hk) (v' := .int .i64 (-1)) (R' := fun w' => SN P w w' p S3 1) (by rw [e6]) (fun _ h => h)).mono ?_; rintro e w2 ⟨rfl, O2⟩; clear O H; have O := Lib.hid O2; clear O2; have H := Mem.start w2)
    | (go_at_call 23; refine (told (lockP hP NoT.pt (Kept.no _) O.out (by omega) k a hk ha) (v' := .int .i64 0) (R' := fun w' => Below w.heap.size w w') (by rw [e7]) (fun _ h => h.bel)).mono ?_; rintro e w2 ⟨rfl, hb⟩; clear O H; have H := Mem.start w2))
  go_ret
  exact ⟨by simp, hb⟩
end
end Go.Proofs.Ytoajgaljccaccaa.Ce
end
