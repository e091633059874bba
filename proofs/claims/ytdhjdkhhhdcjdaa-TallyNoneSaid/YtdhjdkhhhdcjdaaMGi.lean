/-
  TallyNone, walked. Conditions: as the interface says.
-/
import Derived.Test.YtdhjdkhhhdcjdaaMGc
/- TallyNone, walked. Conditions: as the interface says. -/
section
namespace Go.Proofs.Ytdhjdkhhhdcjdaa.Ta
set_option linter.unusedSimpArgs false
set_option linter.unusedVariables false
set_option maxRecDepth 100000
open Go.Joins Go.Deep Go.ChangeShapes Go.WideShapes Go.ChangeAt Go.RowKit

section
variable {P : PT}
set_option maxHeartbeats 4000000 in
theorem none_lo (hP : PTally P) (q : Int) (c : C6) (hq : I64 q) (hc : c.Fits) (h : q < 0) (w : World) : Calls Try.prog 4 #[.int .i64 q, cv c] w fun e w' => e = .returned (.bool true) ∧ Below w.heap.size w w' := by
  have hh : hasQ (zeroT 5) q = false := by simp [hasQ, zeroT]; omega
  have H := Mem.start w
  have hk := kept0
  have O := Lib.hid (show St NoT NoT w w T0 K0 0 z0 0 0 z0 0 from St.start w z0)
  have HF := Lib.hid (fun (X : World) (_ : K0 X) => True.intro)
  have h1 : ¬ (0 : Int) ≤ q := by omega
  clear h
  go_enter Try.func4, Try.ntmps4
  go_upto_region 1 with (first
    | ((with_reducible show wpList _ _ _ _ _ (World.alloc _ (.cells _ _))); refine mem_newb (l := []) H ?_; intro bc w3 hbk H2; try rw [← hbk]; clear hbk H; have H := H2; clear H2; simp only [List.cons_append, List.nil_append, List.set_cons_zero, List.set_cons_succ, List.setIfInBounds_toArray] at H))
  obtain ⟨T1, K1, hk1, hK1, hT1, O1⟩ := pack_more NoT.pt NoT.pt hk O.out H
  have F1 := Lib.hid (fun (X : World) (h : K1 X) => And.intro (hK1 X h).2 (HF.out X (hK1 X h).1))
  clear H O hk HF hK1 hT1
  have hk := hk1
  have O := Lib.hid O1
  have HF := F1
  clear hk1 O1 F1
  have H := True.intro
  go_upto_region 2 with (first
    | (go_at_call 10; refine (shown12 hP _).mono ?_; rintro e w2 ⟨rfl, hb⟩; have O2 := St.on NoT.pt NoT.pt hk O.out hb; clear O H hb; have O := Lib.hid O2; clear O2; have H := Mem.start w2))
  go_upto_region 5 with (first
    | go_skip
    | (go_at_call 17; refine (hP.nread _ _).mono ?_; rintro e w2 ⟨rfl, hb⟩; have O2 := St.on NoT.pt NoT.pt hk O.out hb; clear O H hb; have O := Lib.hid O2; clear O2; have H := Mem.start w2)
    | ((with_reducible show wpList _ _ _ _ _ (World.alloc _ (.cells _ _))); refine mem_newb (l := []) H ?_; intro b1 w3 hbk H2; try rw [← hbk]; clear hbk H; have H := H2; clear H2; simp only [List.cons_append, List.nil_append, List.set_cons_zero, List.set_cons_succ, List.setIfInBounds_toArray] at H)
    | ((with_reducible show wpList _ _ _ (⟨_, .store 42 _ _, _, _, _, _⟩ :: _) _ _); refine mem_store (i := 0) H (by first | exact wanted_none rfl | exact wanted_some rfl rfl rfl rfl) (by exact rfl) (by exact rfl) (by exact rfl) (by exact rfl) (by exact cInfo) (by exact rfl) (by exact rfl) ?_; intro w2 H2; clear H; have H := H2; clear H2; simp only [List.cons_append, List.nil_append, List.set_cons_zero, List.set_cons_succ, List.setIfInBounds_toArray] at H))
  have O2 := St.on NoT.pt NoT.pt hk O.out H.below
  clear H O
  have O := Lib.hid O2
  clear O2
  have H := True.intro
  go_upto_region 6 with (first
    | (go_at_call 18; refine (hP.nsum _).mono ?_; rintro e w2 ⟨rfl, hb⟩; have O2 := St.on NoT.pt NoT.pt hk O.out hb; clear O H hb; have O := Lib.hid O2; clear O2; have H := Mem.start w2)
    | ((with_reducible show wpList _ _ _ _ _ (World.alloc _ (.cells _ _))); refine mem_newb (l := []) H ?_; intro b2 w3 hbk H2; try rw [← hbk]; clear hbk H; have H := H2; clear H2; simp only [List.cons_append, List.nil_append, List.set_cons_zero, List.set_cons_succ, List.setIfInBounds_toArray] at H)
    | ((with_reducible show wpList _ _ _ (⟨_, .store 42 _ _, _, _, _, _⟩ :: _) _ _); refine mem_store (i := 0) H (by first | exact wanted_none rfl | exact wanted_some rfl rfl rfl rfl) (by exact rfl) (by exact rfl) (by exact rfl) (by exact rfl) (by exact cInfo) (by exact rfl) (by exact rfl) ?_; intro w2 H2; clear H; have H := H2; clear H2; simp only [List.cons_append, List.nil_append, List.set_cons_zero, List.set_cons_succ, List.setIfInBounds_toArray] at H))
  have O2 := St.on NoT.pt NoT.pt hk O.out H.below
  clear H O
  have O := Lib.hid O2
  clear O2
  have H := True.intro
  go_upto_region 7 with (first
    | (go_at_call 13; refine (hP.nreader _ _).mono ?_; rintro e w2 ⟨rfl, hb⟩; have O2 := St.on NoT.pt NoT.pt hk O.out hb; clear O H hb; have O := Lib.hid O2; clear O2; have H := Mem.start w2))
  go_upto_region 8 with (first
    | (go_at_call 14; refine (hP.nstep _).mono ?_; rintro e w2 ⟨rfl, hb⟩; have O2 := St.on NoT.pt NoT.pt hk O.out hb; clear O H hb; have O := Lib.hid O2; clear O2; have H := Mem.start w2)
    | ((with_reducible show wpList _ _ _ _ _ (World.alloc _ (.cells _ _))); refine mem_newb (l := []) H ?_; intro b3 w3 hbk H2; try rw [← hbk]; clear hbk H; have H := H2; clear H2; simp only [List.cons_append, List.nil_append, List.set_cons_zero, List.set_cons_succ, List.setIfInBounds_toArray] at H)
    | ((with_reducible show wpList _ _ _ (⟨_, .store 42 _ _, _, _, _, _⟩ :: _) _ _); refine mem_store (i := 0) H (by first | exact wanted_none rfl | exact wanted_some rfl rfl rfl rfl) (by exact rfl) (by exact rfl) (by exact rfl) (by exact rfl) (by exact cInfo) (by exact rfl) (by exact rfl) ?_; intro w2 H2; clear H; have H := H2; clear H2; simp only [List.cons_append, List.nil_append, List.set_cons_zero, List.set_cons_succ, List.setIfInBounds_toArray] at H))
  have O2 := St.on NoT.pt NoT.pt hk O.out H.below
  clear H O
  have O := Lib.hid O2
  clear O2
  have H := True.intro
  go_upto_region 9 with (first
    | (go_at_call 11; refine (O.out.newL hP NoT.pt hk 5 (by decide)).mono ?_; rintro e w2 ⟨p, rfl, O2⟩; clear O H; have O := Lib.hid (show SN P w w2 T1 K1 p (zeroT 5) 0 from O2); clear O2; have H := Mem.start w2))
  have hF : ∀ V, K1 V → Held V bc 42 (row6 c) := fun V h => (HF.out V h).1
  go_wp2_with (first
    | go_skip
    | (go_at_call 13; refine (readerL_no hP NoT.pt hk O.out (by omega) q hq hh).mono ?_; rintro e w2 ⟨rfl, O2⟩; clear O H; have O := Lib.hid O2; clear O2; have H := Mem.start w2)
    | (go_at_call 19; refine (hP.nopn _ _).mono ?_; rintro e w2 ⟨rfl, hb⟩; have O2 := St.on hP.pt NoT.pt hk O.out hb; clear O H hb; have O := Lib.hid O2; clear O2; have H := Mem.start w2)
    | (go_at_call 20; refine (hP.nadd _ _ _ _).mono ?_; rintro e w2 ⟨rfl, hb⟩; have O2 := St.on hP.pt NoT.pt hk O.out hb; clear O H hb; have O := Lib.hid O2; clear O2; have H := Mem.start w2)
    | (go_at_call 21; refine (hP.nshut _ _).mono ?_; rintro e w2 ⟨rfl, hb⟩; have O2 := St.on hP.pt NoT.pt hk O.out hb; clear O H hb; have O := Lib.hid O2; clear O2; have H := Mem.start w2; have gc := hF _ O.out.kp; have d0 : World.cell? w2 ⟨bc, 0, none⟩ = some (.int .u64 c.c0) := gc.cell 0; have d1 : World.cell? w2 ⟨bc, 1, none⟩ = some (.int .u64 c.c1) := gc.cell 1; have d2 : World.cell? w2 ⟨bc, 2, none⟩ = some (.int .u64 c.c2) := gc.cell 2; have d3 : World.cell? w2 ⟨bc, 3, none⟩ = some (.int .u64 c.c3) := gc.cell 3; have d4 : World.cell? w2 ⟨bc, 4, none⟩ = some (.int .u64 c.c4) := gc.cell 4; have d5 : World.cell? w2 ⟨bc, 5, none⟩ = some (.int .u64 c.c5) := gc.cell 5; clear gc)
    | (go_at_call 22; refine (hP.nnote _ _ _).mono ?_; rintro e w2 ⟨rfl, hb⟩; have O2 := St.on hP.pt NoT.pt hk O.out hb; clear O H hb; have O := Lib.hid O2; clear O2; have H := Mem.start w2))
  go_ret
  exact ⟨by first | rfl | (simp; done) | (simp; omega), O.out.bel⟩
set_option maxHeartbeats 4000000 in
theorem none_hi (hP : PTally P) (q : Int) (c : C6) (hq : I64 q) (hc : c.Fits) (h : 5 ≤ q) (w : World) : Calls Try.prog 4 #[.int .i64 q, cv c] w fun e w' => e = .returned (.bool true) ∧ Below w.heap.size w w' := by
  have hh : hasQ (zeroT 5) q = false := by simp [hasQ, zeroT]; omega
  have H := Mem.start w
  have hk := kept0
  have O := Lib.hid (show St NoT NoT w w T0 K0 0 z0 0 0 z0 0 from St.start w z0)
  have HF := Lib.hid (fun (X : World) (_ : K0 X) => True.intro)
  have h1 : (0 : Int) ≤ q := by omega
  have h2 : ¬ q < 5 := by omega
  clear h
  go_enter Try.func4, Try.ntmps4
  go_upto_region 1 with (first
    | ((with_reducible show wpList _ _ _ _ _ (World.alloc _ (.cells _ _))); refine mem_newb (l := []) H ?_; intro bc w3 hbk H2; try rw [← hbk]; clear hbk H; have H := H2; clear H2; simp only [List.cons_append, List.nil_append, List.set_cons_zero, List.set_cons_succ, List.setIfInBounds_toArray] at H))
  obtain ⟨T1, K1, hk1, hK1, hT1, O1⟩ := pack_more NoT.pt NoT.pt hk O.out H
  have F1 := Lib.hid (fun (X : World) (h : K1 X) => And.intro (hK1 X h).2 (HF.out X (hK1 X h).1))
  clear H O hk HF hK1 hT1
  have hk := hk1
  have O := Lib.hid O1
  have HF := F1
  clear hk1 O1 F1
  have H := True.intro
  go_upto_region 2 with (first
    | (go_at_call 10; refine (shown12 hP _).mono ?_; rintro e w2 ⟨rfl, hb⟩; have O2 := St.on NoT.pt NoT.pt hk O.out hb; clear O H hb; have O := Lib.hid O2; clear O2; have H := Mem.start w2))
  go_upto_region 5 with (first
    | go_skip
    | (go_at_call 17; refine (hP.nread _ _).mono ?_; rintro e w2 ⟨rfl, hb⟩; have O2 := St.on NoT.pt NoT.pt hk O.out hb; clear O H hb; have O := Lib.hid O2; clear O2; have H := Mem.start w2)
    | ((with_reducible show wpList _ _ _ _ _ (World.alloc _ (.cells _ _))); refine mem_newb (l := []) H ?_; intro b1 w3 hbk H2; try rw [← hbk]; clear hbk H; have H := H2; clear H2; simp only [List.cons_append, List.nil_append, List.set_cons_zero, List.set_cons_succ, List.setIfInBounds_toArray] at H)
    | ((with_reducible show wpList _ _ _ (⟨_, .store 42 _ _, _, _, _, _⟩ :: _) _ _); refine mem_store (i := 0) H (by first | exact wanted_none rfl | exact wanted_some rfl rfl rfl rfl) (by exact rfl) (by exact rfl) (by exact rfl) (by exact rfl) (by exact cInfo) (by exact rfl) (by exact rfl) ?_; intro w2 H2; clear H; have H := H2; clear H2; simp only [List.cons_append, List.nil_append, List.set_cons_zero, List.set_cons_succ, List.setIfInBounds_toArray] at H))
  have O2 := St.on NoT.pt NoT.pt hk O.out H.below
  clear H O
  have O := Lib.hid O2
  clear O2
  have H := True.intro
  go_upto_region 6 with (first
    | (go_at_call 18; refine (hP.nsum _).mono ?_; rintro e w2 ⟨rfl, hb⟩; have O2 := St.on NoT.pt NoT.pt hk O.out hb; clear O H hb; have O := Lib.hid O2; clear O2; have H := Mem.start w2)
    | ((with_reducible show wpList _ _ _ _ _ (World.alloc _ (.cells _ _))); refine mem_newb (l := []) H ?_; intro b2 w3 hbk H2; try rw [← hbk]; clear hbk H; have H := H2; clear H2; simp only [List.cons_append, List.nil_append, List.set_cons_zero, List.set_cons_succ, List.setIfInBounds_toArray] at H)
    | ((with_reducible show wpList _ _ _ (⟨_, .store 42 _ _, _, _, _, _⟩ :: _) _ _); refine mem_store (i := 0) H (by first | exact wanted_none rfl | exact wanted_some rfl rfl rfl rfl) (by exact rfl) (by exact rfl) (by exact rfl) (by exact rfl) (by exact cInfo) (by exact rfl) (by exact rfl) ?_; intro w2 H2; clear H; have H := H2; clear H2; simp only [List.cons_append, List.nil_append, List.set_cons_zero, List.set_cons_succ, List.setIfInBounds_toArray] at H))
  have O2 := St.on NoT.pt NoT.pt hk O.out H.below
  clear H O
  have O := Lib.hid O2
  clear O2
  have H := True.intro
  go_upto_region 7 with (first
    | (go_at_call 13; refine (hP.nreader _ _).mono ?_; rintro e w2 ⟨rfl, hb⟩; have O2 := St.on NoT.pt NoT.pt hk O.out hb; clear O H hb; have O := Lib.hid O2; clear O2; have H := Mem.start w2))
  go_upto_region 8 with (first
    | (go_at_call 14; refine (hP.nstep _).mono ?_; rintro e w2 ⟨rfl, hb⟩; have O2 := St.on NoT.pt NoT.pt hk O.out hb; clear O H hb; have O := Lib.hid O2; clear O2; have H := Mem.start w2)
    | ((with_reducible show wpList _ _ _ _ _ (World.alloc _ (.cells _ _))); refine mem_newb (l := []) H ?_; intro b3 w3 hbk H2; try rw [← hbk]; clear hbk H; have H := H2; clear H2; simp only [List.cons_append, List.nil_append, List.set_cons_zero, List.set_cons_succ, List.setIfInBounds_toArray] at H)
    | ((with_reducible show wpList _ _ _ (⟨_, .store 42 _ _, _, _, _, _⟩ :: _) _ _); refine mem_store (i := 0) H (by first | exact wanted_none rfl | exact wanted_some rfl rfl rfl rfl) (by exact rfl) (by exact rfl) (by exact rfl) (by exact rfl) (by exact cInfo) (by exact rfl) (by exact rfl) ?_; intro w2 H2; clear H; have H := H2; clear H2; simp only [List.cons_append, List.nil_append, List.set_cons_zero, List.set_cons_succ, List.setIfInBounds_toArray] at H))
  have O2 := St.on NoT.pt NoT.pt hk O.out H.below
  clear H O
  have O := Lib.hid O2
  clear O2
  have H := True.intro
  go_upto_region 9 with (first
    | (go_at_call 11; refine (O.out.newL hP NoT.pt hk 5 (by decide)).mono ?_; rintro e w2 ⟨p, rfl, O2⟩; clear O H; have O := Lib.hid (show SN P w w2 T1 K1 p (zeroT 5) 0 from O2); clear O2; have H := Mem.start w2))
  have hF : ∀ V, K1 V → Held V bc 42 (row6 c) := fun V h => (HF.out V h).1
  go_wp2_with (first
    | go_skip
    | (go_at_call 13; refine (readerL_no hP NoT.pt hk O.out (by omega) q hq hh).mono ?_; rintro e w2 ⟨rfl, O2⟩; clear O H; have O := Lib.hid O2; clear O2; have H := Mem.start w2)
    | (go_at_call 19; refine (hP.nopn _ _).mono ?_; rintro e w2 ⟨rfl, hb⟩; have O2 := St.on hP.pt NoT.pt hk O.out hb; clear O H hb; have O := Lib.hid O2; clear O2; have H := Mem.start w2)
    | (go_at_call 20; refine (hP.nadd _ _ _ _).mono ?_; rintro e w2 ⟨rfl, hb⟩; have O2 := St.on hP.pt NoT.pt hk O.out hb; clear O H hb; have O := Lib.hid O2; clear O2; have H := Mem.start w2)
    | (go_at_call 21; refine (hP.nshut _ _).mono ?_; rintro e w2 ⟨rfl, hb⟩; have O2 := St.on hP.pt NoT.pt hk O.out hb; clear O H hb; have O := Lib.hid O2; clear O2; have H := Mem.start w2; have gc := hF _ O.out.kp; have d0 : World.cell? w2 ⟨bc, 0, none⟩ = some (.int .u64 c.c0) := gc.cell 0; have d1 : World.cell? w2 ⟨bc, 1, none⟩ = some (.int .u64 c.c1) := gc.cell 1; have d2 : World.cell? w2 ⟨bc, 2, none⟩ = some (.int .u64 c.c2) := gc.cell 2; have d3 : World.cell? w2 ⟨bc, 3, none⟩ = some (.int .u64 c.c3) := gc.cell 3; have d4 : World.cell? w2 ⟨bc, 4, none⟩ = some (.int .u64 c.c4) := gc.cell 4; have d5 : World.cell? w2 ⟨bc, 5, none⟩ = some (.int .u64 c.c5) := gc.cell 5; clear gc)
    | (go_at_call 22; refine (hP.nnote _ _ _).mono ?_; rintro e w2 ⟨rfl, hb⟩; have O2 := St.on hP.pt NoT.pt hk O.out hb; clear O H hb; have O := Lib.hid O2; clear O2; have H := Mem.start w2))
  go_ret
  exact ⟨by first | rfl | (simp; done) | (simp; omega), O.out.bel⟩
set_option maxHeartbeats 4000000 in
theorem none_in (hP : PTally P) (q : Int) (c : C6) (hq : I64 q) (hc : c.Fits) (h : 0 ≤ q ∧ q < 5) (w : World) : Calls Try.prog 4 #[.int .i64 q, cv c] w fun e w' => e = .returned (.bool true) ∧ Below w.heap.size w w' := by
  obtain ⟨k, rfl⟩ := Int.eq_ofNat_of_zero_le h.1
  have hl : k < (zeroT 5).s.length := by show k < (List.replicate 5 (0 : Int)).length; rw [List.length_replicate]; omega
  have H := Mem.start w
  have hk := kept0
  have O := Lib.hid (show St NoT NoT w w T0 K0 0 z0 0 0 z0 0 from St.start w z0)
  have HF := Lib.hid (fun (X : World) (_ : K0 X) => True.intro)
  have h1 : (0 : Int) ≤ k := by omega
  have h2 : (k : Int) < 5 := h.2
  clear h
  go_enter Try.func4, Try.ntmps4
  go_upto_region 1 with (first
    | ((with_reducible show wpList _ _ _ _ _ (World.alloc _ (.cells _ _))); refine mem_newb (l := []) H ?_; intro bc w3 hbk H2; try rw [← hbk]; clear hbk H; have H := H2; clear H2; simp only [List.cons_append, List.nil_append, List.set_cons_zero, List.set_cons_succ, List.setIfInBounds_toArray] at H))
  obtain ⟨T1, K1, hk1, hK1, hT1, O1⟩ := pack_more NoT.pt NoT.pt hk O.out H
  have F1 := Lib.hid (fun (X : World) (h : K1 X) => And.intro (hK1 X h).2 (HF.out X (hK1 X h).1))
  clear H O hk HF hK1 hT1
  have hk := hk1
  have O := Lib.hid O1
  have HF := F1
  clear hk1 O1 F1
  have H := True.intro
  go_upto_region 2 with (first
    | (go_at_call 10; refine (shown12 hP _).mono ?_; rintro e w2 ⟨rfl, hb⟩; have O2 := St.on NoT.pt NoT.pt hk O.out hb; clear O H hb; have O := Lib.hid O2; clear O2; have H := Mem.start w2))
  go_upto_region 5 with (first
    | go_skip
    | (go_at_call 17; refine (hP.nread _ _).mono ?_; rintro e w2 ⟨rfl, hb⟩; have O2 := St.on NoT.pt NoT.pt hk O.out hb; clear O H hb; have O := Lib.hid O2; clear O2; have H := Mem.start w2)
    | ((with_reducible show wpList _ _ _ _ _ (World.alloc _ (.cells _ _))); refine mem_newb (l := []) H ?_; intro b1 w3 hbk H2; try rw [← hbk]; clear hbk H; have H := H2; clear H2; simp only [List.cons_append, List.nil_append, List.set_cons_zero, List.set_cons_succ, List.setIfInBounds_toArray] at H)
    | ((with_reducible show wpList _ _ _ (⟨_, .store 42 _ _, _, _, _, _⟩ :: _) _ _); refine mem_store (i := 0) H (by first | exact wanted_none rfl | exact wanted_some rfl rfl rfl rfl) (by exact rfl) (by exact rfl) (by exact rfl) (by exact rfl) (by exact cInfo) (by exact rfl) (by exact rfl) ?_; intro w2 H2; clear H; have H := H2; clear H2; simp only [List.cons_append, List.nil_append, List.set_cons_zero, List.set_cons_succ, List.setIfInBounds_toArray] at H))
  have O2 := St.on NoT.pt NoT.pt hk O.out H.below
  clear H O
  have O := Lib.hid O2
  clear O2
  have H := True.intro
  go_upto_region 6 with (first
    | (go_at_call 18; refine (hP.nsum _).mono ?_; rintro e w2 ⟨rfl, hb⟩; have O2 := St.on NoT.pt NoT.pt hk O.out hb; clear O H hb; have O := Lib.hid O2; clear O2; have H := Mem.start w2)
    | ((with_reducible show wpList _ _ _ _ _ (World.alloc _ (.cells _ _))); refine mem_newb (l := []) H ?_; intro b2 w3 hbk H2; try rw [← hbk]; clear hbk H; have H := H2; clear H2; simp only [List.cons_append, List.nil_append, List.set_cons_zero, List.set_cons_succ, List.setIfInBounds_toArray] at H)
    | ((with_reducible show wpList _ _ _ (⟨_, .store 42 _ _, _, _, _, _⟩ :: _) _ _); refine mem_store (i := 0) H (by first | exact wanted_none rfl | exact wanted_some rfl rfl rfl rfl) (by exact rfl) (by exact rfl) (by exact rfl) (by exact rfl) (by exact cInfo) (by exact rfl) (by exact rfl) ?_; intro w2 H2; clear H; have H := H2; clear H2; simp only [List.cons_append, List.nil_append, List.set_cons_zero, List.set_cons_succ, List.setIfInBounds_toArray] at H))
  have O2 := St.on NoT.pt NoT.pt hk O.out H.below
  clear H O
  have O := Lib.hid O2
  clear O2
  have H := True.intro
  go_upto_region 7 with (first
    | (go_at_call 13; refine (hP.nreader _ _).mono ?_; rintro e w2 ⟨rfl, hb⟩; have O2 := St.on NoT.pt NoT.pt hk O.out hb; clear O H hb; have O := Lib.hid O2; clear O2; have H := Mem.start w2))
  go_upto_region 8 with (first
    | (go_at_call 14; refine (hP.nstep _).mono ?_; rintro e w2 ⟨rfl, hb⟩; have O2 := St.on NoT.pt NoT.pt hk O.out hb; clear O H hb; have O := Lib.hid O2; clear O2; have H := Mem.start w2)
    | ((with_reducible show wpList _ _ _ _ _ (World.alloc _ (.cells _ _))); refine mem_newb (l := []) H ?_; intro b3 w3 hbk H2; try rw [← hbk]; clear hbk H; have H := H2; clear H2; simp only [List.cons_append, List.nil_append, List.set_cons_zero, List.set_cons_succ, List.setIfInBounds_toArray] at H)
    | ((with_reducible show wpList _ _ _ (⟨_, .store 42 _ _, _, _, _, _⟩ :: _) _ _); refine mem_store (i := 0) H (by first | exact wanted_none rfl | exact wanted_some rfl rfl rfl rfl) (by exact rfl) (by exact rfl) (by exact rfl) (by exact rfl) (by exact cInfo) (by exact rfl) (by exact rfl) ?_; intro w2 H2; clear H; have H := H2; clear H2; simp only [List.cons_append, List.nil_append, List.set_cons_zero, List.set_cons_succ, List.setIfInBounds_toArray] at H))
  have O2 := St.on NoT.pt NoT.pt hk O.out H.below
  clear H O
  have O := Lib.hid O2
  clear O2
  have H := True.intro
  go_upto_region 9 with (first
    | (go_at_call 11; refine (O.out.newL hP NoT.pt hk 5 (by decide)).mono ?_; rintro e w2 ⟨p, rfl, O2⟩; clear O H; have O := Lib.hid (show SN P w w2 T1 K1 p (zeroT 5) 0 from O2); clear O2; have H := Mem.start w2))
  have hF : ∀ V, K1 V → Held V bc 42 (row6 c) := fun V h => (HF.out V h).1
  go_wp2_with (first
    | go_skip
    | (go_at_call 13; refine (readerL hP NoT.pt hk O.out (by omega) k hl rfl).mono ?_; rintro e w2 ⟨r, rfl, O2⟩; clear O H; have O := Lib.hid O2; clear O2; have H := Mem.start w2)
    | (go_at_call 19; refine (hP.nopn _ _).mono ?_; rintro e w2 ⟨rfl, hb⟩; have O2 := St.on hP.pt NoT.pt hk O.out hb; clear O H hb; have O := Lib.hid O2; clear O2; have H := Mem.start w2)
    | (go_at_call 20; refine (hP.nadd _ _ _ _).mono ?_; rintro e w2 ⟨rfl, hb⟩; have O2 := St.on hP.pt NoT.pt hk O.out hb; clear O H hb; have O := Lib.hid O2; clear O2; have H := Mem.start w2)
    | (go_at_call 21; refine (hP.nshut _ _).mono ?_; rintro e w2 ⟨rfl, hb⟩; have O2 := St.on hP.pt NoT.pt hk O.out hb; clear O H hb; have O := Lib.hid O2; clear O2; have H := Mem.start w2; have gc := hF _ O.out.kp; have d0 : World.cell? w2 ⟨bc, 0, none⟩ = some (.int .u64 c.c0) := gc.cell 0; have d1 : World.cell? w2 ⟨bc, 1, none⟩ = some (.int .u64 c.c1) := gc.cell 1; have d2 : World.cell? w2 ⟨bc, 2, none⟩ = some (.int .u64 c.c2) := gc.cell 2; have d3 : World.cell? w2 ⟨bc, 3, none⟩ = some (.int .u64 c.c3) := gc.cell 3; have d4 : World.cell? w2 ⟨bc, 4, none⟩ = some (.int .u64 c.c4) := gc.cell 4; have d5 : World.cell? w2 ⟨bc, 5, none⟩ = some (.int .u64 c.c5) := gc.cell 5; clear gc)
    | (go_at_call 22; refine (hP.nnote _ _ _).mono ?_; rintro e w2 ⟨rfl, hb⟩; have O2 := St.on hP.pt NoT.pt hk O.out hb; clear O H hb; have O := Lib.hid O2; clear O2; have H := Mem.start w2))
  go_ret
  exact ⟨by first | rfl | (simp; done) | (simp; omega), O.out.bel⟩
theorem none_w (hP : PTally P) (q : Int) (c : C6) (hq : I64 q) (hc : c.Fits) (w : World) : Calls Try.prog 4 #[.int .i64 q, cv c] w fun e w' => e = .returned (.bool true) ∧ Below w.heap.size w w' := by
  by_cases h : q < 0
  · exact none_lo hP q c hq hc h w
  · by_cases h2 : 5 ≤ q
    · exact none_hi hP q c hq hc h2 w
    · exact none_in hP q c hq hc ⟨by omega, by omega⟩ w
end
end Go.Proofs.Ytdhjdkhhhdcjdaa.Ta
end
