/-
  The document's Right, of a table whose numbers may be. Conditions: the table lies where its value says.
-/
import Derived.Test.YtaoaapbbadipfaaMGe
/- The document's Right, of a table whose numbers may be. Conditions: the table lies where its value says. -/
section
namespace Go.Proofs.Ytaoaapbbadipfaa
set_option linter.unusedSimpArgs false
set_option linter.unusedVariables false
set_option maxRecDepth 100000
open Go.ChangeShapes Go.WideShapes Go.ChangeAt Go.RowKit

/-- what Right comes to, loop by loop -/
structure RightV (Q : Nat) (cl : List Int) (sp : List (Int × Int)) (v : Bool) : Prop where
  v1 : sp.all (spanOk Q) = false → v = false
  v2 : (List.range Q).all (fun k => onceB sp k) = false → v = false
  v3 : cl.all (classOk sp.length) = false → v = false
  v4 : sp.all (spanOk Q) = true → (List.range Q).all (fun k => onceB sp k) = true → cl.all (classOk sp.length) = true → v = true
theorem rightV {Q : Nat} {cl : List Int} {sp : List (Int × Int)} (hQ : 1 ≤ Q ∧ Q ≤ 64) (hm : cl.length = 16) (hn : 1 ≤ sp.length ∧ sp.length ≤ 16) : RightV Q cl sp (TB.right ⟨Q, cl, sp⟩) := by
  have h0 : TB.ok0 ⟨Q, cl, sp⟩ = true := by
    simp [TB.ok0, hm]
    omega
  constructor
  · intro h
    simp [TB.right, TB.ok1, h]
  · intro h
    simp only [TB.right, TB.ok2, Int.toNat_natCast, h, Bool.and_false, Bool.false_and]
  · intro h
    simp only [TB.right, TB.ok3, h, Bool.and_false]
  · intro h1 h2 h3
    simp only [TB.right, h0, TB.ok1, TB.ok2, TB.ok3, Int.toNat_natCast, h1, h2, h3, Bool.and_self]
theorem small_of {Q : Nat} (hQ : Q ≤ 64) {sp : List (Int × Int)} (h : sp.all (spanOk Q) = true) : ∀ s, s ∈ sp → Small s := fun s hs => by
  have := List.all_eq_true.1 h s hs
  simp only [spanOk, Bool.and_eq_true, decide_eq_true_eq] at this
  unfold Small
  omega
theorem owner_q {A1 A2 : Option Addr} {c1 c2 Q : Nat} {cl : List Int} {sp : List (Int × Int)} {m n : Nat} (hm : cl.length = m) (hn : sp.length = n) (hn' : n ≤ 16) (hs : ∀ s, s ∈ sp → Small s) (q i : Nat) (hq : q ≤ 64) (hi : i ≤ 100) (I d : Int) (hI : (i : Int) = I) (hd : ownAt sp q i = d) (w : World) (ht : TbAt w.heap.size w A1 A2 c1 c2 ⟨Q, cl, sp⟩) :
    Calls Try.prog 36 #[.agg #[.int .i64 (Q : Int), .slice A1 m c1, .slice A2 n c2], .int .i64 (q : Int), .int .i64 I] w fun e w' => e = .returned (.int .i64 d) ∧ Below w.heap.size w w' := by
  have h := owner_r A1 A2 c1 c2 ⟨Q, cl, sp⟩ q i (by omega) hi w ht hs (by show sp.length ≤ 20; omega)
  subst hm hn hI hd
  exact h
theorem onceB_none {sp : List (Int × Int)} {k : Int} (h : ownAt sp k 0 = -1) : onceB sp k = true := by simp [onceB, h]
theorem onceB_hit {sp : List (Int × Int)} {k : Int} {i : Nat} (h : ownAt sp k 0 = i) : onceB sp k = !decide (0 ≤ ownAt sp k (i + 1)) := by simp [onceB, h]
set_option maxRecDepth 100000 in
set_option maxHeartbeats 4000000 in
theorem right_main (A1 A2 : Option Addr) (c1 c2 : Nat) (Q : Nat) (hQ : 1 ≤ Q ∧ Q ≤ 64) (cl : List Int) (hm : cl.length = 16) (sp : List (Int × Int)) (n : Nat) (hn : sp.length = n) (hn' : 1 ≤ n ∧ n ≤ 16) (v : Bool) (w : World)
    (ht : TbAt w.heap.size w A1 A2 c1 c2 ⟨Q, cl, sp⟩) (hv : RightV Q cl sp v) : RightR A1 A2 c1 c2 ⟨Q, cl, sp⟩ w v := by
  have H := Mem.start w
  have T := Lib.hid ht
  have V := Lib.hid hv
  have l1 := ht.l1
  have l2 := ht.l2
  simp only [hm, hn] at l1 l2
  unfold RightR tbC
  simp only [hm, hn]
  have HM := Lib.hid hm
  have HN := Lib.hid hn
  have t0 : decide ((Q : Int) < 1) = false := decide_eq_false (by omega)
  have t1 : decide (64 < (Q : Int)) = false := decide_eq_false (by omega)
  have t2 : decide ((n : Int) < 1) = false := decide_eq_false (by omega)
  have t3 : decide (16 < (n : Int)) = false := decide_eq_false (by omega)
  clear ht hv hm hn
  go_enter Try.func18, Try.ntmps18
  go_upto_region 1 with (first
    | ((with_reducible show wpList _ _ _ _ _ (World.alloc _ (.cells _ _))); refine mem_newb H ?_; intro b w3 hbk H2; try rw [← hbk]; clear hbk H; have H := H2; clear H2; simp only [List.cons_append, List.nil_append, List.set_cons_zero, List.set_cons_succ, List.setIfInBounds_toArray] at H))
  go_wp2_with (first
    | ((with_reducible show wpList _ _ _ (⟨_, .load _ _, _, _, _, _⟩ :: _) _ _); refine mem_loadf (i := 0) H (by first | exact wanted_none rfl | exact wanted_some rfl rfl rfl rfl) (by exact rfl) (by exact rfl) (by exact rfl) (by first | exact Try.underlying3 | exact Try.underlying29 | exact Try.underlying30) rfl (by exact rfl) ?_))
  clear t0 t1 t2 t3
  go_loopw [3] (fun i wr => ∃ k : Nat, k ≤ n ∧ i = .int .i64 k ∧ (sp.take k).all (spanOk Q) = true ∧ Mem w wr [(b, 32, #[.int .i64 (Q : Int), .slice A1 16 c1, .slice A2 n c2])]) (fun i _ => n - (intOf i).toNat)
  case atStart => exact ⟨0, Nat.zero_le _, rfl, rfl, H⟩
  case round =>
    clear H
    obtain ⟨k, hk, rfl, ha, H⟩ := hrel
    have HA := Lib.hid ha
    clear ha
    have hn := HN.out
    by_cases hlt : k < n
    · obtain ⟨s, hsk⟩ : ∃ s, sp[k]? = some s := ⟨sp[k]'(by omega), List.getElem?_eq_getElem _⟩
      obtain ⟨b2, o2, rfl, hB, ca, cb⟩ := (T.out.mem H).sp k s hsk
      obtain ⟨⟨fa, fa'⟩, fb, fb'⟩ := T.out.fs s (List.mem_of_getElem? hsk)
      have HK := Lib.hid hsk
      clear hsk hn
      obtain ⟨x, y⟩ := s
      simp only at ca cb fa fa' fb fb'
      by_cases e1 : x < 0
      · have t1 : decide (x < 0) = true := decide_eq_true e1
        have hf : spanOk Q (x, y) = false := by simp [spanOk]; omega
        have HF := Lib.hid (V.out.v1 (all_no HK.out hf))
        clear hf
        go_wp2_with (first
          | ((with_reducible show wpList _ _ _ _ _ (World.alloc _ (.cells _ _))); refine mem_new H ?_; intro w2 H2; clear H; have H := H2; clear H2; simp only [List.cons_append, List.nil_append, List.set_cons_zero, List.set_cons_succ, List.setIfInBounds_toArray] at H)
          | ((with_reducible show wpList _ _ _ (⟨_, .store 59 _ _, _, _, _, _⟩ :: _) _ _); refine mem_store (i := 1) H (by first | exact wanted_none rfl | exact wanted_some rfl rfl rfl rfl) (by exact rfl) (by exact rfl) (by exact rfl) (by exact rfl) (by exact spInfo) (by exact rfl) (by exact rfl) ?_; intro w2 H2; clear H; have H := H2; clear H2; simp only [List.cons_append, List.nil_append, List.set_cons_zero, List.set_cons_succ, List.setIfInBounds_toArray] at H)
          | ((with_reducible show wpList _ _ _ (⟨_, .load _ _, _, _, _, _⟩ :: _) _ _); refine mem_loadf (i := 0) H (by first | exact wanted_none rfl | exact wanted_some rfl rfl rfl rfl) (by exact rfl) (by exact rfl) (by exact rfl) (by first | exact Try.underlying3 | exact Try.underlying29 | exact Try.underlying30) rfl (by exact rfl) ?_)
          | ((with_reducible show wpList _ _ _ (⟨_, .load _ _, _, _, _, _⟩ :: _) _ _); refine mem_loadf (i := 1) H (by first | exact wanted_none rfl | exact wanted_some rfl rfl rfl rfl) (by exact rfl) (by exact rfl) (by exact rfl) (by first | exact Try.underlying3 | exact Try.underlying29 | exact Try.underlying30) rfl (by exact rfl) ?_))
        go_ret
        exact ⟨by rw [HF.out]; rfl, H.below⟩
      have t1 : decide (x < 0) = false := decide_eq_false e1
      by_cases e2 : y < 1
      · have t2 : decide (y < 1) = true := decide_eq_true e2
        have hf : spanOk Q (x, y) = false := by simp [spanOk]; omega
        have HF := Lib.hid (V.out.v1 (all_no HK.out hf))
        clear hf
        go_wp2_with (first
          | ((with_reducible show wpList _ _ _ _ _ (World.alloc _ (.cells _ _))); refine mem_new H ?_; intro w2 H2; clear H; have H := H2; clear H2; simp only [List.cons_append, List.nil_append, List.set_cons_zero, List.set_cons_succ, List.setIfInBounds_toArray] at H)
          | ((with_reducible show wpList _ _ _ (⟨_, .store 59 _ _, _, _, _, _⟩ :: _) _ _); refine mem_store (i := 1) H (by first | exact wanted_none rfl | exact wanted_some rfl rfl rfl rfl) (by exact rfl) (by exact rfl) (by exact rfl) (by exact rfl) (by exact spInfo) (by exact rfl) (by exact rfl) ?_; intro w2 H2; clear H; have H := H2; clear H2; simp only [List.cons_append, List.nil_append, List.set_cons_zero, List.set_cons_succ, List.setIfInBounds_toArray] at H)
          | ((with_reducible show wpList _ _ _ (⟨_, .load _ _, _, _, _, _⟩ :: _) _ _); refine mem_loadf (i := 0) H (by first | exact wanted_none rfl | exact wanted_some rfl rfl rfl rfl) (by exact rfl) (by exact rfl) (by exact rfl) (by first | exact Try.underlying3 | exact Try.underlying29 | exact Try.underlying30) rfl (by exact rfl) ?_)
          | ((with_reducible show wpList _ _ _ (⟨_, .load _ _, _, _, _, _⟩ :: _) _ _); refine mem_loadf (i := 1) H (by first | exact wanted_none rfl | exact wanted_some rfl rfl rfl rfl) (by exact rfl) (by exact rfl) (by exact rfl) (by first | exact Try.underlying3 | exact Try.underlying29 | exact Try.underlying30) rfl (by exact rfl) ?_))
        go_ret
        exact ⟨by rw [HF.out]; rfl, H.below⟩
      have t2 : decide (y < 1) = false := decide_eq_false e2
      by_cases e3 : (Q : Int) < x
      · have t3 : decide ((Q : Int) < x) = true := decide_eq_true e3
        have hf : spanOk Q (x, y) = false := by simp [spanOk]; omega
        have HF := Lib.hid (V.out.v1 (all_no HK.out hf))
        clear hf
        go_wp2_with (first
          | ((with_reducible show wpList _ _ _ _ _ (World.alloc _ (.cells _ _))); refine mem_new H ?_; intro w2 H2; clear H; have H := H2; clear H2; simp only [List.cons_append, List.nil_append, List.set_cons_zero, List.set_cons_succ, List.setIfInBounds_toArray] at H)
          | ((with_reducible show wpList _ _ _ (⟨_, .store 59 _ _, _, _, _, _⟩ :: _) _ _); refine mem_store (i := 1) H (by first | exact wanted_none rfl | exact wanted_some rfl rfl rfl rfl) (by exact rfl) (by exact rfl) (by exact rfl) (by exact rfl) (by exact spInfo) (by exact rfl) (by exact rfl) ?_; intro w2 H2; clear H; have H := H2; clear H2; simp only [List.cons_append, List.nil_append, List.set_cons_zero, List.set_cons_succ, List.setIfInBounds_toArray] at H)
          | ((with_reducible show wpList _ _ _ (⟨_, .load _ _, _, _, _, _⟩ :: _) _ _); refine mem_loadf (i := 0) H (by first | exact wanted_none rfl | exact wanted_some rfl rfl rfl rfl) (by exact rfl) (by exact rfl) (by exact rfl) (by first | exact Try.underlying3 | exact Try.underlying29 | exact Try.underlying30) rfl (by exact rfl) ?_)
          | ((with_reducible show wpList _ _ _ (⟨_, .load _ _, _, _, _, _⟩ :: _) _ _); refine mem_loadf (i := 1) H (by first | exact wanted_none rfl | exact wanted_some rfl rfl rfl rfl) (by exact rfl) (by exact rfl) (by exact rfl) (by first | exact Try.underlying3 | exact Try.underlying29 | exact Try.underlying30) rfl (by exact rfl) ?_))
        go_ret
        exact ⟨by rw [HF.out]; rfl, H.below⟩
      have t3 : decide ((Q : Int) < x) = false := decide_eq_false e3
      by_cases e4 : (Q : Int) - x < y
      · have t4 : decide ((Q : Int) - x < y) = true := decide_eq_true e4
        have hf : spanOk Q (x, y) = false := by simp [spanOk]; omega
        have HF := Lib.hid (V.out.v1 (all_no HK.out hf))
        clear hf
        go_wp2_with (first
          | ((with_reducible show wpList _ _ _ _ _ (World.alloc _ (.cells _ _))); refine mem_new H ?_; intro w2 H2; clear H; have H := H2; clear H2; simp only [List.cons_append, List.nil_append, List.set_cons_zero, List.set_cons_succ, List.setIfInBounds_toArray] at H)
          | ((with_reducible show wpList _ _ _ (⟨_, .store 59 _ _, _, _, _, _⟩ :: _) _ _); refine mem_store (i := 1) H (by first | exact wanted_none rfl | exact wanted_some rfl rfl rfl rfl) (by exact rfl) (by exact rfl) (by exact rfl) (by exact rfl) (by exact spInfo) (by exact rfl) (by exact rfl) ?_; intro w2 H2; clear H; have H := H2; clear H2; simp only [List.cons_append, List.nil_append, List.set_cons_zero, List.set_cons_succ, List.setIfInBounds_toArray] at H)
          | ((with_reducible show wpList _ _ _ (⟨_, .load _ _, _, _, _, _⟩ :: _) _ _); refine mem_loadf (i := 0) H (by first | exact wanted_none rfl | exact wanted_some rfl rfl rfl rfl) (by exact rfl) (by exact rfl) (by exact rfl) (by first | exact Try.underlying3 | exact Try.underlying29 | exact Try.underlying30) rfl (by exact rfl) ?_)
          | ((with_reducible show wpList _ _ _ (⟨_, .load _ _, _, _, _, _⟩ :: _) _ _); refine mem_loadf (i := 1) H (by first | exact wanted_none rfl | exact wanted_some rfl rfl rfl rfl) (by exact rfl) (by exact rfl) (by exact rfl) (by first | exact Try.underlying3 | exact Try.underlying29 | exact Try.underlying30) rfl (by exact rfl) ?_))
        go_ret
        exact ⟨by rw [HF.out]; rfl, H.below⟩
      have t4 : decide ((Q : Int) - x < y) = false := decide_eq_false e4
      have hf : spanOk Q (x, y) = true := by simp [spanOk]; omega
      have HF := Lib.hid hf
      clear hf
      go_wp2_with (first
        | ((with_reducible show wpList _ _ _ _ _ (World.alloc _ (.cells _ _))); refine mem_new H ?_; intro w2 H2; clear H; have H := H2; clear H2; simp only [List.cons_append, List.nil_append, List.set_cons_zero, List.set_cons_succ, List.setIfInBounds_toArray] at H)
        | ((with_reducible show wpList _ _ _ (⟨_, .store 59 _ _, _, _, _, _⟩ :: _) _ _); refine mem_store (i := 1) H (by first | exact wanted_none rfl | exact wanted_some rfl rfl rfl rfl) (by exact rfl) (by exact rfl) (by exact rfl) (by exact rfl) (by exact spInfo) (by exact rfl) (by exact rfl) ?_; intro w2 H2; clear H; have H := H2; clear H2; simp only [List.cons_append, List.nil_append, List.set_cons_zero, List.set_cons_succ, List.setIfInBounds_toArray] at H)
        | ((with_reducible show wpList _ _ _ (⟨_, .load _ _, _, _, _, _⟩ :: _) _ _); refine mem_loadf (i := 0) H (by first | exact wanted_none rfl | exact wanted_some rfl rfl rfl rfl) (by exact rfl) (by exact rfl) (by exact rfl) (by first | exact Try.underlying3 | exact Try.underlying29 | exact Try.underlying30) rfl (by exact rfl) ?_)
        | ((with_reducible show wpList _ _ _ (⟨_, .load _ _, _, _, _, _⟩ :: _) _ _); refine mem_loadf (i := 1) H (by first | exact wanted_none rfl | exact wanted_some rfl rfl rfl rfl) (by exact rfl) (by exact rfl) (by exact rfl) (by first | exact Try.underlying3 | exact Try.underlying29 | exact Try.underlying30) rfl (by exact rfl) ?_))
      go_roundw
      case rel => exact ⟨k + 1, by omega, by go_num, by rw [all_take HK.out, HA.out, HF.out]; rfl, H.drop 1⟩
      case measure => simp [intOf]; omega
    · obtain rfl : k = n := by omega
      have h1 : sp.all (spanOk Q) = true := by
        have := HA.out
        rwa [← hn, List.take_length] at this
      have HS := Lib.hid (small_of hQ.2 h1)
      have H1 := Lib.hid h1
      clear h1 hn HA
      go_wp2_with (first
        | ((with_reducible show wpList _ _ _ (⟨_, .load _ _, _, _, _, _⟩ :: _) _ _); refine mem_loadf (i := 0) H (by first | exact wanted_none rfl | exact wanted_some rfl rfl rfl rfl) (by exact rfl) (by exact rfl) (by exact rfl) (by first | exact Try.underlying3 | exact Try.underlying29 | exact Try.underlying30) rfl (by exact rfl) ?_))
      go_loopw [5] (fun i wr => ∃ k' : Nat, k' ≤ Q ∧ i = .int .i64 k' ∧ ((List.range Q).take k').all (fun j => onceB sp j) = true ∧ Mem w wr [(b, 32, #[.int .i64 (Q : Int), .slice A1 16 c1, .slice A2 k c2])]) (fun i _ => Q - (intOf i).toNat)
      case atStart => exact ⟨0, Nat.zero_le _, rfl, rfl, H⟩
      case round =>
        clear H
        obtain ⟨j, hj, rfl, ha, H⟩ := hrel
        have HA := Lib.hid ha
        clear ha
        by_cases hlt : j < Q
        · rcases ownAt_spec sp j 0 with ⟨i, s, _, his, _, he, _⟩ | ⟨he, _⟩
          · have hil : i < k := by
              have := (List.getElem?_eq_some_iff.1 his).1
              have := HN.out
              omega
            clear his
            obtain ⟨d, hd⟩ : ∃ d, ownAt sp j (i + 1) = d := ⟨_, rfl⟩
            have ho := onceB_hit he
            rw [hd] at ho
            have HE := Lib.hid he
            have HD := Lib.hid hd
            clear he hd
            have t1 : decide (0 ≤ (i : Int)) = true := decide_eq_true (by omega)
            by_cases hd0 : 0 ≤ d
            · have t2 : decide (0 ≤ d) = true := decide_eq_true hd0
              rw [t2] at ho
              have HF := Lib.hid (V.out.v2 (all_no (range_get hlt) ho))
              clear ho
              go_wp2_with (first
                | ((with_reducible show wpList _ _ _ (⟨_, .load 32 _, _, _, _, _⟩ :: _) _ _); refine mem_load (i := 0) H (by first | exact wanted_none rfl | exact wanted_some rfl rfl rfl rfl) (by exact rfl) (by exact rfl) (by exact rfl) Try.underlying32 rfl (by exact tbInfo) ?_)
                | ((with_reducible show wpList _ _ _ (⟨_, .load _ _, _, _, _, _⟩ :: _) _ _); refine mem_loadf (i := 0) H (by first | exact wanted_none rfl | exact wanted_some rfl rfl rfl rfl) (by exact rfl) (by exact rfl) (by exact rfl) (by first | exact Try.underlying3 | exact Try.underlying29 | exact Try.underlying30) rfl (by exact rfl) ?_)
                | (go_at_call 36; with_reducible refine (owner_q HM.out HN.out (by omega) HS.out j 0 (by omega) (by omega) 0 _ rfl HE.out _ (T.out.mem H)).mono ?_; rintro e w2 ⟨rfl, hb⟩; have H2 := H.call hb; clear H hb; have H := H2; clear H2)
                | (go_at_call 36; with_reducible refine (owner_q HM.out HN.out (by omega) HS.out j (i + 1) (by omega) (by omega) ((i : Int) + 1) d (by omega) HD.out _ (T.out.mem H)).mono ?_; rintro e w2 ⟨rfl, hb⟩; have H2 := H.call hb; clear H hb; have H := H2; clear H2))
              go_ret
              exact ⟨by rw [HF.out]; rfl, H.below⟩
            · have t2 : decide (0 ≤ d) = false := decide_eq_false hd0
              rw [t2] at ho
              have HO := Lib.hid ho
              clear ho
              go_wp2_with (first
                | ((with_reducible show wpList _ _ _ (⟨_, .load 32 _, _, _, _, _⟩ :: _) _ _); refine mem_load (i := 0) H (by first | exact wanted_none rfl | exact wanted_some rfl rfl rfl rfl) (by exact rfl) (by exact rfl) (by exact rfl) Try.underlying32 rfl (by exact tbInfo) ?_)
                | ((with_reducible show wpList _ _ _ (⟨_, .load _ _, _, _, _, _⟩ :: _) _ _); refine mem_loadf (i := 0) H (by first | exact wanted_none rfl | exact wanted_some rfl rfl rfl rfl) (by exact rfl) (by exact rfl) (by exact rfl) (by first | exact Try.underlying3 | exact Try.underlying29 | exact Try.underlying30) rfl (by exact rfl) ?_)
                | (go_at_call 36; with_reducible refine (owner_q HM.out HN.out (by omega) HS.out j 0 (by omega) (by omega) 0 _ rfl HE.out _ (T.out.mem H)).mono ?_; rintro e w2 ⟨rfl, hb⟩; have H2 := H.call hb; clear H hb; have H := H2; clear H2)
                | (go_at_call 36; with_reducible refine (owner_q HM.out HN.out (by omega) HS.out j (i + 1) (by omega) (by omega) ((i : Int) + 1) d (by omega) HD.out _ (T.out.mem H)).mono ?_; rintro e w2 ⟨rfl, hb⟩; have H2 := H.call hb; clear H hb; have H := H2; clear H2))
              go_roundw
              case rel => exact ⟨j + 1, by omega, by go_num, by rw [all_take (range_get hlt), HA.out, HO.out]; rfl, H⟩
              case measure => simp [intOf]; omega
          · have HO := Lib.hid (onceB_none he)
            have HE := Lib.hid he
            clear he
            go_wp2_with (first
              | ((with_reducible show wpList _ _ _ (⟨_, .load 32 _, _, _, _, _⟩ :: _) _ _); refine mem_load (i := 0) H (by first | exact wanted_none rfl | exact wanted_some rfl rfl rfl rfl) (by exact rfl) (by exact rfl) (by exact rfl) Try.underlying32 rfl (by exact tbInfo) ?_)
              | ((with_reducible show wpList _ _ _ (⟨_, .load _ _, _, _, _, _⟩ :: _) _ _); refine mem_loadf (i := 0) H (by first | exact wanted_none rfl | exact wanted_some rfl rfl rfl rfl) (by exact rfl) (by exact rfl) (by exact rfl) (by first | exact Try.underlying3 | exact Try.underlying29 | exact Try.underlying30) rfl (by exact rfl) ?_)
              | (go_at_call 36; with_reducible refine (owner_q HM.out HN.out (by omega) HS.out j 0 (by omega) (by omega) 0 _ rfl HE.out _ (T.out.mem H)).mono ?_; rintro e w2 ⟨rfl, hb⟩; have H2 := H.call hb; clear H hb; have H := H2; clear H2))
            go_roundw
            case rel => exact ⟨j + 1, by omega, by go_num, by rw [all_take (range_get hlt), HA.out, HO.out]; rfl, H⟩
            case measure => simp [intOf]; omega
        · obtain rfl : j = Q := by omega
          have h2 : (List.range j).all (fun i => onceB sp i) = true := by
            have := HA.out
            rwa [List.take_of_length_le (by simp)] at this
          have H2' := Lib.hid h2
          clear h2 HA
          go_wp2_with (first
            | ((with_reducible show wpList _ _ _ (⟨_, .load _ _, _, _, _, _⟩ :: _) _ _); refine mem_loadf (i := 0) H (by first | exact wanted_none rfl | exact wanted_some rfl rfl rfl rfl) (by exact rfl) (by exact rfl) (by exact rfl) (by first | exact Try.underlying3 | exact Try.underlying29 | exact Try.underlying30) rfl (by exact rfl) ?_))
          go_loopw [7] (fun i wr => ∃ k' : Nat, k' ≤ 16 ∧ i = .int .i64 k' ∧ (cl.take k').all (classOk sp.length) = true ∧ Mem w wr [(b, 32, #[.int .i64 (j : Int), .slice A1 16 c1, .slice A2 k c2])]) (fun i _ => 16 - (intOf i).toNat)
          case atStart => exact ⟨0, Nat.zero_le _, rfl, rfl, H⟩
          case round =>
            clear H
            obtain ⟨i, hi, rfl, ha, H⟩ := hrel
            have HA := Lib.hid ha
            clear ha
            have hm := HM.out
            have hn := HN.out
            by_cases hlt : i < 16
            · obtain ⟨x, hx⟩ : ∃ x, cl[i]? = some x := ⟨cl[i]'(by omega), List.getElem?_eq_getElem _⟩
              obtain ⟨b3, o3, rfl, hB, ca⟩ := (T.out.mem H).cl i x hx
              obtain ⟨fa, fa'⟩ := T.out.fc x (List.mem_of_getElem? hx)
              have q1 : wr.cell? ⟨b, 1, none⟩ = some (.slice (some ⟨b3, o3, none⟩) 16 c1) := (H.at 0 rfl).cell 1
              have q2 : wr.cell? ⟨b, 2, none⟩ = some (.slice A2 k c2) := (H.at 0 rfl).cell 2
              have HK := Lib.hid hx
              have hc0 : classOk sp.length x = (decide (0 ≤ x) && decide (x < (k : Int))) := by rw [classOk, hn]
              clear hx hm hn
              by_cases e1 : x < 0
              · have t1 : decide (x < 0) = true := decide_eq_true e1
                have hf : classOk sp.length x = false := by rw [hc0, decide_eq_false (show ¬ 0 ≤ x by omega)]; rfl
                have HF := Lib.hid (V.out.v3 (all_no HK.out hf))
                clear hf hc0
                go_wp2_with (first
    | ((with_reducible show wpList _ _ _ (⟨_, .load _ _, _, _, _, _⟩ :: _) _ _); refine mem_loadf (i := 0) H (by first | exact wanted_none rfl | exact wanted_some rfl rfl rfl rfl) (by exact rfl) (by exact rfl) (by exact rfl) (by first | exact Try.underlying3 | exact Try.underlying29 | exact Try.underlying30) rfl (by exact rfl) ?_))
                go_quiet (fail)
                go_wp2
                go_ret
                exact ⟨by rw [HF.out]; rfl, (H.drewN _).below⟩
              have t1 : decide (x < 0) = false := decide_eq_false e1
              by_cases e2 : (k : Int) ≤ x
              · have t2 : decide ((k : Int) ≤ x) = true := decide_eq_true e2
                have hf : classOk sp.length x = false := by rw [hc0, decide_eq_false (show ¬ x < (k : Int) by omega), Bool.and_false]
                have HF := Lib.hid (V.out.v3 (all_no HK.out hf))
                clear hf hc0
                go_wp2_with (first
    | ((with_reducible show wpList _ _ _ (⟨_, .load _ _, _, _, _, _⟩ :: _) _ _); refine mem_loadf (i := 0) H (by first | exact wanted_none rfl | exact wanted_some rfl rfl rfl rfl) (by exact rfl) (by exact rfl) (by exact rfl) (by first | exact Try.underlying3 | exact Try.underlying29 | exact Try.underlying30) rfl (by exact rfl) ?_))
                go_quiet (fail)
                go_wp2
                go_ret
                exact ⟨by rw [HF.out]; rfl, (H.drewN _).below⟩
              have t2 : decide ((k : Int) ≤ x) = false := decide_eq_false e2
              have hf : classOk sp.length x = true := by rw [hc0, decide_eq_true (show 0 ≤ x by omega), decide_eq_true (show x < (k : Int) by omega)]; rfl
              have HF := Lib.hid hf
              clear hf hc0
              go_wp2_with (first
    | ((with_reducible show wpList _ _ _ (⟨_, .load _ _, _, _, _, _⟩ :: _) _ _); refine mem_loadf (i := 0) H (by first | exact wanted_none rfl | exact wanted_some rfl rfl rfl rfl) (by exact rfl) (by exact rfl) (by exact rfl) (by first | exact Try.underlying3 | exact Try.underlying29 | exact Try.underlying30) rfl (by exact rfl) ?_))
              go_quiet (fail)
              go_wp2
              go_roundw
              case rel => exact ⟨i + 1, by omega, by go_num, by rw [all_take HK.out, HA.out, HF.out]; rfl, H.drewN _⟩
              case measure => simp [intOf]; omega
            · obtain rfl : i = 16 := by omega
              have h3 : cl.all (classOk sp.length) = true := by
                have := HA.out
                rwa [List.take_of_length_le (by omega)] at this
              have HF := Lib.hid (V.out.v4 H1.out H2'.out h3)
              clear h3 hm hn
              go_wp2_with (first
                | ((with_reducible show wpList _ _ _ (⟨_, .load _ _, _, _, _, _⟩ :: _) _ _); refine mem_loadf (i := 0) H (by first | exact wanted_none rfl | exact wanted_some rfl rfl rfl rfl) (by exact rfl) (by exact rfl) (by exact rfl) (by first | exact Try.underlying3 | exact Try.underlying29 | exact Try.underlying30) rfl (by exact rfl) ?_))
              go_ret
              exact ⟨by rw [HF.out]; rfl, H.below⟩
end Go.Proofs.Ytaoaapbbadipfaa
end
