/-
  The program's between, isClass, fits, spans and all. Conditions: the table lies where its value says; the boxes hold it.
-/
import Derived.Test.YtoofmklknffhpaaTableD
import Derived.Test.YtoofmklknffhpaaTableO
namespace Go.Proofs.Ytoofmklknffhpaa
set_option linter.unusedSimpArgs false
set_option linter.unusedVariables false
open Go.ChangeShapes Go.WideShapes Go.ChangeAt Go.RowKit

theorem between_p (a b n : Int) (w : World) : Calls Try.prog 32 #[.int .i64 a, .int .i64 b, .int .i64 n] w fun e w' => e = .returned (.bool (decide (a ≤ n) && decide (n ≤ b))) ∧ Below w.heap.size w w' := by
  by_cases h : a ≤ n
  · have t1 : decide (a ≤ n) = true := decide_eq_true h
    rw [t1, Bool.true_and]
    go_enter Try.func32, Try.ntmps32
    go_wp2
    go_ret
    exact ⟨rfl, Below.refl _ _⟩
  · have t1 : decide (a ≤ n) = false := decide_eq_false h
    rw [t1, Bool.false_and]
    go_enter Try.func32, Try.ntmps32
    go_wp2
    go_ret
    exact ⟨rfl, Below.refl _ _⟩
theorem between_v (a b n : Int) (v : Bool) (hv : (decide (a ≤ n) && decide (n ≤ b)) = v) (w : World) : Calls Try.prog 32 #[.int .i64 a, .int .i64 b, .int .i64 n] w fun e w' => e = .returned (.bool v) ∧ Below w.heap.size w w' := hv ▸ between_p a b n w
theorem isClass_p (A1 A2 : Option Addr) (c1 c2 : Nat) (t : TB) (w : World) : Calls Try.prog 34 #[.agg (tbC A1 A2 c1 c2 t)] w fun e w' => ∃ b, e = .returned (.func (.func 40) #[] #[.pointer (some ⟨b, 0, none⟩)]) ∧ Mem w w' [(b, 25, tbC A1 A2 c1 c2 t)] := by
  unfold tbC
  go_enter Try.func34, Try.ntmps34
  go_wp2
  go_ret
  exact ⟨_, rfl, (Mem.start w).alloc _ _⟩
theorem fits_p (A1 A2 : Option Addr) (c1 c2 : Nat) (t : TB) (w : World) : Calls Try.prog 36 #[.agg (tbC A1 A2 c1 c2 t)] w fun e w' => ∃ b, e = .returned (.func (.func 41) #[] #[.pointer (some ⟨b, 0, none⟩)]) ∧ Mem w w' [(b, 25, tbC A1 A2 c1 c2 t)] := by
  unfold tbC
  go_enter Try.func36, Try.ntmps36
  go_wp2
  go_ret
  exact ⟨_, rfl, (Mem.start w).alloc _ _⟩
theorem spans_p (A1 A2 : Option Addr) (c1 c2 : Nat) (t : TB) (w : World) : Calls Try.prog 38 #[.agg (tbC A1 A2 c1 c2 t)] w fun e w' => ∃ b, e = .returned (.func (.func 42) #[] #[.pointer (some ⟨b, 0, none⟩)]) ∧ Mem w w' [(b, 25, tbC A1 A2 c1 c2 t)] := by
  unfold tbC
  go_enter Try.func38, Try.ntmps38
  go_wp2
  go_ret
  exact ⟨_, rfl, (Mem.start w).alloc _ _⟩
set_option maxRecDepth 100000 in
set_option maxHeartbeats 1000000 in
theorem isClass1_p (bx : Nat) (A1 A2 : Option Addr) (c1 c2 : Nat) (t : TB) (x : Int) (w : World) (gx : Held w bx 25 (tbC A1 A2 c1 c2 t)) (l2 : t.sp.length ≤ c2) (m2 : c2 ≤ maxLen) :
    Calls Try.prog 40 #[.int .i64 x, .pointer (some ⟨bx, 0, none⟩)] w fun e w' => e = .returned (.bool (classOk t.sp.length x)) ∧ Below w.heap.size w w' := by
  have H := Mem.start w
  have q2 : w.cell? ⟨bx, 2, none⟩ = some (.slice A2 t.sp.length c2) := gx.cell 2
  have hv : (decide (0 ≤ x) && decide (x ≤ (t.sp.length : Int) - 1)) = classOk t.sp.length x := by
    have e : decide (x ≤ (t.sp.length : Int) - 1) = decide (x < (t.sp.length : Int)) := decide_eq_decide.2 (by omega)
    rw [classOk, e]
  unfold maxLen at m2
  obtain ⟨n, hn⟩ : ∃ n, t.sp.length = n := ⟨_, rfl⟩
  rw [hn] at q2 hv l2 ⊢
  have cb := fun w => between_v 0 ((n : Int) - 1) x _ hv w
  clear gx hn hv
  go_enter Try.func40, Try.ntmps40
  go_wp2_with (first
    | (go_at_call 32; with_reducible refine (cb _).mono ?_; rintro e w2 ⟨rfl, hb⟩; have H2 := H.call hb; clear H hb; have H := H2; clear H2))
  go_ret
  exact ⟨rfl, H.below⟩
set_option maxRecDepth 100000 in
set_option maxHeartbeats 1000000 in
theorem fits1_p (bx : Nat) (A1 A2 : Option Addr) (c1 c2 : Nat) (t : TB) (s : Int × Int) (w : World) (gx : Held w bx 25 (tbC A1 A2 c1 c2 t)) (hq : 1 ≤ t.q ∧ t.q ≤ 64) (hs : I64 s.1 ∧ I64 s.2) :
    Calls Try.prog 41 #[.agg #[.int .i64 s.1, .int .i64 s.2], .pointer (some ⟨bx, 0, none⟩)] w fun e w' => e = .returned (.bool (spanOk t.q s)) ∧ Below w.heap.size w w' := by
  obtain ⟨a, c⟩ := s
  obtain ⟨⟨h1, h2⟩, h3, h4⟩ := hs
  simp only at h1 h2 h3 h4 ⊢
  have H := Mem.start w
  have q0' : w.cell? ⟨bx, 0, none⟩ = some (.int .i64 t.q) := gx.cell 0
  have hlt := gx.lt
  obtain ⟨Q, hQ⟩ : ∃ Q, t.q = Q := ⟨_, rfl⟩
  rw [hQ] at q0' hq ⊢
  clear gx hQ
  by_cases hc : 1 ≤ c
  · have t1 : decide (1 ≤ c) = true := decide_eq_true hc
    have hv : (decide (0 ≤ a) && decide (a ≤ Q - c)) = spanOk Q (a, c) := by
      by_cases g1 : 0 ≤ a
      · by_cases g2 : a ≤ Q - c
        · rw [decide_eq_true g1, decide_eq_true g2]
          exact (show spanOk Q (a, c) = true by simp only [spanOk, Bool.and_eq_true, decide_eq_true_eq]; omega).symm
        · rw [decide_eq_true g1, decide_eq_false g2]
          exact (show spanOk Q (a, c) = false by simp only [spanOk, Bool.and_eq_false_iff, decide_eq_false_iff_not]; omega).symm
      · rw [decide_eq_false g1]
        exact (show spanOk Q (a, c) = false by simp only [spanOk, Bool.and_eq_false_iff, decide_eq_false_iff_not]; omega).symm
    have cb := fun w => between_v 0 (Q - c) a _ hv w
    clear hv
    generalize spanOk Q (a, c) = v at *
    go_enter Try.func41, Try.ntmps41
    go_upto_region 1 with (first
    | ((with_reducible show wpList _ _ _ _ _ (World.alloc _ (.cells _ _))); refine mem_newb H ?_; intro b w3 hbk H2; try rw [← hbk]; clear hbk H; have H := H2; clear H2; simp only [List.cons_append, List.nil_append, List.set_cons_zero, List.set_cons_succ, List.setIfInBounds_toArray] at H))
    have q0 : w3.cell? ⟨bx, 0, none⟩ = some (.int .i64 Q) := (H.old hlt).trans q0'
    clear q0'
    go_wp2_with (first
    | ((with_reducible show wpList _ _ _ (⟨_, .load _ _, _, _, _, _⟩ :: _) _ _); refine mem_loadf (i := 0) H (by first | exact wanted_none rfl | exact wanted_some rfl rfl rfl rfl) (by exact rfl) (by exact rfl) (by exact rfl) (by first | exact Try.underlying3 | exact Try.underlying22 | exact Try.underlying23) rfl (by exact rfl) ?_)
    | (go_at_call 32; with_reducible refine (cb _).mono ?_; rintro e w2 ⟨rfl, hb⟩; have H2 := H.call hb; clear H hb; have H := H2; clear H2))
    go_ret
    exact ⟨rfl, H.below⟩
  · have t1 : decide (1 ≤ c) = false := decide_eq_false hc
    have hv : spanOk Q (a, c) = false := by simp only [spanOk, t1, Bool.false_and, Bool.and_false]
    rw [hv]
    clear hv
    go_enter Try.func41, Try.ntmps41
    go_upto_region 1 with (first
    | ((with_reducible show wpList _ _ _ _ _ (World.alloc _ (.cells _ _))); refine mem_newb H ?_; intro b w3 hbk H2; try rw [← hbk]; clear hbk H; have H := H2; clear H2; simp only [List.cons_append, List.nil_append, List.set_cons_zero, List.set_cons_succ, List.setIfInBounds_toArray] at H))
    go_wp2_with (first
    | ((with_reducible show wpList _ _ _ (⟨_, .load _ _, _, _, _, _⟩ :: _) _ _); refine mem_loadf (i := 0) H (by first | exact wanted_none rfl | exact wanted_some rfl rfl rfl rfl) (by exact rfl) (by exact rfl) (by exact rfl) (by first | exact Try.underlying3 | exact Try.underlying22 | exact Try.underlying23) rfl (by exact rfl) ?_)
    | (go_at_call 32; with_reducible refine (cb _).mono ?_; rintro e w2 ⟨rfl, hb⟩; have H2 := H.call hb; clear H hb; have H := H2; clear H2))
    go_ret
    exact ⟨rfl, H.below⟩
set_option maxRecDepth 100000 in
set_option maxHeartbeats 1000000 in
theorem allInt_p (bx : Nat) (A1 A2 : Option Addr) (c1 c2 : Nat) (t : TB) (w : World) (gx : Held w bx 25 (tbC A1 A2 c1 c2 t)) (ht : TbAt w.heap.size w A1 A2 c1 c2 t) :
    Calls Try.prog 33 #[.func (.func 40) #[] #[.pointer (some ⟨bx, 0, none⟩)], .slice A1 t.cl.length c1] w fun e w' => e = .returned (.bool (t.cl.all (classOk t.sp.length))) ∧ Below w.heap.size w w' := by
  have H := Mem.start w
  have T := Lib.hid ht
  have G := Lib.hid gx
  have l1 := ht.l1
  have l2 := ht.l2
  have m1 := ht.m1
  have m2 := ht.m2
  unfold maxLen at m1 m2
  clear ht gx
  obtain ⟨n, hn⟩ : ∃ n, t.cl.length = n := ⟨_, rfl⟩
  rw [hn] at l1 ⊢
  have HN := Lib.hid hn
  clear hn
  go_enter Try.func33, Try.ntmps33
  go_wp2
  go_loopw [9] (fun i wr => ∃ k : Nat, k ≤ n ∧ i = .int .i64 k ∧ (t.cl.take k).all (classOk t.sp.length) = true ∧ Mem w wr []) (fun i _ => n - (intOf i).toNat)
  case atStart => exact ⟨0, Nat.zero_le _, rfl, rfl, H⟩
  case round =>
    clear H
    obtain ⟨k, hk, rfl, ha, H⟩ := hrel
    have HA := Lib.hid ha
    clear ha
    have hn := HN.out
    by_cases hlt : k < n
    · obtain ⟨s, hsk⟩ : ∃ s, t.cl[k]? = some s := ⟨t.cl[k]'(by omega), List.getElem?_eq_getElem _⟩
      obtain ⟨b2, o2, rfl, hB, ca⟩ := (T.out.mem H).cl k s hsk
      have HK := Lib.hid hsk
      have cf := fun w gx => isClass1_p bx (some ⟨b2, o2, none⟩) A2 c1 c2 t s w gx T.out.l2 T.out.m2
      clear hsk hn
      rcases hf : (classOk t.sp.length) s with _ | _
      all_goals rw [hf] at cf
      · have HF := Lib.hid (all_no HK.out hf)
        clear hf
        go_wp2_with (first
          | ((with_reducible show wpList _ _ _ _ _ (World.alloc _ (.cells _ _))); refine mem_new H ?_; intro w2 H2; clear H; have H := H2; clear H2; simp only [List.cons_append, List.nil_append, List.set_cons_zero, List.set_cons_succ, List.setIfInBounds_toArray] at H)
          | ((with_reducible show wpList _ _ _ (⟨_, .store 36 _ _, _, _, _, _⟩ :: _) _ _); refine mem_store (i := 0) H (by first | exact wanted_none rfl | exact wanted_some rfl rfl rfl rfl) (by exact rfl) (by exact rfl) (by exact rfl) (by exact rfl) (by exact spInfo) (by exact rfl) (by exact rfl) ?_; intro w2 H2; clear H; have H := H2; clear H2; simp only [List.cons_append, List.nil_append, List.set_cons_zero, List.set_cons_succ, List.setIfInBounds_toArray] at H)
          | ((with_reducible show wpList _ _ _ (⟨_, .load 36 _, _, _, _, _⟩ :: _) _ _); refine mem_load (i := 0) H (by first | exact wanted_none rfl | exact wanted_some rfl rfl rfl rfl) (by exact rfl) (by exact rfl) (by exact rfl) Try.underlying36 rfl (by exact spInfo) ?_)
          | (go_at_call 40; with_reducible refine (cf _ (G.out.below H.below G.out.lt)).mono ?_; rintro e w2 ⟨rfl, hb⟩; have H2 := H.call hb; clear H hb; have H := H2; clear H2))
        go_ret
        exact ⟨by rw [HF.out]; rfl, H.below⟩
      · have HF := Lib.hid hf
        clear hf
        go_wp2_with (first
          | ((with_reducible show wpList _ _ _ _ _ (World.alloc _ (.cells _ _))); refine mem_new H ?_; intro w2 H2; clear H; have H := H2; clear H2; simp only [List.cons_append, List.nil_append, List.set_cons_zero, List.set_cons_succ, List.setIfInBounds_toArray] at H)
          | ((with_reducible show wpList _ _ _ (⟨_, .store 36 _ _, _, _, _, _⟩ :: _) _ _); refine mem_store (i := 0) H (by first | exact wanted_none rfl | exact wanted_some rfl rfl rfl rfl) (by exact rfl) (by exact rfl) (by exact rfl) (by exact rfl) (by exact spInfo) (by exact rfl) (by exact rfl) ?_; intro w2 H2; clear H; have H := H2; clear H2; simp only [List.cons_append, List.nil_append, List.set_cons_zero, List.set_cons_succ, List.setIfInBounds_toArray] at H)
          | ((with_reducible show wpList _ _ _ (⟨_, .load 36 _, _, _, _, _⟩ :: _) _ _); refine mem_load (i := 0) H (by first | exact wanted_none rfl | exact wanted_some rfl rfl rfl rfl) (by exact rfl) (by exact rfl) (by exact rfl) Try.underlying36 rfl (by exact spInfo) ?_)
          | (go_at_call 40; with_reducible refine (cf _ (G.out.below H.below G.out.lt)).mono ?_; rintro e w2 ⟨rfl, hb⟩; have H2 := H.call hb; clear H hb; have H := H2; clear H2))
        go_roundw
        case rel => exact ⟨k + 1, by omega, by go_num, by rw [all_take HK.out, HA.out, HF.out]; rfl, H.drop 0⟩
        case measure => simp [intOf]; omega
    · obtain rfl : k = n := by omega
      have h1 : t.cl.all (classOk t.sp.length) = true := by
        have := HA.out
        rwa [← hn, List.take_length] at this
      have H1 := Lib.hid h1
      clear h1 hn HA
      go_wp2
      go_ret
      exact ⟨by rw [H1.out]; rfl, H.below⟩
set_option maxRecDepth 100000 in
set_option maxHeartbeats 1000000 in
theorem allSpan_p (bx : Nat) (A1 A2 : Option Addr) (c1 c2 : Nat) (t : TB) (w : World) (gx : Held w bx 25 (tbC A1 A2 c1 c2 t)) (ht : TbAt w.heap.size w A1 A2 c1 c2 t) (hq : 1 ≤ t.q ∧ t.q ≤ 64) :
    Calls Try.prog 35 #[.func (.func 41) #[] #[.pointer (some ⟨bx, 0, none⟩)], .slice A2 t.sp.length c2] w fun e w' => e = .returned (.bool (t.sp.all (spanOk t.q))) ∧ Below w.heap.size w w' := by
  have H := Mem.start w
  have T := Lib.hid ht
  have G := Lib.hid gx
  have l1 := ht.l1
  have l2 := ht.l2
  have m1 := ht.m1
  have m2 := ht.m2
  unfold maxLen at m1 m2
  clear ht gx
  obtain ⟨n, hn⟩ : ∃ n, t.sp.length = n := ⟨_, rfl⟩
  rw [hn] at l2 ⊢
  have HN := Lib.hid hn
  clear hn
  go_enter Try.func35, Try.ntmps35
  go_wp2
  go_loopw [9] (fun i wr => ∃ k : Nat, k ≤ n ∧ i = .int .i64 k ∧ (t.sp.take k).all (spanOk t.q) = true ∧ Mem w wr []) (fun i _ => n - (intOf i).toNat)
  case atStart => exact ⟨0, Nat.zero_le _, rfl, rfl, H⟩
  case round =>
    clear H
    obtain ⟨k, hk, rfl, ha, H⟩ := hrel
    have HA := Lib.hid ha
    clear ha
    have hn := HN.out
    by_cases hlt : k < n
    · obtain ⟨s, hsk⟩ : ∃ s, t.sp[k]? = some s := ⟨t.sp[k]'(by omega), List.getElem?_eq_getElem _⟩
      obtain ⟨b2, o2, rfl, hB, ca, cb⟩ := (T.out.mem H).sp k s hsk
      have hfs := T.out.fs s (List.mem_of_getElem? hsk)
      have HK := Lib.hid hsk
      have cf := fun w gx => fits1_p bx A1 (some ⟨b2, o2, none⟩) c1 c2 t s w gx hq hfs
      clear hsk hn
      rcases hf : (spanOk t.q) s with _ | _
      all_goals rw [hf] at cf
      · have HF := Lib.hid (all_no HK.out hf)
        clear hf
        go_wp2_with (first
          | ((with_reducible show wpList _ _ _ _ _ (World.alloc _ (.cells _ _))); refine mem_new H ?_; intro w2 H2; clear H; have H := H2; clear H2; simp only [List.cons_append, List.nil_append, List.set_cons_zero, List.set_cons_succ, List.setIfInBounds_toArray] at H)
          | ((with_reducible show wpList _ _ _ (⟨_, .store 36 _ _, _, _, _, _⟩ :: _) _ _); refine mem_store (i := 0) H (by first | exact wanted_none rfl | exact wanted_some rfl rfl rfl rfl) (by exact rfl) (by exact rfl) (by exact rfl) (by exact rfl) (by exact spInfo) (by exact rfl) (by exact rfl) ?_; intro w2 H2; clear H; have H := H2; clear H2; simp only [List.cons_append, List.nil_append, List.set_cons_zero, List.set_cons_succ, List.setIfInBounds_toArray] at H)
          | ((with_reducible show wpList _ _ _ (⟨_, .load 36 _, _, _, _, _⟩ :: _) _ _); refine mem_load (i := 0) H (by first | exact wanted_none rfl | exact wanted_some rfl rfl rfl rfl) (by exact rfl) (by exact rfl) (by exact rfl) Try.underlying36 rfl (by exact spInfo) ?_)
          | (go_at_call 41; with_reducible refine (cf _ (G.out.below H.below G.out.lt)).mono ?_; rintro e w2 ⟨rfl, hb⟩; have H2 := H.call hb; clear H hb; have H := H2; clear H2))
        go_ret
        exact ⟨by rw [HF.out]; rfl, H.below⟩
      · have HF := Lib.hid hf
        clear hf
        go_wp2_with (first
          | ((with_reducible show wpList _ _ _ _ _ (World.alloc _ (.cells _ _))); refine mem_new H ?_; intro w2 H2; clear H; have H := H2; clear H2; simp only [List.cons_append, List.nil_append, List.set_cons_zero, List.set_cons_succ, List.setIfInBounds_toArray] at H)
          | ((with_reducible show wpList _ _ _ (⟨_, .store 36 _ _, _, _, _, _⟩ :: _) _ _); refine mem_store (i := 0) H (by first | exact wanted_none rfl | exact wanted_some rfl rfl rfl rfl) (by exact rfl) (by exact rfl) (by exact rfl) (by exact rfl) (by exact spInfo) (by exact rfl) (by exact rfl) ?_; intro w2 H2; clear H; have H := H2; clear H2; simp only [List.cons_append, List.nil_append, List.set_cons_zero, List.set_cons_succ, List.setIfInBounds_toArray] at H)
          | ((with_reducible show wpList _ _ _ (⟨_, .load 36 _, _, _, _, _⟩ :: _) _ _); refine mem_load (i := 0) H (by first | exact wanted_none rfl | exact wanted_some rfl rfl rfl rfl) (by exact rfl) (by exact rfl) (by exact rfl) Try.underlying36 rfl (by exact spInfo) ?_)
          | (go_at_call 41; with_reducible refine (cf _ (G.out.below H.below G.out.lt)).mono ?_; rintro e w2 ⟨rfl, hb⟩; have H2 := H.call hb; clear H hb; have H := H2; clear H2))
        go_roundw
        case rel => exact ⟨k + 1, by omega, by go_num, by rw [all_take HK.out, HA.out, HF.out]; rfl, H.drop 0⟩
        case measure => simp [intOf]; omega
    · obtain rfl : k = n := by omega
      have h1 : t.sp.all (spanOk t.q) = true := by
        have := HA.out
        rwa [← hn, List.take_length] at this
      have H1 := Lib.hid h1
      clear h1 hn HA
      go_wp2
      go_ret
      exact ⟨by rw [H1.out]; rfl, H.below⟩
end Go.Proofs.Ytoofmklknffhpaa
