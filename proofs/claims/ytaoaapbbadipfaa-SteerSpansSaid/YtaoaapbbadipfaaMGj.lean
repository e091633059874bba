/-
  The program's between, isClass, fits, spans and all. Conditions: the table lies where its value says; the boxes hold it. Owners reckoned span by span. Mathematics alone. The program's spans visited one by one. Conditions: the table lies where its value says; the box holds it.
-/
import Derived.Test.YtaoaapbbadipfaaMGg
import Derived.Test.YtaoaapbbadipfaaMGh
import Derived.Test.YtaoaapbbadipfaaMGi
import Derived.Test.YtaoaapbbadipfaaMGa
/- The program's between, isClass, fits, spans and all. Conditions: the table lies where its value says; the boxes hold it. -/
section
namespace Go.Proofs.Ytaoaapbbadipfaa
set_option linter.unusedSimpArgs false
set_option linter.unusedVariables false
set_option maxRecDepth 100000
open Go.ChangeShapes Go.WideShapes Go.ChangeAt Go.RowKit

theorem between_p (a b n : Int) (w : World) : Calls Try.prog 59 #[.int .i64 a, .int .i64 b, .int .i64 n] w fun e w' => e = .returned (.bool (decide (a ≤ n) && decide (n ≤ b))) ∧ Below w.heap.size w w' := by
  by_cases h : a ≤ n
  · have t1 : decide (a ≤ n) = true := decide_eq_true h
    rw [t1, Bool.true_and]
    go_enter Try.func59, Try.ntmps59
    go_wp2
    go_ret
    exact ⟨rfl, Below.refl _ _⟩
  · have t1 : decide (a ≤ n) = false := decide_eq_false h
    rw [t1, Bool.false_and]
    go_enter Try.func59, Try.ntmps59
    go_wp2
    go_ret
    exact ⟨rfl, Below.refl _ _⟩
theorem between_v (a b n : Int) (v : Bool) (hv : (decide (a ≤ n) && decide (n ≤ b)) = v) (w : World) : Calls Try.prog 59 #[.int .i64 a, .int .i64 b, .int .i64 n] w fun e w' => e = .returned (.bool v) ∧ Below w.heap.size w w' := hv ▸ between_p a b n w
theorem isClass_p (A1 A2 : Option Addr) (c1 c2 : Nat) (t : TB) (w : World) : Calls Try.prog 66 #[.agg (tbC A1 A2 c1 c2 t)] w fun e w' => ∃ b, e = .returned (.func (.func 74) #[] #[.pointer (some ⟨b, 0, none⟩)]) ∧ Mem w w' [(b, 32, tbC A1 A2 c1 c2 t)] := by
  unfold tbC
  go_enter Try.func66, Try.ntmps66
  go_wp2
  go_ret
  exact ⟨_, rfl, (Mem.start w).alloc _ _⟩
theorem fits_p (A1 A2 : Option Addr) (c1 c2 : Nat) (t : TB) (w : World) : Calls Try.prog 68 #[.agg (tbC A1 A2 c1 c2 t)] w fun e w' => ∃ b, e = .returned (.func (.func 75) #[] #[.pointer (some ⟨b, 0, none⟩)]) ∧ Mem w w' [(b, 32, tbC A1 A2 c1 c2 t)] := by
  unfold tbC
  go_enter Try.func68, Try.ntmps68
  go_wp2
  go_ret
  exact ⟨_, rfl, (Mem.start w).alloc _ _⟩
theorem spans_p (A1 A2 : Option Addr) (c1 c2 : Nat) (t : TB) (w : World) : Calls Try.prog 76 #[.agg (tbC A1 A2 c1 c2 t)] w fun e w' => ∃ b, e = .returned (.func (.func 82) #[] #[.pointer (some ⟨b, 0, none⟩)]) ∧ Mem w w' [(b, 32, tbC A1 A2 c1 c2 t)] := by
  unfold tbC
  go_enter Try.func76, Try.ntmps76
  go_wp2
  go_ret
  exact ⟨_, rfl, (Mem.start w).alloc _ _⟩
set_option maxRecDepth 100000 in
set_option maxHeartbeats 1000000 in
theorem isClass1_p (bx : Nat) (A1 A2 : Option Addr) (c1 c2 : Nat) (t : TB) (x : Int) (w : World) (gx : Held w bx 32 (tbC A1 A2 c1 c2 t)) (l2 : t.sp.length ≤ c2) (m2 : c2 ≤ maxLen) :
    Calls Try.prog 74 #[.int .i64 x, .pointer (some ⟨bx, 0, none⟩)] w fun e w' => e = .returned (.bool (classOk t.sp.length x)) ∧ Below w.heap.size w w' := by
  have H := Mem.start w
  have q2 : w.cell? ⟨bx, 2, none⟩ = some (.slice A2 t.sp.length c2) := gx.cell 2
  have hv : (decide (0 ≤ x) && decide (x ≤ (t.sp.length : Int) - 1)) = classOk t.sp.length x := by
    have e : decide (x ≤ (t.sp.length : Int) - 1) = decide (x < (t.sp.length : Int)) := decide_eq_decide.2 (by omega)
    rw [classOk, e]
  unfold maxLen at m2
  obtain ⟨n, hn⟩ : ∃ n, t.sp.length = n := ⟨_, rfl⟩
  rw [hn] at q2 hv l2 ⊢
  have cb := fun w => between_v 0 ((n : Int) - 1) x _ hv w
  clear gx hn hv
  go_enter Try.func74, Try.ntmps74
  go_wp2_with (first
    | (go_at_call 59; with_reducible refine (cb _).mono ?_; rintro e w2 ⟨rfl, hb⟩; have H2 := H.call hb; clear H hb; have H := H2; clear H2))
  go_ret
  exact ⟨rfl, H.below⟩
set_option maxRecDepth 100000 in
set_option maxHeartbeats 1000000 in
theorem fits1_p (bx : Nat) (A1 A2 : Option Addr) (c1 c2 : Nat) (t : TB) (s : Int × Int) (w : World) (gx : Held w bx 32 (tbC A1 A2 c1 c2 t)) (hq : 1 ≤ t.q ∧ t.q ≤ 64) (hs : I64 s.1 ∧ I64 s.2) :
    Calls Try.prog 75 #[.agg #[.int .i64 s.1, .int .i64 s.2], .pointer (some ⟨bx, 0, none⟩)] w fun e w' => e = .returned (.bool (spanOk t.q s)) ∧ Below w.heap.size w w' := by
  obtain ⟨a, c⟩ := s
  obtain ⟨⟨h1, h2⟩, h3, h4⟩ := hs
  simp only at h1 h2 h3 h4 ⊢
  have H := Mem.start w
  have q0' : w.cell? ⟨bx, 0, none⟩ = some (.int .i64 t.q) := gx.cell 0
  have hlt := gx.lt
  obtain ⟨Q, hQ⟩ : ∃ Q, t.q = Q := ⟨_, rfl⟩
  rw [hQ] at q0' hq ⊢
  clear gx hQ
  by_cases hc : 1 ≤ c
  · have t1 : decide (1 ≤ c) = true := decide_eq_true hc
    have hv : (decide (0 ≤ a) && decide (a ≤ Q - c)) = spanOk Q (a, c) := by
      by_cases g1 : 0 ≤ a
      · by_cases g2 : a ≤ Q - c
        · rw [decide_eq_true g1, decide_eq_true g2]
          exact (show spanOk Q (a, c) = true by simp only [spanOk, Bool.and_eq_true, decide_eq_true_eq]; omega).symm
        · rw [decide_eq_true g1, decide_eq_false g2]
          exact (show spanOk Q (a, c) = false by simp only [spanOk, Bool.and_eq_false_iff, decide_eq_false_iff_not]; omega).symm
      · rw [decide_eq_false g1]
        exact (show spanOk Q (a, c) = false by simp only [spanOk, Bool.and_eq_false_iff, decide_eq_false_iff_not]; omega).symm
    have cb := fun w => between_v 0 (Q - c) a _ hv w
    clear hv
    generalize spanOk Q (a, c) = v at *
    go_enter Try.func75, Try.ntmps75
    go_upto_region 1 with (first
    | ((with_reducible show wpList _ _ _ _ _ (World.alloc _ (.cells _ _))); refine mem_newb H ?_; intro b w3 hbk H2; try rw [← hbk]; clear hbk H; have H := H2; clear H2; simp only [List.cons_append, List.nil_append, List.set_cons_zero, List.set_cons_succ, List.setIfInBounds_toArray] at H))
    have q0 : w3.cell? ⟨bx, 0, none⟩ = some (.int .i64 Q) := (H.old hlt).trans q0'
    clear q0'
    go_wp2_with (first
    | ((with_reducible show wpList _ _ _ (⟨_, .load _ _, _, _, _, _⟩ :: _) _ _); refine mem_loadf (i := 0) H (by first | exact wanted_none rfl | exact wanted_some rfl rfl rfl rfl) (by exact rfl) (by exact rfl) (by exact rfl) (by first | exact Try.underlying3 | exact Try.underlying29 | exact Try.underlying30) rfl (by exact rfl) ?_)
    | (go_at_call 59; with_reducible refine (cb _).mono ?_; rintro e w2 ⟨rfl, hb⟩; have H2 := H.call hb; clear H hb; have H := H2; clear H2))
    go_ret
    exact ⟨rfl, H.below⟩
  · have t1 : decide (1 ≤ c) = false := decide_eq_false hc
    have hv : spanOk Q (a, c) = false := by simp only [spanOk, t1, Bool.false_and, Bool.and_false]
    rw [hv]
    clear hv
    go_enter Try.func75, Try.ntmps75
    go_upto_region 1 with (first
    | ((with_reducible show wpList _ _ _ _ _ (World.alloc _ (.cells _ _))); refine mem_newb H ?_; intro b w3 hbk H2; try rw [← hbk]; clear hbk H; have H := H2; clear H2; simp only [List.cons_append, List.nil_append, List.set_cons_zero, List.set_cons_succ, List.setIfInBounds_toArray] at H))
    go_wp2_with (first
    | ((with_reducible show wpList _ _ _ (⟨_, .load _ _, _, _, _, _⟩ :: _) _ _); refine mem_loadf (i := 0) H (by first | exact wanted_none rfl | exact wanted_some rfl rfl rfl rfl) (by exact rfl) (by exact rfl) (by exact rfl) (by first | exact Try.underlying3 | exact Try.underlying29 | exact Try.underlying30) rfl (by exact rfl) ?_)
    | (go_at_call 59; with_reducible refine (cb _).mono ?_; rintro e w2 ⟨rfl, hb⟩; have H2 := H.call hb; clear H hb; have H := H2; clear H2))
    go_ret
    exact ⟨rfl, H.below⟩
set_option maxRecDepth 100000 in
set_option maxHeartbeats 1000000 in
theorem allInt_p (bx : Nat) (A1 A2 : Option Addr) (c1 c2 : Nat) (t : TB) (w : World) (gx : Held w bx 32 (tbC A1 A2 c1 c2 t)) (ht : TbAt w.heap.size w A1 A2 c1 c2 t) :
    Calls Try.prog 65 #[.func (.func 74) #[] #[.pointer (some ⟨bx, 0, none⟩)], .slice A1 t.cl.length c1] w fun e w' => e = .returned (.bool (t.cl.all (classOk t.sp.length))) ∧ Below w.heap.size w w' := by
  have H := Mem.start w
  have T := Lib.hid ht
  have G := Lib.hid gx
  have l1 := ht.l1
  have l2 := ht.l2
  have m1 := ht.m1
  have m2 := ht.m2
  unfold maxLen at m1 m2
  clear ht gx
  obtain ⟨n, hn⟩ : ∃ n, t.cl.length = n := ⟨_, rfl⟩
  rw [hn] at l1 ⊢
  have HN := Lib.hid hn
  clear hn
  go_enter Try.func65, Try.ntmps65
  go_wp2
  go_loopw [9] (fun i wr => ∃ k : Nat, k ≤ n ∧ i = .int .i64 k ∧ (t.cl.take k).all (classOk t.sp.length) = true ∧ Mem w wr []) (fun i _ => n - (intOf i).toNat)
  case atStart => exact ⟨0, Nat.zero_le _, rfl, rfl, H⟩
  case round =>
    clear H
    obtain ⟨k, hk, rfl, ha, H⟩ := hrel
    have HA := Lib.hid ha
    clear ha
    have hn := HN.out
    by_cases hlt : k < n
    · obtain ⟨s, hsk⟩ : ∃ s, t.cl[k]? = some s := ⟨t.cl[k]'(by omega), List.getElem?_eq_getElem _⟩
      obtain ⟨b2, o2, rfl, hB, ca⟩ := (T.out.mem H).cl k s hsk
      have HK := Lib.hid hsk
      have cf := fun w gx => isClass1_p bx (some ⟨b2, o2, none⟩) A2 c1 c2 t s w gx T.out.l2 T.out.m2
      clear hsk hn
      rcases hf : (classOk t.sp.length) s with _ | _
      all_goals rw [hf] at cf
      · have HF := Lib.hid (all_no HK.out hf)
        clear hf
        go_wp2_with (first
          | ((with_reducible show wpList _ _ _ _ _ (World.alloc _ (.cells _ _))); refine mem_new H ?_; intro w2 H2; clear H; have H := H2; clear H2; simp only [List.cons_append, List.nil_append, List.set_cons_zero, List.set_cons_succ, List.setIfInBounds_toArray] at H)
          | ((with_reducible show wpList _ _ _ (⟨_, .store 59 _ _, _, _, _, _⟩ :: _) _ _); refine mem_store (i := 0) H (by first | exact wanted_none rfl | exact wanted_some rfl rfl rfl rfl) (by exact rfl) (by exact rfl) (by exact rfl) (by exact rfl) (by exact spInfo) (by exact rfl) (by exact rfl) ?_; intro w2 H2; clear H; have H := H2; clear H2; simp only [List.cons_append, List.nil_append, List.set_cons_zero, List.set_cons_succ, List.setIfInBounds_toArray] at H)
          | ((with_reducible show wpList _ _ _ (⟨_, .load 59 _, _, _, _, _⟩ :: _) _ _); refine mem_load (i := 0) H (by first | exact wanted_none rfl | exact wanted_some rfl rfl rfl rfl) (by exact rfl) (by exact rfl) (by exact rfl) Try.underlying59 rfl (by exact spInfo) ?_)
          | (go_at_call 74; with_reducible refine (cf _ (G.out.below H.below G.out.lt)).mono ?_; rintro e w2 ⟨rfl, hb⟩; have H2 := H.call hb; clear H hb; have H := H2; clear H2))
        go_ret
        exact ⟨by rw [HF.out]; rfl, H.below⟩
      · have HF := Lib.hid hf
        clear hf
        go_wp2_with (first
          | ((with_reducible show wpList _ _ _ _ _ (World.alloc _ (.cells _ _))); refine mem_new H ?_; intro w2 H2; clear H; have H := H2; clear H2; simp only [List.cons_append, List.nil_append, List.set_cons_zero, List.set_cons_succ, List.setIfInBounds_toArray] at H)
          | ((with_reducible show wpList _ _ _ (⟨_, .store 59 _ _, _, _, _, _⟩ :: _) _ _); refine mem_store (i := 0) H (by first | exact wanted_none rfl | exact wanted_some rfl rfl rfl rfl) (by exact rfl) (by exact rfl) (by exact rfl) (by exact rfl) (by exact spInfo) (by exact rfl) (by exact rfl) ?_; intro w2 H2; clear H; have H := H2; clear H2; simp only [List.cons_append, List.nil_append, List.set_cons_zero, List.set_cons_succ, List.setIfInBounds_toArray] at H)
          | ((with_reducible show wpList _ _ _ (⟨_, .load 59 _, _, _, _, _⟩ :: _) _ _); refine mem_load (i := 0) H (by first | exact wanted_none rfl | exact wanted_some rfl rfl rfl rfl) (by exact rfl) (by exact rfl) (by exact rfl) Try.underlying59 rfl (by exact spInfo) ?_)
          | (go_at_call 74; with_reducible refine (cf _ (G.out.below H.below G.out.lt)).mono ?_; rintro e w2 ⟨rfl, hb⟩; have H2 := H.call hb; clear H hb; have H := H2; clear H2))
        go_roundw
        case rel => exact ⟨k + 1, by omega, by go_num, by rw [all_take HK.out, HA.out, HF.out]; rfl, H.drop 0⟩
        case measure => simp [intOf]; omega
    · obtain rfl : k = n := by omega
      have h1 : t.cl.all (classOk t.sp.length) = true := by
        have := HA.out
        rwa [← hn, List.take_length] at this
      have H1 := Lib.hid h1
      clear h1 hn HA
      go_wp2
      go_ret
      exact ⟨by rw [H1.out]; rfl, H.below⟩
set_option maxRecDepth 100000 in
set_option maxHeartbeats 1000000 in
theorem allSpan_p (bx : Nat) (A1 A2 : Option Addr) (c1 c2 : Nat) (t : TB) (w : World) (gx : Held w bx 32 (tbC A1 A2 c1 c2 t)) (ht : TbAt w.heap.size w A1 A2 c1 c2 t) (hq : 1 ≤ t.q ∧ t.q ≤ 64) :
    Calls Try.prog 67 #[.func (.func 75) #[] #[.pointer (some ⟨bx, 0, none⟩)], .slice A2 t.sp.length c2] w fun e w' => e = .returned (.bool (t.sp.all (spanOk t.q))) ∧ Below w.heap.size w w' := by
  have H := Mem.start w
  have T := Lib.hid ht
  have G := Lib.hid gx
  have l1 := ht.l1
  have l2 := ht.l2
  have m1 := ht.m1
  have m2 := ht.m2
  unfold maxLen at m1 m2
  clear ht gx
  obtain ⟨n, hn⟩ : ∃ n, t.sp.length = n := ⟨_, rfl⟩
  rw [hn] at l2 ⊢
  have HN := Lib.hid hn
  clear hn
  go_enter Try.func67, Try.ntmps67
  go_wp2
  go_loopw [9] (fun i wr => ∃ k : Nat, k ≤ n ∧ i = .int .i64 k ∧ (t.sp.take k).all (spanOk t.q) = true ∧ Mem w wr []) (fun i _ => n - (intOf i).toNat)
  case atStart => exact ⟨0, Nat.zero_le _, rfl, rfl, H⟩
  case round =>
    clear H
    obtain ⟨k, hk, rfl, ha, H⟩ := hrel
    have HA := Lib.hid ha
    clear ha
    have hn := HN.out
    by_cases hlt : k < n
    · obtain ⟨s, hsk⟩ : ∃ s, t.sp[k]? = some s := ⟨t.sp[k]'(by omega), List.getElem?_eq_getElem _⟩
      obtain ⟨b2, o2, rfl, hB, ca, cb⟩ := (T.out.mem H).sp k s hsk
      have hfs := T.out.fs s (List.mem_of_getElem? hsk)
      have HK := Lib.hid hsk
      have cf := fun w gx => fits1_p bx A1 (some ⟨b2, o2, none⟩) c1 c2 t s w gx hq hfs
      clear hsk hn
      rcases hf : (spanOk t.q) s with _ | _
      all_goals rw [hf] at cf
      · have HF := Lib.hid (all_no HK.out hf)
        clear hf
        go_wp2_with (first
          | ((with_reducible show wpList _ _ _ _ _ (World.alloc _ (.cells _ _))); refine mem_new H ?_; intro w2 H2; clear H; have H := H2; clear H2; simp only [List.cons_append, List.nil_append, List.set_cons_zero, List.set_cons_succ, List.setIfInBounds_toArray] at H)
          | ((with_reducible show wpList _ _ _ (⟨_, .store 59 _ _, _, _, _, _⟩ :: _) _ _); refine mem_store (i := 0) H (by first | exact wanted_none rfl | exact wanted_some rfl rfl rfl rfl) (by exact rfl) (by exact rfl) (by exact rfl) (by exact rfl) (by exact spInfo) (by exact rfl) (by exact rfl) ?_; intro w2 H2; clear H; have H := H2; clear H2; simp only [List.cons_append, List.nil_append, List.set_cons_zero, List.set_cons_succ, List.setIfInBounds_toArray] at H)
          | ((with_reducible show wpList _ _ _ (⟨_, .load 59 _, _, _, _, _⟩ :: _) _ _); refine mem_load (i := 0) H (by first | exact wanted_none rfl | exact wanted_some rfl rfl rfl rfl) (by exact rfl) (by exact rfl) (by exact rfl) Try.underlying59 rfl (by exact spInfo) ?_)
          | (go_at_call 75; with_reducible refine (cf _ (G.out.below H.below G.out.lt)).mono ?_; rintro e w2 ⟨rfl, hb⟩; have H2 := H.call hb; clear H hb; have H := H2; clear H2))
        go_ret
        exact ⟨by rw [HF.out]; rfl, H.below⟩
      · have HF := Lib.hid hf
        clear hf
        go_wp2_with (first
          | ((with_reducible show wpList _ _ _ _ _ (World.alloc _ (.cells _ _))); refine mem_new H ?_; intro w2 H2; clear H; have H := H2; clear H2; simp only [List.cons_append, List.nil_append, List.set_cons_zero, List.set_cons_succ, List.setIfInBounds_toArray] at H)
          | ((with_reducible show wpList _ _ _ (⟨_, .store 59 _ _, _, _, _, _⟩ :: _) _ _); refine mem_store (i := 0) H (by first | exact wanted_none rfl | exact wanted_some rfl rfl rfl rfl) (by exact rfl) (by exact rfl) (by exact rfl) (by exact rfl) (by exact spInfo) (by exact rfl) (by exact rfl) ?_; intro w2 H2; clear H; have H := H2; clear H2; simp only [List.cons_append, List.nil_append, List.set_cons_zero, List.set_cons_succ, List.setIfInBounds_toArray] at H)
          | ((with_reducible show wpList _ _ _ (⟨_, .load 59 _, _, _, _, _⟩ :: _) _ _); refine mem_load (i := 0) H (by first | exact wanted_none rfl | exact wanted_some rfl rfl rfl rfl) (by exact rfl) (by exact rfl) (by exact rfl) Try.underlying59 rfl (by exact spInfo) ?_)
          | (go_at_call 75; with_reducible refine (cf _ (G.out.below H.below G.out.lt)).mono ?_; rintro e w2 ⟨rfl, hb⟩; have H2 := H.call hb; clear H hb; have H := H2; clear H2))
        go_roundw
        case rel => exact ⟨k + 1, by omega, by go_num, by rw [all_take HK.out, HA.out, HF.out]; rfl, H.drop 0⟩
        case measure => simp [intOf]; omega
    · obtain rfl : k = n := by omega
      have h1 : t.sp.all (spanOk t.q) = true := by
        have := HA.out
        rwa [← hn, List.take_length] at this
      have H1 := Lib.hid h1
      clear h1 hn HA
      go_wp2
      go_ret
      exact ⟨by rw [H1.out]; rfl, H.below⟩
end Go.Proofs.Ytaoaapbbadipfaa
end
/- Owners reckoned span by span. Mathematics alone. -/
section
namespace Go.Proofs.Ytaoaapbbadipfaa
set_option linter.unusedSimpArgs false
set_option linter.unusedVariables false
set_option maxRecDepth 100000

/-- the k-th span -/
def spK (l : List (Int × Int)) (k : Nat) : Int × Int := l.getD k (0, 0)
theorem spK_get {l : List (Int × Int)} {k : Nat} (h : k < l.length) : l[k]? = some (spK l k) := by
  rw [spK, List.getD_eq_getElem?_getD, List.getElem?_eq_getElem h]
  rfl
/-- no two spans of a list have a queue in common -/
def Apart (l : List (Int × Int)) : Prop := ∀ (q : Nat) (i j : Nat) (s s' : Int × Int), i < j → l[i]? = some s → l[j]? = some s' → inB q s = true → inB q s' = true → False
theorem apart_once {l : List (Int × Int)} (h : Apart l) (q : Nat) : onceB l q = true := onceB_of fun i j s s' hij hi hj hs hs' => h q i j s s' hij hi hj hs hs'
/-- owners, once k spans have been told -/
def ownK (l : List (Int × Int)) (k : Nat) (q : Nat) : Int := ownAt (l.take k) q 0
theorem ownK_zero (l : List (Int × Int)) (q : Nat) : ownK l 0 q = -1 := by
  rw [ownK, List.take_zero]
  exact ownAt_end (Nat.le_refl _)
theorem take_lt {l : List (Int × Int)} {k i : Nat} {s : Int × Int} (h : (l.take k)[i]? = some s) : i < k ∧ l[i]? = some s := by
  rw [List.getElem?_take] at h
  split at h
  · exact ⟨by assumption, h⟩
  · cases h
theorem take_of {l : List (Int × Int)} {k i : Nat} {s : Int × Int} (hk : i < k) (h : l[i]? = some s) : (l.take k)[i]? = some s := by
  rw [List.getElem?_take, if_pos hk]
  exact h
theorem ownK_none {l : List (Int × Int)} {k q : Nat} (h : ownK l k q = -1) {i : Nat} {s : Int × Int} (hi : i < k) (hs : l[i]? = some s) : inB q s = false := by
  rcases ownAt_spec (l.take k) q 0 with ⟨j, t, _, _, _, he, _⟩ | ⟨_, hn⟩
  · rw [ownK, he] at h
    omega
  · exact hn i s (Nat.zero_le _) (take_of hi hs)
theorem ownK_some {l : List (Int × Int)} {k q : Nat} (h : ownK l k q ≠ -1) : ∃ i s, i < k ∧ l[i]? = some s ∧ inB q s = true := by
  rcases ownAt_spec (l.take k) q 0 with ⟨j, t, _, hj, ht, _, _⟩ | ⟨he, _⟩
  · exact ⟨j, t, (take_lt hj).1, (take_lt hj).2, ht⟩
  · exact (h he).elim
/-- the next span, none of whose queues has an owner -/
theorem apart_next {l : List (Int × Int)} {k : Nat} (hk : k < l.length) (h : Apart (l.take k)) (hn : ∀ q : Nat, inB q (spK l k) = true → ownK l k q = -1) : Apart (l.take (k + 1)) := by
  intro q i j s s' hij hi hj hs hs'
  obtain ⟨hi1, hi2⟩ := take_lt hi
  obtain ⟨hj1, hj2⟩ := take_lt hj
  by_cases e : j = k
  · subst e
    have e2 := spK_get hk
    rw [hj2] at e2
    cases e2
    have := ownK_none (hn q hs') hij hi2
    rw [hs] at this
    cases this
  · exact h q i j s s' hij (take_of (by omega) hi2) (take_of (by omega) hj2) hs hs'
theorem ownK_next {l : List (Int × Int)} {k : Nat} (hk : k < l.length) (hn : ∀ q : Nat, inB q (spK l k) = true → ownK l k q = -1) (q : Nat) : ownK l (k + 1) q = if inB q (spK l k) = true then (k : Int) else ownK l k q := by
  rcases ownAt_spec (l.take (k + 1)) q 0 with ⟨j, t, _, hj, ht, he, hb⟩ | ⟨he, hb⟩
  · obtain ⟨hj1, hj2⟩ := take_lt hj
    rw [ownK, he]
    by_cases e : j = k
    · subst e
      have e2 := spK_get hk
      rw [hj2] at e2
      cases e2
      rw [if_pos ht]
    · have hne : ownK l k q ≠ -1 := fun h => by
        have := ownK_none h (show j < k by omega) hj2
        rw [ht] at this
        cases this
      rcases hib : inB q (spK l k) with _ | _
      · rw [if_neg (by simp)]
        rcases ownAt_spec (l.take k) q 0 with ⟨i, u, _, hi, hu, he', hb'⟩ | ⟨he', _⟩
        · obtain ⟨hi1, hi2⟩ := take_lt hi
          rw [ownK, he']
          rcases Nat.lt_trichotomy i j with h | h | h
          · have := hb i u (Nat.zero_le _) h (take_of (by omega) hi2)
            rw [hu] at this
            cases this
          · rw [h]
          · have := hb' j t (Nat.zero_le _) h (take_of (by omega) hj2)
            rw [ht] at this
            cases this
        · exact (hne he').elim
      · exact (hne (hn q hib)).elim
  · have h1 : inB q (spK l k) = false := hb k (spK l k) (Nat.zero_le _) (take_of (by omega) (spK_get hk))
    rw [if_neg (by simp [h1]), ownK, he]
    by_cases e : ownK l k q = -1
    · exact e.symm
    · obtain ⟨i, s, hi, hs, hin⟩ := ownK_some e
      have := hb i s (Nat.zero_le _) (take_of (by omega) hs)
      rw [hin] at this
      cases this
/-- a queue of the next span that has an owner is in two spans -/
theorem twice {l : List (Int × Int)} {k : Nat} (hk : k < l.length) {q : Nat} (hq : inB q (spK l k) = true) (ho : ownK l k q ≠ -1) : onceB l q = false := by
  obtain ⟨i, s, hi, hs, hin⟩ := ownK_some ho
  rcases h : onceB l q with _ | _
  · rfl
  · exact (onceB_two h hi hs (spK_get hk) hin hq).elim
/-- owners while a span is told: its queues below x are -/
def ownX (l : List (Int × Int)) (k x : Nat) (q : Nat) : Int := if (spK l k).1 ≤ (q : Int) ∧ q < x then (k : Int) else ownK l k q
theorem ownX_zero {l : List (Int × Int)} {k o : Nat} (ho : (spK l k).1 = (o : Int)) : ownX l k o = ownK l k := by
  funext q
  rw [ownX, ho, if_neg (by omega)]
theorem ownX_next {l : List (Int × Int)} {k x : Nat} {o : Nat} (ho : (spK l k).1 = (o : Int)) (hx : o ≤ x) : (fun q => if q = x then (k : Int) else ownX l k x q) = ownX l k (x + 1) := by
  funext q
  unfold ownX
  rw [ho]
  by_cases h : q = x
  · rw [if_pos h, if_pos (by omega)]
  · rw [if_neg h]
    by_cases h2 : (o : Int) ≤ q ∧ q < x
    · rw [if_pos h2, if_pos (by omega)]
    · rw [if_neg h2, if_neg (by omega)]
theorem ownX_at (l : List (Int × Int)) (k x : Nat) : ownX l k x x = ownK l k x := by
  unfold ownX
  rw [if_neg (by omega)]
theorem ownX_all {l : List (Int × Int)} {k o c : Nat} (hk : k < l.length) (ho : (spK l k).1 = (o : Int)) (hc : (spK l k).2 = (c : Int)) (hn : ∀ q : Nat, inB q (spK l k) = true → ownK l k q = -1) : ownX l k (o + c) = ownK l (k + 1) := by
  funext q
  rw [ownK_next hk hn]
  unfold ownX
  by_cases h : inB q (spK l k) = true
  · rw [if_pos h]
    simp only [inB, Bool.and_eq_true, decide_eq_true_eq] at h
    rw [if_pos (by omega)]
  · rw [if_neg h]
    simp only [inB, Bool.and_eq_true, decide_eq_true_eq] at h
    rw [if_neg (by omega)]
/-- 64 numbers, as cells -/
def byV (f : Nat → Int) : Array Value := ((List.range 64).map fun q => Value.int .i64 (f q)).toArray
theorem byV_size (f : Nat → Int) : (byV f).size = 64 := by simp [byV]
theorem byV_at (f : Nat → Int) {j : Nat} (h : j < 64) : (byV f).toList[j]? = some (.int .i64 (f j)) := by
  simp [byV, h]
theorem byV_set (f : Nat → Int) (j : Nat) (v : Int) : (byV f).setIfInBounds j (.int .i64 v) = byV (fun q => if q = j then v else f q) := by
  apply Array.ext
  · simp [byV]
  · intro i h1 h2
    simp only [byV, List.setIfInBounds_toArray, List.getElem_toArray, List.getElem_set, List.getElem_map, List.getElem_range]
    by_cases e : j = i
    · rw [if_pos e, if_pos e.symm]
    · rw [if_neg e, if_neg (fun h => e h.symm)]
theorem byV_congr {f g : Nat → Int} (h : ∀ q, q < 64 → f q = g q) : byV f = byV g := by
  unfold byV
  congr 1
  exact List.map_congr_left fun q hq => by rw [h q (List.mem_range.1 hq)]
theorem byV_one (f : Nat → Int) : (byV f).toList.all (·.oneCell') = true := by
  simp [byV, Value.oneCell']
/-- what a while of two loops comes to: whether no queue is in two spans, and the owners if so -/
def OwnsAll (l : List (Int × Int)) (Q : Nat) (f : Nat → Int) (v : Bool) : Prop := v = (List.range Q).all (fun k => onceB l k) ∧ (v = true → ∀ q : Nat, f q = ownAt l q 0)
theorem ownsAll_yes {l : List (Int × Int)} {Q : Nat} (h : Apart (l.take l.length)) : OwnsAll l Q (ownK l l.length) true := by
  refine ⟨Eq.symm (List.all_eq_true.2 fun k _ => ?_), fun _ q => by rw [ownK, List.take_length]⟩
  rw [List.take_length] at h
  exact apart_once h k
theorem ownsAll_no {l : List (Int × Int)} {Q : Nat} {f : Nat → Int} {q : Nat} (hq : q < Q) (h : onceB l q = false) : OwnsAll l Q f false :=
  ⟨Eq.symm (List.all_eq_false.2 ⟨q, List.mem_range.2 hq, by simp [h]⟩), fun h => by cases h⟩
end Go.Proofs.Ytaoaapbbadipfaa
end
/- The program's spans visited one by one. Conditions: the table lies where its value says; the box holds it. -/
section
namespace Go.Proofs.Ytaoaapbbadipfaa
set_option linter.unusedSimpArgs false
set_option linter.unusedVariables false
set_option maxRecDepth 100000
open Go.ChangeShapes Go.WideShapes Go.ChangeAt Go.RowKit Go.Shelf
attribute [local go_sem] Oper.semAt_some

/-- what a round keeps: all that lay there before the call, and the iterator's box -/
def KeepsOn (n₁ bx : Nat) (W W' : World) : Prop := ∀ k, k < n₁ ∨ k = bx → W'.heap[k]? = W.heap[k]?
theorem KeepsOn.trans {n₁ bx : Nat} {A B C : World} (h : KeepsOn n₁ bx A B) (k : KeepsOn n₁ bx B C) : KeepsOn n₁ bx A C := fun i hi => (k i hi).trans (h i hi)
theorem KeepsOn.below {n₁ bx B : Nat} {X Y : World} (h : Below B X Y) (h1 : n₁ ≤ B) (h2 : bx < B) : KeepsOn n₁ bx X Y := fun k hk => h.block k (by rcases hk with h | h <;> omega)
theorem KeepsOn.foot {n₁ bx b : Nat} {X Y : World} (h : Foot (· = b) X Y) (h1 : n₁ ≤ b) (h2 : bx ≠ b) (h3 : n₁ ≤ X.heap.size) (h4 : bx < X.heap.size) : KeepsOn n₁ bx X Y := fun k hk => h.block k (by rcases hk with h | h <;> omega) (by rcases hk with h | h <;> omega)
abbrev encP (t : TB) (k : Nat) : Array Value := #[.int .i64 (k : Int), .agg #[.int .i64 (spK t.sp k).1, .int .i64 (spK t.sp k).2]]
/-- what a round leaves, by its answer -/
def AnsweredP (n₁ bx n₂ : Nat) (J Jx : Nat → World → Prop) (k : Nat) (V : World) (y : Bool) (V' : World) : Prop := (y = true → J (k + 1) V' ∧ KeepsOn n₁ bx V V' ∧ n₂ ≤ V'.heap.size) ∧ (y = false → Jx k V')
theorem answeredP (n₁ bx n₂ : Nat) (J Jx : Nat → World → Prop) (k : Nat) (V : World) : ∀ (e : Ending) (V' : World), ((e = .returned (.bool true) ∧ J (k + 1) V' ∧ KeepsOn n₁ bx V V' ∧ n₂ ≤ V'.heap.size) ∨ (e = .returned (.bool false) ∧ Jx k V')) → ∃ y, e = .returned (.bool y) ∧ AnsweredP n₁ bx n₂ J Jx k V y V' := by
  rintro e V' (⟨rfl, h1, h2⟩ | ⟨rfl, h1⟩)
  · exact ⟨true, rfl, fun _ => ⟨h1, h2⟩, (fun h => by cases h)⟩
  · exact ⟨false, rfl, (fun h => by cases h), fun _ => h1⟩
set_option maxRecDepth 100000 in
set_option maxHeartbeats 2000000 in
theorem spans1_num (n : Nat) (hn : 2 ≤ n) (bx n₁ : Nat) (A1 A2 : Option Addr) (c1 c2 : Nat) (t : TB) (w : World) (hn₁ : n₁ ≤ w.heap.size) (gx : Held w bx 32 (tbC A1 A2 c1 c2 t)) (gt : TbAt n₁ w A1 A2 c1 c2 t) :
    SeqNum Fence.wide n Try.prog 82 #[.pointer (some ⟨bx, 0, none⟩)] (encP t) (KeepsOn n₁ bx) t.sp.length w := by
  intro l J Jx W hW hJ hJx hY h0
  have G : Held W bx 32 (tbC A1 A2 c1 c2 t) := gx.below hW gx.lt
  have T : TbAt n₁ W A1 A2 c1 c2 t := gt.below (hW.mono hn₁)
  have hbx : bx < W.heap.size := G.lt
  have hn₂ : n₁ ≤ W.heap.size := Nat.le_trans hn₁ hW.size
  have l2 := T.l2
  have m2 := T.m2
  unfold maxLen at m2
  have HY := Lib.hid hY
  have HJ := Lib.hid hJ
  have cx : W.cell? ⟨bx, 2, none⟩ = some (.slice A2 t.sp.length c2) := G.cell 2
  have GH := Lib.hid G
  have TH := Lib.hid T
  clear gx gt hW hY hJ hJx hn₁ G T
  obtain ⟨len, hlen⟩ : ∃ len, t.sp.length = len := ⟨_, rfl⟩
  rw [hlen] at l2 cx HY ⊢
  have HL := Lib.hid hlen
  clear hlen
  refine callsIn_of_wp Try.func82 rfl trivial ?_ rfl
  simp only [Try.ntmps82, List.size_toArray, List.length_cons, List.length_nil, Nat.reduceAdd, Nat.reduceSub, Array.replicate_succ, Array.replicate_zero, List.push_toArray, List.append_toArray, List.nil_append, List.cons_append]
  gi_wp2
  gi_loopw [8] (fun i wr => ∃ k : Nat, k ≤ len ∧ i = .int .i64 k ∧ Held wr bx 32 (tbC A1 A2 c1 c2 t) ∧ TbAt n₁ wr A1 A2 c1 c2 t ∧ W.heap.size ≤ wr.heap.size ∧ J k wr)
    (fun i _ => len - (intOf i).toNat)
  case atStart => exact ⟨0, Nat.zero_le _, rfl, GH.out, TH.out, Nat.le_refl _, h0⟩
  case round =>
    obtain ⟨k, hk, rfl, g', t', hsz, hJ⟩ := hrel
    clear cx h0 GH TH
    by_cases hlt : k < len
    · have hs : t.sp[k]? = some (spK t.sp k) := spK_get (by have := HL.out; omega)
      obtain ⟨b2, o2, rfl, hB, ca, cb⟩ := t'.sp k _ hs
      have hb1 : Below wr.heap.size wr (wr.alloc (.cells #[.int .i64 (spK t.sp k).1, .int .i64 (spK t.sp k).2] 59)) := (Below.refl _ _).alloc (Nat.le_refl _) _
      have hYk := HY.out k _ hlt (HJ.out k _ _ hJ (hb1.mono hsz)) (by have := hb1.size; omega)
      obtain ⟨fn, tmps, assign, body, hy, hR0⟩ := hYk
      have hR := hR0.mono (answeredP n₁ bx W.heap.size J Jx k _)
      have HH := Lib.hid (And.intro g' (And.intro t' hb1))
      clear hR0 g' t' hb1 hs hJ
      gi_wp2
      refine ⟨fun _ => by omega, hR.mono ?_⟩
      rintro e W3 ⟨y, rfl, hA⟩
      cases y
      · have hJx3 := hA.2 rfl
        gi_wp2
        refine bodyPost_ret (results_none rfl _ _ _) rfl ?_
        exact ⟨⟨_, rfl⟩, .inr ⟨k, hlt, hJx3⟩⟩
      · obtain ⟨hJ3, hk3, hs3⟩ := hA.1 rfl
        obtain ⟨g', t', hb1⟩ := HH.out
        have g1 := g'.below hb1 g'.lt
        have t1 := t'.below (hb1.mono (show n₁ ≤ wr.heap.size by omega))
        have hRel := Lib.hid (show Held W3 bx 32 _ ∧ TbAt n₁ W3 _ _ _ _ _ ∧ W.heap.size ≤ W3.heap.size ∧ J (k + 1) W3 from ⟨(hk3 bx (.inr rfl)).trans g1, t1.same (fun i hi => hk3 i (.inl hi)), hs3, hJ3⟩)
        clear HH g' t' hb1 g1 t1 hJ3 hk3 hs3 hA
        gi_wp2
        go_roundw
        case rel => exact ⟨k + 1, by omega, by go_num, hRel.out⟩
        case measure => simp [intOf]; omega
    · obtain rfl : k = len := by omega
      gi_wp2
      go_end0
      exact ⟨⟨_, rfl⟩, .inl hJ⟩
end Go.Proofs.Ytaoaapbbadipfaa
end
