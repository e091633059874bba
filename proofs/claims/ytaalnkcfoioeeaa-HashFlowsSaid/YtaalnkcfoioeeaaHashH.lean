/-
  hash.Of and the document's Of; HashFlows, HashSteps2 walked. Conditions: the numbers fit their kinds.
-/
import Derived.Test.YtaalnkcfoioeeaaHashG
import Derived.Test.YtaalnkcfoioeeaaStruct
namespace Go.Proofs.Ytaalnkcfoioeeaa
set_option linter.unusedSimpArgs false
set_option linter.unusedVariables false
open Go.ChangeShapes Go.WideShapes Go.ChangeAt Go.RowKit

theorem words_row {W : World} {b : Nat} {t : TypeId} {cs : Array Value} {len : Nat} {f : Nat → BitVec 32} (g : Held W b t cs) (h : ∀ k, k < len → cs[k]? = some (.int .u32 (u (f k)))) : WordsAt W.heap.size W (some ⟨b, 0, none⟩) len f := fun k hk =>
  ⟨b, 0, rfl, g.lt, by rw [Nat.zero_add]; exact (g.cell k).trans (h k hk)⟩
def l4 (a b c d : BitVec 32) : Nat → BitVec 32
  | 0 => a
  | 1 => b
  | 2 => c
  | _ => d
theorem words4 {W : World} {i : Nat} {t : TypeId} {a b c d : BitVec 32} (g : Held W i t #[.int .u32 (u a), .int .u32 (u b), .int .u32 (u c), .int .u32 (u d)]) : WordsAt W.heap.size W (some ⟨i, 0, none⟩) 4 (l4 a b c d) :=
  words_row g fun k hk => by
    match k, hk with
    | 0, _ => rfl
    | 1, _ => rfl
    | 2, _ => rfl
    | 3, _ => rfl
theorem words2 {W : World} {i : Nat} {t : TypeId} {a b : BitVec 32} (g : Held W i t #[.int .u32 (u a), .int .u32 (u b)]) : WordsAt W.heap.size W (some ⟨i, 0, none⟩) 2 (l4 a b b b) :=
  words_row g fun k hk => by
    match k, hk with
    | 0, _ => rfl
    | 1, _ => rfl
theorem words1 {W : World} {i : Nat} {t : TypeId} {a : BitVec 32} (g : Held W i t #[.int .u32 (u a)]) : WordsAt W.heap.size W (some ⟨i, 0, none⟩) 1 (l4 a a a a) :=
  words_row g fun k hk => by
    match k, hk with
    | 0, _ => rfl
theorem flowInfo : (Try.prog.info? 33).map (·.size) = some 5 := by kernel_rfl
abbrev flowC (a b : BitVec 32) (sp dp : Int) (q : BitVec 32) : Array Value := #[.int .u32 (u a), .int .u32 (u b), .int .u16 sp, .int .u16 dp, .int .u8 (u q)]
set_option maxRecDepth 100000 in
set_option maxHeartbeats 1000000 in
theorem of_p (a b : BitVec 32) (sp dp : Int) (q : BitVec 32) (s P : BitVec 32) (hs : 0 ≤ sp ∧ sp ≤ 65535) (hd : 0 ≤ dp ∧ dp ≤ 65535) (hq : u q ≤ 255) (hP : sp * 65536 + dp = u P) (w : World) :
    Calls Try.prog 20 #[.agg (flowC a b sp dp q), .int .u32 (u s)] w fun e w' => e = .returned (.int .u32 (u (wordsB s (l4 a b P q) 4))) ∧ Below w.heap.size w w' := by
  have H := Mem.start w
  have HP := Lib.hid hP
  clear hP
  have hq0 := (u_bd q).1
  go_enter Try.func20, Try.ntmps20
  go_upto_region 1 with ((with_reducible show wpList _ _ _ _ _ (World.alloc _ (.cells _ _))); refine mem_newb H ?_; intro bf w3 hbk H2; try rw [← hbk]; clear hbk H; have H := H2; clear H2; simp only [List.cons_append, List.nil_append, List.set_cons_zero, List.set_cons_succ, List.setIfInBounds_toArray] at H)
  go_upto_region 2 with (first
    | ((with_reducible show wpList _ _ _ (⟨_, .load _ _, _, _, _, _⟩ :: _) _ _); refine mem_loadf (i := 0) H (by first | exact wanted_none rfl | exact wanted_some rfl rfl rfl rfl) (by exact rfl) (by exact rfl) (by exact rfl) (by first | exact Try.underlying22 | exact Try.underlying31 | exact Try.underlying5) rfl (by exact rfl) ?_))
  simp only [HP.out]
  go_wp2_with (first
    | go_skip
    | ((with_reducible show wpList _ _ _ _ _ (World.alloc _ (.cells _ _))); refine mem_newb H ?_; intro bs w3 hbk H2; try rw [← hbk]; clear hbk H; have H := H2; clear H2; simp only [List.cons_append, List.nil_append, List.set_cons_zero, List.set_cons_succ, List.setIfInBounds_toArray] at H)
    | ((with_reducible show wpList _ _ _ (⟨_, .load _ _, _, _, _, _⟩ :: _) _ _); refine mem_loadf (i := 0) H (by first | exact wanted_none rfl | exact wanted_some rfl rfl rfl rfl) (by exact rfl) (by exact rfl) (by exact rfl) (by first | exact Try.underlying22 | exact Try.underlying31 | exact Try.underlying5) rfl (by exact rfl) ?_)
    | (go_at_call 18; with_reducible refine (words_p s (some ⟨bs, 0, none⟩) 4 4 (by omega) (by omega) (l4 a b P q) _ (words4 (H.at 1 rfl))).mono ?_; rintro e w2 ⟨rfl, hb⟩; have H2 := H.call hb; clear H hb; have H := H2; clear H2))
  go_ret
  exact ⟨rfl, H.below⟩
set_option maxRecDepth 100000 in
set_option maxHeartbeats 1000000 in
theorem of_r (a b : BitVec 32) (sp dp : Int) (q : BitVec 32) (s P : BitVec 32) (hs : 0 ≤ sp ∧ sp ≤ 65535) (hd : 0 ≤ dp ∧ dp ≤ 65535) (hq : u q ≤ 255) (hP : 65536 * sp + dp = u P) (w : World) :
    Calls Try.prog 21 #[.agg (flowC a b sp dp q), .int .u32 (u s)] w fun e w' => e = .returned (.int .u32 (u (wordsB s (l4 a b P q) 4))) ∧ Below w.heap.size w w' := by
  have H := Mem.start w
  have HP := Lib.hid hP
  clear hP
  have hq0 := (u_bd q).1
  go_enter Try.func21, Try.ntmps21
  go_upto_region 1 with ((with_reducible show wpList _ _ _ _ _ (World.alloc _ (.cells _ _))); refine mem_newb H ?_; intro bf w3 hbk H2; try rw [← hbk]; clear hbk H; have H := H2; clear H2; simp only [List.cons_append, List.nil_append, List.set_cons_zero, List.set_cons_succ, List.setIfInBounds_toArray] at H)
  have hP := HP.out
  go_wp2_with (first
    | go_skip
    | ((with_reducible show wpList _ _ _ _ _ (World.alloc _ (.cells _ _))); refine mem_newb H ?_; intro bs w3 hbk H2; try rw [← hbk]; clear hbk H; have H := H2; clear H2; simp only [List.cons_append, List.nil_append, List.set_cons_zero, List.set_cons_succ, List.setIfInBounds_toArray] at H)
    | ((with_reducible show wpList _ _ _ (⟨_, .load _ _, _, _, _, _⟩ :: _) _ _); refine mem_loadf (i := 0) H (by first | exact wanted_none rfl | exact wanted_some rfl rfl rfl rfl) (by exact rfl) (by exact rfl) (by exact rfl) (by first | exact Try.underlying22 | exact Try.underlying31 | exact Try.underlying5) rfl (by exact rfl) ?_)
    | (go_at_call 19; with_reducible refine (words_r s (some ⟨bs, 0, none⟩) 4 4 (by omega) (by omega) (l4 a b P q) _ (words4 (H.at 1 rfl))).mono ?_; rintro e w2 ⟨rfl, hb⟩; have H2 := H.call hb; clear H hb; have H := H2; clear H2))
  go_ret
  exact ⟨rfl, H.below⟩
set_option maxRecDepth 100000 in
set_option maxHeartbeats 1000000 in
theorem flows_u (a b : BitVec 32) (sp dp : Int) (q s P : BitVec 32) (hs : 0 ≤ sp ∧ sp ≤ 65535) (hd : 0 ≤ dp ∧ dp ≤ 65535) (hq : u q ≤ 255) (hP : sp * 65536 + dp = u P) (hP' : 65536 * sp + dp = u P) (w : World) :
    Calls Try.prog 5 #[.agg (flowC a b sp dp q), .int .u32 (u s)] w fun e w' => e = .returned (.bool true) ∧ Below w.heap.size w w' := by
  have H := Mem.start w
  have c1 := fun w => of_p a b sp dp q s P hs hd hq hP w
  have c2 := fun w => of_r a b sp dp q s P hs hd hq hP' w
  clear hP hP'
  go_enter Try.func5, Try.ntmps5
  go_upto_region 2 with (first
    | ((with_reducible show wpList _ _ _ _ _ (World.alloc _ (.cells _ _))); refine mem_new H ?_; intro w2 H2; clear H; have H := H2; clear H2; simp only [List.cons_append, List.nil_append, List.set_cons_zero, List.set_cons_succ, List.setIfInBounds_toArray] at H)
    | (go_at_call 11; with_reducible refine (shown_p _).mono ?_; rintro e w2 ⟨rfl, hb⟩; have H2 := H.call hb; clear H hb; have H := H2; clear H2))
  refine region_mem H 11 rfl (by kernel_rfl) (fun wr hS => ?_)
  clear H
  refine wpAnyR_take (i := 0) (v := .bool true) rfl rfl (by kernel_rfl) (by kernel_rfl) (by kernel_rfl) (fun _ _ _ h => h) (Nat.le_refl _) ⟨by rfl, fun w _ => (by go_simp; try (first | (simp only [IntKind.wrap_u32]; done) | rfl)), fun _ => rfl⟩ hS ?_
  simp only [List.getElem_toArray, List.getElem_cons_zero, List.getElem_cons_succ, Act.put, List.setIfInBounds_toArray, List.set_cons_zero, List.set_cons_succ]
  refine wpAnyR_take (i := 1) (v := .bool true) rfl rfl (by kernel_rfl) (by kernel_rfl) (by kernel_rfl) (fun _ _ _ h => h) (Nat.le_refl _) ⟨by rfl, fun w _ => (by go_simp; try (first | (simp only [IntKind.wrap_u32]; done) | rfl)), fun _ => rfl⟩ hS ?_
  simp only [List.getElem_toArray, List.getElem_cons_zero, List.getElem_cons_succ, Act.put, List.setIfInBounds_toArray, List.set_cons_zero, List.set_cons_succ]
  refine wpAnyR_take (i := 2) (v := .agg (flowC a b sp dp q)) rfl rfl (by kernel_rfl) (by kernel_rfl) (by kernel_rfl) (fun _ _ _ h => h) (Nat.le_refl _) (yields_held (fun w h => h.at 0 rfl) (by exact rfl) (by exact rfl) (by exact rfl) Try.underlying33 rfl flowInfo) hS ?_
  simp only [List.getElem_toArray, List.getElem_cons_zero, List.getElem_cons_succ, Act.put, List.setIfInBounds_toArray, List.set_cons_zero, List.set_cons_succ]
  refine wpAnyR_take (i := 3) (v := .int .u32 (u s)) rfl rfl (by kernel_rfl) (by kernel_rfl) (by kernel_rfl) (fun _ _ _ h => h) (Nat.le_refl _) ⟨by rfl, fun w _ => (by go_simp; try (first | (simp only [IntKind.wrap_u32]; done) | rfl)), fun _ => rfl⟩ hS ?_
  simp only [List.getElem_toArray, List.getElem_cons_zero, List.getElem_cons_succ, Act.put, List.setIfInBounds_toArray, List.set_cons_zero, List.set_cons_succ]
  refine wpAnyR_take (i := 5) (v := .agg (flowC a b sp dp q)) rfl rfl (by kernel_rfl) (by kernel_rfl) (by kernel_rfl) (fun _ _ _ h => h) (Nat.le_refl _) (yields_held (fun w h => h.at 0 rfl) (by exact rfl) (by exact rfl) (by exact rfl) Try.underlying33 rfl flowInfo) hS ?_
  simp only [List.getElem_toArray, List.getElem_cons_zero, List.getElem_cons_succ, Act.put, List.setIfInBounds_toArray, List.set_cons_zero, List.set_cons_succ]
  refine wpAnyR_take (i := 6) (v := .int .u32 (u s)) rfl rfl (by kernel_rfl) (by kernel_rfl) (by kernel_rfl) (fun _ _ _ h => h) (Nat.le_refl _) ⟨by rfl, fun w _ => (by go_simp; try (first | (simp only [IntKind.wrap_u32]; done) | rfl)), fun _ => rfl⟩ hS ?_
  simp only [List.getElem_toArray, List.getElem_cons_zero, List.getElem_cons_succ, Act.put, List.setIfInBounds_toArray, List.set_cons_zero, List.set_cons_succ]
  refine wpAnyG_one (i := 4) (by kernel_rfl) rfl (fun K hK => ?_)
  go_simp
  refine ⟨trivial, (callsIn_wide.2 (c1 _)).mono ?_⟩
  rintro e w5 ⟨rfl, hb⟩
  have hS5 := hS.call hb
  clear hb hS
  have hS := hS5
  clear hS5
  refine hK _ _ (.inr hS) ?_
  clear hK K
  refine wpAnyG_one (i := 7) (by kernel_rfl) rfl (fun K hK => ?_)
  go_simp
  refine ⟨trivial, (callsIn_wide.2 (c2 _)).mono ?_⟩
  rintro e w5 ⟨rfl, hb⟩
  have hS5 := hS.call hb
  clear hb hS
  have hS := hS5
  clear hS5
  refine hK _ _ (.inr hS) ?_
  clear hK K
  refine wpAnyR_take (i := 8) (v := .bool true) rfl rfl (by kernel_rfl) (by kernel_rfl) (by kernel_rfl) (fun _ _ _ h => h) (Nat.le_refl _) ⟨by rfl, fun w _ => (by go_simp; try (first | (simp only [IntKind.wrap_u32]; done) | rfl | simp)), fun _ => rfl⟩ hS ?_
  simp only [List.getElem_toArray, List.getElem_cons_zero, List.getElem_cons_succ, Act.put, List.setIfInBounds_toArray, List.set_cons_zero, List.set_cons_succ]
  refine wpAnyR_take (i := 9) (v := .bool true) rfl rfl (by kernel_rfl) (by kernel_rfl) (by kernel_rfl) (fun _ _ _ h => h) (Nat.le_refl _) ⟨by rfl, fun w _ => (by go_simp; try (first | (simp only [IntKind.wrap_u32]; done) | rfl)), fun _ => rfl⟩ hS ?_
  simp only [List.getElem_toArray, List.getElem_cons_zero, List.getElem_cons_succ, Act.put, List.setIfInBounds_toArray, List.set_cons_zero, List.set_cons_succ]
  refine wpAnyG_one (i := 10) (by kernel_rfl) rfl (fun K hK => ?_)
  go_simp
  refine hK _ _ (.inr hS) ?_
  clear hK K
  refine wpAnyG_done (by kernel_rfl) ?_ _
  have H := hS
  clear hS
  go_wp2
  go_ret
  exact ⟨by simp, H.below⟩
theorem flows_w (a b sp dp q s : Int) (ha : 0 ≤ a ∧ a ≤ 4294967295) (hb : 0 ≤ b ∧ b ≤ 4294967295) (hs : 0 ≤ sp ∧ sp ≤ 65535) (hd : 0 ≤ dp ∧ dp ≤ 65535) (hq : 0 ≤ q ∧ q ≤ 255) (hS : 0 ≤ s ∧ s ≤ 4294967295) (w : World) :
    Calls Try.prog 5 #[.agg #[.int .u32 a, .int .u32 b, .int .u16 sp, .int .u16 dp, .int .u8 q], .int .u32 s] w fun e w' => e = .returned (.bool true) ∧ Below w.heap.size w w' := by
  obtain ⟨x, rfl⟩ := u_of ha
  obtain ⟨y, rfl⟩ := u_of hb
  obtain ⟨z, rfl⟩ := u_of (a := q) (by omega)
  obtain ⟨t, rfl⟩ := u_of hS
  obtain ⟨P, hP⟩ := u_of (a := sp * 65536 + dp) (by omega)
  exact flows_u x y sp dp z t P hs hd hq.2 hP (by omega) w
theorem words2_p (s a b : BitVec 32) (i : Nat) (w : World) {t : TypeId} (g : Held w i t #[.int .u32 (u a), .int .u32 (u b)]) : Calls Try.prog 18 #[.int .u32 (u s), .slice (some ⟨i, 0, none⟩) 2 2] w fun e w' => e = .returned (.int .u32 (u (endB (mixB (mixB s a) b) 8#32))) ∧ Below w.heap.size w w' :=
  words_p s (some ⟨i, 0, none⟩) 2 2 (by omega) (by omega) (l4 a b b b) w (words2 g)
theorem words1_p (s a : BitVec 32) (i : Nat) (w : World) {t : TypeId} (g : Held w i t #[.int .u32 (u a)]) : Calls Try.prog 18 #[.int .u32 (u s), .slice (some ⟨i, 0, none⟩) 1 1] w fun e w' => e = .returned (.int .u32 (u (endB (mixB s a) 4#32))) ∧ Below w.heap.size w w' :=
  words_p s (some ⟨i, 0, none⟩) 1 1 (by omega) (by omega) (l4 a a a a) w (words1 g)
theorem words0_p (s : BitVec 32) (w : World) : Calls Try.prog 18 #[.int .u32 (u s), .slice none 0 0] w fun e w' => e = .returned (.int .u32 (u (endB s 0#32))) ∧ Below w.heap.size w w' :=
  words_p s none 0 0 (by omega) (by omega) noW w (WordsAt.none _ _ _ _)
theorem end_8 (x : BitVec 32) (w : World) : Calls Try.prog 14 #[.int .u32 (u x), .int .u32 8] w fun e w' => e = .returned (.int .u32 (u (endB x 8#32))) ∧ Below w.heap.size w w' := by
  have h := end_p x 8#32 w
  rwa [show u 8#32 = 8 by rfl] at h
theorem end_0 (x : BitVec 32) (w : World) : Calls Try.prog 14 #[.int .u32 (u x), .int .u32 0] w fun e w' => e = .returned (.int .u32 (u (endB x 0#32))) ∧ Below w.heap.size w w' := by
  have h := end_p x 0#32 w
  rwa [show u 0#32 = 0 by rfl] at h
theorem end_4 (x : BitVec 32) (w : World) : Calls Try.prog 14 #[.int .u32 (u x), .int .u32 4] w fun e w' => e = .returned (.int .u32 (u (endB x 4#32))) ∧ Below w.heap.size w w' := by
  have h := end_p x 4#32 w
  rwa [show u 4#32 = 4 by rfl] at h
set_option maxRecDepth 100000 in
set_option maxHeartbeats 1000000 in
theorem steps2_u (s a b : BitVec 32) (w : World) : Calls Try.prog 10 #[.int .u32 (u s), .int .u32 (u a), .int .u32 (u b)] w fun e w' => e = .returned (.bool true) ∧ Below w.heap.size w w' := by
  have H := Mem.start w
  go_enter Try.func10, Try.ntmps10
  go_wp2_with (first
    | go_skip
    | ((with_reducible show wpList _ _ _ _ _ (World.alloc _ (.cells _ _))); refine mem_new H ?_; intro w2 H2; clear H; have H := H2; clear H2; simp only [List.cons_append, List.nil_append, List.set_cons_zero, List.set_cons_succ, List.setIfInBounds_toArray] at H)
    | (go_at_call 11; with_reducible refine (shown_p _).mono ?_; rintro e w2 ⟨rfl, hb⟩; have H2 := H.call hb; clear H hb; have H := H2; clear H2)
    | (go_at_call 18; with_reducible refine (words2_p s a b _ _ (H.at 0 rfl)).mono ?_; rintro e w2 ⟨rfl, hb⟩; have H2 := H.call hb; clear H hb; have H := H2; clear H2)
    | (go_at_call 18; with_reducible refine (words0_p s _).mono ?_; rintro e w2 ⟨rfl, hb⟩; have H2 := H.call hb; clear H hb; have H := H2; clear H2)
    | (go_at_call 18; with_reducible refine (words1_p s a _ _ (H.at 1 rfl)).mono ?_; rintro e w2 ⟨rfl, hb⟩; have H2 := H.call hb; clear H hb; have H := H2; clear H2)
    | (go_at_call 12; with_reducible refine (mix_p s a _).mono ?_; rintro e w2 ⟨rfl, hb⟩; have H2 := H.call hb; clear H hb; have H := H2; clear H2)
    | (go_at_call 12; with_reducible refine (mix_p (mixB s a) b _).mono ?_; rintro e w2 ⟨rfl, hb⟩; have H2 := H.call hb; clear H hb; have H := H2; clear H2)
    | (go_at_call 14; with_reducible refine (end_8 _ _).mono ?_; rintro e w2 ⟨rfl, hb⟩; have H2 := H.call hb; clear H hb; have H := H2; clear H2)
    | (go_at_call 14; with_reducible refine (end_0 _ _).mono ?_; rintro e w2 ⟨rfl, hb⟩; have H2 := H.call hb; clear H hb; have H := H2; clear H2)
    | (go_at_call 14; with_reducible refine (end_4 _ _).mono ?_; rintro e w2 ⟨rfl, hb⟩; have H2 := H.call hb; clear H hb; have H := H2; clear H2))
  go_ret
  exact ⟨by simp, H.below⟩
theorem steps2_w (s a b : Int) (hs : 0 ≤ s ∧ s ≤ 4294967295) (ha : 0 ≤ a ∧ a ≤ 4294967295) (hb : 0 ≤ b ∧ b ≤ 4294967295) (w : World) : Calls Try.prog 10 #[.int .u32 s, .int .u32 a, .int .u32 b] w fun e w' => e = .returned (.bool true) ∧ Below w.heap.size w w' := by
  obtain ⟨x, rfl⟩ := u_of hs
  obtain ⟨y, rfl⟩ := u_of ha
  obtain ⟨z, rfl⟩ := u_of hb
  exact steps2_u x y z w
/-- a flow's numbers -/
structure FV where
  a : Int
  b : Int
  sp : Int
  dp : Int
  q : Int
structure FV.Fits (d : FV) : Prop where
  a : 0 ≤ d.a ∧ d.a ≤ 4294967295
  b : 0 ≤ d.b ∧ d.b ≤ 4294967295
  sp : 0 ≤ d.sp ∧ d.sp ≤ 65535
  dp : 0 ≤ d.dp ∧ d.dp ≤ 65535
  q : 0 ≤ d.q ∧ d.q ≤ 255
abbrev fv (d : FV) : Value := .agg #[.int .u32 d.a, .int .u32 d.b, .int .u16 d.sp, .int .u16 d.dp, .int .u8 d.q]
theorem bd_u16 {n : Int} (h : (Lit.int .u16 n).wf = true) : 0 ≤ n ∧ n ≤ 65535 := by
  simpa [Lit.wf, IntKind.min, IntKind.max, IntKind.signed, IntKind.bits] using h
theorem open_flow {H : Type} {enc : TypeId × Value → H} {w : World} {base : Nat} {spare : Nat → Bool} {held : Bool} {r : Reach} {b0 : Nat} {v : Value} {x : DataW H} {p : List MemPlace} (hv : Value.okWide Try.prog w r b0 33 v) (h : DataW.Trod enc Try.prog w base spare held 33 v x p) :
    ∃ d : FV, v = fv d ∧ d.Fits := by
  obtain ⟨n0, n1, n2, n3, n4, rfl, w0, w1, w2, w3, w4⟩ := open_ints5 Try.underlying33 (by kernel_rfl) (by kernel_rfl) Try.underlying22 Try.underlying22 Try.underlying31 Try.underlying31 Try.underlying5 hv h
  exact ⟨⟨n0, n1, n2, n3, n4⟩, rfl, ⟨bd_u32 w0, bd_u32 w1, bd_u16 w2, bd_u16 w3, bd_u8 w4⟩⟩
theorem flows_l (d : FV) (hd : d.Fits) (s : Int) (hs : 0 ≤ s ∧ s ≤ 4294967295) (w : World) : Calls Try.prog 5 #[fv d, .int .u32 s] w fun e w' => e = .returned (.bool true) ∧ Below w.heap.size w w' :=
  flows_w d.a d.b d.sp d.dp d.q s hd.a hd.b hd.sp hd.dp hd.q hs w
end Go.Proofs.Ytaalnkcfoioeeaa
