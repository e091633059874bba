/-
  The program's Candidates. Conditions: the steer lies where its pointer says. The program's preferred. Conditions: the steer lies where its pointer says.
-/
import Derived.Maps.OwnIn
import Derived.Test.YtaoaapbbadipfaaMGx
import Derived.Test.YtaoaapbbadipfaaMGt
/- The program's Candidates. Conditions: the steer lies where its pointer says. -/
section
namespace Go.Proofs.Ytaoaapbbadipfaa
set_option linter.unusedSimpArgs false
set_option linter.unusedVariables false
set_option maxRecDepth 100000
attribute [local go_sem] Oper.semAt_some
open Go.ChangeShapes Go.WideShapes Go.ChangeAt Go.RowKit Go.Maps Go.Shelf

theorem ownsRow_foot9 {w w' : World} {base : Nat} {ty : TypeId} {sz : Nat} {v : Value} {n : Nat} {xs : List Value} {B : Nat → Prop} (h : w.ownsRow base ty sz v n xs) (hf : Foot B w w') (hB : ∀ i, B i → i < base) : w'.ownsRow base ty sz v n xs :=
  row_same h fun i hi => by
    obtain ⟨h1, h2⟩ := h.lt i hi
    exact hf.block i h2 (fun hb => by have := hB i hb; omega)
/-- what is collected -/
structure AccI (W : World) (D bq : Nat) (L : List Int) (k : Nat) (X : World) : Prop where
  lt : bq < D
  ge : W.heap.size ≤ bq
  sz : D ≤ X.heap.size
  row : ∃ v, Held X bq 29 #[v] ∧ X.ownsRow (D + 2) 3 1 v k (ints (L.take k))
  bel : Below W.heap.size W X
theorem AccI.grows {W : World} {D bq : Nat} {L : List Int} {k : Nat} {X Y : World} (h : AccI W D bq L k X) (hb : Below X.heap.size X Y) : AccI W D bq L k Y := by
  obtain ⟨v, h1, h2⟩ := h.row
  exact ⟨h.lt, h.ge, Nat.le_trans h.sz hb.size, ⟨v, h1.below hb h1.lt, row_call h2 hb⟩, h.bel.trans (hb.mono h.bel.size)⟩
theorem AccI.foot {W : World} {D bq : Nat} {L : List Int} {k : Nat} {X Y : World} (h : AccI W D bq L k X) (hf : Foot (· = D + 1) X Y) : AccI W D bq L k Y := by
  obtain ⟨v, h1, h2⟩ := h.row
  have h3 := h.lt
  have h4 := h.ge
  refine ⟨h.lt, h.ge, Nat.le_trans h.sz hf.size, ⟨v, h1.foot hf (by omega), ownsRow_foot9 h2 hf (fun i hi => by omega)⟩, below_foot h.bel hf (by omega) (Nat.le_refl _)⟩
/-- one more is collected -/
theorem acc_step9 {W : World} {D bq k : Nat} {L : List Int} {y : Int} {V w8 : World} {v v' : Value} {o : Obj} (lt : bq < D) (ge : W.heap.size ≤ bq) (sz : D ≤ V.heap.size) (bel : Below W.heap.size W V) (hv1 : Held V bq 29 #[v]) (hv2 : V.ownsRow (D + 2) 3 1 v k (ints (L.take k)))
    (htk : L.take (k + 1) = L.take k ++ [y]) (hgrow : (V.alloc o).grownBy w8 v.ownBlock) (hown' : w8.ownsRow (D + 2) 3 1 v' (k + 1) (ints (L.take k) ++ [.int .i64 y])) :
    KeepsFrom D V (w8.setCell ⟨bq, 0, none⟩ v') ∧ Foot (fun b => b = bq ∨ D + 2 ≤ b) V (w8.setCell ⟨bq, 0, none⟩ v') ∧ AccI W D bq L (k + 1) (w8.setCell ⟨bq, 0, none⟩ v') := by
  have hs := hgrow.size
  rw [World.size_alloc] at hs
  have hsz : (w8.setCell ⟨bq, 0, none⟩ v').heap.size = w8.heap.size := by simp [World.setCell]
  have keep : ∀ j, j < V.heap.size → j ≠ bq → some j ≠ v.ownBlock → (w8.setCell ⟨bq, 0, none⟩ v').heap[j]? = V.heap[j]? := fun j hj h1 h2 =>
    ((Below.heap_setCell _ _ _ _ h1).trans (hgrow.block j (by rw [World.size_alloc]; omega) h2)).trans (Below.heap_alloc _ _ _ hj)
  have hv8 : Held w8 bq 29 #[v] := (hgrow.block bq (by have := hv1.lt; rw [World.size_alloc]; omega) (fun e => by have := (hv2.lt bq e.symm).1; omega)).trans (hv1.alloc o)
  have hft : Foot (fun b => b = bq ∨ D + 2 ≤ b) V (w8.setCell ⟨bq, 0, none⟩ v') := ⟨hgrow.os, hgrow.tape, hgrow.output, by omega, fun j hj hn => keep j hj (fun e => hn (.inl e)) (fun e => hn (.inr (hv2.lt j e.symm).1))⟩
  refine ⟨⟨by omega, fun j o' hj hjo hc => ?_⟩, hft, lt, ge, by omega, ⟨v', hv8.set 0 v', ?_⟩, bel.trans (hft.below bel.size (fun i hi => by rcases hi with rfl | hi <;> have := bel.size <;> omega))⟩
  · refine (keep j (Array.getElem?_eq_some_iff.1 hjo).1 (by omega) (fun e => ?_)).trans hjo
    rcases hv2.2 with ⟨rfl, _⟩ | ⟨g', cap, cur, rfl, _, h3, _⟩
    · cases e
    · cases e
      rw [h3] at hjo
      cases hjo
      cases hc
  · have e : ints (L.take (k + 1)) = ints (L.take k) ++ [.int .i64 y] := by rw [htk]; simp [ints]
    rw [e]
    exact ownsRow_foot9 hown' (Foot.cell w8 ⟨bq, 0, none⟩ v') (fun i hi => by have : i = bq := hi; omega)
theorem takeD {L : List Int} {k : Nat} (h : k < L.length) : L.take (k + 1) = L.take k ++ [qAt L k] := by
  rw [qAt, List.take_add_one, List.getElem?_eq_getElem h, List.getD_eq_getElem?_getD, List.getElem?_eq_getElem h]
  rfl
theorem row_put9 {w : World} {base D : Nat} {ty : TypeId} {sz : Nat} {v : Value} {n : Nat} {xs : List Value} {o o' : Obj} (h : w.ownsRow base ty sz v n xs) (hD : w.heap[D]? = some o) (ho : o.isCells = false) : (w.putObj D o').ownsRow base ty sz v n xs :=
  row_same h fun i hi => World.putObj_heap_other (fun e => by
    subst e
    rcases h.2 with ⟨rfl, _⟩ | ⟨g, cap, cur, rfl, _, h3, _⟩
    · cases hi
    · cases hi
      rw [h3] at hD
      cases hD
      cases ho)
set_option maxHeartbeats 2000000 in
theorem candP_nil (pr c : Int) (W : World) : Calls Try.prog 20 #[.pointer none, .int .i64 pr, .int .i64 c] W fun e w' => (∃ v, e = .returned (.tuple #[v, .int .i64 1])) ∧ Below W.heap.size W w' := by
  go_enter Try.func20, Try.ntmps20
  go_wp2_with (go_at_call 33; refine (miss_yes W).mono ?_; rintro e w5 ⟨rfl, hw⟩; rw [hw]; clear hw w5)
  refine bodyPost_ret (results_two rfl _ _ _) rfl ?_
  exact ⟨⟨_, rfl⟩, Below.refl _ _⟩
section
variable (W : World) (rd own : Nat → Prop) (p : Nat) (s : SS) (N : Nat) (x : PParts) (h : QAt W rd own p s N x)
include h
set_option maxHeartbeats 2000000 in
theorem candP_no (pr c : Int) (hno : cOk pr c = false) : Calls Try.prog 20 #[.pointer (some ⟨p, 0, none⟩), .int .i64 pr, .int .i64 c] W fun e w' => e = .returned (.tuple #[.slice none 0 0, .int .i64 2]) ∧ Below W.heap.size W w' := by
  have hmi := miss_no W rd own p s N x h
  rw [cOk_eq] at hno
  clear h
  rcases hP : prioB pr with _ | _
  · have kp := fun w => isPrio_p pr false hP w
    clear hno hP
    go_enter Try.func20, Try.ntmps20
    go_wp2_with (first
      | (go_at_call 33; refine hmi.mono ?_; rintro e w5 ⟨rfl, hw⟩; rw [hw]; clear hw w5)
      | (go_at_call 37; refine (kp _).mono ?_; rintro e w5 ⟨rfl, hw⟩; rw [hw]; clear hw w5)
      | (go_at_call 38; refine (kc _).mono ?_; rintro e w5 ⟨rfl, hw⟩; rw [hw]; clear hw w5))
    refine bodyPost_ret (results_two rfl _ _ _) rfl ?_
    exact ⟨rfl, Below.refl _ _⟩
  · rw [hP, Bool.true_and] at hno
    have kp := fun w => isPrio_p pr true hP w
    have kc := fun w => isCpu_p c false hno w
    clear hno hP
    go_enter Try.func20, Try.ntmps20
    go_wp2_with (first
      | (go_at_call 33; refine hmi.mono ?_; rintro e w5 ⟨rfl, hw⟩; rw [hw]; clear hw w5)
      | (go_at_call 37; refine (kp _).mono ?_; rintro e w5 ⟨rfl, hw⟩; rw [hw]; clear hw w5)
      | (go_at_call 38; refine (kc _).mono ?_; rintro e w5 ⟨rfl, hw⟩; rw [hw]; clear hw w5))
    refine bodyPost_ret (results_two rfl _ _ _) rfl ?_
    exact ⟨rfl, Below.refl _ _⟩
set_option maxHeartbeats 2000000 in
theorem candP_yes (pr C : Nat) (hpr : pr < 16) (hC : C < 64) : Calls Try.prog 20 #[.pointer (some ⟨p, 0, none⟩), .int .i64 (pr : Int), .int .i64 (C : Int)] W (GivesInts W (s.cand (pr : Int) (C : Int)) 0) := by
  have H := Mem.start W
  have hmi := miss_no W rd own p s N x h
  have kp := fun w => isPrio_p (pr : Int) true (by simp [prioB]; omega) w
  have kc := fun w => isCpu_p (C : Int) true (by simp [cpuB]; omega) w
  obtain ⟨_, _, X, Y, hsp, hY, hXY, hq⟩ := spn_ok h.right (p := (pr : Int)) (by omega)
  have hce : s.cand (pr : Int) (C : Int) = candL (s.maps C) ((X : Int), (Y : Int)) := by rw [SS.cand, hsp, Int.toNat_natCast]
  rw [hce]
  have hX : s.t.spAt pr = ((X : Int), (Y : Int)) := by rw [← hsp, SS.spn, Int.toNat_natCast]
  obtain ⟨A, cap, hA, hcap, hcm, hrow⟩ := h.lists C hC
  obtain ⟨h64, hqs⟩ := h.m64 C hC
  have kcand := fun w (hb : Below W.heap.size W w) => candF_p w rd own p s N x (h.below hb) pr C hpr hC X Y hX
  rw [hA] at kcand
  obtain ⟨l, hl⟩ : ∃ l, s.maps C = l := ⟨_, rfl⟩
  rw [hl] at hcap hrow h64 hqs kcand ⊢
  obtain ⟨m, hm⟩ : ∃ m, l.length = m := ⟨_, rfl⟩
  rw [hm] at kcand hcap h64
  have HR := Lib.hid (And.intro hrow (And.intro hm hqs))
  obtain ⟨i0, hi, hz0, hz1, hz2⟩ := infoInt_parts
  clear h hsp hce hX hA hrow hqs hl hm
  refine (callsIn_wide (n := 6)).1 ?_
  refine callsIn_of_wp_marks Try.func20 rfl trivial ?_ rfl
  simp only [Try.ntmps20, List.size_toArray, List.length_cons, List.length_nil, Nat.reduceAdd, Nat.reduceSub, Array.replicate_succ, Array.replicate_zero, List.push_toArray, List.append_toArray, List.nil_append, List.cons_append]
  refine wpIn_wide.2 ?_
  go_wp2_with (first
    | go_skip
    | (go_at_call 33; refine hmi.mono ?_; rintro e w5 ⟨rfl, hw⟩; rw [hw]; clear hw w5)
    | (go_at_call 37; refine (kp _).mono ?_; rintro e w5 ⟨rfl, hw⟩; rw [hw]; clear hw w5)
    | (go_at_call 38; refine (kc _).mono ?_; rintro e w5 ⟨rfl, hw⟩; rw [hw]; clear hw w5)
    | ((with_reducible show wpList _ _ _ _ _ (World.alloc _ (.cells _ _))); refine mem_newb H ?_; intro bq w3 hbk H2; try rw [← hbk]; clear hbk H; have H := H2; clear H2; simp only [List.cons_append, List.nil_append, List.set_cons_zero, List.set_cons_succ, List.setIfInBounds_toArray] at H)
    | (go_at_call 41; refine (kcand _ H.below).mono ?_; rintro e w6 ⟨bs, bl, rfl, hne, hs1, hs2, gs, gl, hb⟩; have hq3 := (H.at 0 rfl).lt; have H2 := H.call hb; clear H; have H := H2; clear H2))
  have hbq := (H.at 0 rfl).lt
  have hge : W.heap.size ≤ bq := (H.held _ (List.mem_of_getElem? (i := 0) rfl)).1
  have hbs := gs.lt
  have hbl := gl.lt
  have hneq : bq ≠ bs ∧ bq ≠ bl := by
    have := hq3
    omega
  have hsW := H.below.size
  obtain ⟨L, hL⟩ : ∃ L, candL l ((X : Int), (Y : Int)) = L := ⟨_, rfl⟩
  have hseq := cands_num 5 (by omega) bs bl W.heap.size A m cap l X Y w6 hsW gs gl HR.out.2.1 h64 hcap hcm (HR.out.1.same (fun k hk => H.below.block k hk)) ⟨hY, by omega⟩ HR.out.2.2
  rw [hL] at hseq ⊢
  have hLn : L.length ≤ 128 := by
    rw [← hL]
    unfold candL
    split
    · rw [allQ_lenN]; omega
    · have := List.length_filter_le (inS ((X : Int), (Y : Int))) l
      have := HR.out.2.1
      omega
  have HLL := Lib.hid hL
  clear hL
  have HS := Lib.hid hseq
  clear hseq
  refine (wpIn_wide (n := 6)).1 ?_
  refine wpIn_rangeGrow (n := 6) (F := Fence.wide) rfl (by omega) (gf := 54) (lb := #[.pointer (some ⟨bl, 0, none⟩), .pointer (some ⟨bs, 0, none⟩)]) rfl trivial (enters_of Try.func54 (by kernel_rfl) rfl)
    HS.out (fun _ => rfl) (fun h k => h.trans k) (fun U V hz hb => KeepsTwo.below hb hsW hbs hbl)
    (AccI W w6.heap.size bq L) (fun _ _ _ => False) (fun k U V h hb => h.grows hb) (fun k U V h hf => h.foot hf) (fun c k U V h _ => h.elim) (fun c k U V h _ => h.elim)
    ⟨hbq, hge, Nat.le_refl _, ⟨_, H.at 0 rfl, World.ownsRow_nil _ _ _ _⟩, H.below⟩
    (fun k y => { tmps := #[.pointer (some ⟨p, 0, none⟩), .int .i64 (pr : Int), .int .i64 (C : Int), undef, undef, undef, .slice none 0 0, .int .i64 0, .pointer (some ⟨bq, 0, none⟩), undef, .int .i64 (qAt L k), .pointer (some ⟨p, 0, none⟩), .bool false, .int .i64 (pr : Int), .bool true, .bool false, .bool false, .int .i64 (C : Int), .bool true, .bool false, .bool false, .pointer (some ⟨p, 0, none⟩), .int .i64 (pr : Int), .int .i64 (C : Int), .func (.func 54) #[] #[.pointer (some ⟨bl, 0, none⟩), .pointer (some ⟨bs, 0, none⟩)], .int .i64 (k : Int), .int .i64 (qAt L k), undef, undef, undef, undef, undef], defers := [] })
    (fun _ _ _ => True) (fun _ _ _ _ _ _ => trivial) ?assign ?body ?done ?stop
  case assign =>
    intro l x V K hx hsz hK
    gi_wp2
    exact hK 0 _ trivial (Below.refl _ _)
  case body =>
    rintro l k y V hk hsz2 _ hAcc
    obtain ⟨v, hv1, hv2⟩ := hAcc.row
    obtain ⟨a0, c0, rfl⟩ := ownsRow_len hv2
    have d0 := hv1.cell 0
    have f0 := hv1.frozen 0
    simp only [List.getElem?_toArray, List.getElem?_cons_zero] at d0
    have htk := takeD hk
    generalize qAt L k = y at htk ⊢
    have lt := hAcc.lt
    have ge := hAcc.ge
    have HV := Lib.hid (And.intro hAcc (And.intro hv1 htk))
    have hgr : ∀ (o : Obj) (w8 : World), (V.alloc o).grownBy w8 (Value.slice a0 k c0).ownBlock → Held w8 bq 29 #[.slice a0 k c0] := fun o w8 hg => (hg.block bq (by have := hv1.lt; rw [World.size_alloc]; omega) (fun e => by have := (hv2.lt bq e.symm).1; omega)).trans (hv1.alloc o)
    clear hAcc hv1 htk H gs gl HS
    gi_wp2_with (gi_at_builtin; refine wpListIn_append_own_at _ rfl _ _ 29 rfl (w6.heap.size + 2) 3 i0 (.int .i64 0) 1 8 Try.underlying29 hi hz0 hz1 hz2 rfl (by decide) _ _ _ rfl (hv2.alloc _) ⟨V.heap.size, 0, none⟩ 1 1 [.int .i64 y] rfl rfl (cell_one_new _ _ _) (by simp [Value.oneCell']) (by simp [maxLen]; omega) (by omega) (by simp; omega) ?_; intro v' w8 hown' hgrow hnil hloc; obtain ⟨a1, c1, rfl⟩ := ownsRow_len hown'; have hv8 := hgr _ _ hgrow; have d8 := hv8.cell 0; have f8 := hv8.frozen 0; simp only [List.getElem?_toArray, List.getElem?_cons_zero] at d8)
    obtain ⟨q1, q2, q3⟩ := acc_step9 (W := W) lt ge HV.out.1.sz HV.out.1.bel HV.out.2.1 hv2 HV.out.2.2 hgrow hown'
    exact ⟨q1, KeepsTwo.foot q2 (fun i hi => by rcases hi with rfl | hi <;> omega) (by omega) (by omega) (by omega), q3⟩
  case done =>
    intro D V hD hAcc hdef
    obtain ⟨v, hv1, hv2⟩ := hAcc.row
    rw [List.take_length] at hv2
    obtain ⟨a0, c0, rfl⟩ := ownsRow_len hv2
    have d0 := hv1.cell 0
    simp only [List.getElem?_toArray, List.getElem?_cons_zero] at d0
    have hb := hAcc.bel
    clear H hv1 gs gl HS hAcc
    go_wp2
    refine ⟨by simp, .inl ⟨_, _, rfl, run_takeDeferred hdef, ?_⟩⟩
    exact ⟨_, results_two rfl _ _ _, _, rfl, (by rw [HLL.out]; exact row_base (row_put9 hv2 hdef rfl) (by omega)), hb.trans (below_put (by omega) V _)⟩
  case stop => exact fun _ _ _ _ _ _ h => h.elim
end
end Go.Proofs.Ytaoaapbbadipfaa
end
/- The program's preferred. Conditions: the steer lies where its pointer says. -/
section
namespace Go.Proofs.Ytaoaapbbadipfaa
set_option linter.unusedSimpArgs false
set_option linter.unusedVariables false
set_option maxRecDepth 100000
attribute [local go_sem] Oper.semAt_some
open Go.ChangeShapes Go.WideShapes Go.ChangeAt Go.RowKit Go.Maps Go.Shelf

theorem infoI1 : (Try.prog.info? 3).map (·.size) = some 1 := by kernel_rfl
theorem Mem.footD {w0 X Y : World} {B b : Nat} {l : List (Nat × TypeId × Array Value)} (h : Mem w0 X l) (hf : Foot (· = b) X Y) (hb : B ≤ b) (hB : w0.heap.size ≤ B) (hX : B ≤ X.heap.size) (hl : ∀ p, p ∈ l → p.1 < B) : Mem w0 Y l :=
  h.far (B := B) (hf.below hX (fun i hi => by have : i = b := hi; omega)) hB hl
/-- how many there are, so far -/
structure CntI (W : World) (D bc : Nat) (k : Nat) (X : World) : Prop where
  mem : Mem W X [(bc, 3, #[.int .i64 (k : Int)])]
  lt : bc < D
  WD : W.heap.size ≤ D
  sz : D ≤ X.heap.size
theorem CntI.grows {W : World} {D bc k : Nat} {X Y : World} (h : CntI W D bc k X) (hb : Below X.heap.size X Y) : CntI W D bc k Y := ⟨h.mem.call hb, h.lt, h.WD, Nat.le_trans h.sz hb.size⟩
theorem CntI.foot {W : World} {D bc k : Nat} {X Y : World} (h : CntI W D bc k X) (hf : Foot (· = D + 1) X Y) : CntI W D bc k Y :=
  ⟨h.mem.footD hf (B := D) (by omega) h.WD h.sz (fun z hz => by simp at hz; rw [hz]; exact h.lt), h.lt, h.WD, Nat.le_trans h.sz hf.size⟩
/-- the one that is looked for, so far -/
structure PickI (W : World) (D1 D bc bi bp : Nat) (n i : Nat) (q : Int) (X : World) : Prop where
  mem : Mem W X [(bc, 3, #[.int .i64 (n : Int)]), (bi, 3, #[.int .i64 (i : Int)]), (bp, 3, #[.int .i64 q])]
  lt : bc < D ∧ bi < D ∧ bp < D ∧ D1 < D
  WD : W.heap.size ≤ D
  sz : D ≤ X.heap.size
  df : X.heap[D1]? = some (.deferred (some []))
theorem PickI.grows {W : World} {D1 D bc bi bp n i : Nat} {q : Int} {X Y : World} (h : PickI W D1 D bc bi bp n i q X) (hb : Below X.heap.size X Y) : PickI W D1 D bc bi bp n i q Y := ⟨h.mem.call hb, h.lt, h.WD, Nat.le_trans h.sz hb.size, (hb.block D1 (by have := h.lt; have := h.sz; omega)).trans h.df⟩
theorem PickI.foot {W : World} {D1 D bc bi bp n i : Nat} {q : Int} {X Y : World} (h : PickI W D1 D bc bi bp n i q X) (hf : Foot (· = D + 1) X Y) : PickI W D1 D bc bi bp n i q Y := by
  obtain ⟨h1, h2, h3, h4⟩ := h.lt
  exact ⟨h.mem.footD hf (B := D) (by omega) h.WD h.sz (fun z hz => by
    simp only [List.mem_cons, List.not_mem_nil, or_false] at hz
    rcases hz with rfl | rfl | rfl <;> assumption), h.lt, h.WD, Nat.le_trans h.sz hf.size, (hf.block D1 (by have := h.sz; omega) (by omega)).trans h.df⟩
set_option maxHeartbeats 2000000 in
theorem preferred_p (W : World) (rd own : Nat → Prop) (p : Nat) (s : SS) (N : Nat) (x : PParts) (h : QAt W rd own p s N x) (hh : Int) (hh0 : 0 ≤ hh ∧ hh ≤ 4294967295) (pr C : Nat) (hpr : pr < 16) (hC : C < 64) : Calls Try.prog 40 #[.pointer (some ⟨p, 0, none⟩), .int .u32 hh, .int .i64 (pr : Int), .int .i64 (C : Int)] W fun e w' => e = .returned (.int .i64 (pickQ (s.cand (pr : Int) (C : Int)) hh)) ∧ Below W.heap.size W w' := by
  have H := Mem.start W
  obtain ⟨_, _, X, Y, hsp, hY, hXY, hq⟩ := spn_ok h.right (p := (pr : Int)) (by omega)
  have hce : s.cand (pr : Int) (C : Int) = candL (s.maps C) ((X : Int), (Y : Int)) := by rw [SS.cand, hsp, Int.toNat_natCast]
  rw [hce]
  have hX : s.t.spAt pr = ((X : Int), (Y : Int)) := by rw [← hsp, SS.spn, Int.toNat_natCast]
  obtain ⟨A, cap, hA, hcap, hcm, hrow⟩ := h.lists C hC
  obtain ⟨h64, hqs⟩ := h.m64 C hC
  have kcand := fun w (hb : Below W.heap.size W w) => candF_p w rd own p s N x (h.below hb) pr C hpr hC X Y hX
  rw [hA] at kcand
  obtain ⟨l, hl⟩ : ∃ l, s.maps C = l := ⟨_, rfl⟩
  rw [hl] at hcap hrow h64 hqs kcand ⊢
  obtain ⟨m, hm⟩ : ∃ m, l.length = m := ⟨_, rfl⟩
  rw [hm] at kcand hcap h64
  have HR := Lib.hid (And.intro hrow (And.intro hm hqs))
  obtain ⟨L, hL⟩ : ∃ L, candL l ((X : Int), (Y : Int)) = L := ⟨_, rfl⟩
  have hseq := fun bs bl w6 (hb : Below W.heap.size W w6) gs gl => cands_num 5 (by omega) bs bl W.heap.size A m cap l X Y w6 hb.size gs gl HR.out.2.1 h64 hcap hcm (HR.out.1.same (fun k hk => hb.block k hk)) ⟨hY, by omega⟩ HR.out.2.2
  rw [hL] at hseq ⊢
  have hLn : 1 ≤ L.length ∧ L.length ≤ 128 := by
    rw [← hL]
    unfold candL
    split
    · rw [allQ_lenN]; omega
    · rename_i h0
      have := List.length_filter_le (inS ((X : Int), (Y : Int))) l
      have := HR.out.2.1
      omega
  have HS := Lib.hid hseq
  clear hseq hL HR h hsp hce hX hA hrow hqs hl hm
  obtain ⟨n, hn⟩ : ∃ n, L.length = n := ⟨_, rfl⟩
  have hsc := Hs.scl_in hh0 (n := (n : Int)) (by omega)
  obtain ⟨i, hi⟩ := Int.eq_ofNat_of_zero_le hsc.1
  have ksc := fun w => Hs.scale_p hh (n : Int) hh0 (by omega) w
  have hpk : pickQ L hh = qAt L i := by
    rw [pickQ, qAt, hn]
    have : hh * (n : Int) / 4294967296 = (i : Int) := hi
    rw [this, Int.toNat_natCast]
  rw [hpk]
  rw [hi] at ksc hsc
  have hin : i < n := by omega
  rw [hn] at HS hLn
  clear hsc hi hpk
  refine (callsIn_wide (n := 6)).1 ?_
  refine callsIn_of_wp_marks Try.func40 rfl trivial ?_ rfl
  simp only [Try.ntmps40, List.size_toArray, List.length_cons, List.length_nil, Nat.reduceAdd, Nat.reduceSub, Array.replicate_succ, Array.replicate_zero, List.push_toArray, List.append_toArray, List.nil_append, List.cons_append]
  refine wpIn_wide.2 ?_
  go_wp2_with fail
  refine wp_scope_straight ?_
  go_wp2_with (first
    | go_skip
    | ((with_reducible show wpList _ _ _ _ _ (World.alloc _ (.cells _ _))); refine mem_newb H ?_; intro bc w3 hbk H2; try rw [← hbk]; clear hbk H; have H := H2; clear H2; simp only [List.cons_append, List.nil_append, List.set_cons_zero, List.set_cons_succ, List.setIfInBounds_toArray] at H)
    | ((with_reducible show wpList _ _ _ (⟨_, .store 3 _ _, _, _, _, _⟩ :: _) _ _); refine mem_storef (i := 0) H (by first | exact wanted_none rfl | exact wanted_some rfl rfl rfl rfl) (by exact rfl) (by exact rfl) (by exact rfl) (by exact rfl) infoI1 (by exact rfl) (by exact rfl) ?_; intro w2 H2; clear H; have H := H2; clear H2; simp only [List.cons_append, List.nil_append, List.set_cons_zero, List.set_cons_succ, List.setIfInBounds_toArray] at H)
    | (go_at_call 41; refine (kcand _ H.below).mono ?_; rintro e w6 ⟨bs, bl, rfl, hne, hs1, hs2, gs, gl, hb⟩; have hq3 := (H.at 0 rfl).lt; have H2 := H.call hb; clear H; have H := H2; clear H2))
  have hbc := (H.at 0 rfl).lt
  have hbs := gs.lt
  have hbl := gl.lt
  have hge : W.heap.size ≤ bc := (H.held _ (List.mem_of_getElem? (i := 0) rfl)).1
  have hneq : bc ≠ bs ∧ bc ≠ bl := by omega
  have hsW := H.below.size
  refine (wpIn_wide (n := 6)).1 ?_
  refine wpIn_rangeGrow (n := 6) (F := Fence.wide) rfl (by omega) (gf := 54) (lb := #[.pointer (some ⟨bl, 0, none⟩), .pointer (some ⟨bs, 0, none⟩)]) rfl trivial (enters_of Try.func54 (by kernel_rfl) rfl)
    (HS.out bs bl w6 H.below gs gl) (fun _ => rfl) (fun h k => h.trans k) (fun U V hz hb => KeepsTwo.below hb hsW hbs hbl)
    (CntI W w6.heap.size bc) (fun _ _ _ => False) (fun k U V h hb => h.grows hb) (fun k U V h hf => h.foot hf) (fun c k U V h _ => h.elim) (fun c k U V h _ => h.elim)
    ⟨H, hbc, hsW, Nat.le_refl _⟩
    (fun k y => { tmps := #[.pointer (some ⟨p, 0, none⟩), .int .u32 hh, .int .i64 (pr : Int), .int .i64 (C : Int), undef, undef, undef, undef, .int .i64 0, .pointer (some ⟨bc, 0, none⟩), undef, undef, undef, undef, undef, .pointer (some ⟨p, 0, none⟩), .int .i64 (pr : Int), .int .i64 (C : Int), .func (.func 54) #[] #[.pointer (some ⟨bl, 0, none⟩), .pointer (some ⟨bs, 0, none⟩)], .int .i64 (k : Int), .int .i64 (qAt L k), undef, undef, undef, undef, undef, undef, undef, undef, undef, undef, undef, undef, undef, undef, undef, undef, undef, undef, undef], defers := [] })
    (fun _ _ _ => True) (fun _ _ _ _ _ _ => trivial) ?assign ?body ?done ?stop
  case assign =>
    intro l x V K hx hsz hK
    gi_wp2
    exact hK 0 _ trivial (Below.refl _ _)
  case body =>
    rintro l k y V hk hsz2 _ hI
    have K := hI.mem
    have lt := hI.lt
    have HV := Lib.hid (And.intro hk hI)
    clear H gs gl HS hI hk
    have hk : k < 128 := by have := HV.out.1; omega
    gi_wp2_with (first
      | ((with_reducible show wpListIn _ _ _ _ _ (⟨_, .load 3 _, _, _, _, _⟩ :: _) _ _); refine mem_loadfI (i := 0) K (by first | exact wanted_none rfl | exact wanted_some rfl rfl rfl rfl) (by exact rfl) (by exact rfl) (by exact rfl) Try.underlying3 rfl (by exact rfl) ?_)
      | ((with_reducible show wpListIn _ _ _ _ _ (⟨_, .store 3 _ _, _, _, _, _⟩ :: _) _ _); refine mem_storefI (i := 0) K (by first | exact wanted_none rfl | exact wanted_some rfl rfl rfl rfl) (by exact rfl) (by exact rfl) (by exact rfl) (by exact rfl) infoI1 (by exact rfl) (by exact rfl) ?_; intro V2 K2 F2; clear K; have K := K2; clear K2; simp only [List.cons_append, List.nil_append, List.set_cons_zero, List.set_cons_succ, List.setIfInBounds_toArray] at K))
    exact ⟨keepsFrom_foot F2 lt, KeepsTwo.foot F2 (fun i hi => by have : i = bc := hi; omega) (by omega) (by omega) (by omega), K, HV.out.2.lt, HV.out.2.WD, by have := F2.size; have := HV.out.2.sz; omega⟩
  case stop => exact fun _ _ _ _ _ _ h => h.elim
  case done =>
    intro D1 V hD hI hdef
    have hVz := hI.sz
    have hVb : Below W.heap.size W V := hI.mem.below
    have bel : ∀ w, Below V.heap.size V w → Below W.heap.size W w := fun w hb => hVb.trans (hb.mono hVb.size)
    have cb : V.cell? ⟨bc, 0, none⟩ = some (.int .i64 (n : Int)) := (hI.mem.at 0 rfl).cell 0
    have hbV := (hI.mem.at 0 rfl).lt
    have hD1 : D1 < V.heap.size := (Array.getElem?_eq_some_iff.1 hdef).1
    have HI := Lib.hid (And.intro hI.mem hdef)
    clear H hb gs gl hI hdef hbs hbl hs1 hs2 hq3 hneq hne
    have H := Mem.start V
    go_wp2_with (first
      | ((with_reducible show wpList _ _ _ (⟨_, .load 3 _, _, _, _, _⟩ :: _) _ _); refine mem_loado H cb hbV (by first | exact wanted_none rfl | exact wanted_some rfl rfl rfl rfl) (by exact rfl) (by exact rfl) Try.underlying3 rfl ?_)
      | (go_at_call 53; refine (ksc _).mono ?_; rintro e w5 ⟨rfl, hw⟩; rw [← hw]; clear hw w5)
      | ((with_reducible show wpList _ _ _ _ _ (World.alloc _ (.cells _ _))); refine mem_newb (l := []) H ?_; intro bi w3 hbk H2; try rw [← hbk]; clear hbk H; have H := H2; clear H2; simp only [List.cons_append, List.nil_append, List.set_cons_zero, List.set_cons_succ, List.setIfInBounds_toArray] at H)
      | ((with_reducible show wpList _ _ _ _ _ (World.alloc _ (.cells _ _))); refine mem_newb (l := [_]) H ?_; intro bp w3 hbk H2; try rw [← hbk]; clear hbk H; have H := H2; clear H2; simp only [List.cons_append, List.nil_append, List.set_cons_zero, List.set_cons_succ, List.setIfInBounds_toArray] at H)
      | ((with_reducible show wpList _ _ _ (⟨_, .store 3 _ _, _, _, _, _⟩ :: _) _ _); refine mem_storef (i := 0) H (by first | exact wanted_none rfl | exact wanted_some rfl rfl rfl rfl) (by exact rfl) (by exact rfl) (by exact rfl) (by exact rfl) infoI1 (by exact rfl) (by exact rfl) ?_; intro w2 H2; clear H; have H := H2; clear H2; simp only [List.cons_append, List.nil_append, List.set_cons_zero, List.set_cons_succ, List.setIfInBounds_toArray] at H)
      | ((with_reducible show wpList _ _ _ (⟨_, .store 3 _ _, _, _, _, _⟩ :: _) _ _); refine mem_storef (i := 1) H (by first | exact wanted_none rfl | exact wanted_some rfl rfl rfl rfl) (by exact rfl) (by exact rfl) (by exact rfl) (by exact rfl) infoI1 (by exact rfl) (by exact rfl) ?_; intro w2 H2; clear H; have H := H2; clear H2; simp only [List.cons_append, List.nil_append, List.set_cons_zero, List.set_cons_succ, List.setIfInBounds_toArray] at H))
    refine wp_label ?_
    go_wp2_with (first
      | go_skip
      | (go_at_call 41; refine (kcand _ (bel _ H.below)).mono ?_; rintro e w7 ⟨cs, cl, rfl, hne, hs1, hs2, gs, gl, hb⟩; have hq3 := (H.at 1 rfl).lt; have H2 := H.call hb; clear H; have H := H2; clear H2))
    have hbi := (H.at 0 rfl).lt
    have hbp := (H.at 1 rfl).lt
    have hgi : V.heap.size ≤ bi := (H.held _ (List.mem_of_getElem? (i := 0) rfl)).1
    have hgp : V.heap.size ≤ bp := (H.held _ (List.mem_of_getElem? (i := 1) rfl)).1
    have hbs := gs.lt
    have hbl := gl.lt
    have hneq : bp ≠ cs ∧ bp ≠ cl := by omega
    have hsW2 := H.below.size
    have hM := HI.out.1.join H
    simp only [List.cons_append, List.nil_append] at hM
    have hP0 : PickI W D1 w7.heap.size bc bi bp n i (-1) w7 := ⟨hM, by omega, by omega, Nat.le_refl _, (H.below.block D1 hD1).trans HI.out.2⟩
    clear hM H
    refine (wpIn_wide (n := 6)).1 ?_
    refine wpIn_rangeGrow (n := 6) (F := Fence.wide) rfl (by omega) (gf := 54) (lb := #[.pointer (some ⟨cl, 0, none⟩), .pointer (some ⟨cs, 0, none⟩)]) rfl trivial (enters_of Try.func54 (by kernel_rfl) rfl)
      (HS.out cs cl w7 hP0.mem.below gs gl) (fun _ => rfl) (fun h k => h.trans k) (fun U V hz hb => KeepsTwo.below hb (by omega) hbs hbl)
      (fun k X => k ≤ i ∧ PickI W D1 w7.heap.size bc bi bp n i (-1) X) (fun c k X => c = .exit 2 ∧ PickI W D1 w7.heap.size bc bi bp n i (qAt L i) X) (fun k U V h hb => ⟨h.1, h.2.grows hb⟩) (fun k U V h hf => ⟨h.1, h.2.foot hf⟩) (fun c k U V h hb => ⟨h.1, h.2.grows hb⟩) (fun c k U V h hf => ⟨h.1, h.2.foot hf⟩)
      ⟨Nat.zero_le _, hP0⟩
      (fun k y => { tmps := #[.pointer (some ⟨p, 0, none⟩), .int .u32 hh, .int .i64 (pr : Int), .int .i64 (C : Int), undef, undef, undef, undef, .int .i64 0, .pointer (some ⟨bc, 0, none⟩), .pointer (some ⟨bi, 0, none⟩), .int .i64 0, .pointer (some ⟨bp, 0, none⟩), .int .i64 (k : Int), .int .i64 (qAt L k), .pointer (some ⟨p, 0, none⟩), .int .i64 (pr : Int), .int .i64 (C : Int), .func (.func 54) #[] #[.pointer (some ⟨bl, 0, none⟩), .pointer (some ⟨bs, 0, none⟩)], undef, undef, undef, undef, .tuple #[.int .i64 (i : Int), .int .i64 0], .int .u32 hh, .int .i64 (n : Int), .tuple #[.int .i64 (i : Int), .int .i64 0], .int .i64 (i : Int), .int .i64 0, .pointer (some ⟨p, 0, none⟩), .int .i64 (pr : Int), .int .i64 (C : Int), .func (.func 54) #[] #[.pointer (some ⟨cl, 0, none⟩), .pointer (some ⟨cs, 0, none⟩)], .int .i64 (k : Int), .int .i64 (qAt L k), undef, undef, undef, undef, undef], defers := [] })
      (fun _ _ _ => True) (fun _ _ _ _ _ _ => trivial) ?assign ?body ?done ?stop
    case assign =>
      intro l x V K hx hsz hK
      gi_wp2
      exact hK 0 _ trivial (Below.refl _ _)
    case body =>
      rintro l k y U hk hsz2 _ ⟨hki, hP⟩
      have K := hP.mem
      have lt := hP.lt
      have hUz := hP.sz
      have HP := Lib.hid hP
      clear hP0 gs gl HS hP
      by_cases hkI : k = i
      · have t1 : ((k : Int) == (i : Int)) = true := by simpa using (show (k : Int) = (i : Int) by omega)
        obtain ⟨q, hqq⟩ : ∃ q, qAt L k = q := ⟨_, rfl⟩
        rw [hqq]
        have HQ := Lib.hid (And.intro hkI hqq)
        clear hkI hqq
        gi_wp2_with (first
          | ((with_reducible show wpListIn _ _ _ _ _ (⟨_, .load 3 _, _, _, _, _⟩ :: _) _ _); refine mem_loadfI (i := 1) K (by first | exact wanted_none rfl | exact wanted_some rfl rfl rfl rfl) (by exact rfl) (by exact rfl) (by exact rfl) Try.underlying3 rfl (by exact rfl) ?_)
          | ((with_reducible show wpListIn _ _ _ _ _ (⟨_, .store 3 _ _, _, _, _, _⟩ :: _) _ _); refine mem_storefI (i := 2) K (by first | exact wanted_none rfl | exact wanted_some rfl rfl rfl rfl) (by exact rfl) (by exact rfl) (by exact rfl) (by exact rfl) infoI1 (by exact rfl) (by exact rfl) ?_; intro V2 K2 F2; clear K; have K := K2; clear K2; simp only [List.cons_append, List.nil_append, List.set_cons_zero, List.set_cons_succ, List.setIfInBounds_toArray] at K))
        have e : qAt L i = q := by rw [← HQ.out.1]; exact HQ.out.2
        exact ⟨keepsFrom_foot F2 (by omega), rfl, by rw [e]; exact K, HP.out.lt, HP.out.WD, by have := F2.size; omega, (F2.block D1 (by omega) (by omega)).trans HP.out.df⟩
      · have t1 : ((k : Int) == (i : Int)) = false := by simpa using (show ¬ (k : Int) = (i : Int) by omega)
        gi_wp2_with (first
          | ((with_reducible show wpListIn _ _ _ _ _ (⟨_, .load 3 _, _, _, _, _⟩ :: _) _ _); refine mem_loadfI (i := 1) K (by first | exact wanted_none rfl | exact wanted_some rfl rfl rfl rfl) (by exact rfl) (by exact rfl) (by exact rfl) Try.underlying3 rfl (by exact rfl) ?_)
          | ((with_reducible show wpListIn _ _ _ _ _ (⟨_, .store 3 _ _, _, _, _, _⟩ :: _) _ _); refine mem_storefI (i := 2) K (by first | exact wanted_none rfl | exact wanted_some rfl rfl rfl rfl) (by exact rfl) (by exact rfl) (by exact rfl) (by exact rfl) infoI1 (by exact rfl) (by exact rfl) ?_; intro V2 K2 F2; clear K; have K := K2; clear K2; simp only [List.cons_append, List.nil_append, List.set_cons_zero, List.set_cons_succ, List.setIfInBounds_toArray] at K))
        exact ⟨⟨Nat.le_refl _, fun _ _ _ h _ => h⟩, fun _ _ => rfl, by omega, HP.out⟩
    case done =>
      rintro D V2 hD2 ⟨hki, _⟩ _
      omega
    case stop =>
      rintro D2 c k V2 hD2 hk ⟨rfl, hP⟩ hdef2
      gi_wp2
      have H := hP.mem
      have hdf := hP.df
      have hlt := hP.lt
      have hne2 : D1 ≠ D2 := by omega
      have hWz := hP.WD
      clear hP hP0 gs gl HS
      go_wp2_with (first
        | ((with_reducible show wpList _ _ _ (⟨_, .load _ _, _, _, _, _⟩ :: _) _ _); refine mem_loadf (i := 2) H (by first | exact wanted_none rfl | exact wanted_some rfl rfl rfl rfl) (by exact rfl) (by exact rfl) (by exact rfl) Try.underlying3 rfl (by exact rfl) ?_))
      refine ⟨by simp, .inl ⟨_, _, rfl, run_takeDeferred hdef2, by simp, .inl ⟨_, _, rfl, run_takeDeferred ((World.putObj_heap_other (fun e => hne2 e)).trans hdf), ?_⟩⟩⟩
      exact ⟨_, results_tmp (t := 8) rfl _ _ _, rfl, (H.below.trans (below_put (by omega) V2 _)).trans (below_put (by omega) _ _)⟩
end Go.Proofs.Ytaoaapbbadipfaa
end
