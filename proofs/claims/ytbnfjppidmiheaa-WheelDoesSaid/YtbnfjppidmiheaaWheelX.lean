/-
  The contract of wheel's Next; All and Next of a nil wheel. Conditions: those that each theorem names.
-/
import Derived.Test.YtbnfjppidmiheaaWheelW
namespace Go.Proofs.Ytbnfjppidmiheaa
set_option linter.unusedSimpArgs false
set_option linter.unusedVariables false
open Go.ChangeShapes Go.WideShapes Go.ChangeAt Go.RowKit Go.Maps Go.Shelf
attribute [local go_sem] Oper.semAt_some

theorem Mem.far {w0 X Y : World} {B : Nat} {l : List (Nat × TypeId × Array Value)} (h : Mem w0 X l) (hb : Below B X Y) (hB : w0.heap.size ≤ B) (hl : ∀ p, p ∈ l → p.1 < B) : Mem w0 Y l :=
  ⟨h.below.trans (hb.mono hB), fun p hp => ⟨(h.held p hp).1, (h.held p hp).2.below hb (hl p hp)⟩, h.inc⟩
theorem results_two {fn : Func} {p q : Tmp} {ty ty' : TypeId} (h : fn.results = #[.cell p ty, .cell q ty']) {tmps : Array Value} {P : Program} {w : World} {a b : Addr} (hp : tmps.getD p undef = .pointer (some a)) (hq : tmps.getD q undef = .pointer (some b)) {u v : Value} (hu : (loadVar ty a).run P w = .ok u w) (hv : (loadVar ty' b).run P w = .ok v w) :
    (results fn tmps).run P w = .ok (.tuple #[u, v]) w := by
  simp only [results, h]
  have hp' := hp
  have hq' := hq
  simp only [Array.getD_eq_getD_getElem?] at hp' hq'
  simp [Sem.run_bind, Result.andThen, asAddr, hp', hq', hu, hv]
/-- the two results of Next -/
abbrev nxB (b2 b3 : Nat) (t : Tm) (y : Bool) : List (Nat × TypeId × Array Value) := [(b2, 41, #[.int .u64 t.1, .int .i64 t.2]), (b3, 4, #[.bool y])]
theorem nx_far {W X Y : World} {b2 b3 B : Nat} {t : Tm} {y : Bool} (h : Mem W X (nxB b2 b3 t y)) (hb : Below B X Y) (hB : W.heap.size ≤ B) (h2 : b2 < B) (h3 : b3 < B) : Mem W Y (nxB b2 b3 t y) := h.far hb hB fun z hz => by
  simp only [nxB, List.mem_cons, List.not_mem_nil, or_false] at hz
  rcases hz with rfl | rfl
  · exact h2
  · exact h3
/-- what is told -/
def nxV (l : List Tm) : Tm × Bool := match l with
  | [] => ((0, 0), false)
  | t :: _ => (t, true)
theorem nx_some {l : List Tm} (h : 0 < l.length) : nxV l = (kth l 0, true) := by
  cases l with
  | nil => cases h
  | cons a l => rfl
set_option maxRecDepth 100000 in
set_option maxHeartbeats 2000000 in
theorem nx_ret {W V : World} {b2 b3 D : Nat} {t : Tm} {y : Bool} {tmps : Array Value} (K : Mem W V (nxB b2 b3 t y)) (hdef : V.heap[D]? = some (.deferred (some []))) (hD : W.heap.size ≤ D) (hb2 : tmps.getD 2 undef = .pointer (some ⟨b2, 0, none⟩)) (hb3 : tmps.getD 3 undef = .pointer (some ⟨b3, 0, none⟩)) :
    bodyPostM Fence.wide 6 Try.prog Try.f19 (fun e w' => e = .returned (.tuple #[tm t, .bool y]) ∧ Below W.heap.size W w') .ret { tmps := tmps, defers := [{ target := .collected D, args := #[] }] } V := by
  refine ⟨by simp, .inl ⟨_, _, rfl, run_takeDeferred hdef, ?_⟩⟩
  have h2 : Held (V.putObj D (.deferred none)) b2 41 #[.int .u64 t.1, .int .i64 t.2] := (K.at 0 rfl).foot (foot_put V D _) (fun e => by have := K.at 0 rfl; unfold Held at this; rw [e, hdef] at this; cases this)
  have h3 : Held (V.putObj D (.deferred none)) b3 4 #[.bool y] := (K.at 1 rfl).foot (foot_put V D _) (fun e => by have := K.at 1 rfl; unfold Held at this; rw [e, hdef] at this; cases this)
  refine ⟨_, results_two (u := tm t) (v := .bool y) rfl hb2 hb3 ?_ ?_, rfl, K.below.trans (below_put hD V _)⟩
  · exact run_loadVar_row _ b2 41 41 _ (0, 0) _ h2 Try.underlying41 rfl tmInfo
  · have c := h3.cell 0
    simp only [List.getElem?_toArray, List.getElem?_cons_zero] at c
    have hagg : (isAgg 4).run Try.prog (V.putObj D (.deferred none)) = .ok false (V.putObj D (.deferred none)) := by
      unfold isAgg
      rw [Sem.run_bind, run_underlying Try.underlying4]
      rfl
    simp only [loadVar, Sem.run_bind, hagg, Result.andThen_ok]
    simp [go_sem, c]
set_option maxRecDepth 100000 in
set_option maxHeartbeats 2000000 in
theorem next_p (W : World) (p m : Nat) (s : WS) (h : WhP W p m s) (hok : s.Ok) : Calls Try.prog 19 #[.pointer (some ⟨p, 0, none⟩)] W fun e w' =>
    e = .returned (.tuple #[tm (nxV s.l).1, .bool (nxV s.l).2]) ∧ Below W.heap.size W w' := by
  have H := Mem.start W
  refine (callsIn_wide (n := 6)).1 ?_
  refine callsIn_of_wp_marks Try.func19 rfl trivial ?_ rfl
  simp only [Try.ntmps19, List.size_toArray, List.length_cons, List.length_nil, Nat.reduceAdd, Nat.reduceSub, Array.replicate_succ, Array.replicate_zero, List.push_toArray, List.append_toArray, List.nil_append, List.cons_append]
  refine wpIn_wide.2 ?_
  go_wp2_with (first
    | go_skip
    | ((with_reducible show wpList _ _ _ _ _ (World.alloc _ (.cells _ _))); refine mem_newb (l := []) H ?_; intro b2 w3 hbk H2; try rw [← hbk]; clear hbk H; have H := H2; clear H2; simp only [List.cons_append, List.nil_append, List.set_cons_zero, List.set_cons_succ, List.setIfInBounds_toArray] at H)
    | ((with_reducible show wpList _ _ _ _ _ (World.alloc _ (.cells _ _))); refine mem_newb (l := [_]) H ?_; intro b3 w4 hbk H2; try rw [← hbk]; clear hbk H; have H := H2; clear H2; simp only [List.cons_append, List.nil_append, List.set_cons_zero, List.set_cons_succ, List.setIfInBounds_toArray] at H))
  have H0 : Mem W w4 (nxB b2 b3 (0, 0) false) := H
  clear H
  have hw4 : WhP w4 p m s := h.call H0.below
  have h2 := (H0.at 0 rfl).lt
  have h3 := (H0.at 1 rfl).lt
  have hsW := H0.below.size
  have hne : b2 ≠ b3 := by
    have := H0.inc
    simp only [nxB, List.pairwise_cons, List.mem_cons, List.not_mem_nil, or_false] at this
    exact this.1 _ rfl
  refine (wpIn_wide (n := 6)).1 ?_
  refine wpIn_rangeOwn (n := 6) (F := Fence.wide) rfl (by omega) (gf := 27) (ra := #[.pointer (some ⟨p, 0, none⟩)]) rfl trivial (enters_of Try.func27 (by kernel_rfl) rfl)
    (inOrder_own 5 (by omega) p m s w4 hw4 hok) (fun _ => rfl)
    (fun g k X => k = 0 ∧ w4.heap.size + 2 ≤ g ∧ g < X.heap.size ∧ Mem W X (nxB b2 b3 (0, 0) false)) (fun c k X => c = .ret ∧ k = 0 ∧ Mem W X (nxB b2 b3 (kth s.l 0) true))
    (fun g b k X Y h hb hf => ⟨h.1, h.2.1, Nat.lt_of_lt_of_le h.2.2.1 hf.size, nx_far h.2.2.2 (hf.below (n := w4.heap.size) (by have := h.2.1; have := h.2.2.1; omega) (fun i e => by have := h.2.1; rcases hb with rfl | rfl <;> omega)) hsW h2 h3⟩)
    (fun c k X Y h hf => ⟨h.1, h.2.1, by
      rcases hf with hf | hf
      · have hb2 := (h.2.2.at 0 rfl).lt
        have hb3 := (h.2.2.at 1 rfl).lt
        refine ⟨h.2.2.below.trans ?_, fun z hz => ?_, h.2.2.inc⟩
        · exact ⟨hf.os, hf.tape, hf.output, hf.size, fun j hj => hf.block j (by have := h.2.2.below.size; omega) (by omega)⟩
        · refine ⟨(h.2.2.held z hz).1, (h.2.2.held z hz).2.foot hf ?_⟩
          simp only [nxB, List.mem_cons, List.not_mem_nil, or_false] at hz
          rcases hz with rfl | rfl
          · show b2 ≠ _
            omega
          · show b3 ≠ _
            omega
      · exact h.2.2.call hf⟩)
    (fun g k X h => h.2.2.1)
    (fun g X hg1 hg2 hb => ⟨rfl, hg1, hg2, nx_far H0 hb hsW h2 h3⟩)
    (fun k y => { tmps := #[.pointer (some ⟨p, 0, none⟩), undef, .pointer (some ⟨b2, 0, none⟩), .pointer (some ⟨b3, 0, none⟩), .pointer (some ⟨y, 0, none⟩), .pointer (some ⟨p, 0, none⟩), .func (.func 27) #[.pointer (some ⟨p, 0, none⟩)] #[], tm (kth s.l k), undef, undef], defers := [] })
    (BoxT w4.heap.size s.l) (fun k y X Y h hf => h.foot hf) ?assign ?body ?done ?stop
  case assign =>
    intro l x V K hx hsz hK
    gi_wp2
    exact hK _ _ ⟨hsz, Held.new V _ _⟩ ((Below.refl _ _).alloc (Nat.le_refl _) _)
  case body =>
    rintro l g k y V hk hg ⟨hy1, hy2⟩ ⟨rfl, -, gl, K⟩
    generalize kth s.l 0 = t at *
    have y0 := hy2.cell 0
    have y1 := hy2.cell 1
    have d0 := (K.at 0 rfl).cell 0
    have d1 := (K.at 0 rfl).cell 1
    have d2 := (K.at 1 rfl).cell 0
    have f0 := (K.at 0 rfl).frozen 0
    have f1 := (K.at 0 rfl).frozen 1
    have f2 := (K.at 1 rfl).frozen 0
    simp only [List.getElem?_toArray, List.getElem?_cons_zero, List.getElem?_cons_succ] at d0 d1 d2 y0 y1
    have K1 := K.set 0 rfl ((Foot.cell V ⟨b2, 0, none⟩ (.int .u64 t.1)).setCell (p := ⟨b2, 1, none⟩) (fun _ => rfl) (.int .i64 t.2)) (((K.at 0 rfl).set 0 (.int .u64 t.1)).set 1 (.int .i64 t.2))
    have K2 := K1.set 1 rfl (Foot.cell _ ⟨b3, 0, none⟩ (.bool true)) ((K1.at 1 rfl).set 0 (.bool true))
    simp only [List.set_cons_zero, List.set_cons_succ, List.setIfInBounds_toArray] at K2
    have hKF : KeepsFrom w4.heap.size V (((V.setCell ⟨b2, 0, none⟩ (.int .u64 t.1)).setCell ⟨b2, 1, none⟩ (.int .i64 t.2)).setCell ⟨b3, 0, none⟩ (.bool true)) := by
      refine ⟨by simp [World.setCell], fun j o hj hjo _ => ?_⟩
      rw [Below.heap_setCell _ _ _ _ (show j ≠ b3 by omega), Below.heap_setCell _ _ _ _ (show j ≠ b2 by omega), Below.heap_setCell _ _ _ _ (show j ≠ b2 by omega)]
      exact hjo
    have HH := Lib.hid (And.intro hKF K2)
    clear K K1 K2 hKF hy2
    gi_wp2
    exact ⟨HH.out.1, rfl, rfl, HH.out.2⟩
  case done =>
    intro D V hD hor hdef
    obtain ⟨hN, K⟩ : s.l.length = 0 ∧ Mem W V (nxB b2 b3 (0, 0) false) := by
      rcases hor with ⟨hN, hb⟩ | ⟨g, hN, _, _, K⟩
      · exact ⟨hN, nx_far H0 hb hsW h2 h3⟩
      · exact ⟨hN, K⟩
    have hnil := Lib.hid (List.eq_nil_of_length_eq_zero hN)
    clear hor hN
    have d0 := (K.at 0 rfl).cell 0
    have d1 := (K.at 0 rfl).cell 1
    have d2 := (K.at 1 rfl).cell 0
    have f0 := (K.at 0 rfl).frozen 0
    have f1 := (K.at 0 rfl).frozen 1
    have f2 := (K.at 1 rfl).frozen 0
    simp only [List.getElem?_toArray, List.getElem?_cons_zero, List.getElem?_cons_succ] at d0 d1 d2
    have K1 := K.set 0 rfl ((Foot.cell V ⟨b2, 0, none⟩ (.int .u64 0)).setCell (p := ⟨b2, 1, none⟩) (fun _ => rfl) (.int .i64 0)) (((K.at 0 rfl).set 0 (.int .u64 0)).set 1 (.int .i64 0))
    have K2 := K1.set 1 rfl (Foot.cell _ ⟨b3, 0, none⟩ (.bool false)) ((K1.at 1 rfl).set 0 (.bool false))
    simp only [List.set_cons_zero, List.set_cons_succ, List.setIfInBounds_toArray] at K2
    have hdef2 : (((V.setCell ⟨b2, 0, none⟩ (.int .u64 0)).setCell ⟨b2, 1, none⟩ (.int .i64 0)).setCell ⟨b3, 0, none⟩ (.bool false)).heap[D]? = some (.deferred (some [])) := by
      rw [Below.heap_setCell _ _ _ _ (show D ≠ b3 by omega), Below.heap_setCell _ _ _ _ (show D ≠ b2 by omega), Below.heap_setCell _ _ _ _ (show D ≠ b2 by omega)]
      exact hdef
    have HH := Lib.hid (And.intro K2 hdef2)
    clear K K1 K2 hdef2 H0
    go_wp2
    rw [hnil.out]
    exact nx_ret (t := (0, 0)) (y := false) HH.out.1 HH.out.2 (by omega) rfl rfl
  case stop =>
    rintro D c k V hD hk ⟨rfl, rfl, K⟩ hdef
    gi_wp2
    rw [nx_some hk]
    exact nx_ret (t := kth s.l 0) (y := true) K hdef (by omega) rfl rfl
set_option maxRecDepth 100000 in
set_option maxHeartbeats 2000000 in
theorem next_nil (W : World) : Calls Try.prog 19 #[.pointer none] W fun e w' =>
    e = .returned (.tuple #[tm (0, 0), .bool false]) ∧ Below W.heap.size W w' := by
  have H := Mem.start W
  refine (callsIn_wide (n := 6)).1 ?_
  refine callsIn_of_wp_marks Try.func19 rfl trivial ?_ rfl
  simp only [Try.ntmps19, List.size_toArray, List.length_cons, List.length_nil, Nat.reduceAdd, Nat.reduceSub, Array.replicate_succ, Array.replicate_zero, List.push_toArray, List.append_toArray, List.nil_append, List.cons_append]
  refine wpIn_wide.2 ?_
  go_wp2_with (first
    | go_skip
    | ((with_reducible show wpList _ _ _ _ _ (World.alloc _ (.cells _ _))); refine mem_newb (l := []) H ?_; intro b2 w3 hbk H2; try rw [← hbk]; clear hbk H; have H := H2; clear H2; simp only [List.cons_append, List.nil_append, List.set_cons_zero, List.set_cons_succ, List.setIfInBounds_toArray] at H)
    | ((with_reducible show wpList _ _ _ _ _ (World.alloc _ (.cells _ _))); refine mem_newb (l := [_]) H ?_; intro b3 w4 hbk H2; try rw [← hbk]; clear hbk H; have H := H2; clear H2; simp only [List.cons_append, List.nil_append, List.set_cons_zero, List.set_cons_succ, List.setIfInBounds_toArray] at H))
  have H0 : Mem W w4 (nxB b2 b3 (0, 0) false) := H
  clear H
  have h2 := (H0.at 0 rfl).lt
  have h3 := (H0.at 1 rfl).lt
  have hsW := H0.below.size
  have hne : b2 ≠ b3 := by
    have := H0.inc
    simp only [nxB, List.pairwise_cons, List.mem_cons, List.not_mem_nil, or_false] at this
    exact this.1 _ rfl
  refine (wpIn_wide (n := 6)).1 ?_
  refine wpIn_rangeOwn (n := 6) (F := Fence.wide) rfl (by omega) (gf := 27) (ra := #[.pointer none]) rfl trivial (enters_of Try.func27 (by kernel_rfl) rfl)
    (inOrder_nil 5 (by omega) w4) (fun _ => rfl)
    (fun g k X => w4.heap.size + 2 ≤ g ∧ g < X.heap.size ∧ Mem W X (nxB b2 b3 (0, 0) false)) (fun c k X => False)
    (fun g b k X Y h hb hf => ⟨h.1, Nat.lt_of_lt_of_le h.2.1 hf.size, nx_far h.2.2 (hf.below (n := w4.heap.size) (by have := h.1; have := h.2.1; omega) (fun i e => by have := h.1; rcases hb with rfl | rfl <;> omega)) hsW h2 h3⟩)
    (fun c k X Y h hf => h.elim)
    (fun g k X h => h.2.1)
    (fun g X hg1 hg2 hb => ⟨hg1, hg2, nx_far H0 hb hsW h2 h3⟩)
    (fun k y => { tmps := #[], defers := [] })
    (fun _ _ _ => True) (fun k y X Y h hf => trivial) ?assign ?body ?done ?stop
  case assign => exact fun l x V K hx => by omega
  case body => exact fun l g k y V hx => by omega
  case stop => exact fun D c k V hD hk => by omega
  case done =>
    intro D V hD hor hdef
    have K : Mem W V (nxB b2 b3 (0, 0) false) := by
      rcases hor with ⟨hN, hb⟩ | ⟨g, _, _, K⟩
      · exact nx_far H0 hb hsW h2 h3
      · exact K
    clear hor
    have d0 := (K.at 0 rfl).cell 0
    have d1 := (K.at 0 rfl).cell 1
    have d2 := (K.at 1 rfl).cell 0
    have f0 := (K.at 0 rfl).frozen 0
    have f1 := (K.at 0 rfl).frozen 1
    have f2 := (K.at 1 rfl).frozen 0
    simp only [List.getElem?_toArray, List.getElem?_cons_zero, List.getElem?_cons_succ] at d0 d1 d2
    have K1 := K.set 0 rfl ((Foot.cell V ⟨b2, 0, none⟩ (.int .u64 0)).setCell (p := ⟨b2, 1, none⟩) (fun _ => rfl) (.int .i64 0)) (((K.at 0 rfl).set 0 (.int .u64 0)).set 1 (.int .i64 0))
    have K2 := K1.set 1 rfl (Foot.cell _ ⟨b3, 0, none⟩ (.bool false)) ((K1.at 1 rfl).set 0 (.bool false))
    simp only [List.set_cons_zero, List.set_cons_succ, List.setIfInBounds_toArray] at K2
    have hdef2 : (((V.setCell ⟨b2, 0, none⟩ (.int .u64 0)).setCell ⟨b2, 1, none⟩ (.int .i64 0)).setCell ⟨b3, 0, none⟩ (.bool false)).heap[D]? = some (.deferred (some [])) := by
      rw [Below.heap_setCell _ _ _ _ (show D ≠ b3 by omega), Below.heap_setCell _ _ _ _ (show D ≠ b2 by omega), Below.heap_setCell _ _ _ _ (show D ≠ b2 by omega)]
      exact hdef
    have HH := Lib.hid (And.intro K2 hdef2)
    clear K K1 K2 hdef2 H0
    go_wp2
    exact nx_ret (t := (0, 0)) (y := false) HH.out.1 HH.out.2 (by omega) rfl rfl
set_option maxRecDepth 100000 in
set_option maxHeartbeats 2000000 in
theorem all_nil (W : World) : Calls Try.prog 21 #[.pointer none] W fun e w' =>
    e = .returned (.slice none 0 0) ∧ Below W.heap.size W w' := by
  have H := Mem.start W
  refine (callsIn_wide (n := 6)).1 ?_
  refine callsIn_of_wp_marks Try.func21 rfl trivial ?_ rfl
  simp only [Try.ntmps21, List.size_toArray, List.length_cons, List.length_nil, Nat.reduceAdd, Nat.reduceSub, Array.replicate_succ, Array.replicate_zero, List.push_toArray, List.append_toArray, List.nil_append, List.cons_append]
  refine wpIn_wide.2 ?_
  go_wp2_with (first
    | go_skip
    | ((with_reducible show wpList _ _ _ _ _ (World.alloc _ (.cells _ _))); refine mem_newb H ?_; intro bd w3 hbk H2; try rw [← hbk]; clear hbk H; have H := H2; clear H2; simp only [List.cons_append, List.nil_append, List.set_cons_zero, List.set_cons_succ, List.setIfInBounds_toArray] at H))
  have hbd := (H.at 0 rfl).lt
  have hsW := H.below.size
  have far : ∀ {X Y : World}, Mem W X [(bd, 28, #[.slice none 0 0])] → Below w3.heap.size X Y → Mem W Y [(bd, 28, #[.slice none 0 0])] := fun h hb => h.far hb hsW fun z hz => by
    simp only [List.mem_cons, List.not_mem_nil, or_false] at hz
    subst hz
    exact hbd
  refine (wpIn_wide (n := 6)).1 ?_
  refine wpIn_rangeOwn (n := 6) (F := Fence.wide) rfl (by omega) (gf := 27) (ra := #[.pointer none]) rfl trivial (enters_of Try.func27 (by kernel_rfl) rfl)
    (inOrder_nil 5 (by omega) w3) (fun _ => rfl)
    (fun g k X => w3.heap.size + 2 ≤ g ∧ g < X.heap.size ∧ Mem W X [(bd, 28, #[.slice none 0 0])]) (fun c k X => False)
    (fun g b k X Y h hb hf => ⟨h.1, Nat.lt_of_lt_of_le h.2.1 hf.size, far h.2.2 (hf.below (n := w3.heap.size) (by have := h.1; have := h.2.1; omega) (fun i e => by have := h.1; rcases hb with rfl | rfl <;> omega))⟩)
    (fun c k X Y h hf => h.elim)
    (fun g k X h => h.2.1)
    (fun g X hg1 hg2 hb => ⟨hg1, hg2, far H hb⟩)
    (fun k y => { tmps := #[], defers := [] })
    (fun _ _ _ => True) (fun k y X Y h hf => trivial) ?assign ?body ?done ?stop
  case assign => exact fun l x V K hx => by omega
  case body => exact fun l g k y V hx => by omega
  case stop => exact fun D c k V hD hk => by omega
  case done =>
    intro D V hD hor hdef
    have K : Mem W V [(bd, 28, #[.slice none 0 0])] := by
      rcases hor with ⟨hN, hb⟩ | ⟨g, _, _, K⟩
      · exact far H hb
      · exact K
    clear hor
    have d0 := (K.at 0 rfl).cell 0
    simp only [List.getElem?_toArray, List.getElem?_cons_zero, List.getElem?_cons_succ] at d0
    have HH := Lib.hid K
    clear K H
    go_wp2
    refine ⟨by simp, .inl ⟨_, _, rfl, run_takeDeferred hdef, ?_⟩⟩
    exact ⟨_, results_tmp (t := 2) rfl _ _ _, rfl, HH.out.below.trans (below_put (by omega) V _)⟩
end Go.Proofs.Ytbnfjppidmiheaa
