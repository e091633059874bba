/-
  The contract of wheel's All. Conditions: those that each theorem names.
-/
import Derived.Test.YtbnfjppidmiheaaWheelV
import Derived.Maps.OwnIn
namespace Go.Proofs.Ytbnfjppidmiheaa
set_option linter.unusedSimpArgs false
set_option linter.unusedVariables false
open Go.ChangeShapes Go.WideShapes Go.ChangeAt Go.RowKit Go.Maps Go.Shelf
attribute [local go_sem] Oper.semAt_some

theorem kth_get {l : List Tm} {k : Nat} (h : k < l.length) : l[k]? = some (kth l k) := by
  unfold kth
  rw [List.getD_eq_getElem?_getD, List.getElem?_eq_getElem h]
  rfl
theorem take_kth {l : List Tm} {k : Nat} (h : k < l.length) : l.take (k + 1) = l.take k ++ [kth l k] := by rw [List.take_add_one, kth_get h]; rfl
theorem foot_grownBy {b : Nat} {X Y : World} (h : Foot (· = b) X Y) : X.grownBy Y (some b) := ⟨h.os, h.tape, h.output, h.size, fun k hk hne => h.block k hk (fun e => hne (by rw [e]))⟩
theorem keepsFrom_below {B : Nat} {W W' : World} (h : Below W.heap.size W W') : KeepsFrom B W W' := ⟨h.size, fun k o _ hk _ => (h.block k (Array.getElem?_eq_some_iff.1 hk).1).trans hk⟩
/-- what is collected into a box: the box's block bd, the row from D + 2 on, not in block g -/
structure Acc (W : World) (D bd g k : Nat) (l : List Tm) (X : World) : Prop where
  gl : g < X.heap.size
  gD : D + 2 ≤ g
  lt : bd < D
  row : ∃ v, Held X bd 28 #[v] ∧ X.ownsRow (D + 2) 41 2 v k (tmCs (l.take k)) ∧ ∀ r, v.ownBlock = some r → r ≠ g
theorem Acc.foot {W : World} {D bd g k b : Nat} {l : List Tm} {X Y : World} (h : Acc W D bd g k l X) (hb : b = g ∨ b = D + 1) (hf : Foot (· = b) X Y) : Acc W D bd g k l Y := by
  obtain ⟨v, h1, h2, h3⟩ := h.row
  have gD := h.gD
  have lt := h.lt
  refine ⟨Nat.lt_of_lt_of_le h.gl hf.size, gD, lt, v, h1.foot hf (by rcases hb with rfl | rfl <;> omega), h2.kept (foot_grownBy hf) ?_, h3⟩
  rcases hv : v.ownBlock with _ | r
  · exact .inl rfl
  · refine .inr fun e => ?_
    cases e
    rcases hb with rfl | rfl
    · exact h3 _ hv rfl
    · have := (h2.lt _ hv).1
      omega
theorem held_grown {V : World} {D bd k : Nat} {v : Value} {xs : List Value} {o : Obj} {w8 : World} (lt : bd < D) (hv1 : Held V bd 28 #[v]) (hv2 : V.ownsRow (D + 2) 41 2 v k xs) (hgrow : (V.alloc o).grownBy w8 v.ownBlock) : Held w8 bd 28 #[v] :=
  (hgrow.block bd (by have := hv1.lt; simp; omega) (fun e => by have := (hv2.lt bd e.symm).1; omega)).trans (hv1.alloc o)
theorem row_base {w : World} {base base' : Nat} {v : Value} {n : Nat} {xs : List Value} (h : w.ownsRow base 41 2 v n xs) (hb : base' ≤ base) : w.ownsRow base' 41 2 v n xs := by
  refine ⟨h.1, h.2.imp id ?_⟩
  rintro ⟨g, cap, cur, h1, h2, h3⟩
  exact ⟨g, cap, cur, h1, by omega, h3⟩
theorem row_put {w : World} {base D : Nat} {v : Value} {n : Nat} {xs : List Value} {o o' : Obj} (h : w.ownsRow base 41 2 v n xs) (hD : w.heap[D]? = some o) (ho : o.isCells = false) : (w.putObj D o').ownsRow base 41 2 v n xs := by
  refine h.kept (foot_grownBy (foot_put w D o')) ?_
  rcases h.2 with ⟨rfl, _⟩ | ⟨g, cap, cur, rfl, _, h3, _⟩
  · exact .inl rfl
  · refine .inr fun e => ?_
    cases e
    rw [h3] at hD
    cases hD
    cases ho
/-- one more is collected -/
theorem acc_step {W : World} {D bd g k : Nat} {l : List Tm} {t : Tm} {V w8 : World} {v v' : Value} {o : Obj} (gl : g < V.heap.size) (gD : D + 2 ≤ g) (lt : bd < D) (hv1 : Held V bd 28 #[v]) (hv2 : V.ownsRow (D + 2) 41 2 v k (tmCs (l.take k))) (hv3 : ∀ r, v.ownBlock = some r → r ≠ g)
    (htk : l.take (k + 1) = l.take k ++ [t]) (hgrow : (V.alloc o).grownBy w8 v.ownBlock) (hown' : w8.ownsRow (D + 2) 41 2 v' (k + 1) (tmCs (l.take k) ++ tmC t)) (hloc : v'.ownBlock = v.ownBlock ∨ v'.ownBlock = some (V.alloc o).heap.size) :
    KeepsFrom D V (w8.setCell ⟨bd, 0, none⟩ v') ∧ (w8.setCell ⟨bd, 0, none⟩ v').heap[g]? = V.heap[g]? ∧ Acc W D bd g (k + 1) l (w8.setCell ⟨bd, 0, none⟩ v') ∧ Foot (fun b => b = bd ∨ D + 2 ≤ b) V (w8.setCell ⟨bd, 0, none⟩ v') := by
  have hs := hgrow.size
  rw [World.size_alloc] at hs
  have hsz : (w8.setCell ⟨bd, 0, none⟩ v').heap.size = w8.heap.size := by simp [World.setCell]
  have keep : ∀ j, j < V.heap.size → j ≠ bd → some j ≠ v.ownBlock → (w8.setCell ⟨bd, 0, none⟩ v').heap[j]? = V.heap[j]? := fun j hj h1 h2 =>
    ((Below.heap_setCell _ _ _ _ h1).trans (hgrow.block j (by rw [World.size_alloc]; omega) h2)).trans (Below.heap_alloc _ _ _ hj)
  have hv8 := held_grown lt hv1 hv2 hgrow
  refine ⟨⟨by omega, fun j o' hj hjo hc => ?_⟩, keep g gl (by omega) (fun e => hv3 g e.symm rfl), ⟨by omega, gD, lt, v', hv8.set 0 v', ?_, ?_⟩, ⟨hgrow.os, hgrow.tape, hgrow.output, by omega, fun j hj hn => keep j hj (fun e => hn (.inl e)) (fun e => hn (.inr (hv2.lt j e.symm).1))⟩⟩
  · refine (keep j (Array.getElem?_eq_some_iff.1 hjo).1 (by omega) (fun e => ?_)).trans hjo
    rcases hv2.2 with ⟨rfl, _⟩ | ⟨g', cap, cur, rfl, _, h3, _⟩
    · cases e
    · cases e
      rw [h3] at hjo
      cases hjo
      cases hc
  · rw [htk, tmCs_snoc]
    refine hown'.kept (foot_grownBy (Foot.cell w8 ⟨bd, 0, none⟩ v')) ?_
    rcases hv : v'.ownBlock with _ | r
    · exact .inl rfl
    · refine .inr fun e => ?_
      cases e
      have h9 : D + 2 ≤ bd := (hown'.lt _ hv).1
      omega
  · intro r hr
    rcases hloc with e | e
    · rw [e] at hr
      exact hv3 r hr
    · rw [e] at hr
      cases hr
      rw [World.size_alloc]
      omega
/-- the loop's variable, in a box of its own -/
def BoxT (D : Nat) (l : List Tm) (k y : Nat) (X : World) : Prop := D + 2 ≤ y ∧ Held X y 41 #[.int .u64 (kth l k).1, .int .i64 (kth l k).2]
theorem BoxT.foot {D : Nat} {l : List Tm} {k y : Nat} {X Y : World} (h : BoxT D l k y X) (hf : Foot (· = D + 1) X Y) : BoxT D l k y Y := ⟨h.1, h.2.foot hf (by have := h.1; omega)⟩
set_option maxRecDepth 100000 in
set_option maxHeartbeats 2000000 in
theorem all_p (W : World) (p m : Nat) (s : WS) (h : WhP W p m s) (hok : s.Ok) : Calls Try.prog 21 #[.pointer (some ⟨p, 0, none⟩)] W fun e w' =>
    ∃ v, e = .returned v ∧ w'.ownsRow W.heap.size 41 2 v s.l.length (tmCs s.l) ∧ Below W.heap.size W w' := by
  have H := Mem.start W
  obtain ⟨i0, hi, hz0, hz1, hz2⟩ := infoTm_parts
  refine (callsIn_wide (n := 6)).1 ?_
  refine callsIn_of_wp_marks Try.func21 rfl trivial ?_ rfl
  simp only [Try.ntmps21, List.size_toArray, List.length_cons, List.length_nil, Nat.reduceAdd, Nat.reduceSub, Array.replicate_succ, Array.replicate_zero, List.push_toArray, List.append_toArray, List.nil_append, List.cons_append]
  refine wpIn_wide.2 ?_
  go_wp2_with (first | go_skip | ((with_reducible show wpList _ _ _ _ _ (World.alloc _ (.cells _ _))); refine mem_newb H ?_; intro bd w3 hbk H2; try rw [← hbk]; clear hbk H; have H := H2; clear H2; simp only [List.cons_append, List.nil_append, List.set_cons_zero, List.set_cons_succ, List.setIfInBounds_toArray] at H))
  have hw3 : WhP w3 p m s := h.call H.below
  have hbd := (H.at 0 rfl).lt
  have hbd' := (H.held _ (List.mem_of_getElem? (i := 0) rfl)).1
  have hl := hok.len
  have hsW := H.below.size
  simp only at hbd'
  refine (wpIn_wide (n := 6)).1 ?_
  refine wpIn_rangeOwn (n := 6) (F := Fence.wide) rfl (by omega) (gf := 27) (ra := #[.pointer (some ⟨p, 0, none⟩)]) rfl trivial (enters_of Try.func27 (by kernel_rfl) rfl)
    (inOrder_own 5 (by omega) p m s w3 hw3 hok) (fun _ => rfl)
    (fun g k X => Acc W w3.heap.size bd g k s.l X ∧ Below W.heap.size W X) (fun _ _ _ => False)
    (fun g b k X Y h hb hf => ⟨h.1.foot hb hf, below_foot h.2 hf (by have := h.1.gD; rcases hb with rfl | rfl <;> omega) (Nat.le_refl _)⟩) (fun _ _ _ _ h => h.elim) (fun g k X h => h.1.gl)
    (fun g X hg1 hg2 hb => ⟨⟨hg2, hg1, hbd, .slice none 0 0, (H.at 0 rfl).below hb hbd, World.ownsRow_nil _ _ _ _, (fun _ h => by cases h)⟩, H.below.trans (hb.mono hsW)⟩)
    (fun k y => { tmps := #[.pointer (some ⟨p, 0, none⟩), undef, .slice none 0 0, .pointer (some ⟨bd, 0, none⟩), .pointer (some ⟨y, 0, none⟩), .pointer (some ⟨p, 0, none⟩), .func (.func 27) #[.pointer (some ⟨p, 0, none⟩)] #[], tm (kth s.l k), undef, undef, undef, undef, undef], defers := [] })
    (BoxT w3.heap.size s.l) (fun k y X Y h hf => h.foot hf) ?assign ?body ?done ?stop
  case assign =>
    intro l x V K hx hsz hK
    gi_wp2
    exact hK _ _ ⟨hsz, Held.new V _ _⟩ ((Below.refl _ _).alloc (Nat.le_refl _) _)
  case body =>
    rintro l g k y V hk hg ⟨hy1, hy2⟩ ⟨⟨gl, gD, lt, v, hv1, hv2, hv3⟩, hB⟩
    obtain ⟨a0, c0, rfl⟩ := ownsRow_len hv2
    have d0 := hv1.cell 0
    have y0 := hy2.cell 0
    have y1 := hy2.cell 1
    have f0 := hv1.frozen 0
    simp only [List.getElem?_toArray, List.getElem?_cons_zero, List.getElem?_cons_succ] at d0 y0 y1
    have hsz : w3.heap.size + 2 ≤ V.heap.size := by omega
    have htk := take_kth hk
    generalize kth s.l k = t at *
    have HV := Lib.hid (And.intro hv1 (And.intro hv3 (And.intro hB htk)))
    have hgr := fun (o : Obj) (w8 : World) (hg : (V.alloc o).grownBy w8 (Value.slice a0 k c0).ownBlock) => held_grown lt hv1 hv2 hg
    clear hv1 hv3 hB htk hy2
    gi_wp2_with (gi_at_builtin; refine wpListIn_append_own_at _ rfl _ _ 28 rfl (w3.heap.size + 2) 41 i0 _ 2 16 Try.underlying28 hi hz0 hz1 hz2 rfl (by decide) _ _ _ rfl (hv2.alloc _) ⟨V.heap.size, 0, none⟩ 1 1 (tmC (t)) rfl rfl (fun j u hu => by rw [addr_add]; exact ((Held.new V 41 #[.int .u64 (t).1, .int .i64 (t).2]).cell j).trans (by simpa [tmC] using hu)) (fun u hu => tmCs_one [t] u (by simpa [tmCs] using hu)) (by simp [maxLen]; omega) (by omega) (by simp; omega) ?_; intro v' w8 hown' hgrow hnil hloc; obtain ⟨a1, c1, rfl⟩ := ownsRow_len hown'; have hv8 := hgr _ _ hgrow; have d8 := hv8.cell 0; have f8 := hv8.frozen 0; simp only [List.getElem?_toArray, List.getElem?_cons_zero] at d8)
    obtain ⟨hv1, hv3, hB, htk⟩ := HV.out
    obtain ⟨q1, q2, q3, q4⟩ := acc_step (W := W) gl gD lt hv1 hv2 hv3 htk hgrow hown' hloc
    exact ⟨q1, q2, q3, hB.trans (q4.below (by have := hB.size; omega) (fun i e => by rcases e with rfl | e <;> omega))⟩
  case done =>
    intro D V hD hor hdef
    obtain ⟨v, hv1, hv2, hB⟩ : ∃ v, Held V bd 28 #[v] ∧ V.ownsRow W.heap.size 41 2 v s.l.length (tmCs s.l) ∧ Below W.heap.size W V := by
      rcases hor with ⟨hN, hb⟩ | ⟨g, ⟨_, _, _, v, h1, h2, _⟩, hB⟩
      · refine ⟨.slice none 0 0, (H.at 0 rfl).below hb hbd, ?_, H.below.trans (hb.mono hsW)⟩
        rw [List.eq_nil_of_length_eq_zero hN]
        exact World.ownsRow_nil _ _ _ _
      · refine ⟨v, h1, ?_, hB⟩
        rw [List.take_length] at h2
        exact row_base h2 (by omega)
    obtain ⟨a0, c0, rfl⟩ := ownsRow_len hv2
    have d0 := hv1.cell 0
    simp only [List.getElem?_toArray, List.getElem?_cons_zero] at d0
    clear H hv1
    go_wp2
    refine ⟨by simp, .inl ⟨_, _, rfl, run_takeDeferred hdef, ?_⟩⟩
    exact ⟨_, results_tmp (t := 2) rfl _ _ _, _, rfl, row_put hv2 hdef rfl, hB.trans (below_put (by omega) V _)⟩
  case stop => exact fun _ _ _ _ _ _ h => h.elim
end Go.Proofs.Ytbnfjppidmiheaa
