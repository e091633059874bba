/-
  The contract of bucket.opening: when a bucket that owes allows a packet again. Conditions: the bucket is valid, has a rate, and its level is not above nothing.
-/
import Derived.Test.YtmincladghbklaaBucketPC
import Derived.Test.YtmincladghbklaaBucketPD
namespace Go.Proofs.Ytmincladghbklaa
set_option linter.unusedSimpArgs false
set_option linter.unusedVariables false
open Go.ChangeShapes Go.WideShapes Go.ChangeAt Go.RowKit Go.Shelf
attribute [local go_sem] Oper.semAt_some

theorem spInfo : (Try.prog.info? 59).map (·.size) = some 2 := by kernel_rfl
theorem keepsFrom_below {B : Nat} {W W' : World} (h : Below W.heap.size W W') : KeepsFrom B W W' := ⟨h.size, fun k o _ hk _ => (h.block k (Array.getElem?_eq_some_iff.1 hk).1).trans hk⟩
theorem keepsFrom_foot {B b : Nat} {W W' : World} (h : Foot (· = b) W W') (hb : b < B) : KeepsFrom B W W' := ⟨h.size, fun k o hB hk _ => (h.block k (Array.getElem?_eq_some_iff.1 hk).1 (by omega)).trans hk⟩
theorem Mem.far {w0 X Y : World} {B : Nat} {l : List (Nat × TypeId × Array Value)} (h : Mem w0 X l) (hb : Below B X Y) (hB : w0.heap.size ≤ B) (hl : ∀ p, p ∈ l → p.1 < B) : Mem w0 Y l :=
  ⟨h.below.trans (hb.mono hB), fun p hp => ⟨(h.held p hp).1, (h.held p hp).2.below hb (hl p hp)⟩, h.inc⟩
/-- all boxes of opening -/
abbrev opL (b : BK) (bb q bf bp p fb bs : Nat) (x : Int × Int) : List (Nat × TypeId × Array Value) := [(bb, 24, bkc b), (q, 24, bkc b), (bf, 22, #[.int .u64 b.rate]), (bp, 22, #[.int .u64 b.rem]), (p, 55, #[mulV bf bp]), (fb, 48, #[fillC p q]), (bs, 59, spc x)]
/-- between two rounds -/
def OpI (b : BK) (bb q bf bp p fb bs : Nat) (w : World) (x : Int × Int) (V : World) : Prop :=
  (b.at_ ≤ x.1 ∧ x.1 ≤ x.2 ∧ x.2 ≤ 9223372036854775807 ∧ x.1 < b.at_ + b.wait ∧ (x.2 = 9223372036854775807 ∨ b.at_ + b.wait ≤ x.2)) ∧ Mem w V (opL b bb q bf bp p fb bs x)
/-- a round has left -/
def OpX (b : BK) (bb q bf bp p fb bs : Nat) (w : World) (c : Code) (V : World) : Prop := c = .exit 0 ∧ ∃ x, x.2 ≤ x.1 + 1 ∧ OpI b bb q bf bp p fb bs w x V
/-- the blocks lie below -/
structure OpB (bb q bf bp p fb bs B : Nat) (w : World) : Prop where
  h0 : bb < B
  h1 : q < B
  h2 : bf < B
  h3 : bp < B
  h4 : p < B
  h5 : fb < B
  h6 : bs < B
  h7 : w.heap.size ≤ B
theorem OpI.far {b : BK} {bb q bf bp p fb bs B : Nat} {w : World} (hB : OpB bb q bf bp p fb bs B w) (x : Int × Int) (X Y : World) (h : OpI b bb q bf bp p fb bs w x X) (hb : Below B X Y) : OpI b bb q bf bp p fb bs w x Y :=
  ⟨h.1, h.2.far hb hB.h7 fun z hz => by
    simp only [opL, List.mem_cons, List.not_mem_nil, or_false] at hz
    rcases hz with rfl | rfl | rfl | rfl | rfl | rfl | rfl
    · exact hB.h0
    · exact hB.h1
    · exact hB.h2
    · exact hB.h3
    · exact hB.h4
    · exact hB.h5
    · exact hB.h6⟩
theorem OpX.far {b : BK} {bb q bf bp p fb bs B : Nat} {w : World} (hB : OpB bb q bf bp p fb bs B w) (c : Code) (X Y : World) (h : OpX b bb q bf bp p fb bs w c X) (hb : Below B X Y) : OpX b bb q bf bp p fb bs w c Y := by
  obtain ⟨hc, x, hx, hi⟩ := h
  exact ⟨hc, x, hx, hi.far hB x X Y hb⟩
theorem allows_fill {b : BK} (hk : b.Ok) (hz : b.rate ≠ 0) (hl : b.level ≤ 0) {t : Int} (ht : b.at_ ≤ t) : allowsB (b.fill t) = decide (b.at_ + b.wait ≤ t) := by
  have h := BK.gives_iff hk hz hl ht
  unfold allowsB
  rw [BK.fill_rate, decide_eq_false hz, Bool.false_or]
  exact decide_eq_decide.2 h
set_option maxRecDepth 100000 in
set_option maxHeartbeats 4000000 in
theorem opening_p (b : BK) (hk : b.Ok) (hz : b.rate ≠ 0) (hl : b.level ≤ 0) (w : World) : Calls Try.prog 29 #[bk b] w fun e w' => e = .returned (.int .u64 b.next) ∧ Below w.heap.size w w' := by
  have H := Mem.start w
  refine (callsIn_wide (n := 6)).1 ?_
  refine callsIn_of_wp_marks Try.func29 rfl trivial ?_ rfl
  simp only [Try.ntmps29, List.size_toArray, List.length_cons, List.length_nil, Nat.reduceAdd, Nat.reduceSub, Array.replicate_succ, Array.replicate_zero, List.push_toArray, List.append_toArray, List.nil_append, List.cons_append]
  refine wpIn_wide.2 ?_
  go_upto_region 1 with (first
    | ((with_reducible show wpList _ _ _ _ _ (World.alloc _ (.cells _ _))); refine mem_newb H ?_; intro bb w3 hbk H2; try rw [← hbk]; clear hbk H; have H := H2; clear H2; simp only [List.cons_append, List.nil_append, List.set_cons_zero, List.set_cons_succ, List.setIfInBounds_toArray] at H))
  refine wp_scope_straight ?_
  go_upto_region 2 with (first
    | ((with_reducible show wpList _ _ _ _ _ (World.alloc _ (.cells _ _))); refine mem_newb H ?_; intro fb w3 hbk H2; try rw [← hbk]; clear hbk H; have H := H2; clear H2; simp only [List.cons_append, List.nil_append, List.set_cons_zero, List.set_cons_succ, List.setIfInBounds_toArray] at H)
    | ((with_reducible show wpList _ _ _ (⟨_, .load 24 _, _, _, _, _⟩ :: _) _ _); refine mem_load (i := 0) H (by first | exact wanted_none rfl | exact wanted_some rfl rfl rfl rfl) (by exact rfl) (by exact rfl) (by exact rfl) Try.underlying24 rfl (by exact bkInfo) ?_)
    | (go_at_call 26; refine (filling_p _ _).mono ?_; rintro e w2 ⟨q, bf, bp, p, rfl, hm⟩; have H2 := H.join hm; clear H hm; have H := H2; clear H2; simp only [List.cons_append, List.nil_append, List.set_cons_zero, List.set_cons_succ, List.setIfInBounds_toArray] at H)
    | ((with_reducible show wpList _ _ _ (⟨_, .store _ _ _, _, _, _, _⟩ :: _) _ _); refine mem_storef (i := 5) H (by first | exact wanted_none rfl | exact wanted_some rfl rfl rfl rfl) (by exact rfl) (by exact rfl) (by exact rfl) (by exact rfl) (by first | exact infoW64 | exact infoI64 | exact infoTP | exact infoTF) (by exact rfl) (by exact rfl) ?_; intro w2 H2; clear H; have H := H2; clear H2; simp only [List.cons_append, List.nil_append, List.set_cons_zero, List.set_cons_succ, List.setIfInBounds_toArray] at H))
  go_wp2_with (first
    | go_skip
    | ((with_reducible show wpList _ _ _ _ _ (World.alloc _ (.cells _ _))); refine mem_newb H ?_; intro bs w3 hbk H2; try rw [← hbk]; clear hbk H; have H := H2; clear H2; simp only [List.cons_append, List.nil_append, List.set_cons_zero, List.set_cons_succ, List.setIfInBounds_toArray] at H)
    | ((with_reducible show wpList _ _ _ (⟨_, .load _ _, _, _, _, _⟩ :: _) _ _); refine mem_loadf (i := 0) H (by first | exact wanted_none rfl | exact wanted_some rfl rfl rfl rfl) (by exact rfl) (by exact rfl) (by exact rfl) (by first | exact Try.underlying22 | exact Try.underlying2 | exact Try.underlying55 | exact Try.underlying48) rfl (by exact rfl) ?_)
    | ((with_reducible show wpList _ _ _ (⟨_, .store 59 _ _, _, _, _, _⟩ :: _) _ _); refine mem_store (i := 6) H (by first | exact wanted_none rfl | exact wanted_some rfl rfl rfl rfl) (by exact rfl) (by exact rfl) (by exact rfl) (by exact rfl) (by exact spInfo) (by exact rfl) (by exact rfl) ?_; intro w2 H2; clear H; have H := H2; clear H2; simp only [List.cons_append, List.nil_append, List.set_cons_zero, List.set_cons_succ, List.setIfInBounds_toArray] at H))
  refine wp_label ?_
  go_wp2_with fail
  have hwb := BK.wait_bd hk hz hl
  have ha := hk.at_
  have hB : OpB bb q bf bp p fb bs w2.heap.size w := ⟨(H.at 0 rfl).lt, (H.at 1 rfl).lt, (H.at 2 rfl).lt, (H.at 3 rfl).lt, (H.at 4 rfl).lt, (H.at 5 rfl).lt, (H.at 6 rfl).lt, H.below.size⟩
  refine (wpIn_wide (n := 6)).1 ?_
  refine wpIn_rangeDown (n := 6) (F := Fence.wide) rfl (by omega) (gf := 36) (ra := #[.pointer (some ⟨bs, 0, none⟩)]) rfl trivial (enters_of Try.func36 (by kernel_rfl) rfl)
    (middles_down 5 (by omega) bs w2 (OpI b bb q bf bp p fb bs w) (fun x V h => ⟨h.2.at 6 rfl, by have := h.1; omega, h.1.2.1, h.1.2.2.1⟩)) (fun _ => rfl)
    (OpX b bb q bf bp p fb bs w) (OpI.far hB) (OpX.far hB) (b.at_, 9223372036854775807) ⟨⟨Int.le_refl _, ha.2, Int.le_refl _, by show b.at_ < _; omega, .inl rfl⟩, H⟩
    (fun x => { tmps := #[bk b, .pointer (some ⟨bb, 0, none⟩), .int .u64 0, .pointer (some ⟨fb, 0, none⟩), .pointer (some ⟨bs, 0, none⟩), .int .u64 (x.1 + (x.2 - x.1) / 2), .agg #[.int .u64 b.rate, .int .i64 b.burst, .int .i64 b.level, .int .u64 b.rem, .int .u64 b.at_], fillC p q, .pointer (some ⟨bb, 4, none⟩), .int .u64 b.at_, .agg #[.int .u64 b.at_, .int .u64 9223372036854775807], .func (.func 36) #[.pointer (some ⟨bs, 0, none⟩)] #[], .int .u64 (x.1 + (x.2 - x.1) / 2), undef, undef, undef, undef, undef, undef, undef, undef, undef, undef, undef, undef, undef, undef, undef, undef], defers := [] }) ?assign ?body ?stop
  case assign =>
    intro l x V K hK
    gi_wp2
    exact hK
  case body =>
    rintro l ⟨s, o⟩ V ⟨⟨i1, i2, i3, i4, i5⟩, K⟩
    simp only at i1 i2 i3 i4 i5 ⊢
    clear H
    have hb6 := hB.h6
    clear hB
    have c0 := (K.at 6 rfl).cell 0
    have c5 := (K.at 5 rfl).cell 0
    simp only [List.getElem?_toArray, List.getElem?_cons_zero, List.getElem?_cons_succ] at c0 c5
    obtain ⟨t, ht⟩ : ∃ t, s + (o - s) / 2 = t := ⟨_, rfl⟩
    rw [ht]
    by_cases he : t = s
    · have e1 : (t == s) = true := by simpa using he
      gi_wp2
      exact ⟨KeepsFrom.refl _ _, rfl, (s, o), by show o ≤ s + 1; omega, ⟨i1, i2, i3, i4, i5⟩, K⟩
    have e1 : (t == s) = false := by simpa using he
    have hA := allows_fill hk hz hl (t := t) (by omega)
    by_cases hT : b.at_ + b.wait ≤ t
    · rw [decide_eq_true hT] at hA
      gi_wp2_with (first
        | (refine ⟨trivial, ?_⟩; gi_at_call 31; refine (CallsIn.inRound l (callsIn_wide.2 (filling1_p b t hk (by omega) (by omega) q bf bp p V (K.at 1 rfl) (K.at 2 rfl) (K.at 3 rfl) (K.at 4 rfl)))).mono ?_; rintro e V1 ⟨rfl, hb1⟩; have K1 := K.call hb1)
        | (refine ⟨trivial, ?_⟩; gi_at_call 28; refine (CallsIn.inRound l (callsIn_wide.2 (allows_p (b.fill t) _))).mono ?_; rintro e V2 ⟨rfl, hb2⟩; rw [hA]; have K2 := K1.call hb2; have f6 := (K2.at 6 rfl).frozen 1; have c6 := (K2.at 6 rfl).cell 1; simp only [List.getElem?_toArray, List.getElem?_cons_zero, List.getElem?_cons_succ] at c6))
      have K3 := K2.set 6 rfl (Foot.cell V2 ⟨bs, 1, none⟩ (.int .u64 t)) ((K2.at 6 rfl).set 1 (.int .u64 t))
      simp only [List.set_cons_zero, List.set_cons_succ, List.setIfInBounds_toArray] at K3
      exact ⟨(keepsFrom_below (hb1.trans (hb2.mono hb1.size))).trans (keepsFrom_foot (Foot.cell V2 ⟨bs, 1, none⟩ (.int .u64 t)) hb6), (s, t), by simp only [downM]; omega, ⟨by simp only; omega, by simp only; omega, by simp only; omega, by simp only; omega, .inr hT⟩, K3⟩
    · rw [decide_eq_false hT] at hA
      gi_wp2_with (first
        | (refine ⟨trivial, ?_⟩; gi_at_call 31; refine (CallsIn.inRound l (callsIn_wide.2 (filling1_p b t hk (by omega) (by omega) q bf bp p V (K.at 1 rfl) (K.at 2 rfl) (K.at 3 rfl) (K.at 4 rfl)))).mono ?_; rintro e V1 ⟨rfl, hb1⟩; have K1 := K.call hb1)
        | (refine ⟨trivial, ?_⟩; gi_at_call 28; refine (CallsIn.inRound l (callsIn_wide.2 (allows_p (b.fill t) _))).mono ?_; rintro e V2 ⟨rfl, hb2⟩; rw [hA]; have K2 := K1.call hb2; have f6 := (K2.at 6 rfl).frozen 0; have c6 := (K2.at 6 rfl).cell 0; simp only [List.getElem?_toArray, List.getElem?_cons_zero, List.getElem?_cons_succ] at c6))
      have K3 := K2.set 6 rfl (Foot.cell V2 ⟨bs, 0, none⟩ (.int .u64 t)) ((K2.at 6 rfl).set 0 (.int .u64 t))
      simp only [List.set_cons_zero, List.set_cons_succ, List.setIfInBounds_toArray] at K3
      exact ⟨(keepsFrom_below (hb1.trans (hb2.mono hb1.size))).trans (keepsFrom_foot (Foot.cell V2 ⟨bs, 0, none⟩ (.int .u64 t)) hb6), (t, o), by simp only [downM]; omega, ⟨by simp only; omega, by simp only; omega, by simp only; omega, by simp only; omega, i5⟩, K3⟩
  case stop =>
    rintro D c V hD ⟨rfl, ⟨s, o⟩, hx, ⟨i1, i2, i3, i4, i5⟩, K⟩ hK
    have c1 := (K.at 6 rfl).cell 1
    simp only [List.getElem?_toArray, List.getElem?_cons_zero, List.getElem?_cons_succ] at c1
    simp only at i1 i2 i3 i4 i5 hx
    have hnx : b.next = o := by
      have d1 : decide (b.rate = 0) = false := decide_eq_false hz
      have d2 : decide (0 < b.level) = false := decide_eq_false (by omega)
      simp only [BK.next, d1, d2, Bool.false_or, cond_false]
      omega
    have hsz := H.below.size
    gi_wp2
    go_wp2
    refine ⟨by simp, .inl ⟨_, _, rfl, run_takeDeferred hK, ?_⟩⟩
    refine ⟨_, results_tmp (t := 2) rfl _ _ _, by rw [hnx]; rfl, ?_⟩
    exact K.below.trans (below_put (by omega) V _)
end Go.Proofs.Ytmincladghbklaa
