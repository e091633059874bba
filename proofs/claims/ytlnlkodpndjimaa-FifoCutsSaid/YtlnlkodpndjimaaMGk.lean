/-
  The program's over of fifos: the packets at the end that must go. Conditions: the fifo lies where its pointer says, two thousand packets at most.
-/
import Derived.Test.YtlnlkodpndjimaaMGj
import Derived.Test.YtlnlkodpndjimaaMGa
/- The program's over of fifos: the packets at the end that must go. Conditions: the fifo lies where its pointer says, two thousand packets at most. -/
section
namespace Go.Proofs.Ytlnlkodpndjimaa.Fi
set_option linter.unusedSimpArgs false
set_option linter.unusedVariables false
set_option maxRecDepth 100000
attribute [local go_sem] Oper.semAt_some
open Go.ChangeShapes Go.WideShapes Go.ChangeAt Go.RowKit Go.Maps Go.Shelf

theorem intInfo1 : (Try.prog.info? 3).map (·.size) = some 1 := by kernel_rfl
theorem keepsFrom_belowP {B : Nat} {W W' : World} (h : Below W.heap.size W W') : KeepsFrom B W W' := ⟨h.size, fun k o _ hk _ => (h.block k (Array.getElem?_eq_some_iff.1 hk).1).trans hk⟩
theorem mem_ne2 {w0 W : World} {b b' : Nat} {t t' : TypeId} {cs cs' : Array Value} (h : Mem w0 W [(b, t, cs), (b', t', cs')]) : b ≠ b' := by
  have hp := h.inc
  simpa using hp
/-- the boxes of over -/
structure OvB (W X : World) (bf bo bc bh p : Nat) (vo : Value) (cv hv : Int) : Prop where
  f : Held X bf 24 #[.pointer (some ⟨p, 0, none⟩)]
  o : Held X bo 41 #[vo]
  c : Held X bc 3 #[.int .i64 cv]
  h : Held X bh 3 #[.int .i64 hv]
  bel : Below W.heap.size W X
  ge : W.heap.size ≤ bf ∧ W.heap.size ≤ bo ∧ W.heap.size ≤ bc ∧ W.heap.size ≤ bh
  ne : bf ≠ bo ∧ bf ≠ bc ∧ bf ≠ bh ∧ bo ≠ bc ∧ bo ≠ bh ∧ bc ≠ bh
theorem OvB.below {W X Y : World} {bf bo bc bh p : Nat} {vo : Value} {cv hv : Int} (h : OvB W X bf bo bc bh p vo cv hv) (hb : Below X.heap.size X Y) : OvB W Y bf bo bc bh p vo cv hv :=
  ⟨h.f.below hb h.f.lt, h.o.below hb h.o.lt, h.c.below hb h.c.lt, h.h.below hb h.h.lt, h.bel.trans (hb.mono h.bel.size), h.ge, h.ne⟩
theorem OvB.make {W w : World} {bf bo bc bh p : Nat} {vo : Value} (hS : Mem W w [(bf, 24, #[.pointer (some ⟨p, 0, none⟩)]), (bo, 41, #[vo])]) (hC : Held w bc 3 #[.int .i64 0]) (hH : Held w bh 3 #[.int .i64 0]) (n1 : bc ≠ bh) (g0 : bf ≠ bo) (g1 : bo < bc) (g2 : bo < bh) (g3 : bf < bc) (g4 : bf < bh) (cv hv : Int) :
    OvB W ((w.setCell ⟨bc, 0, none⟩ (.int .i64 cv)).setCell ⟨bh, 0, none⟩ (.int .i64 hv)) bf bo bc bh p vo cv hv := by
  have f0 := (hS.held _ List.mem_cons_self)
  have o0 := (hS.held _ (List.mem_cons_of_mem _ List.mem_cons_self))
  have gf : W.heap.size ≤ bf := f0.1
  have go : W.heap.size ≤ bo := o0.1
  have hF : Foot (fun i => i = bc ∨ i = bh) w ((w.setCell ⟨bc, 0, none⟩ (.int .i64 cv)).setCell ⟨bh, 0, none⟩ (.int .i64 hv)) := ((Foot.refl _ w).setCell (fun _ => Or.inl rfl) _).setCell (fun _ => Or.inr rfl) _
  have c1 : Held ((w.setCell ⟨bc, 0, none⟩ (.int .i64 cv)).setCell ⟨bh, 0, none⟩ (.int .i64 hv)) bc 3 #[.int .i64 cv] := by
    have := (hC.set 0 (.int .i64 cv)).other (b' := bh) n1 0 (.int .i64 hv)
    simpa using this
  have h1 : Held ((w.setCell ⟨bc, 0, none⟩ (.int .i64 cv)).setCell ⟨bh, 0, none⟩ (.int .i64 hv)) bh 3 #[.int .i64 hv] := by
    have := (hH.other (b' := bc) n1.symm 0 (.int .i64 cv)).set 0 (.int .i64 hv)
    simpa using this
  exact ⟨f0.2.foot hF (by simp only; omega), o0.2.foot hF (by simp only; omega), c1, h1, hS.below.trans (hF.below hS.below.size (fun i hi => by rcases hi with rfl | rfl <;> omega)), ⟨gf, go, by omega, by omega⟩, by omega⟩
/-- between two rounds -/
structure OvI (W : World) (D bf bo bc bh p : Nat) (l : List PV) (n b : Int) (k : Nat) (X : World) : Prop where
  acc : AccQ W D bo l.reverse k X
  f : Held X bf 24 #[.pointer (some ⟨p, 0, none⟩)]
  c : Held X bc 3 #[.int .i64 ((l.length - k : Nat) : Int)]
  h : Held X bh 3 #[.int .i64 (Fi.bytes (l.take (l.length - k)))]
  kp : Fi.kp l n b l.length = Fi.kp l n b (l.length - k)
theorem OvI.grows {W : World} {D bf bo bc bh p : Nat} {l : List PV} {n b : Int} {k : Nat} {X Y : World} (h : OvI W D bf bo bc bh p l n b k X) (hb : Below X.heap.size X Y) : OvI W D bf bo bc bh p l n b k Y :=
  ⟨h.acc.grows hb, h.f.below hb h.f.lt, h.c.below hb h.c.lt, h.h.below hb h.h.lt, h.kp⟩
theorem OvI.foot {W : World} {D bf bo bc bh p : Nat} {l : List PV} {n b : Int} {k d : Nat} {X Y : World} (h : OvI W D bf bo bc bh p l n b k X) (hf : Foot (· = d) X Y) (h0 : d ≠ bf ∧ d ≠ bo ∧ d ≠ bc ∧ d ≠ bh) (h2 : d < D + 2) (h3 : W.heap.size ≤ d) : OvI W D bf bo bc bh p l n b k Y :=
  ⟨h.acc.foot hf h0.2.1 h2 h3, h.f.foot hf h0.1.symm, h.c.foot hf h0.2.2.1.symm, h.h.foot hf h0.2.2.2.symm, h.kp⟩
/-- a round has left -/
structure OvX (W : World) (D bf bo bc bh p : Nat) (l : List PV) (n b : Int) (c : Code) (k : Nat) (X : World) : Prop where
  code : c = .exit 0
  acc : AccQ W D bo l.reverse k X
  kp : Fi.kp l n b l.length = l.length - k
theorem rev_at {l : List PV} {k m : Nat} {y : PV} (h : l.reverse[k]? = some y) (hm : l.length - k = m + 1) : l[m]? = some y := by
  have hk : k < l.length := by omega
  rw [List.getElem?_reverse hk, show l.length - 1 - k = m by omega] at h
  exact h
section
variable {F : Fence} {n : Nat} {P : Program} {o : Oper} {a : Act} {w : World} {Q : Exit → Act → World → Prop}
/-- a struct is read, as an operation alone -/
theorem wpIn_load_held {b : Nat} {t ty : TypeId} {cs : Array Value} {x : Operand} {d : TypeDesc} {K : Act → World → Prop} (g : Held w b t cs) (ho : o.op = .load ty x) (hx : opnd a x = some (.pointer (some ⟨b, 0, none⟩)))
    (hu : P.underlying ty = some d) (hd : (match d with | .struct _ | .array _ _ => true | _ => false) = true) (hi : (P.info? ty).map (·.size) = some cs.size)
    (h : K (a.put o.dst (.agg cs)) w) : o.wpIn F n P a w K Q := by
  refine ⟨by simp [Oper.about, ho], ?_⟩
  rw [Oper.semAt_plain F _ _ (by rw [ho]; intro c hc'; cases hc')]
  unfold execOp
  simp only [ho, opnd_eval hx, Instr.loadAt, Instr.sureAddr, Sem.run_bind, Sem.run_pure, Result.andThen_ok, run_loadVar_row w b t ty cs (0, 0) d g hu hd hi]
  exact h
end
set_option maxHeartbeats 2000000 in
theorem over_q (W : World) (own : Nat → Prop) (p : Nat) (s : FF) (N : Nat) (x : QParts) (h : QAt W own p s N x) (hN : N ≤ 2000) : Calls Try.prog 37 #[.pointer (some ⟨p, 0, none⟩)] W (GivesQ W (s.l.drop (Fi.kp s.l s.n s.b s.l.length)).reverse) := by
  have H := Mem.start W
  have HD := Lib.hid h
  have hp := h.box.lt
  have hnn := h.nn
  obtain ⟨A1, a1, A2, a2, hv1, hv2, hl1, hm1, hl2, hm2, c0, c1, cb, cu, ch⟩ := h.cells
  obtain ⟨n1, hn1⟩ : ∃ n, x.B.length = n := ⟨_, rfl⟩
  obtain ⟨n2, hn2⟩ : ∃ n, x.U.length = n := ⟨_, rfl⟩
  have hlen := h.len2
  have hN2 := h.len
  rw [hn1, hn2] at hlen
  rw [hn1] at hv1 hl1 cb
  rw [hn2] at hv2 hl2 cu
  have HV1 := Lib.hid hv1
  have HV2 := Lib.hid hv2
  have HN1 := Lib.hid hn1
  have HN2 := Lib.hid hn2
  have HL := Lib.hid hlen
  have h12 : n1 + n2 ≤ 2000 := by omega
  have km := fun w (hb : Below W.heap.size W w) => miss_no p s.n hnn.1 w ((h.below hb).box.cell 0)
  have hL5 : s.l.length ≤ 2000 := by omega
  have hrv : x.U.reverse ++ x.B = s.l.reverse := by rw [h.eq]; simp
  have hseq := fun b1 b2 w6 (hb : Below W.heap.size W w6) g1 g2 => visit_num 5 (by omega) b1 b2 W.heap.size A2 n2 a2 A1 n1 a1 x.U x.B w6 hb.size ⟨g1, g2, by rw [← HV2.out]; exact (h.below hb).ru, by rw [← HV1.out]; exact (h.below hb).rb⟩ hn2 hn1 (by omega) (by omega) hl2 hl1 hm2 hm1 (by rw [← hv2]; exact fun i hi => h.ru.lt hi) (by rw [← hv1]; exact fun i hi => h.rb.lt hi)
  rw [hrv] at hseq
  have HSQ := Lib.hid hseq
  have kv := fun w => visit_p A2 n2 a2 A1 n1 a1 w
  have kc := fun w (hb : Below W.heap.size W w) => count_p p A1 A2 n1 n2 a1 a2 (by omega) (by omega) w (h.below hb).box.lt (by rw [← HV1.out]; exact (h.below hb).box.cell 2) (by rw [← HV2.out]; exact (h.below hb).box.cell 3)
  rw [hlen] at kc
  have ke := fun w (hb : Below W.heap.size W w) k hh => exc_p p s.n s.b k hh w ((h.below hb).box.cell 0) ((h.below hb).box.cell 1)
  have HKE := Lib.hid ke
  have hsf := h.fits
  have hsz := h.sz
  have hbd := sum_bd h.sz h.len (by omega)
  obtain ⟨l, hl⟩ : ∃ l, s.l = l := ⟨_, rfl⟩
  rw [hl] at kc hL5 HSQ hsf hsz ch hbd ⊢
  obtain ⟨nb, hnb⟩ : ∃ nb, l.length = nb := ⟨_, rfl⟩
  have HNB := Lib.hid hnb
  rw [hnb] at kc hL5
  have HSF := Lib.hid (And.intro hsf hsz)
  obtain ⟨S, hS1⟩ : ∃ S, Fi.bytes l = S := ⟨_, rfl⟩
  have HS := Lib.hid hS1
  rw [hS1] at ch
  obtain ⟨sn, hsn⟩ : ∃ n, s.n = n := ⟨_, rfl⟩
  obtain ⟨sb, hsb⟩ : ∃ b, s.b = b := ⟨_, rfl⟩
  rw [hsn, hsb] at HKE ⊢
  have HCC := Lib.hid (show ∀ w, Below W.heap.size W w → w.cell? ⟨p, 2, none⟩ = some (.slice A1 n1 a1) ∧ w.cell? ⟨p, 3, none⟩ = some (.slice A2 n2 a2) ∧ p < w.heap.size from fun w hb => ⟨by rw [← HV1.out]; exact (h.below hb).box.cell 2, by rw [← HV2.out]; exact (h.below hb).box.cell 3, (h.below hb).box.lt⟩)
  clear h hv1 hv2 hn1 hn2 hlen hN2 hseq hrv ke hsf hsz hl hnb hS1 hnn hsn hsb cb cu c0 c1 km
  refine (callsIn_wide (n := 6)).1 ?_
  refine callsIn_of_wp_marks Try.func37 rfl trivial ?_ rfl
  simp only [Try.ntmps37, List.size_toArray, List.length_cons, List.length_nil, Nat.reduceAdd, Nat.reduceSub, Array.replicate_succ, Array.replicate_zero, List.push_toArray, List.append_toArray, List.nil_append, List.cons_append]
  refine wpIn_wide.2 ?_
  go_wp2_with fail
  refine wp_scope_straight ?_
  go_upto_region 2 with (first | go_skip | ((with_reducible show wpList _ _ _ _ _ (World.alloc _ (.cells _ _))); refine mem_newb (l := []) H ?_; intro bf w3 hbk H2; try rw [← hbk]; clear hbk H; have H := H2; clear H2; simp only [List.cons_append, List.nil_append, List.set_cons_zero, List.set_cons_succ, List.setIfInBounds_toArray] at H) | ((with_reducible show wpList _ _ _ _ _ (World.alloc _ (.cells _ _))); refine mem_newb (l := [_]) H ?_; intro bo w3 hbk H2; try rw [← hbk]; clear hbk H; have H := H2; clear H2; simp only [List.cons_append, List.nil_append, List.set_cons_zero, List.set_cons_succ, List.setIfInBounds_toArray] at H))
  have hfo : bf ≠ bo := mem_ne2 H
  refine (wpIn_wide (n := 6)).1 (wpIn_mono (Q := fun e a w7 => e = .normal ∧ ∃ bc bh, a = ({ tmps := #[.pointer (some ⟨p, 0, none⟩), .pointer (some ⟨bf, 0, none⟩), .slice none 0 0, .pointer (some ⟨bo, 0, none⟩), .pointer (some ⟨bc, 0, none⟩), .pointer (some ⟨bh, 0, none⟩), undef, .pointer (some ⟨p, 0, none⟩), .int .i64 ((nb : Nat) : Int), .pointer (some ⟨p, 0, none⟩), .pointer (some ⟨p, 0, none⟩), .pointer (some ⟨p, 4, none⟩), .int .i64 S, undef, undef, undef, undef, undef, undef, undef, undef, undef, undef, undef, undef, undef, undef, undef, undef, undef, undef, undef, undef, undef, undef, undef, undef, undef, undef, undef, undef, undef], defers := [] } : Act) ∧ OvB W w7 bf bo bc bh p (.slice none 0 0) ((nb : Nat) : Int) S) ((wpIn_wide (n := 6)).2 ?_) ?_)
  case refine_1 =>
    refine region_memk H 9 10 rfl (by kernel_rfl) (fun wr0 hcl hS => ?_)
    clear H
    refine wpAnyG_take (i := 0) 6 (v := .pointer (some ⟨p, 0, none⟩)) rfl rfl (by kernel_rfl) (by kernel_rfl) (by kernel_rfl) (fun _ _ _ h => by cases h.1) (by kernel_rfl) (by decide) hcl (yields_fld (fun w h => h.at 0 rfl) (by exact rfl) (by exact rfl) (by exact rfl) (by first | exact Try.underlying24 | exact Try.underlying3 | exact Try.underlying41) rfl (by exact rfl)) hS (fun hc1 => ?_)
    clear hcl; have hcl := hc1; clear hc1; simp only [List.getElem_toArray, List.getElem_cons_zero, List.getElem_cons_succ, Act.put, List.setIfInBounds_toArray, List.set_cons_zero, List.set_cons_succ]
    refine wpAnyG_take (i := 2) 6 (v := .pointer (some ⟨p, 0, none⟩)) rfl rfl (by kernel_rfl) (by kernel_rfl) (by kernel_rfl) (fun _ _ _ h => by cases h.1) (by kernel_rfl) (by decide) hcl (yields_fld (fun w h => h.at 0 rfl) (by exact rfl) (by exact rfl) (by exact rfl) (by first | exact Try.underlying24 | exact Try.underlying3 | exact Try.underlying41) rfl (by exact rfl)) hS (fun hc1 => ?_)
    clear hcl; have hcl := hc1; clear hc1; simp only [List.getElem_toArray, List.getElem_cons_zero, List.getElem_cons_succ, Act.put, List.setIfInBounds_toArray, List.set_cons_zero, List.set_cons_succ]
    refine wpAnyG_pure (i := 3) (v := .pointer (some ⟨p, 0, none⟩)) rfl rfl (by kernel_rfl) (by kernel_rfl) (by kernel_rfl) (fun _ _ _ h => by cases h.1) (by decide) ⟨by rfl, fun w _ => (by go_simp; try (first | (simp only [IntKind.wrap_u32]; done) | rfl)), fun _ => rfl⟩ (.inr hS) ?_
    have hc1 := hcl.step (i := 3) (by kernel_rfl)
    clear hcl; have hcl := hc1; clear hc1; simp only [List.getElem_toArray, List.getElem_cons_zero, List.getElem_cons_succ, Act.put, List.setIfInBounds_toArray, List.set_cons_zero, List.set_cons_succ]
    refine wpAnyG_pure (i := 4) (v := .pointer (some ⟨p, 4, none⟩)) rfl rfl (by kernel_rfl) (by kernel_rfl) (by kernel_rfl) (fun _ _ _ h => by cases h.1) (by decide) ⟨by rfl, fun w _ => (by go_simp; try (first | (simp only [IntKind.wrap_u32]; done) | rfl)), fun _ => rfl⟩ (.inr hS) ?_
    have hc1 := hcl.step (i := 4) (by kernel_rfl)
    clear hcl; have hcl := hc1; clear hc1; simp only [List.getElem_toArray, List.getElem_cons_zero, List.getElem_cons_succ, Act.put, List.setIfInBounds_toArray, List.set_cons_zero, List.set_cons_succ]
    refine wpAnyG_take (i := 5) 6 (v := .int .i64 S) rfl rfl (by kernel_rfl) (by kernel_rfl) (by kernel_rfl) (fun _ _ _ h => by cases h.1) (by kernel_rfl) (by decide) hcl (yields_old ch hp (by exact rfl) (by exact rfl) (by exact rfl) (by first | exact Try.underlying32 | exact Try.underlying3 | exact Try.underlying41) rfl) hS (fun hc1 => ?_)
    clear hcl; have hcl := hc1; clear hc1; simp only [List.getElem_toArray, List.getElem_cons_zero, List.getElem_cons_succ, Act.put, List.setIfInBounds_toArray, List.set_cons_zero, List.set_cons_succ]
    refine wpAnyG_three (i := 1) (j := 6) (m := 7) (by kernel_rfl) rfl rfl rfl (fun K hK => ?_) (fun K hK => ?_) (fun K hK => ?_)
    · go_simp
      refine ⟨trivial, (callsIn_wide.2 (kc _ hS.below)).mono ?_⟩
      rintro e w5 ⟨rfl, hb⟩
      have hS5 := hS.call hb
      clear hb hS 
      have hS := hS5
      clear hS5
      refine hK _ _ (.inr hS) ?_
      clear hK K
      have hc1 := hcl.step (i := 1) (by kernel_rfl)
      clear hcl; have hcl := hc1; clear hc1
      refine wpAnyG_two (i := 6) (j := 7) (by kernel_rfl) rfl rfl (fun K hK => ?_) (fun K hK => ?_)
      · go_simp
        refine hK _ _ (.inr (hS.skip _)) ?_
        clear hK K
        have hc1 := hcl.step (i := 6) (by kernel_rfl)
        clear hcl; have hcl := hc1; clear hc1
        have hC := Held.new w5 3 #[.int .i64 0]
        have lthC := (hS.at 1 rfl).lt
        have lfhC := (hS.at 0 rfl).lt
        have hS5 := hS.skip (.cells #[.int .i64 0] 3)
        clear hS 
        generalize hbN : w5.heap.size = bc at hC lthC lfhC ⊢
        clear hbN
        generalize w5.alloc (.cells #[.int .i64 0] 3) = w6 at hS5 hC ⊢
        have hS := hS5
        clear hS5
        refine wpAnyG_one (i := 7) (by kernel_rfl) rfl (fun K hK => ?_)
        go_simp
        refine hK _ _ (.inr (hS.skip _)) ?_
        clear hK K
        have hc1 := hcl.step (i := 7) (by kernel_rfl)
        clear hcl; have hcl := hc1; clear hc1
        have hH := Held.new w6 3 #[.int .i64 0]
        have lthH := (hS.at 1 rfl).lt
        have lfhH := (hS.at 0 rfl).lt
        have nehC := hC.lt
        have hC5 := hC.alloc (.cells #[.int .i64 0] 3)
        have hS5 := hS.skip (.cells #[.int .i64 0] 3)
        clear hS hC
        generalize hbN : w6.heap.size = bh at hH lthH lfhH nehC ⊢
        clear hbN
        generalize w6.alloc (.cells #[.int .i64 0] 3) = w6 at hS5 hH hC5 ⊢
        have hS := hS5
        clear hS5
        have hC := hC5
        clear hC5
        refine wpAnyG_one (i := 8) (by kernel_rfl) rfl (fun K hK => ?_)
        refine wpIn_store_old (b := bc) (j := 0) (v := .int .i64 ((nb : Nat) : Int)) (v0 := .int .i64 0) (hC.cell 0) (hC.frozen 0) rfl (by exact rfl) (by exact rfl) (by exact intInfo1) rfl ?_
        have hgo : W.heap.size ≤ bo := (hS.held _ (List.mem_cons_of_mem _ List.mem_cons_self)).1
        refine hK _ _ (.inr (mem_foot2 (b := bc) hS (Foot.cell _ ⟨bc, 0, none⟩ _) (by omega) (by omega) (by omega))) ?_
        clear hK K
        have hH1 := hH.other (b' := bc) (by omega) 0 (.int .i64 ((nb : Nat) : Int))
        refine wpAnyG_one (i := 9) (by kernel_rfl) rfl (fun K hK => ?_)
        refine wpIn_store_old (b := bh) (j := 0) (v := .int .i64 S) (v0 := .int .i64 0) (hH1.cell 0) (hH1.frozen 0) rfl (by exact rfl) (by exact rfl) (by exact intInfo1) rfl ?_
        refine hK _ _ (.inl (by kernel_rfl)) ?_
        clear hK K
        refine wpAnyG_done (by kernel_rfl) ?_ _
        exact ⟨rfl, bc, bh, rfl, OvB.make hS hC hH (by omega) hfo (by omega) (by omega) (by omega) (by omega) _ _⟩
      · go_simp
        refine hK _ _ (.inr (hS.skip _)) ?_
        clear hK K
        have hc1 := hcl.step (i := 7) (by kernel_rfl)
        clear hcl; have hcl := hc1; clear hc1
        have hH := Held.new w5 3 #[.int .i64 0]
        have lthH := (hS.at 1 rfl).lt
        have lfhH := (hS.at 0 rfl).lt
        have hS5 := hS.skip (.cells #[.int .i64 0] 3)
        clear hS 
        generalize hbN : w5.heap.size = bh at hH lthH lfhH ⊢
        clear hbN
        generalize w5.alloc (.cells #[.int .i64 0] 3) = w6 at hS5 hH ⊢
        have hS := hS5
        clear hS5
        refine wpAnyG_one (i := 6) (by kernel_rfl) rfl (fun K hK => ?_)
        go_simp
        refine hK _ _ (.inr (hS.skip _)) ?_
        clear hK K
        have hc1 := hcl.step (i := 6) (by kernel_rfl)
        clear hcl; have hcl := hc1; clear hc1
        have hC := Held.new w6 3 #[.int .i64 0]
        have lthC := (hS.at 1 rfl).lt
        have lfhC := (hS.at 0 rfl).lt
        have nehH := hH.lt
        have hH5 := hH.alloc (.cells #[.int .i64 0] 3)
        have hS5 := hS.skip (.cells #[.int .i64 0] 3)
        clear hS hH
        generalize hbN : w6.heap.size = bc at hC lthC lfhC nehH ⊢
        clear hbN
        generalize w6.alloc (.cells #[.int .i64 0] 3) = w6 at hS5 hC hH5 ⊢
        have hS := hS5
        clear hS5
        have hH := hH5
        clear hH5
        refine wpAnyG_one (i := 8) (by kernel_rfl) rfl (fun K hK => ?_)
        refine wpIn_store_old (b := bc) (j := 0) (v := .int .i64 ((nb : Nat) : Int)) (v0 := .int .i64 0) (hC.cell 0) (hC.frozen 0) rfl (by exact rfl) (by exact rfl) (by exact intInfo1) rfl ?_
        have hgo : W.heap.size ≤ bo := (hS.held _ (List.mem_cons_of_mem _ List.mem_cons_self)).1
        refine hK _ _ (.inr (mem_foot2 (b := bc) hS (Foot.cell _ ⟨bc, 0, none⟩ _) (by omega) (by omega) (by omega))) ?_
        clear hK K
        have hH1 := hH.other (b' := bc) (by omega) 0 (.int .i64 ((nb : Nat) : Int))
        refine wpAnyG_one (i := 9) (by kernel_rfl) rfl (fun K hK => ?_)
        refine wpIn_store_old (b := bh) (j := 0) (v := .int .i64 S) (v0 := .int .i64 0) (hH1.cell 0) (hH1.frozen 0) rfl (by exact rfl) (by exact rfl) (by exact intInfo1) rfl ?_
        refine hK _ _ (.inl (by kernel_rfl)) ?_
        clear hK K
        refine wpAnyG_done (by kernel_rfl) ?_ _
        exact ⟨rfl, bc, bh, rfl, OvB.make hS hC hH (by omega) hfo (by omega) (by omega) (by omega) (by omega) _ _⟩
    · go_simp
      refine hK _ _ (.inr (hS.skip _)) ?_
      clear hK K
      have hc1 := hcl.step (i := 6) (by kernel_rfl)
      clear hcl; have hcl := hc1; clear hc1
      have hC := Held.new wr0 3 #[.int .i64 0]
      have lthC := (hS.at 1 rfl).lt
      have lfhC := (hS.at 0 rfl).lt
      have hS5 := hS.skip (.cells #[.int .i64 0] 3)
      clear hS 
      generalize hbN : wr0.heap.size = bc at hC lthC lfhC ⊢
      clear hbN
      generalize wr0.alloc (.cells #[.int .i64 0] 3) = w6 at hS5 hC ⊢
      have hS := hS5
      clear hS5
      refine wpAnyG_two (i := 1) (j := 7) (by kernel_rfl) rfl rfl (fun K hK => ?_) (fun K hK => ?_)
      · go_simp
        refine ⟨trivial, (callsIn_wide.2 (kc _ hS.below)).mono ?_⟩
        rintro e w5 ⟨rfl, hb⟩
        have hS5 := hS.call hb
        have hC5 := hC.below hb hC.lt
        clear hb hS hC
        have hS := hS5
        clear hS5
        have hC := hC5
        clear hC5
        refine hK _ _ (.inr hS) ?_
        clear hK K
        have hc1 := hcl.step (i := 1) (by kernel_rfl)
        clear hcl; have hcl := hc1; clear hc1
        refine wpAnyG_one (i := 7) (by kernel_rfl) rfl (fun K hK => ?_)
        go_simp
        refine hK _ _ (.inr (hS.skip _)) ?_
        clear hK K
        have hc1 := hcl.step (i := 7) (by kernel_rfl)
        clear hcl; have hcl := hc1; clear hc1
        have hH := Held.new w5 3 #[.int .i64 0]
        have lthH := (hS.at 1 rfl).lt
        have lfhH := (hS.at 0 rfl).lt
        have nehC := hC.lt
        have hC5 := hC.alloc (.cells #[.int .i64 0] 3)
        have hS5 := hS.skip (.cells #[.int .i64 0] 3)
        clear hS hC
        generalize hbN : w5.heap.size = bh at hH lthH lfhH nehC ⊢
        clear hbN
        generalize w5.alloc (.cells #[.int .i64 0] 3) = w6 at hS5 hH hC5 ⊢
        have hS := hS5
        clear hS5
        have hC := hC5
        clear hC5
        refine wpAnyG_one (i := 8) (by kernel_rfl) rfl (fun K hK => ?_)
        refine wpIn_store_old (b := bc) (j := 0) (v := .int .i64 ((nb : Nat) : Int)) (v0 := .int .i64 0) (hC.cell 0) (hC.frozen 0) rfl (by exact rfl) (by exact rfl) (by exact intInfo1) rfl ?_
        have hgo : W.heap.size ≤ bo := (hS.held _ (List.mem_cons_of_mem _ List.mem_cons_self)).1
        refine hK _ _ (.inr (mem_foot2 (b := bc) hS (Foot.cell _ ⟨bc, 0, none⟩ _) (by omega) (by omega) (by omega))) ?_
        clear hK K
        have hH1 := hH.other (b' := bc) (by omega) 0 (.int .i64 ((nb : Nat) : Int))
        refine wpAnyG_one (i := 9) (by kernel_rfl) rfl (fun K hK => ?_)
        refine wpIn_store_old (b := bh) (j := 0) (v := .int .i64 S) (v0 := .int .i64 0) (hH1.cell 0) (hH1.frozen 0) rfl (by exact rfl) (by exact rfl) (by exact intInfo1) rfl ?_
        refine hK _ _ (.inl (by kernel_rfl)) ?_
        clear hK K
        refine wpAnyG_done (by kernel_rfl) ?_ _
        exact ⟨rfl, bc, bh, rfl, OvB.make hS hC hH (by omega) hfo (by omega) (by omega) (by omega) (by omega) _ _⟩
      · go_simp
        refine hK _ _ (.inr (hS.skip _)) ?_
        clear hK K
        have hc1 := hcl.step (i := 7) (by kernel_rfl)
        clear hcl; have hcl := hc1; clear hc1
        have hH := Held.new w6 3 #[.int .i64 0]
        have lthH := (hS.at 1 rfl).lt
        have lfhH := (hS.at 0 rfl).lt
        have nehC := hC.lt
        have hC5 := hC.alloc (.cells #[.int .i64 0] 3)
        have hS5 := hS.skip (.cells #[.int .i64 0] 3)
        clear hS hC
        generalize hbN : w6.heap.size = bh at hH lthH lfhH nehC ⊢
        clear hbN
        generalize w6.alloc (.cells #[.int .i64 0] 3) = w6 at hS5 hH hC5 ⊢
        have hS := hS5
        clear hS5
        have hC := hC5
        clear hC5
        refine wpAnyG_one (i := 1) (by kernel_rfl) rfl (fun K hK => ?_)
        go_simp
        refine ⟨trivial, (callsIn_wide.2 (kc _ hS.below)).mono ?_⟩
        rintro e w5 ⟨rfl, hb⟩
        have hS5 := hS.call hb
        have hC5 := hC.below hb hC.lt
        have hH5 := hH.below hb hH.lt
        clear hb hS hC hH
        have hS := hS5
        clear hS5
        have hC := hC5
        clear hC5
        have hH := hH5
        clear hH5
        refine hK _ _ (.inr hS) ?_
        clear hK K
        have hc1 := hcl.step (i := 1) (by kernel_rfl)
        clear hcl; have hcl := hc1; clear hc1
        refine wpAnyG_one (i := 8) (by kernel_rfl) rfl (fun K hK => ?_)
        refine wpIn_store_old (b := bc) (j := 0) (v := .int .i64 ((nb : Nat) : Int)) (v0 := .int .i64 0) (hC.cell 0) (hC.frozen 0) rfl (by exact rfl) (by exact rfl) (by exact intInfo1) rfl ?_
        have hgo : W.heap.size ≤ bo := (hS.held _ (List.mem_cons_of_mem _ List.mem_cons_self)).1
        refine hK _ _ (.inr (mem_foot2 (b := bc) hS (Foot.cell _ ⟨bc, 0, none⟩ _) (by omega) (by omega) (by omega))) ?_
        clear hK K
        have hH1 := hH.other (b' := bc) (by omega) 0 (.int .i64 ((nb : Nat) : Int))
        refine wpAnyG_one (i := 9) (by kernel_rfl) rfl (fun K hK => ?_)
        refine wpIn_store_old (b := bh) (j := 0) (v := .int .i64 S) (v0 := .int .i64 0) (hH1.cell 0) (hH1.frozen 0) rfl (by exact rfl) (by exact rfl) (by exact intInfo1) rfl ?_
        refine hK _ _ (.inl (by kernel_rfl)) ?_
        clear hK K
        refine wpAnyG_done (by kernel_rfl) ?_ _
        exact ⟨rfl, bc, bh, rfl, OvB.make hS hC hH (by omega) hfo (by omega) (by omega) (by omega) (by omega) _ _⟩
    · go_simp
      refine hK _ _ (.inr (hS.skip _)) ?_
      clear hK K
      have hc1 := hcl.step (i := 7) (by kernel_rfl)
      clear hcl; have hcl := hc1; clear hc1
      have hH := Held.new wr0 3 #[.int .i64 0]
      have lthH := (hS.at 1 rfl).lt
      have lfhH := (hS.at 0 rfl).lt
      have hS5 := hS.skip (.cells #[.int .i64 0] 3)
      clear hS 
      generalize hbN : wr0.heap.size = bh at hH lthH lfhH ⊢
      clear hbN
      generalize wr0.alloc (.cells #[.int .i64 0] 3) = w6 at hS5 hH ⊢
      have hS := hS5
      clear hS5
      refine wpAnyG_two (i := 1) (j := 6) (by kernel_rfl) rfl rfl (fun K hK => ?_) (fun K hK => ?_)
      · go_simp
        refine ⟨trivial, (callsIn_wide.2 (kc _ hS.below)).mono ?_⟩
        rintro e w5 ⟨rfl, hb⟩
        have hS5 := hS.call hb
        have hH5 := hH.below hb hH.lt
        clear hb hS hH
        have hS := hS5
        clear hS5
        have hH := hH5
        clear hH5
        refine hK _ _ (.inr hS) ?_
        clear hK K
        have hc1 := hcl.step (i := 1) (by kernel_rfl)
        clear hcl; have hcl := hc1; clear hc1
        refine wpAnyG_one (i := 6) (by kernel_rfl) rfl (fun K hK => ?_)
        go_simp
        refine hK _ _ (.inr (hS.skip _)) ?_
        clear hK K
        have hc1 := hcl.step (i := 6) (by kernel_rfl)
        clear hcl; have hcl := hc1; clear hc1
        have hC := Held.new w5 3 #[.int .i64 0]
        have lthC := (hS.at 1 rfl).lt
        have lfhC := (hS.at 0 rfl).lt
        have nehH := hH.lt
        have hH5 := hH.alloc (.cells #[.int .i64 0] 3)
        have hS5 := hS.skip (.cells #[.int .i64 0] 3)
        clear hS hH
        generalize hbN : w5.heap.size = bc at hC lthC lfhC nehH ⊢
        clear hbN
        generalize w5.alloc (.cells #[.int .i64 0] 3) = w6 at hS5 hC hH5 ⊢
        have hS := hS5
        clear hS5
        have hH := hH5
        clear hH5
        refine wpAnyG_one (i := 8) (by kernel_rfl) rfl (fun K hK => ?_)
        refine wpIn_store_old (b := bc) (j := 0) (v := .int .i64 ((nb : Nat) : Int)) (v0 := .int .i64 0) (hC.cell 0) (hC.frozen 0) rfl (by exact rfl) (by exact rfl) (by exact intInfo1) rfl ?_
        have hgo : W.heap.size ≤ bo := (hS.held _ (List.mem_cons_of_mem _ List.mem_cons_self)).1
        refine hK _ _ (.inr (mem_foot2 (b := bc) hS (Foot.cell _ ⟨bc, 0, none⟩ _) (by omega) (by omega) (by omega))) ?_
        clear hK K
        have hH1 := hH.other (b' := bc) (by omega) 0 (.int .i64 ((nb : Nat) : Int))
        refine wpAnyG_one (i := 9) (by kernel_rfl) rfl (fun K hK => ?_)
        refine wpIn_store_old (b := bh) (j := 0) (v := .int .i64 S) (v0 := .int .i64 0) (hH1.cell 0) (hH1.frozen 0) rfl (by exact rfl) (by exact rfl) (by exact intInfo1) rfl ?_
        refine hK _ _ (.inl (by kernel_rfl)) ?_
        clear hK K
        refine wpAnyG_done (by kernel_rfl) ?_ _
        exact ⟨rfl, bc, bh, rfl, OvB.make hS hC hH (by omega) hfo (by omega) (by omega) (by omega) (by omega) _ _⟩
      · go_simp
        refine hK _ _ (.inr (hS.skip _)) ?_
        clear hK K
        have hc1 := hcl.step (i := 6) (by kernel_rfl)
        clear hcl; have hcl := hc1; clear hc1
        have hC := Held.new w6 3 #[.int .i64 0]
        have lthC := (hS.at 1 rfl).lt
        have lfhC := (hS.at 0 rfl).lt
        have nehH := hH.lt
        have hH5 := hH.alloc (.cells #[.int .i64 0] 3)
        have hS5 := hS.skip (.cells #[.int .i64 0] 3)
        clear hS hH
        generalize hbN : w6.heap.size = bc at hC lthC lfhC nehH ⊢
        clear hbN
        generalize w6.alloc (.cells #[.int .i64 0] 3) = w6 at hS5 hC hH5 ⊢
        have hS := hS5
        clear hS5
        have hH := hH5
        clear hH5
        refine wpAnyG_one (i := 1) (by kernel_rfl) rfl (fun K hK => ?_)
        go_simp
        refine ⟨trivial, (callsIn_wide.2 (kc _ hS.below)).mono ?_⟩
        rintro e w5 ⟨rfl, hb⟩
        have hS5 := hS.call hb
        have hC5 := hC.below hb hC.lt
        have hH5 := hH.below hb hH.lt
        clear hb hS hC hH
        have hS := hS5
        clear hS5
        have hC := hC5
        clear hC5
        have hH := hH5
        clear hH5
        refine hK _ _ (.inr hS) ?_
        clear hK K
        have hc1 := hcl.step (i := 1) (by kernel_rfl)
        clear hcl; have hcl := hc1; clear hc1
        refine wpAnyG_one (i := 8) (by kernel_rfl) rfl (fun K hK => ?_)
        refine wpIn_store_old (b := bc) (j := 0) (v := .int .i64 ((nb : Nat) : Int)) (v0 := .int .i64 0) (hC.cell 0) (hC.frozen 0) rfl (by exact rfl) (by exact rfl) (by exact intInfo1) rfl ?_
        have hgo : W.heap.size ≤ bo := (hS.held _ (List.mem_cons_of_mem _ List.mem_cons_self)).1
        refine hK _ _ (.inr (mem_foot2 (b := bc) hS (Foot.cell _ ⟨bc, 0, none⟩ _) (by omega) (by omega) (by omega))) ?_
        clear hK K
        have hH1 := hH.other (b' := bc) (by omega) 0 (.int .i64 ((nb : Nat) : Int))
        refine wpAnyG_one (i := 9) (by kernel_rfl) rfl (fun K hK => ?_)
        refine wpIn_store_old (b := bh) (j := 0) (v := .int .i64 S) (v0 := .int .i64 0) (hH1.cell 0) (hH1.frozen 0) rfl (by exact rfl) (by exact rfl) (by exact intInfo1) rfl ?_
        refine hK _ _ (.inl (by kernel_rfl)) ?_
        clear hK K
        refine wpAnyG_done (by kernel_rfl) ?_ _
        exact ⟨rfl, bc, bh, rfl, OvB.make hS hC hH (by omega) hfo (by omega) (by omega) (by omega) (by omega) _ _⟩
  rintro e a w7 ⟨rfl, bc, bh, rfl, OB⟩
  clear kc H hfo ch hp
  have cf7 := OB.f.cell 0
  simp only [List.getElem?_toArray, List.getElem?_cons_zero] at cf7
  obtain ⟨cb7, cu7, hp7⟩ := HCC.out w7 OB.bel
  have hf7 := OB.f.lt
  have H := Mem.start w7
  have HOB := Lib.hid OB
  clear OB
  go_wp2_with fail
  refine wp_label ?_
  go_upto_region 3 with fail
  refine (wpIn_wide (n := 6)).1 (wpIn_mono (Q := fun e a w6 => e = .normal ∧ ∃ b1 b2, a = ({ tmps := #[.pointer (some ⟨p, 0, none⟩), .pointer (some ⟨bf, 0, none⟩), .slice none 0 0, .pointer (some ⟨bo, 0, none⟩), .pointer (some ⟨bc, 0, none⟩), .pointer (some ⟨bh, 0, none⟩), undef, .pointer (some ⟨p, 0, none⟩), .int .i64 ((nb : Nat) : Int), .pointer (some ⟨p, 0, none⟩), .pointer (some ⟨p, 0, none⟩), .pointer (some ⟨p, 4, none⟩), .int .i64 S, .pointer (some ⟨p, 0, none⟩), .pointer (some ⟨p, 0, none⟩), .pointer (some ⟨p, 3, none⟩), .slice A2 n2 a2, .pointer (some ⟨p, 0, none⟩), .pointer (some ⟨p, 0, none⟩), .pointer (some ⟨p, 2, none⟩), .slice A1 n1 a1, .func (.func 44) #[] #[.pointer (some ⟨b1, 0, none⟩), .pointer (some ⟨b2, 0, none⟩)], undef, undef, undef, undef, undef, undef, undef, undef, undef, undef, undef, undef, undef, undef, undef, undef, undef, undef, undef, undef], defers := [] } : Act) ∧ w7.heap.size ≤ b1 ∧ w7.heap.size ≤ b2 ∧ Held w6 b1 41 #[.slice A2 n2 a2] ∧ Held w6 b2 41 #[.slice A1 n1 a1] ∧ Below w7.heap.size w7 w6) ((wpIn_wide (n := 6)).2 ?_) ?_)
  case refine_1 =>
    refine region_mem H 9 rfl (by kernel_rfl) (fun wr hS => ?_)
    clear H
    refine wpAnyR_take (i := 0) (v := .pointer (some ⟨p, 0, none⟩)) rfl rfl (by kernel_rfl) (by kernel_rfl) (by kernel_rfl) (fun _ _ _ h => by cases h.1) (Nat.le_refl _) (yields_old cf7 hf7 (by exact rfl) (by exact rfl) (by exact rfl) (by first | exact Try.underlying24 | exact Try.underlying3 | exact Try.underlying41) rfl) hS ?_
    simp only [List.getElem_toArray, List.getElem_cons_zero, List.getElem_cons_succ, Act.put, List.setIfInBounds_toArray, List.set_cons_zero, List.set_cons_succ]
    refine wpAnyR_take (i := 1) (v := .pointer (some ⟨p, 0, none⟩)) rfl rfl (by kernel_rfl) (by kernel_rfl) (by kernel_rfl) (fun _ _ _ h => by cases h.1) (Nat.le_refl _) ⟨by rfl, fun w _ => (by go_simp; try (first | (simp only [IntKind.wrap_u32]; done) | rfl)), fun _ => rfl⟩ hS ?_
    simp only [List.getElem_toArray, List.getElem_cons_zero, List.getElem_cons_succ, Act.put, List.setIfInBounds_toArray, List.set_cons_zero, List.set_cons_succ]
    refine wpAnyR_take (i := 2) (v := .pointer (some ⟨p, 3, none⟩)) rfl rfl (by kernel_rfl) (by kernel_rfl) (by kernel_rfl) (fun _ _ _ h => by cases h.1) (Nat.le_refl _) ⟨by rfl, fun w _ => (by go_simp; try (first | (simp only [IntKind.wrap_u32]; done) | rfl)), fun _ => rfl⟩ hS ?_
    simp only [List.getElem_toArray, List.getElem_cons_zero, List.getElem_cons_succ, Act.put, List.setIfInBounds_toArray, List.set_cons_zero, List.set_cons_succ]
    refine wpAnyR_take (i := 3) (v := .slice A2 n2 a2) rfl rfl (by kernel_rfl) (by kernel_rfl) (by kernel_rfl) (fun _ _ _ h => by cases h.1) (Nat.le_refl _) (yields_old cu7 hp7 (by exact rfl) (by exact rfl) (by exact rfl) (by first | exact Try.underlying32 | exact Try.underlying3 | exact Try.underlying41) rfl) hS ?_
    simp only [List.getElem_toArray, List.getElem_cons_zero, List.getElem_cons_succ, Act.put, List.setIfInBounds_toArray, List.set_cons_zero, List.set_cons_succ]
    refine wpAnyR_take (i := 4) (v := .pointer (some ⟨p, 0, none⟩)) rfl rfl (by kernel_rfl) (by kernel_rfl) (by kernel_rfl) (fun _ _ _ h => by cases h.1) (Nat.le_refl _) (yields_old cf7 hf7 (by exact rfl) (by exact rfl) (by exact rfl) (by first | exact Try.underlying24 | exact Try.underlying3 | exact Try.underlying41) rfl) hS ?_
    simp only [List.getElem_toArray, List.getElem_cons_zero, List.getElem_cons_succ, Act.put, List.setIfInBounds_toArray, List.set_cons_zero, List.set_cons_succ]
    refine wpAnyR_take (i := 5) (v := .pointer (some ⟨p, 0, none⟩)) rfl rfl (by kernel_rfl) (by kernel_rfl) (by kernel_rfl) (fun _ _ _ h => by cases h.1) (Nat.le_refl _) ⟨by rfl, fun w _ => (by go_simp; try (first | (simp only [IntKind.wrap_u32]; done) | rfl)), fun _ => rfl⟩ hS ?_
    simp only [List.getElem_toArray, List.getElem_cons_zero, List.getElem_cons_succ, Act.put, List.setIfInBounds_toArray, List.set_cons_zero, List.set_cons_succ]
    refine wpAnyR_take (i := 6) (v := .pointer (some ⟨p, 2, none⟩)) rfl rfl (by kernel_rfl) (by kernel_rfl) (by kernel_rfl) (fun _ _ _ h => by cases h.1) (Nat.le_refl _) ⟨by rfl, fun w _ => (by go_simp; try (first | (simp only [IntKind.wrap_u32]; done) | rfl)), fun _ => rfl⟩ hS ?_
    simp only [List.getElem_toArray, List.getElem_cons_zero, List.getElem_cons_succ, Act.put, List.setIfInBounds_toArray, List.set_cons_zero, List.set_cons_succ]
    refine wpAnyR_take (i := 7) (v := .slice A1 n1 a1) rfl rfl (by kernel_rfl) (by kernel_rfl) (by kernel_rfl) (fun _ _ _ h => by cases h.1) (Nat.le_refl _) (yields_old cb7 hp7 (by exact rfl) (by exact rfl) (by exact rfl) (by first | exact Try.underlying32 | exact Try.underlying3 | exact Try.underlying41) rfl) hS ?_
    simp only [List.getElem_toArray, List.getElem_cons_zero, List.getElem_cons_succ, Act.put, List.setIfInBounds_toArray, List.set_cons_zero, List.set_cons_succ]
    have hszr := hS.below.size
    refine wpAnyG_one (i := 8) (by kernel_rfl) rfl (fun K hK => ?_)
    go_simp
    refine ⟨trivial, (callsIn_wide.2 (kv _)).mono ?_⟩
    rintro e w6 ⟨b1, b2, rfl, hne, hs1, hs2, g1, g2, hb⟩
    have hS5 := hS.call hb
    clear hb hS
    have hS := hS5
    clear hS5
    refine hK _ _ (.inr hS) ?_
    clear hK K
    refine wpAnyG_done (by kernel_rfl) ?_ _
    have H := hS
    clear hS
    exact ⟨rfl, b1, b2, rfl, Nat.le_trans hszr hs1, Nat.le_trans hszr hs2, g1, g2, H.below⟩
  rintro e a w6 ⟨rfl, b1, b2, rfl, hs1, hs2, g1, g2, hb67⟩
  clear H cf7 cb7 cu7 hp7 hf7 kv
  have OB := HOB.out.below hb67
  have hsW := OB.bel.size
  have hb1 := g1.lt
  have hb2 := g2.lt
  have hof := HOB.out.f.lt
  have hoo := HOB.out.o.lt
  have hoc := HOB.out.c.lt
  have hoh := HOB.out.h.lt
  have hsq := Lib.hid (HSQ.out b1 b2 w6 OB.bel g1 g2)
  have hge := OB.ge
  have hne := OB.ne
  have hz6 := hb67.size
  have HN6 := Lib.hid (show bf < w6.heap.size ∧ bo < w6.heap.size ∧ bc < w6.heap.size ∧ bh < w6.heap.size ∧ b1 ≠ bo ∧ b1 ≠ bc ∧ b1 ≠ bh ∧ b2 ≠ bo ∧ b2 ≠ bc ∧ b2 ≠ bh by omega)
  have HGE := Lib.hid hge
  have HNE := Lib.hid hne
  have HI0 := Lib.hid (show OvI W w6.heap.size bf bo bc bh p l sn sb 0 w6 from ⟨⟨by omega, hge.2.1, Nat.le_refl _, ⟨_, OB.o, .inl ⟨rfl, rfl⟩, (fun i hi => by obtain ⟨_, _, _, _, e⟩ := hi; cases e)⟩, OB.bel⟩, OB.f, by rw [Nat.sub_zero, HNB.out]; exact OB.c, by rw [Nat.sub_zero, List.take_length, HS.out]; exact OB.h, by rw [Nat.sub_zero]⟩)
  have HLR := Lib.hid (show l.reverse.length = nb by rw [List.length_reverse]; exact HNB.out)
  clear HSQ OB g1 g2 hof hoo hoc hoh hge hne
  go_wp2_with fail
  refine (wpIn_wide (n := 6)).1 ?_
  refine wpIn_rangeGrowY (n := 6) (F := Fence.wide) rfl (by omega) (gf := 44) (lb := #[.pointer (some ⟨b1, 0, none⟩), .pointer (some ⟨b2, 0, none⟩)]) rfl trivial (enters_of Try.func44 (by kernel_rfl) rfl)
    hsq.out (fun _ => rfl) (fun h k => h.trans k) (fun U V hz hb => KeepsTwo.below hb hsW hb1 hb2)
    (OvI W w6.heap.size bf bo bc bh p l sn sb) (OvX W w6.heap.size bf bo bc bh p l sn sb) (fun k U V h hb => h.grows hb) (fun k U V h hf => h.foot hf (by have := HN6.out; omega) (by omega) (by omega)) (fun c k U V h hb => ⟨h.code, h.acc.grows hb, h.kp⟩) (fun c k U V h hf => ⟨h.code, h.acc.foot hf (by have := HN6.out; omega) (by omega) (by omega), h.kp⟩)
    HI0.out
    (fun k y => { tmps := #[.pointer (some ⟨p, 0, none⟩), .pointer (some ⟨bf, 0, none⟩), .slice none 0 0, .pointer (some ⟨bo, 0, none⟩), .pointer (some ⟨bc, 0, none⟩), .pointer (some ⟨bh, 0, none⟩), .pointer (some ⟨y, 0, none⟩), .pointer (some ⟨p, 0, none⟩), .int .i64 ((nb : Nat) : Int), .pointer (some ⟨p, 0, none⟩), .pointer (some ⟨p, 0, none⟩), .pointer (some ⟨p, 4, none⟩), .int .i64 S, .pointer (some ⟨p, 0, none⟩), .pointer (some ⟨p, 0, none⟩), .pointer (some ⟨p, 3, none⟩), .slice A2 n2 a2, .pointer (some ⟨p, 0, none⟩), .pointer (some ⟨p, 0, none⟩), .pointer (some ⟨p, 2, none⟩), .slice A1 n1 a1, .func (.func 44) #[] #[.pointer (some ⟨b1, 0, none⟩), .pointer (some ⟨b2, 0, none⟩)], pv (pAt l.reverse k), undef, undef, undef, undef, undef, undef, undef, undef, undef, undef, undef, undef, undef, undef, undef, undef, undef, undef, undef], defers := [] })
    (fun k y X => w6.heap.size + 2 ≤ y ∧ Held X y 37 (pvCs (pAt l.reverse k)).toArray) (fun k y X Y h hf => ⟨h.1, h.2.foot hf (by omega)⟩) ?assign ?body ?done ?stop
  case assign =>
    intro l x V K hx hsz hK
    gi_wp2
    exact hK _ _ (Nat.le_refl _) ⟨hsz, Held.new V _ _⟩ ((Below.refl _ _).alloc (Nat.le_refl _) _)
  case body =>
    rintro lp k y V hk hsz2 ⟨hy1, hy2⟩ hI ⟨W0, hI0, hyW, hsame⟩
    have hkn : k < nb := by rw [← HLR.out]; exact hk
    obtain ⟨q, hq⟩ : ∃ q, l.reverse[k]? = some q := ⟨_, List.getElem?_eq_getElem hk⟩
    have hpq := pAt_of hq
    rw [hpq] at hy2 ⊢
    obtain ⟨m, hm⟩ : ∃ m, l.length - k = m + 1 := ⟨nb - k - 1, by rw [HNB.out]; omega⟩
    have hlm := rev_at hq hm
    have hbt := bytes_take hlm
    have hqf := HSF.out.1 q (List.mem_of_getElem? hlm)
    have hqs := HSF.out.2 q (List.mem_of_getElem? hlm)
    have hTb := sum_bd (l := l.take m) (fun z hz => HSF.out.2 z (List.mem_of_mem_take hz)) (N := 2000) (by have := HNB.out; rw [List.length_take]; omega) (by omega)
    obtain ⟨T, hT⟩ : ∃ T, Fi.bytes (l.take m) = T := ⟨_, rfl⟩
    rw [hT] at hbt hTb
    obtain ⟨v, hv1, hv2, hv3⟩ := hI.acc.row
    obtain ⟨a0, c0', hvv, _, _⟩ := hv2.shape
    have htk := takeP_at hk
    rw [hpq] at htk
    have hlk : (l.reverse.take k).length = k := by rw [List.length_take]; omega
    rw [hlk] at hvv
    subst hvv
    have hD1 : bo ≠ w6.heap.size + 1 := by have := HN6.out; omega
    have hyv : ¬ qb (.slice a0 k c0') y := by
      intro e
      obtain ⟨v0, u1, u2, u3⟩ := hI0.acc.row
      have e3 := hv1.symm.trans ((hsame bo u1.lt hD1).trans u1)
      cases e3
      have := u2.lt e
      omega
    have HE8 := Lib.hid (show ∀ q : PV, (l.reverse.take k ++ [q]).length = k + 1 from fun q => by rw [List.length_append, hlk]; rfl)
    have cf := hI.f.cell 0
    have cc := hI.c.cell 0
    have ch5 := hI.h.cell 0
    rw [hm] at cc ch5
    rw [hbt] at ch5
    simp only [List.getElem?_toArray, List.getElem?_cons_zero] at cf cc ch5
    rw [show ((m + 1 : Nat) : Int) = (m : Int) + 1 by omega] at cc
    have hlf := hI.f.lt
    have hlc := hI.c.lt
    have hlh := hI.h.lt
    have hbel := hI.acc.bel
    have kx := fun w (hb : Below V.heap.size V w) => HKE.out w (hbel.trans (hb.mono hbel.size)) ((m : Int) + 1) (T + q.len)
    obtain ⟨E, hE⟩ : ∃ E, (decide (sn < (m : Int) + 1) || decide (sb < T + q.len)) = E := ⟨_, rfl⟩
    simp only [hE] at kx
    have HALL := Lib.hid (And.intro hI (And.intro hv1 (And.intro hv2 (And.intro hv3 (And.intro htk (And.intro hm (And.intro hbt (And.intro hT hE))))))))
    have hm5 : m ≤ 2000 := by have := HNB.out; omega
    have HB12 := Lib.hid (show b1 < w6.heap.size ∧ b2 < w6.heap.size ∧ W.heap.size ≤ w6.heap.size from ⟨hb1, hb2, hsW⟩)
    have HSK := Lib.hid (show k + 1 ≤ 100000 by omega)
    have HYV := Lib.hid hyv
    clear hI hv1 hv2 hv3 htk hm hbt hT hE hlm hq hpq hlk hI0 hsame hyW hk hyv hsq
    gi_wp2_with fail
    refine wpIn_mono (Q := fun e a w5 => e = .normal ∧ a = ({ tmps := #[.pointer (some ⟨p, 0, none⟩), .pointer (some ⟨bf, 0, none⟩), .slice none 0 0, .pointer (some ⟨bo, 0, none⟩), .pointer (some ⟨bc, 0, none⟩), .pointer (some ⟨bh, 0, none⟩), .pointer (some ⟨y, 0, none⟩), .pointer (some ⟨p, 0, none⟩), .int .i64 ((nb : Nat) : Int), .pointer (some ⟨p, 0, none⟩), .pointer (some ⟨p, 0, none⟩), .pointer (some ⟨p, 4, none⟩), .int .i64 S, .pointer (some ⟨p, 0, none⟩), .pointer (some ⟨p, 0, none⟩), .pointer (some ⟨p, 3, none⟩), .slice A2 n2 a2, .pointer (some ⟨p, 0, none⟩), .pointer (some ⟨p, 0, none⟩), .pointer (some ⟨p, 2, none⟩), .slice A1 n1 a1, .func (.func 44) #[] #[.pointer (some ⟨b1, 0, none⟩), .pointer (some ⟨b2, 0, none⟩)], pv q, .pointer (some ⟨p, 0, none⟩), .pointer (some ⟨p, 0, none⟩), .pointer (some ⟨p, 0, none⟩), .int .i64 ((m : Int) + 1), .int .i64 (T + q.len), .bool E, .bool (!E), undef, undef, undef, undef, undef, undef, undef, undef, undef, undef, undef, undef], defers := [] } : Act) ∧ Below V.heap.size V w5) ?_ ?_
    case refine_1 =>
      refine wpIn_region_G (fun wx => Mem V wx []) 7 7 rfl (by kernel_rfl) (fun _ => ?_)
      have hS := (Mem.start V).drew
      refine wpAnyR_takeR (i := 0) (v := .pointer (some ⟨p, 0, none⟩)) (by kernel_rfl) rfl (by kernel_rfl) (by kernel_rfl) (by kernel_rfl) (fun _ _ _ h => by cases h.1) (Nat.le_refl _) (yields_old cf hlf (by exact rfl) (by exact rfl) (by exact rfl) (by first | exact Try.underlying24 | exact Try.underlying3 | exact Try.underlying41) rfl) hS ?_
      simp only [List.getElem_toArray, List.getElem_cons_zero, List.getElem_cons_succ, Act.put, List.setIfInBounds_toArray, List.set_cons_zero, List.set_cons_succ]
      refine wpAnyR_takeR (i := 1) (v := .pointer (some ⟨p, 0, none⟩)) (by kernel_rfl) rfl (by kernel_rfl) (by kernel_rfl) (by kernel_rfl) (fun _ _ _ h => by cases h.1) (Nat.le_refl _) ⟨by rfl, fun w _ => (by go_simp; try (first | (simp only [IntKind.wrap_u32]; done) | rfl)), fun _ => rfl⟩ hS ?_
      simp only [List.getElem_toArray, List.getElem_cons_zero, List.getElem_cons_succ, Act.put, List.setIfInBounds_toArray, List.set_cons_zero, List.set_cons_succ]
      refine wpAnyR_takeR (i := 2) (v := .pointer (some ⟨p, 0, none⟩)) (by kernel_rfl) rfl (by kernel_rfl) (by kernel_rfl) (by kernel_rfl) (fun _ _ _ h => by cases h.1) (Nat.le_refl _) ⟨by rfl, fun w _ => (by go_simp; try (first | (simp only [IntKind.wrap_u32]; done) | rfl)), fun _ => rfl⟩ hS ?_
      simp only [List.getElem_toArray, List.getElem_cons_zero, List.getElem_cons_succ, Act.put, List.setIfInBounds_toArray, List.set_cons_zero, List.set_cons_succ]
      refine wpAnyR_takeR (i := 3) (v := .int .i64 ((m : Int) + 1)) (by kernel_rfl) rfl (by kernel_rfl) (by kernel_rfl) (by kernel_rfl) (fun _ _ _ h => by cases h.1) (Nat.le_refl _) (yields_old cc hlc (by exact rfl) (by exact rfl) (by exact rfl) (by first | exact Try.underlying32 | exact Try.underlying3 | exact Try.underlying41) rfl) hS ?_
      simp only [List.getElem_toArray, List.getElem_cons_zero, List.getElem_cons_succ, Act.put, List.setIfInBounds_toArray, List.set_cons_zero, List.set_cons_succ]
      refine wpAnyR_takeR (i := 4) (v := .int .i64 (T + q.len)) (by kernel_rfl) rfl (by kernel_rfl) (by kernel_rfl) (by kernel_rfl) (fun _ _ _ h => by cases h.1) (Nat.le_refl _) (yields_old ch5 hlh (by exact rfl) (by exact rfl) (by exact rfl) (by first | exact Try.underlying32 | exact Try.underlying3 | exact Try.underlying41) rfl) hS ?_
      simp only [List.getElem_toArray, List.getElem_cons_zero, List.getElem_cons_succ, Act.put, List.setIfInBounds_toArray, List.set_cons_zero, List.set_cons_succ]
      refine wpAnyG_one (i := 5) (by kernel_rfl) rfl (fun K hK => ?_)
      go_simp
      refine ⟨trivial, (CallsIn.inRound lp (callsIn_wide.2 (kx _ hS.below))).mono ?_⟩
      rintro e w5 ⟨rfl, hb⟩
      have hS5 := hS.call hb
      clear hb hS
      have hS := hS5
      clear hS5
      refine hK _ _ (.inr hS) ?_
      clear hK K
      refine wpAnyR_takeR (i := 6) (v := .bool (!E)) (by kernel_rfl) rfl (by kernel_rfl) (by kernel_rfl) (by kernel_rfl) (fun _ _ _ h => by cases h.1) (Nat.le_refl _) ⟨by rfl, fun w _ => (by go_simp; try (first | (simp only [IntKind.wrap_u32]; done) | rfl)), fun _ => rfl⟩ hS ?_
      simp only [List.getElem_toArray, List.getElem_cons_zero, List.getElem_cons_succ, Act.put, List.setIfInBounds_toArray, List.set_cons_zero, List.set_cons_succ]
      refine wpAnyG_done (by kernel_rfl) ?_ _
      exact ⟨rfl, rfl, hS.below⟩
    rintro e a w5 ⟨rfl, rfl, hb5⟩
    clear kx cf cc ch5
    have hI5 := HALL.out.1.grows hb5
    have hne := HNE.out
    have hge := HGE.out
    have hn6 := HN6.out
    have hz5 := hb5.size
    cases E
    · have hkp : Fi.kp l sn sb l.length = l.length - k := HALL.out.1.kp.trans (kp_stop (by
        have h1 := HALL.out.2.2.2.2.2.2.2.2
        rw [Bool.or_eq_false_iff] at h1
        have h2 := of_decide_eq_false h1.1
        have h3 := of_decide_eq_false h1.2
        rw [HALL.out.2.2.2.2.2.1, HALL.out.2.2.2.2.2.2.1]
        omega))
      have HKP := Lib.hid hkp
      clear hkp hI5
      gi_wp2
      exact ⟨keepsFrom_belowP hb5, rfl, HALL.out.1.acc.grows hb5, HKP.out⟩
    · have hv5 := HALL.out.2.1.below hb5 HALL.out.2.1.lt
      have d0 := hv5.cell 0
      have f0 := hv5.frozen 0
      simp only [List.getElem?_toArray, List.getElem?_cons_zero] at d0
      have hq5 : Que w5 (.slice a0 k c0') (l.reverse.take k) := HALL.out.2.2.1.on fun i hi => hb5.block i (HALL.out.2.2.1.lt hi)
      have HQ5 := Lib.hid hq5
      have hy5 := hy2.below hb5 hy2.lt
      have hgr : ∀ (o : Obj) (w8 : World), Foot (qb (.slice a0 k c0')) (w5.alloc o) w8 → Held w8 bo 41 #[.slice a0 k c0'] ∧ Held w8 bc 3 #[.int .i64 ((m : Int) + 1)] := fun o w8 hg => ⟨(hg.block bo (by have := hv5.lt; rw [World.size_alloc]; omega) (fun e => by have := HALL.out.2.2.2.1 bo e; omega)).trans (hv5.alloc o), by
        have h1 := hI5.c
        rw [HALL.out.2.2.2.2.2.1, show ((m + 1 : Nat) : Int) = (m : Int) + 1 by omega] at h1
        exact (hg.block bc (by have := h1.lt; rw [World.size_alloc]; omega) (fun e => by have := HALL.out.2.2.2.1 bc e; omega)).trans (h1.alloc o)⟩
      have HI5 := Lib.hid (And.intro hI5 hv5)
      have hcb : bc ≠ bo := by omega
      have hbc : bo ≠ bc := by omega
      have wm : IntKind.i64.wrap ((m : Int) + 1 - 1) = (m : Int) := by rw [wrap_id (by omega) (by omega)]; omega
      have HY2 := Lib.hid hy2
      clear hI5 hv5 hq5 hy2 hb1 hb2 hsW hz6 hlf hlc hlh hbel
      gi_wp2_with (first | ((with_reducible show wpListIn _ _ _ _ _ (⟨_, .load 37 _, _, _, _, _⟩ :: _) _ _); refine load_heldI hy5 (by first | exact wanted_none rfl | exact wanted_some rfl rfl rfl rfl) (by exact rfl) (by exact rfl) Try.underlying37 rfl (by exact pkInfo) ?_) | (gi_at_builtin; refine wpListIn_append_que rfl _ _ rfl rfl (.slice a0 k c0') (l.reverse.take k) [q] ⟨w5.heap.size, 0, none⟩ 1 1 rfl rfl (HQ5.out.on (fun i hi => Below.heap_alloc _ _ _ (HQ5.out.lt hi))) rfl (fun j u hj => by rw [Addr.add_mid, Nat.zero_add]; rw [pvs_one] at hj; exact ((Held.new w5 37 (pvCs q).toArray).cell j).trans (by simpa using hj)) (by rw [List.length_take]; have := HSK.out; omega) ?_; intro v' w8 hq7 hF7 hb7; obtain ⟨a8, c8, hv8, _, _⟩ := hq7.shape; rw [HE8.out] at hv8; subst hv8; have h8 := hgr _ _ hF7; have d8 := h8.1.cell 0; have f8 := h8.1.frozen 0; have e8 := h8.2.cell 0; have g8 := h8.2.frozen 0; simp only [List.getElem?_toArray, List.getElem?_cons_zero] at d8 e8))
      have hsz5 : w6.heap.size + 2 ≤ w5.heap.size := by omega
      obtain ⟨q1, q2, q3⟩ := acc_stepQ (W := W) (V := w5) (D := w6.heap.size) (bq := bo) (k := k) (L := l.reverse) (q := q) (by omega) (by omega) hsz5 HI5.out.1.acc.bel HI5.out.2 HQ5.out HALL.out.2.2.2.1 HALL.out.2.2.2.2.1 hq7 hF7 hb7
      have tr : ∀ {b : Nat} {t : TypeId} {cs : Array Value}, Held w5 b t cs → ¬ qb (.slice a0 k c0') b → b ≠ bo → b ≠ bc → Held ((w8.setCell ⟨bo, 0, none⟩ (.slice a8 (k + 1) c8)).setCell ⟨bc, 0, none⟩ (.int .i64 (m : Int))) b t cs := fun {b t cs} h1 h2 h3 h4 => by
        have h9 : Held w8 b t cs := (hF7.block b (by have := h1.lt; rw [World.size_alloc]; omega) h2).trans (h1.alloc _)
        exact (h9.other (b' := bo) h3 0 _).other (b' := bc) h4 0 _
      have hyX := tr hy5 HYV.out (by omega) (by omega)
      have hh5 := HI5.out.1.h
      rw [HALL.out.2.2.2.2.2.1, HALL.out.2.2.2.2.2.2.1] at hh5
      have hHX := tr hh5 (fun e => by have := HALL.out.2.2.2.1 bh e; omega) (by omega) (by omega)
      have hFX := tr HI5.out.1.f (fun e => by have := HALL.out.2.2.2.1 bf e; omega) (by omega) (by omega)
      have hCX : Held ((w8.setCell ⟨bo, 0, none⟩ (.slice a8 (k + 1) c8)).setCell ⟨bc, 0, none⟩ (.int .i64 (m : Int))) bc 3 #[.int .i64 (m : Int)] := by
        have := ((hgr _ _ hF7).2.other (b' := bo) hcb 0 (.slice a8 (k + 1) c8)).set 0 (.int .i64 (m : Int))
        simpa using this
      have F3 : Foot (· = bc) (w8.setCell ⟨bo, 0, none⟩ (.slice a8 (k + 1) c8)) ((w8.setCell ⟨bo, 0, none⟩ (.slice a8 (k + 1) c8)).setCell ⟨bc, 0, none⟩ (.int .i64 (m : Int))) := Foot.cell _ ⟨bc, 0, none⟩ _
      have q5 := q3.foot F3 (by omega) (by omega) (by omega)
      have q6 := q1.trans (keepsFrom_footB F3 (fun i hi => by omega))
      have hb12 := HB12.out
      have hzX : w5.heap.size ≤ ((w8.setCell ⟨bo, 0, none⟩ (.slice a8 (k + 1) c8)).setCell ⟨bc, 0, none⟩ (.int .i64 (m : Int))).heap.size := Nat.le_trans q2.size F3.size
      have q7 := (KeepsTwo.foot (n₁ := W.heap.size) (b1 := b1) (b2 := b2) q2 (fun i hi => by rcases hi with rfl | hi <;> omega) (by omega) (by omega) (by omega)).trans (KeepsTwo.foot (n₁ := W.heap.size) (b1 := b1) (b2 := b2) F3 (fun i hi => by have : i = bc := hi; omega) (by have := q2.size; omega) (by have := q2.size; omega) (by have := q2.size; omega))
      obtain ⟨X, hX⟩ : ∃ X, (w8.setCell ⟨bo, 0, none⟩ (.slice a8 (k + 1) c8)).setCell ⟨bc, 0, none⟩ (.int .i64 (m : Int)) = X := ⟨_, rfl⟩
      rw [hX] at hyX hHX hFX hCX q5 q6 q7 hzX ⊢
      have HQ9 := Lib.hid (And.intro q5 (And.intro q6 (And.intro q7 (And.intro hFX hCX))))
      have HHX := Lib.hid hHX
      have w2 : IntKind.i64.wrap (T + q.len - q.len) = T := by rw [wrap_id (by omega) (by omega)]; omega
      have w3 : IntKind.i64.wrap T = T := wrap_id (by omega) (by omega)
      have kb := fun w g hh => bytesOf_one q hqf w g hh
      clear hX q1 q2 q3 q5 q6 q7 F3 hFX hCX tr hq7 hF7 hb7 hgr d0 f0 d8 f8 e8 g8 h8 hy5 hh5 wm
      refine wpIn_mono (Q := fun e a w => e = .normal ∧ ∃ w10, Below X.heap.size X w10 ∧ w = w10.setCell ⟨bh, 0, none⟩ (.int .i64 T)) ?_ ?_
      case refine_1 =>
        refine wpIn_region_G (fun wx => Mem X wx []) 5 6 rfl (by kernel_rfl) (fun _ => ?_)
        have hS := (Mem.start X).drew
        have hH : Held X.drew bh 3 _ := hHX
        have hY : Held X.drew y 37 _ := hyX
        clear hHX hyX
        generalize X.drew = wr0 at hS hH hY ⊢
        refine wpAnyG_two (i := 0) (j := 1) (by kernel_rfl) rfl rfl (fun K hK => ?_) (fun K hK => ?_)
        · have ch := hH.cell 0
          simp only [List.getElem?_toArray, List.getElem?_cons_zero] at ch
          go_simp
          refine hK _ _ (.inr hS) ?_
          clear hK K ch
          refine wpAnyG_one (i := 1) (by kernel_rfl) rfl (fun K hK => ?_)
          rw [if_pos (by exact rfl)]
          refine wpIn_load_held hY rfl (by exact rfl) Try.underlying37 rfl (by exact pkInfo) ?_
          refine hK _ _ (.inr hS) ?_
          clear hK K
          refine wpAnyG_one (i := 2) (by kernel_rfl) rfl (fun K hK => ?_)
          go_simp
          refine hK _ _ (.inr (hS.skip _)) ?_
          clear hK K
          have hB := Held.new wr0 37 #[.int .u32 q.id, .int .u32 q.len, .int .i64 q.prio, .int .i64 q.cpu, .int .u32 q.a, .int .u32 q.b, .int .u16 q.sp, .int .u16 q.dp, .int .u8 q.q]
          have hH5 := hH.alloc (.cells #[.int .u32 q.id, .int .u32 q.len, .int .i64 q.prio, .int .i64 q.cpu, .int .u32 q.a, .int .u32 q.b, .int .u16 q.sp, .int .u16 q.dp, .int .u8 q.q] 37)
          have hY5 := hY.alloc (.cells #[.int .u32 q.id, .int .u32 q.len, .int .i64 q.prio, .int .i64 q.cpu, .int .u32 q.a, .int .u32 q.b, .int .u16 q.sp, .int .u16 q.dp, .int .u8 q.q] 37)
          have hS5 := hS.skip (.cells #[.int .u32 q.id, .int .u32 q.len, .int .i64 q.prio, .int .i64 q.cpu, .int .u32 q.a, .int .u32 q.b, .int .u16 q.sp, .int .u16 q.dp, .int .u8 q.q] 37)
          clear hS hH hY
          generalize hbN : Array.size (World.heap wr0) = bN at hB ⊢
          clear hbN
          generalize wr0.alloc (.cells #[.int .u32 q.id, .int .u32 q.len, .int .i64 q.prio, .int .i64 q.cpu, .int .u32 q.a, .int .u32 q.b, .int .u16 q.sp, .int .u16 q.dp, .int .u8 q.q] 37) = w6' at hB hH5 hY5 hS5 ⊢
          have hS := hS5
          have hH := hH5
          have hY := hY5
          clear hS5 hH5 hY5
          refine wpAnyG_one (i := 3) (by kernel_rfl) rfl (fun K hK => ?_)
          go_simp
          refine ⟨trivial, (CallsIn.inRound lp (callsIn_wide.2 (kb _ _ hB))).mono ?_⟩
          rintro e w7' ⟨rfl, hb⟩
          have hS5 := hS.call hb
          have hH5 := hH.below hb hH.lt
          have hY5 := hY.below hb hY.lt
          clear hb hS hH hY hB
          have hS := hS5
          have hH := hH5
          have hY := hY5
          clear hS5 hH5 hY5
          refine hK _ _ (.inr hS) ?_
          clear hK K
          refine wpAnyG_one (i := 4) (by kernel_rfl) rfl (fun K hK => ?_)
          go_simp
          refine hK _ _ (.inr hS) ?_
          clear hK K
          refine wpAnyG_one (i := 5) (by kernel_rfl) rfl (fun K hK => ?_)
          refine wpIn_store_old (b := bh) (j := 0) (v := .int .i64 T) (v0 := .int .i64 (T + q.len)) (hH.cell 0) (hH.frozen 0) rfl (by exact rfl) (by exact rfl) (by exact intInfo1) rfl ?_
          refine hK _ _ (.inl (by kernel_rfl)) ?_
          clear hK K
          refine wpAnyG_done (by kernel_rfl) ?_ _
          exact ⟨rfl, _, hS.below, rfl⟩
        · rw [if_pos (by exact rfl)]
          refine wpIn_load_held hY rfl (by exact rfl) Try.underlying37 rfl (by exact pkInfo) ?_
          refine hK _ _ (.inr hS) ?_
          clear hK K
          refine wpAnyG_two (i := 0) (j := 2) (by kernel_rfl) rfl rfl (fun K hK => ?_) (fun K hK => ?_)
          · have ch := hH.cell 0
            simp only [List.getElem?_toArray, List.getElem?_cons_zero] at ch
            go_simp
            refine hK _ _ (.inr hS) ?_
            clear hK K ch
            refine wpAnyG_one (i := 2) (by kernel_rfl) rfl (fun K hK => ?_)
            go_simp
            refine hK _ _ (.inr (hS.skip _)) ?_
            clear hK K
            have hB := Held.new wr0 37 #[.int .u32 q.id, .int .u32 q.len, .int .i64 q.prio, .int .i64 q.cpu, .int .u32 q.a, .int .u32 q.b, .int .u16 q.sp, .int .u16 q.dp, .int .u8 q.q]
            have hH5 := hH.alloc (.cells #[.int .u32 q.id, .int .u32 q.len, .int .i64 q.prio, .int .i64 q.cpu, .int .u32 q.a, .int .u32 q.b, .int .u16 q.sp, .int .u16 q.dp, .int .u8 q.q] 37)
            have hY5 := hY.alloc (.cells #[.int .u32 q.id, .int .u32 q.len, .int .i64 q.prio, .int .i64 q.cpu, .int .u32 q.a, .int .u32 q.b, .int .u16 q.sp, .int .u16 q.dp, .int .u8 q.q] 37)
            have hS5 := hS.skip (.cells #[.int .u32 q.id, .int .u32 q.len, .int .i64 q.prio, .int .i64 q.cpu, .int .u32 q.a, .int .u32 q.b, .int .u16 q.sp, .int .u16 q.dp, .int .u8 q.q] 37)
            clear hS hH hY
            generalize hbN : Array.size (World.heap wr0) = bN at hB ⊢
            clear hbN
            generalize wr0.alloc (.cells #[.int .u32 q.id, .int .u32 q.len, .int .i64 q.prio, .int .i64 q.cpu, .int .u32 q.a, .int .u32 q.b, .int .u16 q.sp, .int .u16 q.dp, .int .u8 q.q] 37) = w6' at hB hH5 hY5 hS5 ⊢
            have hS := hS5
            have hH := hH5
            have hY := hY5
            clear hS5 hH5 hY5
            refine wpAnyG_one (i := 3) (by kernel_rfl) rfl (fun K hK => ?_)
            go_simp
            refine ⟨trivial, (CallsIn.inRound lp (callsIn_wide.2 (kb _ _ hB))).mono ?_⟩
            rintro e w7' ⟨rfl, hb⟩
            have hS5 := hS.call hb
            have hH5 := hH.below hb hH.lt
            have hY5 := hY.below hb hY.lt
            clear hb hS hH hY hB
            have hS := hS5
            have hH := hH5
            have hY := hY5
            clear hS5 hH5 hY5
            refine hK _ _ (.inr hS) ?_
            clear hK K
            refine wpAnyG_one (i := 4) (by kernel_rfl) rfl (fun K hK => ?_)
            go_simp
            refine hK _ _ (.inr hS) ?_
            clear hK K
            refine wpAnyG_one (i := 5) (by kernel_rfl) rfl (fun K hK => ?_)
            refine wpIn_store_old (b := bh) (j := 0) (v := .int .i64 T) (v0 := .int .i64 (T + q.len)) (hH.cell 0) (hH.frozen 0) rfl (by exact rfl) (by exact rfl) (by exact intInfo1) rfl ?_
            refine hK _ _ (.inl (by kernel_rfl)) ?_
            clear hK K
            refine wpAnyG_done (by kernel_rfl) ?_ _
            exact ⟨rfl, _, hS.below, rfl⟩
          · go_simp
            refine hK _ _ (.inr (hS.skip _)) ?_
            clear hK K
            have hB := Held.new wr0 37 #[.int .u32 q.id, .int .u32 q.len, .int .i64 q.prio, .int .i64 q.cpu, .int .u32 q.a, .int .u32 q.b, .int .u16 q.sp, .int .u16 q.dp, .int .u8 q.q]
            have hH5 := hH.alloc (.cells #[.int .u32 q.id, .int .u32 q.len, .int .i64 q.prio, .int .i64 q.cpu, .int .u32 q.a, .int .u32 q.b, .int .u16 q.sp, .int .u16 q.dp, .int .u8 q.q] 37)
            have hY5 := hY.alloc (.cells #[.int .u32 q.id, .int .u32 q.len, .int .i64 q.prio, .int .i64 q.cpu, .int .u32 q.a, .int .u32 q.b, .int .u16 q.sp, .int .u16 q.dp, .int .u8 q.q] 37)
            have hS5 := hS.skip (.cells #[.int .u32 q.id, .int .u32 q.len, .int .i64 q.prio, .int .i64 q.cpu, .int .u32 q.a, .int .u32 q.b, .int .u16 q.sp, .int .u16 q.dp, .int .u8 q.q] 37)
            clear hS hH hY
            generalize hbN : Array.size (World.heap wr0) = bN at hB ⊢
            clear hbN
            generalize wr0.alloc (.cells #[.int .u32 q.id, .int .u32 q.len, .int .i64 q.prio, .int .i64 q.cpu, .int .u32 q.a, .int .u32 q.b, .int .u16 q.sp, .int .u16 q.dp, .int .u8 q.q] 37) = w6' at hB hH5 hY5 hS5 ⊢
            have hS := hS5
            have hH := hH5
            have hY := hY5
            clear hS5 hH5 hY5
            refine wpAnyG_two (i := 0) (j := 3) (by kernel_rfl) rfl rfl (fun K hK => ?_) (fun K hK => ?_)
            · have ch := hH.cell 0
              simp only [List.getElem?_toArray, List.getElem?_cons_zero] at ch
              go_simp
              refine hK _ _ (.inr hS) ?_
              clear hK K ch
              refine wpAnyG_one (i := 3) (by kernel_rfl) rfl (fun K hK => ?_)
              go_simp
              refine ⟨trivial, (CallsIn.inRound lp (callsIn_wide.2 (kb _ _ hB))).mono ?_⟩
              rintro e w7' ⟨rfl, hb⟩
              have hS5 := hS.call hb
              have hH5 := hH.below hb hH.lt
              have hY5 := hY.below hb hY.lt
              clear hb hS hH hY hB
              have hS := hS5
              have hH := hH5
              have hY := hY5
              clear hS5 hH5 hY5
              refine hK _ _ (.inr hS) ?_
              clear hK K
              refine wpAnyG_one (i := 4) (by kernel_rfl) rfl (fun K hK => ?_)
              go_simp
              refine hK _ _ (.inr hS) ?_
              clear hK K
              refine wpAnyG_one (i := 5) (by kernel_rfl) rfl (fun K hK => ?_)
              refine wpIn_store_old (b := bh) (j := 0) (v := .int .i64 T) (v0 := .int .i64 (T + q.len)) (hH.cell 0) (hH.frozen 0) rfl (by exact rfl) (by exact rfl) (by exact intInfo1) rfl ?_
              refine hK _ _ (.inl (by kernel_rfl)) ?_
              clear hK K
              refine wpAnyG_done (by kernel_rfl) ?_ _
              exact ⟨rfl, _, hS.below, rfl⟩
            · go_simp
              refine ⟨trivial, (CallsIn.inRound lp (callsIn_wide.2 (kb _ _ hB))).mono ?_⟩
              rintro e w7' ⟨rfl, hb⟩
              have hS5 := hS.call hb
              have hH5 := hH.below hb hH.lt
              have hY5 := hY.below hb hY.lt
              clear hb hS hH hY hB
              have hS := hS5
              have hH := hH5
              have hY := hY5
              clear hS5 hH5 hY5
              refine hK _ _ (.inr hS) ?_
              clear hK K
              refine wpAnyG_one (i := 0) (by kernel_rfl) rfl (fun K hK => ?_)
              have ch := hH.cell 0
              simp only [List.getElem?_toArray, List.getElem?_cons_zero] at ch
              go_simp
              refine hK _ _ (.inr hS) ?_
              clear hK K ch
              refine wpAnyG_one (i := 4) (by kernel_rfl) rfl (fun K hK => ?_)
              go_simp
              refine hK _ _ (.inr hS) ?_
              clear hK K
              refine wpAnyG_one (i := 5) (by kernel_rfl) rfl (fun K hK => ?_)
              refine wpIn_store_old (b := bh) (j := 0) (v := .int .i64 T) (v0 := .int .i64 (T + q.len)) (hH.cell 0) (hH.frozen 0) rfl (by exact rfl) (by exact rfl) (by exact intInfo1) rfl ?_
              refine hK _ _ (.inl (by kernel_rfl)) ?_
              clear hK K
              refine wpAnyG_done (by kernel_rfl) ?_ _
              exact ⟨rfl, _, hS.below, rfl⟩
      rintro e a w11 ⟨rfl, w10, hb10, rfl⟩
      have F4 : Foot (· = bh) w10 (w10.setCell ⟨bh, 0, none⟩ (.int .i64 T)) := Foot.cell _ ⟨bh, 0, none⟩ _
      have hzT := hb10.size
      have A := HQ9.out
      have e1 : l.length - (k + 1) = m := by have := HALL.out.2.2.2.2.2.1; omega
      have hex : sn < ((m + 1 : Nat) : Int) ∨ sb < Fi.bytes (l.take (m + 1)) := by
        have h1 := HALL.out.2.2.2.2.2.2.2.2
        rw [Bool.or_eq_true] at h1
        rw [HALL.out.2.2.2.2.2.2.1]
        rcases h1 with h1 | h1
        · exact .inl (by have := of_decide_eq_true h1; omega)
        · exact .inr (of_decide_eq_true h1)
      refine ⟨(keepsFrom_belowP hb5).trans (A.2.1.trans ((keepsFrom_belowP hb10).trans (keepsFrom_footB F4 (fun i hi => by have : i = bh := hi; omega)))), ?_, ⟨(A.1.grows hb10).foot F4 (by omega) (by omega) (by omega), ?_, ?_, ?_, ?_⟩⟩
      · exact (KeepsTwo.below hb5 (by omega) (by omega) (by omega)).trans (A.2.2.1.trans ((KeepsTwo.below hb10 (by omega) (by omega) (by omega)).trans (KeepsTwo.foot F4 (fun i hi => by have : i = bh := hi; omega) (by omega) (by omega) (by omega))))
      · exact (A.2.2.2.1.below hb10 A.2.2.2.1.lt).foot F4 (by show ¬ bf = bh; omega)
      · rw [e1]
        exact (A.2.2.2.2.below hb10 A.2.2.2.2.lt).foot F4 (by show ¬ bc = bh; omega)
      · rw [e1, HALL.out.2.2.2.2.2.2.2.1]
        have := (HHX.out.below hb10 HHX.out.lt).set 0 (.int .i64 T)
        simpa using this
      · rw [e1]
        refine HALL.out.1.kp.trans ?_
        rw [HALL.out.2.2.2.2.2.1]
        exact kp_step hex
  case done =>
    intro D V hD hI hdef
    obtain ⟨v, hv1, hv2, hv3⟩ := hI.acc.row
    have hk0 := hI.kp
    rw [List.take_length] at hv2
    obtain ⟨a0, c0', hvv, _, _⟩ := hv2.shape
    rw [HLR.out] at hvv
    subst hvv
    have d0 := hv1.cell 0
    simp only [List.getElem?_toArray, List.getElem?_cons_zero] at d0
    have hb := hI.acc.bel
    have HK0 := Lib.hid (show (l.drop (Fi.kp l sn sb l.length)).reverse = l.reverse from by rw [hk0, List.length_reverse, Nat.sub_self]; rfl)
    clear hv1 hsq hI hk0 HI0
    go_wp2
    refine ⟨by simp, .inl ⟨_, _, rfl, run_takeDeferred hdef, ?_⟩⟩
    exact ⟨_, results_tmp (t := 2) rfl _ _ _, _, rfl, (by rw [HK0.out]; exact que_put hv2 hdef rfl), (fun i hi => by have := hv3 i hi; omega), hb.trans (below_put (by omega) V _)⟩
  case stop =>
    rintro D c k V hD hk ⟨rfl, hAcc, hkp⟩ hdef
    obtain ⟨v, hv1, hv2, hv3⟩ := hAcc.row
    obtain ⟨a0, c0', hvv, _, _⟩ := hv2.shape
    rw [show (l.reverse.take k).length = k by rw [List.length_take]; omega] at hvv
    subst hvv
    have d0 := hv1.cell 0
    simp only [List.getElem?_toArray, List.getElem?_cons_zero] at d0
    have hb := hAcc.bel
    have HK0 := Lib.hid (show (l.drop (Fi.kp l sn sb l.length)).reverse = l.reverse.take k from by
      rw [hkp, List.take_reverse])
    clear hv1 hsq hAcc hkp HI0
    gi_wp2
    go_wp2
    refine ⟨by simp, .inl ⟨_, _, rfl, run_takeDeferred hdef, ?_⟩⟩
    exact ⟨_, results_tmp (t := 2) rfl _ _ _, _, rfl, (by rw [HK0.out]; exact que_put hv2 hdef rfl), (fun i hi => by have := hv3 i hi; omega), hb.trans (below_put (by omega) V _)⟩
end Go.Proofs.Ytlnlkodpndjimaa.Fi
end
