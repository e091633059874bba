/-
  What other limits do to the document's fifo in memory. Conditions: the fifo lies where its pointer says, five thousand packets at most.
-/
import Derived.Test.YtlnlkodpndjimaaMGc
/- What other limits do to the document's fifo in memory. Conditions: the fifo lies where its pointer says, five thousand packets at most. -/
section
namespace Go.Proofs.Ytlnlkodpndjimaa.Fi
set_option linter.unusedSimpArgs false
set_option linter.unusedVariables false
set_option maxRecDepth 100000
open Go.ChangeShapes Go.WideShapes Go.ChangeAt Go.RowKit

theorem wpList_append_que {w : World} {ops : Array Oper} {rest : List Oper} {o : Oper} {a : Act} {Q : Exit → Act → World → Prop} (hgd : o.guard = none) (s x : Operand) (hop : o.op = Op.call { callee := Callee.builtin Builtin.append, args := #[s, x], argTypes := #[41, 41] }) (hty : o.type = 41) (v : Value) (l l2 : List PV) (ad : Addr) (m c : Nat) (hs : a.eval s = v) (hx : a.eval x = .slice (some ad) m c) (hq : Que w v l) (hm : l2.length = m) (hnews : ∀ j u, (pvs l2)[j]? = some u → w.cell? (ad.add j) = some u) (h5 : l.length + m ≤ 100000)
    (h : ∀ v' w', Que w' v' (l ++ l2) → Foot (qb v) w w' → (∀ i, qb v' i → qb v i ∨ w.heap.size ≤ i) → wpList Try.prog ops Q rest (a.put o.dst v') w') : wpList Try.prog ops Q (o :: rest) a w := by
  refine wpList_plain hgd fun K hK => ?_
  obtain ⟨v', w', hr, h2, h3, h4⟩ := run_append_que w v l l2 ad m c hq hm hnews h5
  unfold Oper.wp execOp
  simp only [hop, hty, resolve, invoke, builtin, Sem.run_bind, Sem.run_pure, Result.andThen_ok, List.map_toArray, List.map_cons, List.map_nil, hs, hx, hr]
  exact hK _ _ (h v' w' h2 h3 h4)
set_option maxHeartbeats 2000000 in
theorem lim_no (W : World) (p : Nat) (n b : Int) (hno : okN n b = false) : Calls Try.prog 31 #[.pointer (some ⟨p, 0, none⟩), .int .i64 n, .int .i64 b] W fun e w' => e = .returned (.tuple #[.slice none 0 0, .int .i64 2]) ∧ Below W.heap.size W w' := by
  have H := Mem.start W
  have k1 := fun w => may_r n b w
  rw [hno] at k1
  clear hno
  go_enter Try.func31, Try.ntmps31
  go_wp2_with (first
    | go_skip
    | (go_at_call 26; refine (k1 _).mono ?_; rintro e w2 ⟨rfl, hb⟩; have H2 := H.call hb; clear H hb; have H := H2; clear H2))
  refine bodyPost_ret (results_two rfl _ _ _) rfl ?_
  exact ⟨rfl, H.below⟩
/-- the maxima are others -/
theorem DAt.maxima {W W2 : World} {own : Nat → Prop} {p : Nat} {s : FF} {N : Nat} {v : Value} (h : DAt W own p s N v) (n b : Int) (hok : okN n b = true) : DAt ((W.setCell ⟨p, 1, none⟩ (.int .i64 n)).setCell ⟨p, 2, none⟩ (.int .i64 b)) own p ⟨s.l, n, b⟩ N v ∧ Foot own W ((W.setCell ⟨p, 1, none⟩ (.int .i64 n)).setCell ⟨p, 2, none⟩ (.int .i64 b)) := by
  have hz : ((W.setCell ⟨p, 1, none⟩ (.int .i64 n)).setCell ⟨p, 2, none⟩ (.int .i64 b)).heap.size = W.heap.size := by simp [World.setCell]
  have hF : Foot own W ((W.setCell ⟨p, 1, none⟩ (.int .i64 n)).setCell ⟨p, 2, none⟩ (.int .i64 b)) := ((Foot.refl own W).setCell (p := ⟨p, 1, none⟩) (fun _ => h.op) _).setCell (p := ⟨p, 2, none⟩) (fun _ => h.op) _
  refine ⟨⟨?_, h.row.on fun i hi => ?_, h.op, h.oq, fun i hi => by rw [hz]; exact h.lt i hi, h.len, hok, h.fits, h.sz⟩, hF⟩
  · have := (h.box.set 1 (.int .i64 n)).set 2 (.int .i64 b)
    simpa using this
  · rw [block_set _ _ _ _ _ (h.oq i hi).2, block_set _ _ _ _ _ (h.oq i hi).2]
/-- between two rounds -/
structure LInv (W wr : World) (own : Nat → Prop) (p : Nat) (l : List PV) (n b : Int) (N : Nat) (A : Option Addr) (c m : Nat) (out : Value) : Prop where
  d : DAt wr own p ⟨l.take m, n, b⟩ N (.slice A m c)
  q : Que wr out (l.drop m).reverse
  new : ∀ i, qb out i → W.heap.size ≤ i ∧ ¬ own i
  kp : kp l n b l.length = kp l n b m
  foot : Foot own W wr
theorem DAt.cut {W : World} {own : Nat → Prop} {p : Nat} {l : List PV} {n b : Int} {N k c : Nat} {A : Option Addr} (h : DAt W own p ⟨l.take (k + 1), n, b⟩ N (.slice A (k + 1) c)) (hk : k < l.length) : DAt (W.setCell ⟨p, 0, none⟩ (.slice A k c)) own p ⟨l.take k, n, b⟩ N (.slice A k c) ∧ Foot own W (W.setCell ⟨p, 0, none⟩ (.slice A k c)) := by
  have hz : (W.setCell ⟨p, 0, none⟩ (.slice A k c)).heap.size = W.heap.size := by simp [World.setCell]
  have hF : Foot own W (W.setCell ⟨p, 0, none⟩ (.slice A k c)) := (Foot.refl own W).setCell (p := ⟨p, 0, none⟩) (fun _ => h.op) _
  have hqq : ∀ i, qb (.slice A k c) i → qb (.slice A (k + 1) c) i := fun i hi => by
    obtain ⟨o, m, n, c', e⟩ := hi
    cases e
    exact ⟨_, _, _, _, rfl⟩
  have hq := h.row.take (k := k) (by simp; omega)
  rw [List.take_take, Nat.min_eq_left (by omega)] at hq
  have hsub : ∀ y, y ∈ l.take k → y ∈ l.take (k + 1) := fun y hy => by
    rw [List.take_add_one]
    exact List.mem_append_left _ hy
  refine ⟨⟨?_, hq.on fun i hi => ?_, h.op, fun i hi => h.oq i (hqq i hi), fun i hi => by rw [hz]; exact h.lt i hi, ?_, h.ok, fun y hy => h.fits y (hsub y hy), fun y hy => h.sz y (hsub y hy)⟩, hF⟩
  · have := h.box.set 0 (.slice A k c)
    simpa using this
  · exact block_set _ _ _ _ _ (h.oq i (hqq i hi)).2
  · have := h.len
    simp at this ⊢
    omega
theorem LInv.next {W wr w7 : World} {own : Nat → Prop} {p : Nat} {l : List PV} {n b : Int} {N : Nat} {A : Option Addr} {c k : Nat} {o v' : Value} {y : PV} {ob : Obj} (h : LInv W wr own p l n b N A c (k + 1) o) (hy : l[k]? = some y) (hs : n < (k + 1 : Nat) ∨ b < bytes (l.take (k + 1)))
    (hq7 : Que w7 v' ((l.drop (k + 1)).reverse ++ [y])) (hF7 : Foot (qb o) (wr.alloc ob) w7) (hb7 : ∀ i, qb v' i → qb o i ∨ (wr.alloc ob).heap.size ≤ i) :
    DAt w7 own p ⟨l.take (k + 1), n, b⟩ N (.slice A (k + 1) c) ∧ LInv W (w7.setCell ⟨p, 0, none⟩ (.slice A k c)) own p l n b N A c k v' := by
  have hk := (List.getElem?_eq_some_iff.1 hy).1
  have hba : Below wr.heap.size wr (wr.alloc ob) := (Below.refl _ _).alloc (Nat.le_refl _) _
  have D8 := h.d.below hba
  have D7 : DAt w7 own p ⟨l.take (k + 1), n, b⟩ N (.slice A (k + 1) c) := D8.on (fun i hi => hF7.block i (D8.lt i hi) fun e => (h.new i e).2 hi) hF7.size
  obtain ⟨C, hC⟩ := D7.cut hk
  have hsz := h.foot.size
  have hbs := hba.size
  have hnew : ∀ i, qb v' i → W.heap.size ≤ i ∧ ¬ own i := fun i hi => (hb7 i hi).elim (fun e => h.new i e) fun e => ⟨by omega, fun e2 => by have := h.d.lt i e2; omega⟩
  refine ⟨D7, C, ?_, hnew, h.kp.trans (kp_step hs), ?_⟩
  · have e : (l.drop k).reverse = (l.drop (k + 1)).reverse ++ [y] := by
      rw [List.drop_eq_getElem_cons hk, List.reverse_cons]
      congr 2
      have := List.getElem?_eq_getElem hk
      rw [hy] at this
      exact (Option.some.inj this).symm
    rw [e]
    exact hq7.on fun i hi => block_set _ _ _ _ _ fun e => (hnew i hi).2 (by rw [e]; exact h.d.op)
  · refine (h.foot.trans ((Foot.of_below (B := fun _ => False) hba)) (fun i _ e => e.elim)).trans (hF7.trans' (B := qb o) (Foot.refl _ _)) (fun i hi e => ?_) |>.trans hC fun i _ e => e
    have := (h.new i e).1
    omega
theorem LInv.below {W wr w7 : World} {own : Nat → Prop} {p : Nat} {l : List PV} {n b : Int} {N : Nat} {A : Option Addr} {c m : Nat} {o : Value} (h : LInv W wr own p l n b N A c m o) (hb : Below wr.heap.size wr w7) : LInv W w7 own p l n b N A c m o :=
  ⟨h.d.below hb, h.q.on (fun i hi => hb.block i (h.q.lt hi)), h.new, h.kp, h.foot.trans (Foot.of_below (B := fun _ => False) hb) (fun i _ e => e.elim)⟩
set_option maxHeartbeats 4000000 in
theorem lim_yes (W : World) (own : Nat → Prop) (p : Nat) (s : FF) (N : Nat) (v : Value) (h : DAt W own p s N v) (hN : N ≤ 5000) (n b : Int) (hok : okN n b = true) : Calls Try.prog 31 #[.pointer (some ⟨p, 0, none⟩), .int .i64 n, .int .i64 b] W (TellsF DocAt W own p ⟨s.l.take (kp s.l n b s.l.length), n, b⟩ N (s.l.drop (kp s.l n b s.l.length)).reverse (fun x => .tuple #[x, .int .i64 0])) := by
  have H := Mem.start W
  have HD := Lib.hid h
  have hp := h.box.lt
  have k1 := fun w => may_r n b w
  rw [hok] at k1
  obtain ⟨A, c, hv, hlc, hcm⟩ := h.row.shape
  obtain ⟨n0, hn⟩ : ∃ n, s.l.length = n := ⟨_, rfl⟩
  have hl5 : n0 ≤ 5000 := by have := h.len; omega
  rw [hn] at hv hlc
  have HV := Lib.hid hv
  have HN := Lib.hid hn
  have HOK := Lib.hid hok
  unfold maxLen at hcm
  clear h hv hn hok
  go_enter Try.func31, Try.ntmps31
  go_upto_region 3 with (first
    | go_skip
    | (go_at_call 26; refine (k1 _).mono ?_; rintro e w2 ⟨rfl, hb⟩; have H2 := H.call hb; clear H hb; have H := H2; clear H2))
  clear k1
  have D3 := HD.out.below H.below
  have HB3 := Lib.hid H.below
  have c1w := D3.box.cell 1
  have f1w := D3.box.frozen 1
  have c2w := D3.box.cell 2
  have f2w := D3.box.frozen 2
  simp only [List.getElem?_toArray, List.getElem?_cons_zero, List.getElem?_cons_succ] at c1w c2w
  have D5 := (D3.maxima (W2 := W) n b HOK.out)
  have HI := Lib.hid (show LInv W ((w2.setCell ⟨p, 1, none⟩ (.int .i64 n)).setCell ⟨p, 2, none⟩ (.int .i64 b)) own p s.l n b N A c n0 (.slice none 0 0) from ⟨by
    have h1 := D5.1
    rw [HV.out] at h1
    have e : s.l.take n0 = s.l := List.take_of_length_le (by rw [HN.out]; exact Nat.le_refl _)
    rw [e]
    exact h1, by
    have e : s.l.drop n0 = [] := List.drop_of_length_le (by rw [HN.out]; exact Nat.le_refl _)
    rw [e]
    exact .inl ⟨rfl, rfl⟩, (fun i hi => by obtain ⟨_, _, _, _, e⟩ := hi; cases e), by rw [HN.out], (Foot.of_below (B := own) HB3.out).trans' D5.2⟩)
  clear D3 D5 H
  go_wp2
  go_loopw [8, 9] (fun o k1 wr => ∃ m : Nat, m ≤ n0 ∧ Hid (LInv W wr own p s.l n b N A c m o)) (fun o _ _ => match o with | .slice _ len _ => n0 - len | _ => 0)
  case atStart => exact ⟨n0, Nat.le_refl _, HI⟩
  case round =>
    clear HI
    obtain ⟨m, hm, HI⟩ := hrel
    have H := Mem.start wr
    have hln := HN.out
    have okd : 1 ≤ n ∧ 1 ≤ b := by
      have := HOK.out
      simp [okN] at this
      omega
    have hpr := HI.out.d.box.lt
    have c0 := HI.out.d.box.cell 0
    have c1 := HI.out.d.box.cell 1
    have c2 := HI.out.d.box.cell 2
    simp only [List.getElem?_toArray, List.getElem?_cons_zero, List.getElem?_cons_succ] at c0 c1 c2
    have hlm : (s.l.take m).length = m := by rw [List.length_take]; omega
    have kb := fun w (hb : Below wr.heap.size wr w) => bytes_r A m c (s.l.take m) w (HI.out.d.below hb).row hlm (by omega) HI.out.d.fits
    have hbd := sum_bd HI.out.d.sz HI.out.d.len (by omega)
    obtain ⟨S, hS1⟩ : ∃ S, bytes (s.l.take m) = S := ⟨_, rfl⟩
    simp only [hS1] at hbd kb
    by_cases hA : n < m
    · have t1 : decide ((m : Int) > n) = true := decide_eq_true hA
      clear kb
      go_upto_region 6 with (fail)
      refine region_mem H 22 rfl (by kernel_rfl) (fun wr hS => ?_)
      clear H
      refine wpAnyR_take (i := 0) (v := .pointer (some ⟨p, 0, none⟩)) rfl rfl (by kernel_rfl) (by kernel_rfl) (by kernel_rfl) (fun _ _ _ h => h) (Nat.le_refl _) ⟨by rfl, fun w _ => (by go_simp; try (first | (simp only [IntKind.wrap_u32]; done) | rfl)), fun _ => rfl⟩ hS ?_
      simp only [List.getElem_toArray, List.getElem_cons_zero, List.getElem_cons_succ, Act.put, List.setIfInBounds_toArray, List.set_cons_zero, List.set_cons_succ]
      refine wpAnyR_take (i := 1) (v := .pointer (some ⟨p, 0, none⟩)) rfl rfl (by kernel_rfl) (by kernel_rfl) (by kernel_rfl) (fun _ _ _ h => h) (Nat.le_refl _) ⟨by rfl, fun w _ => (by go_simp; try (first | (simp only [IntKind.wrap_u32]; done) | rfl)), fun _ => rfl⟩ hS ?_
      simp only [List.getElem_toArray, List.getElem_cons_zero, List.getElem_cons_succ, Act.put, List.setIfInBounds_toArray, List.set_cons_zero, List.set_cons_succ]
      refine wpAnyR_take (i := 2) (v := .pointer (some ⟨p, 0, none⟩)) rfl rfl (by kernel_rfl) (by kernel_rfl) (by kernel_rfl) (fun _ _ _ h => h) (Nat.le_refl _) ⟨by rfl, fun w _ => (by go_simp; try (first | (simp only [IntKind.wrap_u32]; done) | rfl)), fun _ => rfl⟩ hS ?_
      simp only [List.getElem_toArray, List.getElem_cons_zero, List.getElem_cons_succ, Act.put, List.setIfInBounds_toArray, List.set_cons_zero, List.set_cons_succ]
      refine wpAnyR_take (i := 3) (v := .slice A m c) rfl rfl (by kernel_rfl) (by kernel_rfl) (by kernel_rfl) (fun _ _ _ h => h) (Nat.le_refl _) (yields_old c0 hpr (by exact rfl) (by exact rfl) (by exact rfl) (by first | exact Try.underlying32 | exact Try.underlying3 | exact Try.underlying41) rfl) hS ?_
      simp only [List.getElem_toArray, List.getElem_cons_zero, List.getElem_cons_succ, Act.put, List.setIfInBounds_toArray, List.set_cons_zero, List.set_cons_succ]
      refine wpAnyR_take (i := 4) (v := .int .i64 m) rfl rfl (by kernel_rfl) (by kernel_rfl) (by kernel_rfl) (fun _ _ _ h => h) (Nat.le_refl _) ⟨by rfl, fun w _ => (by go_simp; try (first | (simp only [IntKind.wrap_u32]; done) | rfl)), fun _ => rfl⟩ hS ?_
      simp only [List.getElem_toArray, List.getElem_cons_zero, List.getElem_cons_succ, Act.put, List.setIfInBounds_toArray, List.set_cons_zero, List.set_cons_succ]
      refine wpAnyR_take (i := 5) (v := .pointer (some ⟨p, 0, none⟩)) rfl rfl (by kernel_rfl) (by kernel_rfl) (by kernel_rfl) (fun _ _ _ h => h) (Nat.le_refl _) ⟨by rfl, fun w _ => (by go_simp; try (first | (simp only [IntKind.wrap_u32]; done) | rfl)), fun _ => rfl⟩ hS ?_
      simp only [List.getElem_toArray, List.getElem_cons_zero, List.getElem_cons_succ, Act.put, List.setIfInBounds_toArray, List.set_cons_zero, List.set_cons_succ]
      refine wpAnyR_take (i := 6) (v := .pointer (some ⟨p, 0, none⟩)) rfl rfl (by kernel_rfl) (by kernel_rfl) (by kernel_rfl) (fun _ _ _ h => h) (Nat.le_refl _) ⟨by rfl, fun w _ => (by go_simp; try (first | (simp only [IntKind.wrap_u32]; done) | rfl)), fun _ => rfl⟩ hS ?_
      simp only [List.getElem_toArray, List.getElem_cons_zero, List.getElem_cons_succ, Act.put, List.setIfInBounds_toArray, List.set_cons_zero, List.set_cons_succ]
      refine wpAnyR_take (i := 7) (v := .pointer (some ⟨p, 1, none⟩)) rfl rfl (by kernel_rfl) (by kernel_rfl) (by kernel_rfl) (fun _ _ _ h => h) (Nat.le_refl _) ⟨by rfl, fun w _ => (by go_simp; try (first | (simp only [IntKind.wrap_u32]; done) | rfl)), fun _ => rfl⟩ hS ?_
      simp only [List.getElem_toArray, List.getElem_cons_zero, List.getElem_cons_succ, Act.put, List.setIfInBounds_toArray, List.set_cons_zero, List.set_cons_succ]
      refine wpAnyR_take (i := 8) (v := .int .i64 n) rfl rfl (by kernel_rfl) (by kernel_rfl) (by kernel_rfl) (fun _ _ _ h => h) (Nat.le_refl _) (yields_old c1 hpr (by exact rfl) (by exact rfl) (by exact rfl) (by first | exact Try.underlying32 | exact Try.underlying3 | exact Try.underlying41) rfl) hS ?_
      simp only [List.getElem_toArray, List.getElem_cons_zero, List.getElem_cons_succ, Act.put, List.setIfInBounds_toArray, List.set_cons_zero, List.set_cons_succ]
      refine wpAnyR_take (i := 9) (v := .bool true) rfl rfl (by kernel_rfl) (by kernel_rfl) (by kernel_rfl) (fun _ _ _ h => h) (Nat.le_refl _) ⟨by rfl, fun w _ => (by go_simp; try (first | (simp only [IntKind.wrap_u32]; done) | rfl)), fun _ => rfl⟩ hS ?_
      simp only [List.getElem_toArray, List.getElem_cons_zero, List.getElem_cons_succ, Act.put, List.setIfInBounds_toArray, List.set_cons_zero, List.set_cons_succ]
      refine wpAnyR_take (i := 10) (v := .bool true) rfl rfl (by kernel_rfl) (by kernel_rfl) (by kernel_rfl) (fun _ _ _ h => h) (Nat.le_refl _) ⟨by rfl, fun w _ => (by go_simp; try (first | (simp only [IntKind.wrap_u32]; done) | rfl)), fun _ => rfl⟩ hS ?_
      simp only [List.getElem_toArray, List.getElem_cons_zero, List.getElem_cons_succ, Act.put, List.setIfInBounds_toArray, List.set_cons_zero, List.set_cons_succ]
      refine wpAnyU_take (i := 11) rfl (fun _ => trivial) rfl (by kernel_rfl) (by kernel_rfl) (by kernel_rfl) (fun _ _ _ h => h) (Nat.le_refl _) (by rfl) hS ?_
      simp only [List.getElem_toArray, List.getElem_cons_zero, List.getElem_cons_succ, Act.put, List.setIfInBounds_toArray, List.set_cons_zero, List.set_cons_succ]
      refine wpAnyU_take (i := 12) rfl (fun _ => trivial) rfl (by kernel_rfl) (by kernel_rfl) (by kernel_rfl) (fun _ _ _ h => h) (Nat.le_refl _) (by rfl) hS ?_
      simp only [List.getElem_toArray, List.getElem_cons_zero, List.getElem_cons_succ, Act.put, List.setIfInBounds_toArray, List.set_cons_zero, List.set_cons_succ]
      refine wpAnyU_take (i := 13) rfl (fun _ => trivial) rfl (by kernel_rfl) (by kernel_rfl) (by kernel_rfl) (fun _ _ _ h => h) (Nat.le_refl _) (by rfl) hS ?_
      simp only [List.getElem_toArray, List.getElem_cons_zero, List.getElem_cons_succ, Act.put, List.setIfInBounds_toArray, List.set_cons_zero, List.set_cons_succ]
      refine wpAnyU_take (i := 14) rfl (fun _ => trivial) rfl (by kernel_rfl) (by kernel_rfl) (by kernel_rfl) (fun _ _ _ h => h) (Nat.le_refl _) (by rfl) hS ?_
      simp only [List.getElem_toArray, List.getElem_cons_zero, List.getElem_cons_succ, Act.put, List.setIfInBounds_toArray, List.set_cons_zero, List.set_cons_succ]
      refine wpAnyU_take (i := 15) rfl (fun _ => trivial) rfl (by kernel_rfl) (by kernel_rfl) (by kernel_rfl) (fun _ _ _ h => h) (Nat.le_refl _) (by rfl) hS ?_
      simp only [List.getElem_toArray, List.getElem_cons_zero, List.getElem_cons_succ, Act.put, List.setIfInBounds_toArray, List.set_cons_zero, List.set_cons_succ]
      refine wpAnyU_take (i := 16) rfl (fun _ => trivial) rfl (by kernel_rfl) (by kernel_rfl) (by kernel_rfl) (fun _ _ _ h => h) (Nat.le_refl _) (by rfl) hS ?_
      simp only [List.getElem_toArray, List.getElem_cons_zero, List.getElem_cons_succ, Act.put, List.setIfInBounds_toArray, List.set_cons_zero, List.set_cons_succ]
      refine wpAnyU_take (i := 17) rfl (fun _ => trivial) rfl (by kernel_rfl) (by kernel_rfl) (by kernel_rfl) (fun _ _ _ h => h) (Nat.le_refl _) (by rfl) hS ?_
      simp only [List.getElem_toArray, List.getElem_cons_zero, List.getElem_cons_succ, Act.put, List.setIfInBounds_toArray, List.set_cons_zero, List.set_cons_succ]
      refine wpAnyU_take (i := 18) rfl (fun _ => trivial) rfl (by kernel_rfl) (by kernel_rfl) (by kernel_rfl) (fun _ _ _ h => h) (Nat.le_refl _) (by rfl) hS ?_
      simp only [List.getElem_toArray, List.getElem_cons_zero, List.getElem_cons_succ, Act.put, List.setIfInBounds_toArray, List.set_cons_zero, List.set_cons_succ]
      refine wpAnyU_take (i := 19) rfl (fun _ => trivial) rfl (by kernel_rfl) (by kernel_rfl) (by kernel_rfl) (fun _ _ _ h => h) (Nat.le_refl _) (by rfl) hS ?_
      simp only [List.getElem_toArray, List.getElem_cons_zero, List.getElem_cons_succ, Act.put, List.setIfInBounds_toArray, List.set_cons_zero, List.set_cons_succ]
      refine wpAnyU_take (i := 20) rfl (fun _ => trivial) rfl (by kernel_rfl) (by kernel_rfl) (by kernel_rfl) (fun _ _ _ h => h) (Nat.le_refl _) (by rfl) hS ?_
      simp only [List.getElem_toArray, List.getElem_cons_zero, List.getElem_cons_succ, Act.put, List.setIfInBounds_toArray, List.set_cons_zero, List.set_cons_succ]
      refine wpAnyR_take (i := 21) (v := .bool true) rfl rfl (by kernel_rfl) (by kernel_rfl) (by kernel_rfl) (fun _ _ _ h => h) (Nat.le_refl _) ⟨by rfl, fun w _ => (by go_simp; try (first | (simp only [IntKind.wrap_u32]; done) | rfl)), fun _ => rfl⟩ hS ?_
      simp only [List.getElem_toArray, List.getElem_cons_zero, List.getElem_cons_succ, Act.put, List.setIfInBounds_toArray, List.set_cons_zero, List.set_cons_succ]
      refine wpAnyG_done (by kernel_rfl) ?_ _
      have H := hS
      clear hS
      have HI0 := Lib.hid (HI.out.below H.below)
      clear HI H
      have HI := HI0
      clear HI0 c0 c1 c2 hpr
      have hm0 : m ≠ 0 := by omega
      obtain ⟨k, rfl⟩ : ∃ k, m = k + 1 := ⟨m - 1, by omega⟩
      have hkl : k < s.l.length := by omega
      obtain ⟨y, hy⟩ : ∃ y, s.l[k]? = some y := ⟨_, List.getElem?_eq_getElem hkl⟩
      have hyt : (s.l.take (k + 1))[k]? = some y := by rw [List.getElem?_take_of_lt (by omega)]; exact hy
      obtain ⟨g, off, hA', hg, hc⟩ := HI.out.d.row.at hyt
      have r1 := range9 hc
      subst hA'
      have c0 := HI.out.d.box.cell 0
      simp only [List.getElem?_toArray, List.getElem?_cons_zero] at c0
      have HY := Lib.hid hy
      have HT := Lib.hid (show n < (k + 1 : Nat) ∨ b < bytes (s.l.take (k + 1)) from .inl (by have := of_decide_eq_true t1; omega))
      have hk5 : k < n0 := by omega
      clear hyt hc hy hkl hS1 hlm hbd HOK okd hA
      go_upto_region 9 with (first
                | go_skip
                | ((with_reducible show wpList _ _ _ (⟨_, .load 37 _, _, _, _, _⟩ :: _) _ _); refine wpList_load_mid rfl 37 (.tmp 56) rfl g (off + k * 9) rfl (pvCs y) _ r1 Try.underlying37 rfl pkInfo ?_)
                | (at_builtin; refine wpList_append_que rfl _ _ rfl rfl u8 _ [y] ⟨wr.heap.size, 0, none⟩ 1 1 rfl rfl (HI.out.q.on (fun i hi => Below.heap_alloc _ _ _ (HI.out.q.lt hi))) rfl (fun j u hj => by rw [Addr.add_mid, Nat.zero_add]; rw [pvs_one] at hj; exact ((Held.new wr 37 (pvCs y).toArray).cell j).trans (by simpa using hj)) (by simp; have := HN.out; omega) ?_; intro v' w7 hq7 hF7 hb7))
      have hX := HI.out.next HY.out HT.out hq7 hF7 hb7
      obtain ⟨D7, HX⟩ := hX
      have c0w := D7.box.cell 0
      have f0w := D7.box.frozen 0
      simp only [List.getElem?_toArray, List.getElem?_cons_zero] at c0w
      have HXH := Lib.hid HX
      obtain ⟨A9, c9, hv9, _, _⟩ := HX.q.shape
      obtain ⟨A8, c8, hv8, _, _⟩ := HI.out.q.shape
      have e9 : (s.l.drop k).reverse.length = n0 - k := by simp; omega
      have e8 : (s.l.drop (k + 1)).reverse.length = n0 - (k + 1) := by simp; omega
      rw [e9] at hv9
      rw [e8] at hv8
      subst hv9 hv8
      clear D7 HX hq7 hF7 hb7 r1 c0 e9 e8
      go_wp2
      go_roundw
      case rel => exact ⟨k, by omega, HXH⟩
      case measure => simp; omega
    · have t1 : decide ((m : Int) > n) = false := decide_eq_false hA
      go_upto_region 6 with (fail)
      refine region_mem H 22 rfl (by kernel_rfl) (fun wr hS => ?_)
      clear H
      refine wpAnyR_take (i := 0) (v := .pointer (some ⟨p, 0, none⟩)) rfl rfl (by kernel_rfl) (by kernel_rfl) (by kernel_rfl) (fun _ _ _ h => h) (Nat.le_refl _) ⟨by rfl, fun w _ => (by go_simp; try (first | (simp only [IntKind.wrap_u32]; done) | rfl)), fun _ => rfl⟩ hS ?_
      simp only [List.getElem_toArray, List.getElem_cons_zero, List.getElem_cons_succ, Act.put, List.setIfInBounds_toArray, List.set_cons_zero, List.set_cons_succ]
      refine wpAnyR_take (i := 1) (v := .pointer (some ⟨p, 0, none⟩)) rfl rfl (by kernel_rfl) (by kernel_rfl) (by kernel_rfl) (fun _ _ _ h => h) (Nat.le_refl _) ⟨by rfl, fun w _ => (by go_simp; try (first | (simp only [IntKind.wrap_u32]; done) | rfl)), fun _ => rfl⟩ hS ?_
      simp only [List.getElem_toArray, List.getElem_cons_zero, List.getElem_cons_succ, Act.put, List.setIfInBounds_toArray, List.set_cons_zero, List.set_cons_succ]
      refine wpAnyR_take (i := 2) (v := .pointer (some ⟨p, 0, none⟩)) rfl rfl (by kernel_rfl) (by kernel_rfl) (by kernel_rfl) (fun _ _ _ h => h) (Nat.le_refl _) ⟨by rfl, fun w _ => (by go_simp; try (first | (simp only [IntKind.wrap_u32]; done) | rfl)), fun _ => rfl⟩ hS ?_
      simp only [List.getElem_toArray, List.getElem_cons_zero, List.getElem_cons_succ, Act.put, List.setIfInBounds_toArray, List.set_cons_zero, List.set_cons_succ]
      refine wpAnyR_take (i := 3) (v := .slice A m c) rfl rfl (by kernel_rfl) (by kernel_rfl) (by kernel_rfl) (fun _ _ _ h => h) (Nat.le_refl _) (yields_old c0 hpr (by exact rfl) (by exact rfl) (by exact rfl) (by first | exact Try.underlying32 | exact Try.underlying3 | exact Try.underlying41) rfl) hS ?_
      simp only [List.getElem_toArray, List.getElem_cons_zero, List.getElem_cons_succ, Act.put, List.setIfInBounds_toArray, List.set_cons_zero, List.set_cons_succ]
      refine wpAnyR_take (i := 4) (v := .int .i64 m) rfl rfl (by kernel_rfl) (by kernel_rfl) (by kernel_rfl) (fun _ _ _ h => h) (Nat.le_refl _) ⟨by rfl, fun w _ => (by go_simp; try (first | (simp only [IntKind.wrap_u32]; done) | rfl)), fun _ => rfl⟩ hS ?_
      simp only [List.getElem_toArray, List.getElem_cons_zero, List.getElem_cons_succ, Act.put, List.setIfInBounds_toArray, List.set_cons_zero, List.set_cons_succ]
      refine wpAnyR_take (i := 5) (v := .pointer (some ⟨p, 0, none⟩)) rfl rfl (by kernel_rfl) (by kernel_rfl) (by kernel_rfl) (fun _ _ _ h => h) (Nat.le_refl _) ⟨by rfl, fun w _ => (by go_simp; try (first | (simp only [IntKind.wrap_u32]; done) | rfl)), fun _ => rfl⟩ hS ?_
      simp only [List.getElem_toArray, List.getElem_cons_zero, List.getElem_cons_succ, Act.put, List.setIfInBounds_toArray, List.set_cons_zero, List.set_cons_succ]
      refine wpAnyR_take (i := 6) (v := .pointer (some ⟨p, 0, none⟩)) rfl rfl (by kernel_rfl) (by kernel_rfl) (by kernel_rfl) (fun _ _ _ h => h) (Nat.le_refl _) ⟨by rfl, fun w _ => (by go_simp; try (first | (simp only [IntKind.wrap_u32]; done) | rfl)), fun _ => rfl⟩ hS ?_
      simp only [List.getElem_toArray, List.getElem_cons_zero, List.getElem_cons_succ, Act.put, List.setIfInBounds_toArray, List.set_cons_zero, List.set_cons_succ]
      refine wpAnyR_take (i := 7) (v := .pointer (some ⟨p, 1, none⟩)) rfl rfl (by kernel_rfl) (by kernel_rfl) (by kernel_rfl) (fun _ _ _ h => h) (Nat.le_refl _) ⟨by rfl, fun w _ => (by go_simp; try (first | (simp only [IntKind.wrap_u32]; done) | rfl)), fun _ => rfl⟩ hS ?_
      simp only [List.getElem_toArray, List.getElem_cons_zero, List.getElem_cons_succ, Act.put, List.setIfInBounds_toArray, List.set_cons_zero, List.set_cons_succ]
      refine wpAnyR_take (i := 8) (v := .int .i64 n) rfl rfl (by kernel_rfl) (by kernel_rfl) (by kernel_rfl) (fun _ _ _ h => h) (Nat.le_refl _) (yields_old c1 hpr (by exact rfl) (by exact rfl) (by exact rfl) (by first | exact Try.underlying32 | exact Try.underlying3 | exact Try.underlying41) rfl) hS ?_
      simp only [List.getElem_toArray, List.getElem_cons_zero, List.getElem_cons_succ, Act.put, List.setIfInBounds_toArray, List.set_cons_zero, List.set_cons_succ]
      refine wpAnyR_take (i := 9) (v := .bool false) rfl rfl (by kernel_rfl) (by kernel_rfl) (by kernel_rfl) (fun _ _ _ h => h) (Nat.le_refl _) ⟨by rfl, fun w _ => (by go_simp; try (first | (simp only [IntKind.wrap_u32]; done) | rfl)), fun _ => rfl⟩ hS ?_
      simp only [List.getElem_toArray, List.getElem_cons_zero, List.getElem_cons_succ, Act.put, List.setIfInBounds_toArray, List.set_cons_zero, List.set_cons_succ]
      refine wpAnyR_take (i := 10) (v := .bool false) rfl rfl (by kernel_rfl) (by kernel_rfl) (by kernel_rfl) (fun _ _ _ h => h) (Nat.le_refl _) ⟨by rfl, fun w _ => (by go_simp; try (first | (simp only [IntKind.wrap_u32]; done) | rfl)), fun _ => rfl⟩ hS ?_
      simp only [List.getElem_toArray, List.getElem_cons_zero, List.getElem_cons_succ, Act.put, List.setIfInBounds_toArray, List.set_cons_zero, List.set_cons_succ]
      refine wpAnyR_take (i := 11) (v := .pointer (some ⟨p, 0, none⟩)) rfl rfl (by kernel_rfl) (by kernel_rfl) (by kernel_rfl) (fun _ _ _ h => h) (Nat.le_refl _) ⟨by rfl, fun w _ => (by go_simp; try (first | (simp only [IntKind.wrap_u32]; done) | rfl)), fun _ => rfl⟩ hS ?_
      simp only [List.getElem_toArray, List.getElem_cons_zero, List.getElem_cons_succ, Act.put, List.setIfInBounds_toArray, List.set_cons_zero, List.set_cons_succ]
      refine wpAnyR_take (i := 12) (v := .pointer (some ⟨p, 0, none⟩)) rfl rfl (by kernel_rfl) (by kernel_rfl) (by kernel_rfl) (fun _ _ _ h => h) (Nat.le_refl _) ⟨by rfl, fun w _ => (by go_simp; try (first | (simp only [IntKind.wrap_u32]; done) | rfl)), fun _ => rfl⟩ hS ?_
      simp only [List.getElem_toArray, List.getElem_cons_zero, List.getElem_cons_succ, Act.put, List.setIfInBounds_toArray, List.set_cons_zero, List.set_cons_succ]
      refine wpAnyR_take (i := 13) (v := .pointer (some ⟨p, 0, none⟩)) rfl rfl (by kernel_rfl) (by kernel_rfl) (by kernel_rfl) (fun _ _ _ h => h) (Nat.le_refl _) ⟨by rfl, fun w _ => (by go_simp; try (first | (simp only [IntKind.wrap_u32]; done) | rfl)), fun _ => rfl⟩ hS ?_
      simp only [List.getElem_toArray, List.getElem_cons_zero, List.getElem_cons_succ, Act.put, List.setIfInBounds_toArray, List.set_cons_zero, List.set_cons_succ]
      refine wpAnyR_take (i := 14) (v := .slice A m c) rfl rfl (by kernel_rfl) (by kernel_rfl) (by kernel_rfl) (fun _ _ _ h => h) (Nat.le_refl _) (yields_old c0 hpr (by exact rfl) (by exact rfl) (by exact rfl) (by first | exact Try.underlying32 | exact Try.underlying3 | exact Try.underlying41) rfl) hS ?_
      simp only [List.getElem_toArray, List.getElem_cons_zero, List.getElem_cons_succ, Act.put, List.setIfInBounds_toArray, List.set_cons_zero, List.set_cons_succ]
      refine wpAnyR_take (i := 16) (v := .pointer (some ⟨p, 0, none⟩)) rfl rfl (by kernel_rfl) (by kernel_rfl) (by kernel_rfl) (fun _ _ _ h => h) (Nat.le_refl _) ⟨by rfl, fun w _ => (by go_simp; try (first | (simp only [IntKind.wrap_u32]; done) | rfl)), fun _ => rfl⟩ hS ?_
      simp only [List.getElem_toArray, List.getElem_cons_zero, List.getElem_cons_succ, Act.put, List.setIfInBounds_toArray, List.set_cons_zero, List.set_cons_succ]
      refine wpAnyR_take (i := 17) (v := .pointer (some ⟨p, 0, none⟩)) rfl rfl (by kernel_rfl) (by kernel_rfl) (by kernel_rfl) (fun _ _ _ h => h) (Nat.le_refl _) ⟨by rfl, fun w _ => (by go_simp; try (first | (simp only [IntKind.wrap_u32]; done) | rfl)), fun _ => rfl⟩ hS ?_
      simp only [List.getElem_toArray, List.getElem_cons_zero, List.getElem_cons_succ, Act.put, List.setIfInBounds_toArray, List.set_cons_zero, List.set_cons_succ]
      refine wpAnyR_take (i := 18) (v := .pointer (some ⟨p, 2, none⟩)) rfl rfl (by kernel_rfl) (by kernel_rfl) (by kernel_rfl) (fun _ _ _ h => h) (Nat.le_refl _) ⟨by rfl, fun w _ => (by go_simp; try (first | (simp only [IntKind.wrap_u32]; done) | rfl)), fun _ => rfl⟩ hS ?_
      simp only [List.getElem_toArray, List.getElem_cons_zero, List.getElem_cons_succ, Act.put, List.setIfInBounds_toArray, List.set_cons_zero, List.set_cons_succ]
      refine wpAnyR_take (i := 19) (v := .int .i64 b) rfl rfl (by kernel_rfl) (by kernel_rfl) (by kernel_rfl) (fun _ _ _ h => h) (Nat.le_refl _) (yields_old c2 hpr (by exact rfl) (by exact rfl) (by exact rfl) (by first | exact Try.underlying32 | exact Try.underlying3 | exact Try.underlying41) rfl) hS ?_
      simp only [List.getElem_toArray, List.getElem_cons_zero, List.getElem_cons_succ, Act.put, List.setIfInBounds_toArray, List.set_cons_zero, List.set_cons_succ]
      refine wpAnyG_one (i := 15) (by kernel_rfl) rfl (fun K hK => ?_)
      go_simp
      refine ⟨trivial, (callsIn_wide.2 (kb _ hS.below)).mono ?_⟩
      rintro e w5 ⟨rfl, hb⟩
      have hS5 := hS.call hb
      clear hb hS
      have hS := hS5
      clear hS5
      refine hK _ _ (.inr hS) ?_
      clear hK K
      refine wpAnyR_take (i := 20) (v := .bool (decide (S > b))) rfl rfl (by kernel_rfl) (by kernel_rfl) (by kernel_rfl) (fun _ _ _ h => h) (Nat.le_refl _) ⟨by rfl, fun w _ => (by go_simp; try (first | (simp only [IntKind.wrap_u32]; done) | rfl)), fun _ => rfl⟩ hS ?_
      simp only [List.getElem_toArray, List.getElem_cons_zero, List.getElem_cons_succ, Act.put, List.setIfInBounds_toArray, List.set_cons_zero, List.set_cons_succ]
      refine wpAnyR_take (i := 21) (v := .bool (decide (S > b))) rfl rfl (by kernel_rfl) (by kernel_rfl) (by kernel_rfl) (fun _ _ _ h => h) (Nat.le_refl _) ⟨by rfl, fun w _ => (by go_simp; try (first | (simp only [IntKind.wrap_u32]; done) | rfl)), fun _ => rfl⟩ hS ?_
      simp only [List.getElem_toArray, List.getElem_cons_zero, List.getElem_cons_succ, Act.put, List.setIfInBounds_toArray, List.set_cons_zero, List.set_cons_succ]
      refine wpAnyG_done (by kernel_rfl) ?_ _
      have H := hS
      clear hS
      have HI0 := Lib.hid (HI.out.below H.below)
      clear HI H
      have HI := HI0
      clear HI0 c0 c1 c2 hpr
      by_cases hB : b < S
      · simp only [decide_eq_true (show S > b from hB)]
        have hm0 : m ≠ 0 := by
          rintro rfl
          rw [List.take_zero] at hS1
          simp [bytes] at hS1
          omega
        obtain ⟨k, rfl⟩ : ∃ k, m = k + 1 := ⟨m - 1, by omega⟩
        have hkl : k < s.l.length := by omega
        obtain ⟨y, hy⟩ : ∃ y, s.l[k]? = some y := ⟨_, List.getElem?_eq_getElem hkl⟩
        have hyt : (s.l.take (k + 1))[k]? = some y := by rw [List.getElem?_take_of_lt (by omega)]; exact hy
        obtain ⟨g, off, hA', hg, hc⟩ := HI.out.d.row.at hyt
        have r1 := range9 hc
        subst hA'
        have c0 := HI.out.d.box.cell 0
        simp only [List.getElem?_toArray, List.getElem?_cons_zero] at c0
        have HY := Lib.hid hy
        have HT := Lib.hid (show n < (k + 1 : Nat) ∨ b < bytes (s.l.take (k + 1)) from .inr (by rw [hS1]; exact hB))
        have hk5 : k < n0 := by omega
        clear hyt hc hy hkl hS1 hlm kb hbd HOK okd
        go_upto_region 9 with (first
                  | go_skip
                  | ((with_reducible show wpList _ _ _ (⟨_, .load 37 _, _, _, _, _⟩ :: _) _ _); refine wpList_load_mid rfl 37 (.tmp 56) rfl g (off + k * 9) rfl (pvCs y) _ r1 Try.underlying37 rfl pkInfo ?_)
                  | (at_builtin; refine wpList_append_que rfl _ _ rfl rfl u8 _ [y] ⟨w5.heap.size, 0, none⟩ 1 1 rfl rfl (HI.out.q.on (fun i hi => Below.heap_alloc _ _ _ (HI.out.q.lt hi))) rfl (fun j u hj => by rw [Addr.add_mid, Nat.zero_add]; rw [pvs_one] at hj; exact ((Held.new w5 37 (pvCs y).toArray).cell j).trans (by simpa using hj)) (by simp; have := HN.out; omega) ?_; intro v' w7 hq7 hF7 hb7))
        have hX := HI.out.next HY.out HT.out hq7 hF7 hb7
        obtain ⟨D7, HX⟩ := hX
        have c0w := D7.box.cell 0
        have f0w := D7.box.frozen 0
        simp only [List.getElem?_toArray, List.getElem?_cons_zero] at c0w
        have HXH := Lib.hid HX
        obtain ⟨A9, c9, hv9, _, _⟩ := HX.q.shape
        obtain ⟨A8, c8, hv8, _, _⟩ := HI.out.q.shape
        have e9 : (s.l.drop k).reverse.length = n0 - k := by simp; omega
        have e8 : (s.l.drop (k + 1)).reverse.length = n0 - (k + 1) := by simp; omega
        rw [e9] at hv9
        rw [e8] at hv8
        subst hv9 hv8
        clear D7 HX hq7 hF7 hb7 r1 c0 e9 e8
        go_wp2
        go_roundw
        case rel => exact ⟨k, by omega, HXH⟩
        case measure => simp; omega
      · simp only [decide_eq_false (show ¬ S > b from hB)]
        have hkp : kp s.l n b s.l.length = m := HI.out.kp.trans (kp_stop (by rw [hS1]; omega))
        have HK := Lib.hid hkp
        clear hkp hS1 hlm kb hbd
        go_wp2
        refine bodyPost_ret (results_two rfl _ _ _) rfl ?_
        have hk9 := HK.out
        rw [HN.out] at hk9
        rw [hk9]
        exact ⟨u8, rfl, HI.out.q, ⟨own, ⟨_, HI.out.d⟩, fun i hi => .inl hi, fun i hi => ⟨(HI.out.new i hi).2, .inr (HI.out.new i hi).1⟩⟩, HI.out.foot⟩
end Go.Proofs.Ytlnlkodpndjimaa.Fi
end
