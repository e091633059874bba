/-
  The iterator of ring's slots, and the contract of Slots. Conditions: those that each theorem names.
-/
import Derived.Test.YtfnhnicjomaelaaRingC
import Derived.Test.YtfnhnicjomaelaaRange
namespace Go.Proofs.Ytfnhnicjomaelaa
set_option linter.unusedSimpArgs false
set_option linter.unusedVariables false
open Go.ChangeShapes Go.WideShapes Go.ChangeAt Go.RowKit Go.Shelf
attribute [local go_sem] Oper.semAt_some

/-- what a round keeps: every block of cells but block b lies as it lay -/
def KeepC (b : Nat) (W W' : World) : Prop := ∀ k o, W.heap[k]? = some o → o.isCells = true → k ≠ b → W'.heap[k]? = some o
theorem KeepC.refl (b : Nat) (W : World) : KeepC b W W := fun _ _ h _ _ => h
theorem KeepC.trans {b : Nat} {A B C : World} (h : KeepC b A B) (k : KeepC b B C) : KeepC b A C := fun i o hi ho hb => k i o (h i o hi ho hb) ho hb
theorem KeepC.put {b : Nat} (W : World) (l : Nat) (o o' : Obj) (hl : W.heap[l]? = some o) (ho : o.isCells = false) : KeepC b W (W.putObj l o') := fun k x hk hx _ => by
  rw [World.putObj_heap_other (fun e => by subst e; rw [hk] at hl; cases hl; rw [hx] at ho; cases ho)]
  exact hk
theorem KeepC.boxed {b : Nat} {A B : World} (h : KeepC b A B) {i : Nat} {t : TypeId} {v : Value} (hx : Boxed A i t v) (hb : i ≠ b) : Boxed B i t v := h i _ hx rfl hb
theorem KeepC.held {b : Nat} {A B : World} (h : KeepC b A B) {i : Nat} {t : TypeId} {cs : Array Value} (hx : Held A i t cs) (hb : i ≠ b) : Held B i t cs := h i _ hx rfl hb
theorem SlotsAt.block {W : World} {q n : Nat} {c : Nat → ByteArray} (h : SlotsAt W q n c) (hn : 1 ≤ n) : ∃ o, W.heap[q]? = some o ∧ o.isCells = true := by
  have h0 := (h.there 0 (by omega)).1
  rcases hq : W.heap[q]? with _ | o
  · simp [World.cell?, hq] at h0
  · refine ⟨o, rfl, ?_⟩
    cases o <;> simp_all [World.cell?, Obj.isCells]
theorem RingP.keep {W W' : World} {p q b : Nat} {r : RS} (h : RingP W p q r) (hk : KeepC b W W') (hp : p ≠ b) (hq : q ≠ b) : RingP W' p q r := by
  obtain ⟨o, h1, h2⟩ := h.slots.block h.ok.pos.1
  exact h.same ((hk.held h.ring hp).trans h.ring.symm) ((hk q o h1 h2 hq).trans h1.symm)

/-- the k-th slot from CONS on, as the loop's variables: its place and its text -/
abbrev encK (r : RS) (k : Nat) : Array Value := #[.int .i64 (r.mark (r.c + k) % r.n), .string (r.cont (r.slot (r.c + k)))]
/-- what a round leaves, by its answer -/
def AnsweredR (b : Nat) (J Jx : List Nat → World → Prop) (pre : List Nat) (W : World) (y : Bool) (W' : World) : Prop := (y = true → J pre W' ∧ KeepC b W W') ∧ (y = false → Jx pre W')
theorem answeredR (b : Nat) (J Jx : List Nat → World → Prop) (pre : List Nat) (W : World) : ∀ (e : Ending) (W' : World), ((e = .returned (.bool true) ∧ J pre W' ∧ KeepC b W W') ∨ (e = .returned (.bool false) ∧ Jx pre W')) → ∃ y, e = .returned (.bool y) ∧ AnsweredR b J Jx pre W y W' := by
  rintro e W' (⟨rfl, h1, h2⟩ | ⟨rfl, h1⟩)
  · exact ⟨true, rfl, fun _ => ⟨h1, h2⟩, (fun h => by cases h)⟩
  · exact ⟨false, rfl, (fun h => by cases h), fun _ => h1⟩

set_option maxRecDepth 100000 in
set_option maxHeartbeats 2000000 in
theorem rounds_in (n : Nat) (hn : 2 ≤ n) (l Br Bf p q b : Nat) (r : RS) (J Jx : List Nat → World → Prop)
    (hpb : p ≠ b) (hqb : q ≠ b) (hrb : Br ≠ b) (W : World) (hbW : b < W.heap.size) (hJ : FarFrom W.heap.size J)
    (hY : ∀ pre x V, J pre V → pre.length < r.n → YieldAt Fence.wide (n - 1) Try.prog l (encK r x) V fun e V' =>
      (e = .returned (.bool true) ∧ J (pre ++ [x]) V' ∧ KeepC b V V') ∨ (e = .returned (.bool false) ∧ Jx (pre ++ [x]) V'))
    (h : RingP W p q r) (br : Boxed W Br 25 (.pointer (some ⟨p, 0, none⟩))) (bf : Boxed W Bf 61 (.int .u32 (r.mark r.c))) (h0 : J [] W) :
    CallsIn Fence.wide n Try.prog 52 #[.func (.yield l) #[] #[], .pointer (some ⟨Bf, 0, none⟩), .pointer (some ⟨Br, 0, none⟩)] W fun e W' => (∃ v, e = .returned v) ∧
      ((∃ ys, ys = List.range r.n ∧ J ys W') ∨ (∃ pre, (∃ k, k < r.n ∧ pre = List.range (k + 1)) ∧ Jx pre W')) := by
  refine callsIn_of_wp Try.func52 rfl trivial ?_ rfl
  simp only [Try.ntmps52, List.size_toArray, List.length_cons, List.length_nil, Nat.reduceAdd, Nat.reduceSub, Array.replicate_succ, Array.replicate_zero, List.push_toArray, List.append_toArray, List.nil_append, List.cons_append]
  have hsz := h.ok.isSize
  obtain ⟨hp1, hp2⟩ := h.ok.pos
  have cr := br.cell
  have cf := bf.cell
  have c5 := h.ring.ring.1.2.2.2.2.2
  have lr := br.lt
  have lp := h.ring.lt
  have lq := h.slots.lt
  have lf := bf.lt
  gi_wp2
  gi_loopw [11] (fun i wr => ∃ k : Nat, k ≤ r.n ∧ i = .int .i64 k ∧ RingP wr p q r ∧ Boxed wr Br 25 (.pointer (some ⟨p, 0, none⟩)) ∧ Boxed wr W.heap.size 61 (.int .u32 (r.mark (r.c + k))) ∧ J (List.range k) wr ∧ W.heap.size ≤ wr.heap.size)
    (fun i _ => r.n - (intOf i).toNat)
  case atStart =>
    exact ⟨0, Nat.zero_le _, rfl, h.alloc _, br.alloc _, Boxed.new _ _ _, hJ _ _ _ h0 ((Below.refl _ _).alloc (Nat.le_refl _) _), by simp⟩
  case round =>
    obtain ⟨k, hk, rfl, h', br', bi', hJ', hsW⟩ := hrel
    by_cases hlt : k < r.n
    · clear cr cf c5
      have c5 := h'.ring.ring.1.2.2.2.2.2
      have cr := br'.cell
      have ci := bi'.cell
      obtain ⟨m0, m1⟩ := mark_bd r (r.c + k)
      have hslot := h.ok.slot_lt (r.c + k)
      have hcd : wr.drew.cell? ⟨Br, 0, none⟩ = some (.pointer (some ⟨p, 0, none⟩)) ∧ wr.drew.cell? ⟨W.heap.size, 0, none⟩ = some (.int .u32 (r.mark (r.c + k))) := ⟨cr, ci⟩
      gi_wp2_with fail
      refine wpIn_region_G (fun w => w.cell? ⟨Br, 0, none⟩ = some (.pointer (some ⟨p, 0, none⟩)) ∧ w.cell? ⟨W.heap.size, 0, none⟩ = some (.int .u32 (r.mark (r.c + k)))) 8 10 rfl (by kernel_rfl) (fun hcl => ?_)
      refine wpAnyG_take (i := 0) 8 (v := (.func (.yield l) #[] #[])) rfl rfl (by kernel_rfl) (by kernel_rfl) (by kernel_rfl) (fun _ _ _ h => h) (by kernel_rfl) (by decide) hcl ⟨by rfl, fun w hR => ?hy_1, fun _ => rfl⟩ hcd (fun hc1 => ?rest_1)
      case hy_1 => (try dsimp only at hR); (try obtain ⟨hR1, hR2⟩ := hR); go_simp; try (first | rfl | (intro h; omega) | omega)
      clear hcl; have hcl := hc1; clear hc1; simp only [Act.put, List.setIfInBounds_toArray, List.set_cons_zero, List.set_cons_succ]
      refine wpAnyG_take (i := 1) 8 (v := (.pointer (some ⟨p, 0, none⟩))) rfl rfl (by kernel_rfl) (by kernel_rfl) (by kernel_rfl) (fun _ _ _ h => h) (by kernel_rfl) (by decide) hcl ⟨by rfl, fun w hR => ?hy_2, fun _ => rfl⟩ hcd (fun hc1 => ?rest_2)
      case hy_2 => (try dsimp only at hR); (try obtain ⟨hR1, hR2⟩ := hR); go_simp; try (first | rfl | (intro h; omega) | omega)
      clear hcl; have hcl := hc1; clear hc1; simp only [Act.put, List.setIfInBounds_toArray, List.set_cons_zero, List.set_cons_succ]
      refine wpAnyG_take (i := 2) 8 (v := (.int .u32 (r.mark (r.c + k)))) rfl rfl (by kernel_rfl) (by kernel_rfl) (by kernel_rfl) (fun _ _ _ h => h) (by kernel_rfl) (by decide) hcl ⟨by rfl, fun w hR => ?hy_3, fun _ => rfl⟩ hcd (fun hc1 => ?rest_3)
      case hy_3 => (try dsimp only at hR); (try obtain ⟨hR1, hR2⟩ := hR); go_simp; try (first | rfl | (intro h; omega) | omega)
      clear hcl; have hcl := hc1; clear hc1; simp only [Act.put, List.setIfInBounds_toArray, List.set_cons_zero, List.set_cons_succ]
      refine wpAnyG_take (i := 4) 8 (v := (.pointer (some ⟨p, 0, none⟩))) rfl rfl (by kernel_rfl) (by kernel_rfl) (by kernel_rfl) (fun _ _ _ h => h) (by kernel_rfl) (by decide) hcl ⟨by rfl, fun w hR => ?hy_4, fun _ => rfl⟩ hcd (fun hc1 => ?rest_4)
      case hy_4 => (try dsimp only at hR); (try obtain ⟨hR1, hR2⟩ := hR); go_simp; try (first | rfl | (intro h; omega) | omega)
      clear hcl; have hcl := hc1; clear hc1; simp only [Act.put, List.setIfInBounds_toArray, List.set_cons_zero, List.set_cons_succ]
      refine wpAnyG_take (i := 5) 8 (v := (.int .u32 (r.mark (r.c + k)))) rfl rfl (by kernel_rfl) (by kernel_rfl) (by kernel_rfl) (fun _ _ _ h => h) (by kernel_rfl) (by decide) hcl ⟨by rfl, fun w hR => ?hy_5, fun _ => rfl⟩ hcd (fun hc1 => ?rest_5)
      case hy_5 => (try dsimp only at hR); (try obtain ⟨hR1, hR2⟩ := hR); go_simp; try (first | rfl | (intro h; omega) | omega)
      clear hcl; have hcl := hc1; clear hc1; simp only [Act.put, List.setIfInBounds_toArray, List.set_cons_zero, List.set_cons_succ]
      refine wpAnyG_one (i := 3) (by kernel_rfl) rfl (fun K hK => ?_)
      go_simp
      refine ⟨trivial, fun _ => by omega, (callsIn_wide.2 (rplace_p p q r.n _ hsz m0 m1 wr.drew c5)).mono ?_⟩
      rintro e w3 ⟨rfl, hb3⟩
      have hg3 : Below W.heap.size wr w3 := Below.trans (b := wr.drew) (Below.refl _ _).drew (hb3.mono (by simpa using hsW))
      have h3 : RingP w3 p q r := h'.drew.below hb3
      have br3 : Boxed w3 Br 25 (.pointer (some ⟨p, 0, none⟩)) := (hb3.block Br br'.lt).trans br'
      have bi3 : Boxed w3 W.heap.size 61 (.int .u32 (r.mark (r.c + k))) := (hb3.block W.heap.size bi'.lt).trans bi'
      have hs3 := hb3.size
      refine hK _ _ (.inr ⟨br3.cell, bi3.cell⟩) ?_
      clear hK K hb3
      have c53 := h3.ring.ring.1.2.2.2.2.2
      refine wpAnyG_one (i := 6) (by kernel_rfl) rfl (fun K hK => ?_)
      go_simp
      refine ⟨trivial, fun _ => by omega, (callsIn_wide.2 (at_p p q r.n _ hsz m0 m1 w3 c53)).mono ?_⟩
      rintro e w4 ⟨rfl, hb4⟩
      have hg4 : Below W.heap.size wr w4 := hg3.trans (hb4.mono (by have : wr.heap.size ≤ w3.heap.size := hs3; omega))
      have h4 : RingP w4 p q r := h3.below hb4
      have br4 : Boxed w4 Br 25 (.pointer (some ⟨p, 0, none⟩)) := (hb4.block Br br3.lt).trans br3
      have bi4 : Boxed w4 W.heap.size 61 (.int .u32 (r.mark (r.c + k))) := (hb4.block W.heap.size bi3.lt).trans bi3
      have hs4 : W.heap.size ≤ w4.heap.size := by have : wr.heap.size ≤ w3.heap.size := hs3; have := hb4.size; omega
      refine hK _ _ (.inr ⟨br4.cell, bi4.cell⟩) ?_
      clear hK K hb4 h3 br3 bi3 hg3 hs3 c53
      refine wpAnyG_one (i := 7) (by kernel_rfl) rfl (fun K hK => ?_)
      go_simp
      refine ⟨trivial, fun _ => by omega, (callsIn_wide.2 (text_p2 q (r.slot (r.c + k) * 16) _ _ (h4.slots.cells _ hslot) (r.cont_text _))).mono ?_⟩
      rintro e w5 ⟨rfl, rfl⟩
      refine hK _ _ (.inr ⟨br4.cell, bi4.cell⟩) ?_
      clear hK K
      have hJ4 : J (List.range k) w4 := hJ _ _ _ hJ' hg4
      obtain ⟨fn, tmps, assign, body, hy0, hR0⟩ := hY (List.range k) k w4 hJ4 (by simpa using hlt)
      have hy : (Instr.yield l #[.int .i64 (r.mark (r.c + k) % r.n), .string (r.cont (r.slot (r.c + k)))]).run Try.prog w4 = _ := hy0
      have hR := hR0.mono (answeredR b J Jx (List.range k ++ [k]) w4)
      clear hy0 hR0
      refine wpAnyG_one (i := 8) (by kernel_rfl) rfl (fun K hK => ?_)
      go_simp
      refine ⟨fun _ => by omega, hR.mono ?_⟩
      rintro e W3 ⟨y, rfl, hA⟩
      refine hK _ _ (.inl (by kernel_rfl)) ?_
      clear hK K hy hR
      refine wpAnyG_one (i := 9) (by kernel_rfl) rfl (fun K hK => ?_)
      go_simp
      refine hK _ _ (.inl (by kernel_rfl)) ?_
      clear hK K
      refine wpAnyG_done (by kernel_rfl) ?_ _
      clear hcd hcl
      cases y
      · have hJx3 := hA.2 rfl
        gi_wp2
        refine bodyPost_ret (results_none rfl _ _ _) rfl ?_
        exact ⟨⟨_, rfl⟩, .inr ⟨_, ⟨k, hlt, List.range_succ.symm⟩, hJx3⟩⟩
      · obtain ⟨hJ3, hk3⟩ := hA.1 rfl
        have h5 := h4.keep hk3 hpb hqb
        have br5 := hk3.boxed br4 hrb
        have bi5 := hk3.boxed bi4 (by omega)
        have cb5 := bi5.cell
        have fb5 := bi5.frozen
        gi_wp2_with fail
        refine ⟨trivial, fun _ => by omega, (callsIn_wide.2 (advance_p W.heap.size 0 _ _ cb5 fb5)).mono ?_⟩
        rintro e w6 ⟨⟨v, rfl⟩, rfl⟩
        have h6 : RingP (W3.setCell ⟨W.heap.size, 0, none⟩ (.int .u32 ((r.mark (r.c + k) + 1) % 4294967296))) p q r := h5.other (by omega) (by omega) 0 _
        have bi6 := bi5.set (.int .u32 ((r.mark (r.c + k) + 1) % 4294967296))
        have br6 : Boxed (W3.setCell ⟨W.heap.size, 0, none⟩ (.int .u32 ((r.mark (r.c + k) + 1) % 4294967296))) Br 25 (.pointer (some ⟨p, 0, none⟩)) := (Below.heap_setCell _ _ _ _ (show Br ≠ W.heap.size by omega)).trans br5
        have hJ6 : J (List.range (k + 1)) (W3.setCell ⟨W.heap.size, 0, none⟩ (.int .u32 ((r.mark (r.c + k) + 1) % 4294967296))) := by rw [List.range_succ]; exact hJ _ _ _ hJ3 ((Below.refl _ _).setCell (p := ⟨W.heap.size, 0, none⟩) (Nat.le_refl _) _)
        have hs6 : W.heap.size ≤ (W3.setCell ⟨W.heap.size, 0, none⟩ (.int .u32 ((r.mark (r.c + k) + 1) % 4294967296))).heap.size := by have := bi5.lt; simp [World.setCell]; omega
        rw [r.mark_succ] at bi6
        rw [r.mark_succ] at h6 br6 hJ6 hs6 ⊢
        generalize W3.setCell ⟨W.heap.size, 0, none⟩ (.int .u32 (r.mark (r.c + k + 1))) = w6 at h6 br6 bi6 hJ6 hs6 ⊢
        clear h5 br5 bi5 cb5 fb5 hJ3 hk3 hA h4 br4 bi4 hg4 hs4 hJ4
        gi_wp2
        exact ⟨⟨k + 1, by omega, by go_num, h6, br6, bi6, hJ6, hs6⟩, by simp [intOf]; omega⟩
    · have hkn : k = r.n := by omega
      subst hkn
      gi_wp2
      go_end0
      exact ⟨⟨_, rfl⟩, .inl ⟨_, rfl, hJ'⟩⟩
end Go.Proofs.Ytfnhnicjomaelaa
