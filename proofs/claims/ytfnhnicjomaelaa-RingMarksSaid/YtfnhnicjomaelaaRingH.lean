/-
  Contracts of the document's New, Post, Bell, Fetch, Finish, Clean. Conditions: those that each theorem names.
-/
import Derived.Test.YtfnhnicjomaelaaRingG
namespace Go.Proofs.Ytfnhnicjomaelaa
set_option linter.unusedSimpArgs false
set_option linter.unusedVariables false
open Go.ChangeShapes Go.WideShapes Go.ChangeAt Go.RowKit

theorem bell_r (W : World) (p q : Nat) (r : RS) (h : RingR W p q r) :
    Calls Try.prog 30 #[.pointer (some ⟨p, 0, none⟩)] W fun e w' => (∃ v, e = .returned v) ∧ RingR w' p q r.bell ∧ Foot (Own2 p q) W w' := by
  obtain ⟨⟨c0, c1, c2, c3, c4, c5⟩, q1, q2, q3, q4, q5⟩ := h.ring.ringR
  go_enter Try.func30, Try.ntmps30
  go_wp2
  go_region
  go_end0
  exact ⟨⟨_, rfl⟩, ⟨Held.set (W := W) h.ring 4 _, Held.other (W := W) h.slots (Ne.symm h.ne) 4 _, h.ne, h.ok.bell⟩, ((Foot.refl _ _).setCell (fun _ => .inl rfl) _).drew⟩

/-- what the document's New gives of a size -/
def NewGivesR (n : Nat) (f : Int) (W : World) (e : Ending) (w' : World) : Prop :=
  ∃ p q, e = .returned (.tuple #[.pointer (some ⟨p, 0, none⟩), .int .i64 0]) ∧ RingR w' p q (RS.new n f) ∧ W.heap.size ≤ p ∧ W.heap.size ≤ q ∧ Below W.heap.size W w'
theorem new_r (n : Nat) (f : Int) (hn : n = 1 ∨ n = 2 ∨ n = 4 ∨ n = 8 ∨ n = 16 ∨ n = 32 ∨ n = 64 ∨ n = 128 ∨ n = 256 ∨ n = 512 ∨ n = 1024 ∨ n = 2048 ∨ n = 4096) (h0 : 0 ≤ f) (h1 : f ≤ 4294967295) (W : World) :
    Calls Try.prog 14 #[.int .i64 n, .int .u32 f] W (NewGivesR n f W) := by
  have hok := RS.Ok.new hn h0 h1
  have hs : isSizeB (n : Int) = true := hok.isSize
  have hmk := make_str W n hok.pos.2
  go_enter Try.func14, Try.ntmps14
  go_wp2_with (go_at_call 28; refine (size_r _ _).mono ?_; rintro e w' ⟨rfl, rfl⟩)
  go_ret2
  refine ⟨W.heap.size + 1, W.heap.size, rfl, ⟨?_, ?_, by omega, hok⟩, by omega, by omega, by go_grown⟩
  · have e := Held.new (W.alloc (.cells (strCells n fun _ => ⟨#[]⟩) 9)) 44 (dcs5 W.heap.size n f f f f f)
    rw [World.size_alloc] at e
    have hm : (RS.new n f).mark 0 = f := by simp [RS.mark, RS.new]; omega
    have hc : rcellsR (RS.new n f) W.heap.size = dcs5 W.heap.size n f f f f f := by
      show dcs5 _ _ ((RS.new n f).mark 0) ((RS.new n f).mark 0) ((RS.new n f).mark 0) ((RS.new n f).mark 0) ((RS.new n f).mark 0) = _
      rw [hm]
      rfl
    rw [hc]
    exact e
  · have e := Held.new W 9 (strCells n fun _ => ⟨#[]⟩)
    have hc : (RS.new n f).cont = fun _ => ⟨#[]⟩ := by funext k; simp [RS.cont, RS.who, RS.new]
    rw [hc]
    exact e.alloc _
theorem new_r_no (n f : Int) (hn : isSizeB n = false) (W : World) :
    Calls Try.prog 14 #[.int .i64 n, .int .u32 f] W fun e w' => e = .returned (.tuple #[.pointer none, .int .i64 2]) ∧ W = w' := by
  go_enter Try.func14, Try.ntmps14
  go_wp2_with (go_at_call 28; refine (size_r _ _).mono ?_; rintro e w' ⟨rfl, rfl⟩)
  go_ret2
  exact ⟨rfl, rfl⟩

/-- what the document's Post tells and leaves -/
def PostGivesR (p q : Nat) (r : RS) (i l f : Int) (d : Bool) (W : World) (e : Ending) (w' : World) : Prop :=
  e = .returned (.int .i64 (r.postE l d)) ∧ RingR w' p q (r.postR i l f d) ∧ Foot (Own2 p q) W w'

theorem post_r (W : World) (p q : Nat) (r : RS) (h : RingR W p q r) (i l f : Int) (d : Bool) (hi : 0 ≤ i) (hi1 : i ≤ 4294967295) (hl : 0 ≤ l) (hl1 : l ≤ 4294967295) (hf : 0 ≤ f) (hf1 : f ≤ 4294967295) :
    Calls Try.prog 29 #[.pointer (some ⟨p, 0, none⟩), dv i l f d] W (PostGivesR p q r i l f d W) := by
  have hE : Foot (Own2 p q) W (W.alloc (.cells (dcs i l f d) 35)) := (Foot.refl _ _).alloc _
  have hA := h.alloc (.cells (dcs i l f d) 35)
  go_enter Try.func29, Try.ntmps29
  go_wp2_with fail
  refine (encode_r i l f d hi hi1 hl hl1 hf hf1 _).mono ?_
  rintro e w1 ⟨rfl, hb1⟩
  have h1 := hA.below hb1
  have hD : Held w1 W.heap.size 35 (dcs i l f d) := (Held.new W _ _).below hb1 (by simp)
  have hF1 := hE.then_below hb1
  clear hb1 hA hE
  obtain ⟨⟨d0, d1, d2, d3⟩, _⟩ := hD.desc
  rcases hr : (!rightB l || d)
  · obtain ⟨hr1, rfl⟩ : rightB l = true ∧ d = false := by simpa using hr
    have eE : encE l = 0 := by simp [encE, hr1]
    have eT : encT i l f false = encS i l f false := by simp [encT, hr1]
    rw [eE, eT]
    clear eE eT
    obtain ⟨⟨c0, c1, c2, c3, c4, c5⟩, q1, q2, q3, q4, q5⟩ := h1.ring.ringR
    have hfar := far_held h.ok
    unfold far at hfar
    rw [IntKind.wrap_u32] at hfar
    have hle : r.c ≤ r.ds.length := by have := h.ok.ci; have := h.ok.it; have := h.ok.tb; have := h.ok.bp; omega
    have hroom := h.ok.room
    by_cases hfull : r.ds.length = r.c + r.n
    · have hb : decide ((r.n : Int) ≤ (r.mark r.ds.length - r.mark r.c) % 4294967296) = true := by rw [hfar]; simp; omega
      have hE : r.postE l false = 30 := by simp [RS.postE, hr1, hfull]
      have hR : r.postR i l f false = r := by simp [RS.postR, hfull]
      clear hfar hfull hle hroom
      go_wp2_with fail
      go_quiet (fail)
      go_wp2
      go_ret
      exact ⟨by rw [hE]; rfl, by rw [hR]; exact h1.drewN _, hF1.drewN _⟩
    · have hb : decide ((r.n : Int) ≤ (r.mark r.ds.length - r.mark r.c) % 4294967296) = false := by rw [hfar]; simp; omega
      have hE : r.postE l false = 0 := by simp [RS.postE, hr1, hfull]
      have hR : r.postR i l f false = r.post (i, l, f) := by simp [RS.postR, hr1, hfull]
      have hlt : r.ds.length < r.c + r.n := by omega
      have hl2 := (RS.rightB_iff l).1 hr1
      have hok : RS.okD (i, l, f) := ⟨hi, hi1, hl2.1, hl2.2, hf, hf1⟩
      have hsz := h.ok.isSize
      obtain ⟨m0, m1⟩ := mark_bd r r.ds.length
      have hslot := h.ok.slot_lt r.ds.length
      have hpos := h.ok.pos.1
      have i0 := Int.emod_nonneg (r.mark r.ds.length) (b := (r.n : Int)) (by omega)
      have i1 := Int.emod_lt_of_pos (r.mark r.ds.length) (b := (r.n : Int)) (by omega)
      clear hfar hfull hle hroom
      go_wp2_with fail
      go_quiet (fail)
      obtain ⟨w2, hw2⟩ : ∃ w2, w1.drewN nq = w2 := ⟨_, rfl⟩
      have h2 : RingR w2 p q r := by rw [← hw2]; exact h1.drewN _
      have hF2 : Foot (Own2 p q) W w2 := by rw [← hw2]; exact hF1.drewN _
      rw [hw2]
      clear hw2 h1 hF1 hD d0 d1 d2 d3 c0 c1 c2 c3 c4 c5 q1 q2 q3 q4 q5
      obtain ⟨⟨c0, c1, c2, c3, c4, c5⟩, _⟩ := h2.ring.ringR
      have c0d : w2.drew.cell? ⟨p, 0, none⟩ = some (.slice (some ⟨q, 0, none⟩) r.n r.n) := c0
      go_wp2_with fail
      refine (wpIn_wide (n := 6)).1 ?_
      refine wpIn_region_G (fun w => w.cell? ⟨p, 0, none⟩ = some (.slice (some ⟨q, 0, none⟩) r.n r.n)) 8 9 rfl (by kernel_rfl) (fun hcl => ?_)
      refine wpAnyG_take (i := 0) 8 (v := (.pointer (some ⟨p, 0, none⟩))) rfl rfl (by kernel_rfl) (by kernel_rfl) (by kernel_rfl) (fun _ _ _ h => h) (by kernel_rfl) (by decide) hcl ⟨by rfl, fun w hR => ?hy_1, fun _ => rfl⟩ c0d (fun hc1 => ?rest_1)
      case hy_1 => (try dsimp only at hR); go_simp; try (first | rfl | (intro h; omega) | omega)
      clear hcl; have hcl := hc1; clear hc1; simp only [Act.put, List.setIfInBounds_toArray, List.set_cons_zero, List.set_cons_succ]
      refine wpAnyG_take (i := 1) 8 (v := (.pointer (some ⟨p, 0, none⟩))) rfl rfl (by kernel_rfl) (by kernel_rfl) (by kernel_rfl) (fun _ _ _ h => h) (by kernel_rfl) (by decide) hcl ⟨by rfl, fun w hR => ?hy_2, fun _ => rfl⟩ c0d (fun hc1 => ?rest_2)
      case hy_2 => (try dsimp only at hR); go_simp; try (first | rfl | (intro h; omega) | omega)
      clear hcl; have hcl := hc1; clear hc1; simp only [Act.put, List.setIfInBounds_toArray, List.set_cons_zero, List.set_cons_succ]
      refine wpAnyG_take (i := 2) 8 (v := (.pointer (some ⟨p, 0, none⟩))) rfl rfl (by kernel_rfl) (by kernel_rfl) (by kernel_rfl) (fun _ _ _ h => h) (by kernel_rfl) (by decide) hcl ⟨by rfl, fun w hR => ?hy_3, fun _ => rfl⟩ c0d (fun hc1 => ?rest_3)
      case hy_3 => (try dsimp only at hR); go_simp; try (first | rfl | (intro h; omega) | omega)
      clear hcl; have hcl := hc1; clear hc1; simp only [Act.put, List.setIfInBounds_toArray, List.set_cons_zero, List.set_cons_succ]
      refine wpAnyG_take (i := 3) 8 (v := (.slice (some ⟨q, 0, none⟩) r.n r.n)) rfl rfl (by kernel_rfl) (by kernel_rfl) (by kernel_rfl) (fun _ _ _ h => h) (by kernel_rfl) (by decide) hcl ⟨by rfl, fun w hR => ?hy_4, fun _ => rfl⟩ c0d (fun hc1 => ?rest_4)
      case hy_4 => (try dsimp only at hR); go_simp; try (first | rfl | (intro h; omega) | omega)
      clear hcl; have hcl := hc1; clear hc1; simp only [Act.put, List.setIfInBounds_toArray, List.set_cons_zero, List.set_cons_succ]
      refine wpAnyG_pure (i := 4) (v := (.pointer (some ⟨p, 0, none⟩))) rfl rfl (by kernel_rfl) (by kernel_rfl) (by kernel_rfl) (fun _ _ _ h => h) (by decide) ⟨by rfl, fun w _ => ?hy_5, fun _ => rfl⟩ (.inr c0d) ?rest_5
      case hy_5 => go_simp; try (first | rfl | (intro h; omega) | omega)
      simp only [Act.put, List.setIfInBounds_toArray, List.set_cons_zero, List.set_cons_succ]
      refine wpAnyG_pure (i := 6) (v := (.string (encS i l f false))) rfl rfl (by kernel_rfl) (by kernel_rfl) (by kernel_rfl) (fun _ _ _ h => h) (by decide) ⟨by rfl, fun w _ => ?hy_6, fun _ => rfl⟩ (.inr c0d) ?rest_6
      case hy_6 => go_simp; try (first | rfl | (intro h; omega) | omega)
      simp only [Act.put, List.setIfInBounds_toArray, List.set_cons_zero, List.set_cons_succ]
      refine wpAnyG_one (i := 5) (by kernel_rfl) rfl (fun K hK => ?_)
      go_simp
      refine ⟨trivial, (callsIn_wide.2 (rslot_r p q r.n 4 _ (by omega) hsz m0 m1 w2.drew c0 c5)).mono ?_⟩
      rintro e w3 ⟨rfl, j, hj⟩
      have h3 : RingR w3 p q r := by rw [hj]; exact h2.drew.drewN _
      have hF3 : Foot (Own2 p q) W w3 := by rw [hj]; exact hF2.drew.drewN _
      clear hj
      have c03 := h3.ring.ringR.1.1
      refine hK _ _ (.inr c03) ?_
      clear hK K h2 hF2 c0 c1 c2 c3 c4 c5 c0d
      refine wpAnyG_pure (i := 7) (v := (.pointer (some ⟨q, (r.mark r.ds.length % (r.n : Int)).toNat, none⟩))) rfl rfl (by kernel_rfl) (by kernel_rfl) (by kernel_rfl) (fun _ _ _ h => h) (by decide) ⟨by rfl, fun w _ => ?hy_7, fun _ => rfl⟩ (.inr c03) ?rest_7
      case hy_7 => go_simp; try (first | rfl | (intro h; omega) | omega)
      simp only [Act.put, List.setIfInBounds_toArray, List.set_cons_zero, List.set_cons_succ]
      have cs : w3.cell? ⟨q, (r.mark r.ds.length % (r.n : Int)).toNat, none⟩ = some (.string (r.cont (r.slot r.ds.length))) := (h3.slots.cell _).trans (strCells_get hslot _)
      have fs : w3.frozen? ⟨q, (r.mark r.ds.length % (r.n : Int)).toNat, none⟩ = false := h3.slots.frozen _
      refine wpAnyG_one (i := 8) (by kernel_rfl) rfl (fun K hK => ?_)
      go_simp
      refine hK _ _ (.inl (by kernel_rfl)) ?_
      clear hK K
      refine wpAnyG_done (by kernel_rfl) ?_ _
      have hS4 : Held (w3.setCell ⟨q, (r.mark r.ds.length % (r.n : Int)).toNat, none⟩ (.string (encS i l f false))) q 9 (strCells r.n (r.post (i, l, f)).cont) := by
        rw [strCells_set (encS i l f false) (fun m => h.ok.cont_post hok hlt m)]
        exact h3.slots.set _ _
      have hR4 : Held (w3.setCell ⟨q, (r.mark r.ds.length % (r.n : Int)).toNat, none⟩ (.string (encS i l f false))) p 44 (rcellsR r q) := h3.ring.other h3.ne _ _
      have hF4 : Foot (Own2 p q) W (w3.setCell ⟨q, (r.mark r.ds.length % (r.n : Int)).toNat, none⟩ (.string (encS i l f false))) := hF3.setCell (fun _ => .inr rfl) _
      generalize w3.setCell ⟨q, (r.mark r.ds.length % (r.n : Int)).toNat, none⟩ (.string (encS i l f false)) = w4 at hS4 hR4 hF4 ⊢
      clear h3 hF3 c03 cs fs hcl
      obtain ⟨⟨c0, c1, c2, c3, c4, c5⟩, q1, q2, q3, q4, q5⟩ := hR4.ringR
      go_wp2
      go_region
      go_wp2
      go_ret
      refine ⟨by rw [hE]; rfl, ?_, (hF4.setCell (fun _ => .inl rfl) _).drew⟩
      rw [hR]
      refine ⟨?_, Held.other (W := w4) hS4 (Ne.symm h.ne) 5 _, h.ne, h.ok.post hok hlt⟩
      have hs := hR4.set 5 (.int .u32 ((r.mark r.ds.length + 1) % 4294967296))
      rw [r.mark_succ] at hs ⊢
      show Held _ p _ (dcs5 q r.n (r.mark r.c) (r.mark r.i) (r.mark r.t) (r.mark r.b) (r.mark (r.ds ++ [(i, l, f)]).length))
      rw [List.length_append]
      exact hs
  · have hE : r.postE l d = 20 := by simp [RS.postE, hr]
    have hR : r.postR i l f d = r := by simp [RS.postR, hr]
    rcases hr1 : rightB l
    · have eE : encE l = 20 := by simp [encE, hr1]
      rw [eE]
      go_wp2
      go_ret
      exact ⟨by rw [hE]; rfl, by rw [hR]; exact h1, hF1⟩
    · obtain rfl : d = true := by simpa [hr1] using hr
      have eE : encE l = 0 := by simp [encE, hr1]
      rw [eE]
      go_wp2
      go_ret
      exact ⟨by rw [hE]; rfl, by rw [hR]; exact h1, hF1⟩
end Go.Proofs.Ytfnhnicjomaelaa
