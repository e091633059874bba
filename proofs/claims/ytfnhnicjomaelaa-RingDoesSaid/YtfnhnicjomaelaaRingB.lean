/-
  What a ring of package ring is in memory, and contracts of its New, Post, Bell, Fetch, Finish, Clean, Marks. Conditions: those that each theorem names.
-/
import Derived.BigRegion
import Derived.Test.YtfnhnicjomaelaaOrdT
import Derived.Test.YtfnhnicjomaelaaRingA
import Derived.Test.YtfnhnicjomaelaaDescG
namespace Go.Proofs.Ytfnhnicjomaelaa
set_option linter.unusedSimpArgs false
set_option linter.unusedVariables false
open Go.ChangeShapes Go.WideShapes Go.ChangeAt Go.RowKit

theorem cell_same {W W' : World} {b : Nat} (h : W'.heap[b]? = W.heap[b]?) (o : Nat) : W'.cell? ⟨b, o, none⟩ = W.cell? ⟨b, o, none⟩ := by simp only [World.cell?, h]
theorem frozen_same {W W' : World} {b : Nat} (h : W'.heap[b]? = W.heap[b]?) (o : Nat) : W'.frozen? ⟨b, o, none⟩ = W.frozen? ⟨b, o, none⟩ := by simp only [World.frozen?, h]
theorem heap_setCells_other (b k : Nat) (hne : k ≠ b) : ∀ (vs : List Value) (o : Nat) (w : World), (w.setCells b o vs).heap[k]? = w.heap[k]?
  | [], _, _ => rfl
  | v :: r, o, w => (heap_setCells_other b k hne r (o + 1) _).trans (Below.heap_setCell _ _ _ _ hne)
theorem size_setCells (b : Nat) : ∀ (vs : List Value) (o : Nat) (w : World), (w.setCells b o vs).heap.size = w.heap.size
  | [], _, _ => rfl
  | v :: r, o, w => (size_setCells b r (o + 1) _).trans (by simp [World.setCell])
theorem Foot.setCells {B : Nat → Prop} {a : World} {b : Nat} (hp : b < a.heap.size → B b) : ∀ (vs : List Value) (o : Nat) (w : World), Foot B a w → Foot B a (w.setCells b o vs)
  | [], _, _, h => h
  | v :: r, o, w, h => Foot.setCells hp r (o + 1) _ (h.setCell (p := ⟨b, o, none⟩) hp v)

/-- a row of slots, each with the bytes of its text -/
structure SlotsAt (W : World) (q n : Nat) (c : Nat → ByteArray) : Prop where
  lt : q < W.heap.size
  cells : ∀ k, k < n → W.rangeAt q (k * 16) (cellsU (slotL (c k)))
  there : W.there q 0 (n * 16)
theorem SlotsAt.same {W W' : World} {q n : Nat} {c : Nat → ByteArray} (h : SlotsAt W q n c) (he : W'.heap[q]? = W.heap[q]?) : SlotsAt W' q n c :=
  ⟨by
    have h1 := h.lt
    rw [Array.getElem?_eq_getElem h1] at he
    exact (Array.getElem?_eq_some_iff.1 he).1,
  fun k hk j v hv => (cell_same he _).trans (h.cells k hk j v hv), fun j hj => by rw [cell_same he, frozen_same he]; exact h.there j hj⟩
theorem SlotsAt.there1 {W : World} {q n : Nat} {c : Nat → ByteArray} (h : SlotsAt W q n c) {k : Nat} (hk : k < n) : W.there q (k * 16) 16 := fun j hj => by
  have := h.there (k * 16 + j) (by omega)
  rwa [Nat.zero_add] at this
theorem SlotsAt.set {W : World} {q n : Nat} {c c' : Nat → ByteArray} (h : SlotsAt W q n c) {k : Nat} (hk : k < n) (s : ByteArray) (hc : ∀ m, c' m = if m = k then s else c m) : SlotsAt (W.setCells q (k * 16) (cellsU (slotL s))) q n c' := by
  have hl : (cellsU (slotL s)).length = 16 := by rw [cellsU_length]; rfl
  refine ⟨by rw [size_setCells]; exact h.lt, fun m hm => ?_, World.there_setCells h.there _ _ _⟩
  rw [hc m]
  by_cases he : m = k
  · subst he
    rw [if_pos rfl]
    exact World.rangeAt_setCells_same W q _ _ (by rw [hl]; exact h.there1 hk)
  · rw [if_neg he]
    refine World.rangeAt_setCells_apart (h.cells m hm) q _ _ (.inr ?_)
    rw [hl, cellsU_length, slotL_length]
    omega

theorem mark_bd (r : RS) (k : Nat) : 0 ≤ r.mark k ∧ r.mark k ≤ 4294967295 := by unfold RS.mark; omega
theorem RS.Ok.isSize {r : RS} (h : r.Ok) : isSizeB (r.n : Int) = true := by
  rcases h.size with h | h | h | h | h | h | h | h | h | h | h | h | h <;> rw [h] <;> rfl
theorem encS_text (i l f : Int) (d : Bool) : SlotText (encS i l f d) := .inr ⟨rfl, by show kindU d ≠ 0; cases d <;> decide⟩
theorem RS.cont_text (r : RS) (k : Nat) : SlotText (r.cont k) := by
  unfold RS.cont
  rcases r.who k with _ | j
  · exact .inl rfl
  · exact encS_text _ _ _ _

/-- the indexes of a ring, its slots at q -/
abbrev rcells (r : RS) (q : Nat) : Array Value := rcs (r.mark r.c) (r.mark r.i) (r.mark r.t) (r.mark r.b) (r.mark r.ds.length) q r.n
/-- a ring of the program at p, its slots at q -/
structure RingP (W : World) (p q : Nat) (r : RS) : Prop where
  ring : Held W p 66 (rcells r q)
  slots : SlotsAt W q r.n r.cont
  ne : p ≠ q
  ok : r.Ok
/-- a ring's own blocks -/
abbrev Own2 (p q : Nat) (b : Nat) : Prop := b = p ∨ b = q
theorem RingP.same {W W' : World} {p q : Nat} {r : RS} (h : RingP W p q r) (hp : W'.heap[p]? = W.heap[p]?) (hq : W'.heap[q]? = W.heap[q]?) : RingP W' p q r := ⟨hp.trans h.ring, h.slots.same hq, h.ne, h.ok⟩
theorem RingP.foot {W W' : World} {p q : Nat} {r : RS} {B : Nat → Prop} (h : RingP W p q r) (hf : Foot B W W') (hp : ¬ B p) (hq : ¬ B q) : RingP W' p q r := h.same (hf.block p h.ring.lt hp) (hf.block q h.slots.lt hq)
theorem RingP.below {W W' : World} {p q : Nat} {r : RS} (h : RingP W p q r) (hb : Below W.heap.size W W') : RingP W' p q r := h.same (hb.block p h.ring.lt) (hb.block q h.slots.lt)
theorem RingP.alloc {W : World} {p q : Nat} {r : RS} (h : RingP W p q r) (o : Obj) : RingP (W.alloc o) p q r := h.same (Below.heap_alloc _ _ _ h.ring.lt) (Below.heap_alloc _ _ _ h.slots.lt)
theorem RingP.other {W : World} {p q : Nat} {r : RS} (h : RingP W p q r) {b : Nat} (hp : b ≠ p) (hq : b ≠ q) (j : Nat) (v : Value) : RingP (W.setCell ⟨b, j, none⟩ v) p q r := h.same (Below.heap_setCell _ _ _ _ (Ne.symm hp)) (Below.heap_setCell _ _ _ _ (Ne.symm hq))
theorem RingP.drewN {W : World} {p q : Nat} {r : RS} (h : RingP W p q r) (k : Nat) : RingP (W.drewN k) p q r := h.same rfl rfl
theorem RingP.drew {W : World} {p q : Nat} {r : RS} (h : RingP W p q r) : RingP W.drew p q r := h.same rfl rfl

theorem infoSlot : (Try.prog.info? 78).map (fun i => (i.zero, i.size, i.bytes)) = some (some (.agg #[.int .u8 0, .int .u8 0, .int .u8 0, .int .u8 0, .int .u8 0, .int .u8 0, .int .u8 0, .int .u8 0, .int .u8 0, .int .u8 0, .int .u8 0, .int .u8 0, .int .u8 0, .int .u8 0, .int .u8 0, .int .u8 0]), 16, 16) := by kernel_rfl

theorem bell_p (W : World) (p q : Nat) (r : RS) (h : RingP W p q r) :
    Calls Try.prog 24 #[.pointer (some ⟨p, 0, none⟩)] W fun e w' => e = .returned (.int .i64 0) ∧ RingP w' p q r.bell ∧ Foot (Own2 p q) W w' := by
  obtain ⟨⟨c0, c1, c2, c3, c4, c5⟩, q0, q1, q2, q3, q4⟩ := h.ring.ring
  have hn := h.ok.pos.1
  go_enter Try.func24, Try.ntmps24
  go_wp2_with (first
    | (go_at_call 34; refine (missing_p p q r.n hn _ c5).mono ?_; rintro e w' ⟨rfl, rfl⟩)
    | (go_at_call 45; refine (show_p p _ _ _ c3 c4 q3).mono ?_; rintro e w' ⟨⟨v, rfl⟩, rfl⟩))
  go_ret
  refine ⟨rfl, ⟨h.ring.set 3 _, h.slots.same (Below.heap_setCell _ _ _ _ (Ne.symm h.ne)), h.ne, h.ok.bell⟩, (Foot.refl _ _).setCell (fun _ => .inl rfl) _⟩

theorem far_marks {r : RS} (h : r.Ok) {a b : Nat} (hab : a ≤ b) (hb : b < a + 4294967296) : far (r.mark a) (r.mark b) = (b : Int) - a := by
  unfold far
  rw [IntKind.wrap_u32]
  exact r.far_mark hab hb
theorem far_held {r : RS} (h : r.Ok) : far (r.mark r.c) (r.mark r.ds.length) = (r.ds.length : Int) - r.c := by
  have := h.ci; have := h.it; have := h.tb; have := h.bp; have := h.room; have := h.pos
  exact far_marks h (by omega) (by omega)

/-- what Post tells and leaves -/
def PostGives (p q : Nat) (r : RS) (i l f : Int) (d : Bool) (W : World) (e : Ending) (w' : World) : Prop :=
  e = .returned (.int .i64 (r.postE l d)) ∧ RingP w' p q (r.postR i l f d) ∧ Foot (Own2 p q) W w'

theorem post_p (W : World) (p q : Nat) (r : RS) (h : RingP W p q r) (i l f : Int) (d : Bool) (hi : 0 ≤ i) (hi1 : i ≤ 4294967295) (hl : 0 ≤ l) (hl1 : l ≤ 4294967295) (hf : 0 ≤ f) (hf1 : f ≤ 4294967295) :
    Calls Try.prog 23 #[.pointer (some ⟨p, 0, none⟩), dv i l f d] W (PostGives p q r i l f d W) := by
  have hn := h.ok.pos.1
  have hE : Foot (Own2 p q) W (W.alloc (.cells (dcs i l f d) 35)) := (Foot.refl _ _).alloc _
  have hA := h.alloc (.cells (dcs i l f d) 35)
  have c5 := hA.ring.ring.1.2.2.2.2.2
  go_enter Try.func23, Try.ntmps23
  go_wp2_with (go_at_call 34; refine (missing_p p q r.n hn _ c5).mono ?_; rintro e w' ⟨rfl, rfl⟩)
  refine (encode_p i l f d hi hi1 hl hl1 hf hf1 _).mono ?_
  rintro e w1 ⟨rfl, hb1⟩
  have h1 := hA.below hb1
  have hD : Held w1 W.heap.size 35 (dcs i l f d) := (Held.new W _ _).below hb1 (by simp)
  have hF1 := hE.then_below hb1
  clear hb1 hA hE c5
  obtain ⟨⟨d0, d1, d2, d3⟩, _⟩ := hD.desc
  rcases hr : (!rightB l || d)
  · obtain ⟨hr1, rfl⟩ : rightB l = true ∧ d = false := by simpa using hr
    have eE : encE l = 0 := by simp [encE, hr1]
    have eT : encT i l f false = encS i l f false := by simp [encT, hr1]
    rw [eE, eT]
    clear eE eT
    obtain ⟨⟨c0, c1, c2, c3, c4, c5⟩, q0, q1, q2, q3, q4⟩ := h1.ring.ring
    have hfar := far_held h.ok
    have hle : r.c ≤ r.ds.length := by have := h.ok.ci; have := h.ok.it; have := h.ok.tb; have := h.ok.bp; omega
    have hroom := h.ok.room
    by_cases hfull : r.ds.length = r.c + r.n
    · have hb : (far (r.mark r.c) (r.mark r.ds.length) == (r.n : Int)) = true := by rw [hfar]; simp; omega
      have hE : r.postE l false = 30 := by simp [RS.postE, hr1, hfull]
      have hR : r.postR i l f false = r := by simp [RS.postR, hfull]
      clear hfar hfull hle hroom
      go_wp2_with fail
      go_quiet ((go_at_call 44; exact Calls.quiet_of (held_p p _ _ _ c0 c4)))
      go_wp2
      go_ret
      exact ⟨by rw [hE]; rfl, by rw [hR]; exact h1.drewN _, hF1.drewN _⟩
    · have hb : (far (r.mark r.c) (r.mark r.ds.length) == (r.n : Int)) = false := by rw [hfar]; simp; omega
      have hE : r.postE l false = 0 := by simp [RS.postE, hr1, hfull]
      have hR : r.postR i l f false = r.post (i, l, f) := by simp [RS.postR, hr1, hfull]
      have hlt : r.ds.length < r.c + r.n := by omega
      have hl2 := (RS.rightB_iff l).1 hr1
      have hok : RS.okD (i, l, f) := ⟨hi, hi1, hl2.1, hl2.2, hf, hf1⟩
      have hsz := h.ok.isSize
      obtain ⟨m0, m1⟩ := mark_bd r r.ds.length
      have hslot := h.ok.slot_lt r.ds.length
      clear hfar hfull hle hroom
      go_wp2_with fail
      go_quiet ((go_at_call 44; exact Calls.quiet_of (held_p p _ _ _ c0 c4)))
      obtain ⟨w2, hw2⟩ : ∃ w2, w1.drewN nq = w2 := ⟨_, rfl⟩
      have h2 : RingP w2 p q r := by rw [← hw2]; exact h1.drewN _
      have hF2 : Foot (Own2 p q) W w2 := by rw [← hw2]; exact hF1.drewN _
      rw [hw2]
      clear hw2 h1 hF1 hD d0 d1 d2 d3 c0 c1 c2 c3 c4 c5 q0 q1 q2 q3 q4
      obtain ⟨⟨c0, c1, c2, c3, c4, c5⟩, _⟩ := h2.ring.ring
      go_wp2_with fail
      refine (at_p p q r.n _ hsz m0 m1 _ c5).mono ?_
      rintro e w3 ⟨rfl, hb3⟩
      have h3 := h2.below hb3
      have hF3 := hF2.then_below hb3
      clear hb3 h2 hF2 c0 c1 c2 c3 c4 c5
      go_wp2_with fail
      refine (store_p q (r.slot r.ds.length * 16) (encS i l f false) rfl _ (h3.slots.there1 hslot)).mono ?_
      rintro e w4 ⟨⟨v, rfl⟩, rfl⟩
      have hR4 : Held (w3.setCells q (r.slot r.ds.length * 16) (cellsU (slotL (encS i l f false)))) p 66 (rcells r q) := (heap_setCells_other q p h3.ne _ _ _).trans h3.ring
      have hS4 := h3.slots.set hslot (encS i l f false) (c' := (r.post (i, l, f)).cont) (fun m => h.ok.cont_post hok hlt m)
      have hF4 := Foot.setCells (b := q) (fun _ => .inr rfl) (cellsU (slotL (encS i l f false))) (r.slot r.ds.length * 16) w3 hF3
      generalize w3.setCells q (r.slot r.ds.length * 16) (cellsU (slotL (encS i l f false))) = w4 at hR4 hS4 hF4 ⊢
      clear h3 hF3
      obtain ⟨⟨c0, c1, c2, c3, c4, c5⟩, q0, q1, q2, q3, q4⟩ := hR4.ring
      go_wp2_with fail
      refine (advance_p p 4 _ _ c4 q4).mono ?_
      rintro e w5 ⟨⟨v5, rfl⟩, rfl⟩
      go_wp2
      go_ret
      refine ⟨by rw [hE]; rfl, ?_, hF4.setCell (fun _ => .inl rfl) _⟩
      rw [hR]
      refine ⟨?_, hS4.same (Below.heap_setCell _ _ _ _ (Ne.symm h.ne)), h.ne, h.ok.post hok hlt⟩
      have hs := hR4.set 4 (.int .u32 ((r.mark r.ds.length + 1) % 4294967296))
      rw [r.mark_succ] at hs ⊢
      show Held _ p _ (rcs (r.mark r.c) (r.mark r.i) (r.mark r.t) (r.mark r.b) (r.mark (r.ds ++ [(i, l, f)]).length) q r.n)
      rw [List.length_append]
      exact hs
  · have hE : r.postE l d = 20 := by simp [RS.postE, hr]
    have hR : r.postR i l f d = r := by simp [RS.postR, hr]
    rcases hr1 : rightB l
    · have eE : encE l = 20 := by simp [encE, hr1]
      rw [eE]
      go_wp2
      go_ret
      exact ⟨by rw [hE]; rfl, by rw [hR]; exact h1, hF1⟩
    · obtain rfl : d = true := by simpa [hr1] using hr
      have eE : encE l = 0 := by simp [encE, hr1]
      rw [eE]
      go_wp2
      go_ret
      exact ⟨by rw [hE]; rfl, by rw [hR]; exact h1, hF1⟩

/-- what pass tells and leaves -/
def PassGives (s : ByteArray) (p k : Nat) (t : TypeId) (cs : Array Value) (m : Int) (W : World) (e : Ending) (w' : World) : Prop :=
  e = .returned (.tuple #[dv (numAt s 0) (numAt s 4) (numAt s 8) (byteAt s 12 == 2), .int .i64 0]) ∧ Held w' p t (cs.setIfInBounds k (.int .u32 ((m + 1) % 4294967296))) ∧ Foot (· = p) W w'
theorem pass_p (s : ByteArray) (hs : decB s = true) (p k : Nat) (t : TypeId) (cs : Array Value) (m : Int) (W : World) (hp : Held W p t cs) (hk : cs[k]? = some (.int .u32 m)) :
    Calls Try.prog 37 #[.string s, .func (.func 40) #[.pointer (some ⟨p, k, none⟩)] #[]] W (PassGives s p k t cs m W) := by
  have hv : decV s = dv (numAt s 0) (numAt s 4) (numAt s 8) (byteAt s 12 == 2) := by simp [decV, hs]
  have he : decE s = 0 := by simp [decE, hs]
  have hlt := hp.lt
  go_enter Try.func37, Try.ntmps37
  go_wp2_with fail
  refine (decode_p s _).mono ?_
  rintro e w1 ⟨rfl, hb1⟩
  rw [hv, he]
  clear hv he
  have hF1 : Foot (· = p) W w1 := ((Foot.refl _ _).alloc _).then_below hb1
  have hp1 : Held w1 p t cs := (hp.alloc _).below hb1 (by simp; omega)
  have hR1 : Held w1 W.heap.size 35 (dcs 0 0 0 false) := (Held.new W _ _).below hb1 (by simp)
  have hz1 := hR1.lt
  clear hb1
  obtain ⟨w2, hw2⟩ : ∃ w2, w1.alloc (.cells (dcs (numAt s 0) (numAt s 4) (numAt s 8) (byteAt s 12 == 2)) 35) = w2 := ⟨_, rfl⟩
  have hF2 : Foot (· = p) W w2 := by rw [← hw2]; exact hF1.alloc _
  have hp2 : Held w2 p t cs := by rw [← hw2]; exact hp1.alloc _
  have hR2 : Held w2 W.heap.size 35 (dcs 0 0 0 false) := by rw [← hw2]; exact hR1.alloc _
  have hD2 : Held w2 w1.heap.size 35 (dcs (numAt s 0) (numAt s 4) (numAt s 8) (byteAt s 12 == 2)) := by rw [← hw2]; exact Held.new _ _ _
  have hc := (hp2.cell k).trans hk
  have hf := hp2.frozen k
  go_wp2_with fail
  clear hw2
  refine (advance_p p k m _ hc hf).mono ?_
  rintro e w3 ⟨⟨v, rfl⟩, rfl⟩
  have hF3 : Foot (· = p) W (w2.setCell ⟨p, k, none⟩ (.int .u32 ((m + 1) % 4294967296))) := hF2.setCell (fun _ => rfl) _
  have hp3 := hp2.set k (.int .u32 ((m + 1) % 4294967296))
  have hR3 := hR2.other (b' := p) (by omega) k (.int .u32 ((m + 1) % 4294967296))
  have hD3 := hD2.other (b' := p) (by omega) k (.int .u32 ((m + 1) % 4294967296))
  generalize w2.setCell ⟨p, k, none⟩ (.int .u32 ((m + 1) % 4294967296)) = w3 at hF3 hp3 hR3 hD3 ⊢
  clear hF2 hp2 hR2 hD2 hc hf
  obtain ⟨⟨r0, r1, r2, r3⟩, q0, q1, q2, q3⟩ := hR3.desc
  obtain ⟨⟨d0, d1, d2, d3⟩, _⟩ := hD3.desc
  go_wp2
  refine bodyPost_ret (v := .tuple #[dv (numAt s 0) (numAt s 4) (numAt s 8) (byteAt s 12 == 2), .int .i64 0]) (by simp [results, Try.results37, go_sem, r0, r1, r2, r3]) rfl ⟨rfl, ?_, ?_⟩
  · exact (((hp3.other (by omega) 0 _).other (by omega) 1 _).other (by omega) 2 _).other (by omega) 3 _
  · exact (((hF3.setCell (by simp) _).setCell (by simp) _).setCell (by simp) _).setCell (by simp) _

/-- what Fetch, Finish, Clean tell and leave -/
def DescGives (p q : Nat) (has : Bool) (d : PD) (dn : Bool) (r' : RS) (W : World) (e : Ending) (w' : World) : Prop :=
  e = .returned (.tuple #[bif has then dv d.1 d.2.1 d.2.2 dn else dv 0 0 0 false, .int .i64 (RS.emptyE has)]) ∧ RingP w' p q r' ∧ Foot (Own2 p q) W w'

theorem fetch_p (W : World) (p q : Nat) (r : RS) (h : RingP W p q r) :
    Calls Try.prog 20 #[.pointer (some ⟨p, 0, none⟩)] W (DescGives p q r.hasFetch (r.at_ r.t) false r.fetchR W) := by
  have hn := h.ok.pos.1
  have hA := h.alloc (.cells (dcs 0 0 0 false) 35)
  have hF0 : Foot (Own2 p q) W (W.alloc (.cells (dcs 0 0 0 false) 35)) := (Foot.refl _ _).alloc _
  have hR0 := Held.new W 35 (dcs 0 0 0 false)
  have c5 := hA.ring.ring.1.2.2.2.2.2
  go_enter Try.func20, Try.ntmps20
  go_wp2_with (go_at_call 34; refine (missing_p p q r.n hn _ c5).mono ?_; rintro e w' ⟨rfl, rfl⟩)
  generalize W.alloc (.cells (dcs 0 0 0 false) 35) = w1 at hA hF0 hR0 c5 ⊢
  obtain ⟨⟨c0, c1, c2, c3, c4, _⟩, _⟩ := hA.ring.ring
  have htb := h.ok.tb
  have hbp := h.ok.bp
  have hroom := h.ok.room
  have hpos := h.ok.pos
  have hci := h.ok.ci
  have hit := h.ok.it
  have hnp : W.heap.size ≠ p := by have := h.ring.lt; omega
  have hnq : W.heap.size ≠ q := by have := h.slots.lt; omega
  have hm := r.mark_eq (a := r.t) (b := r.b) htb (by omega)
  rcases hb : r.hasFetch
  · have e1 : r.t = r.b := by simp [RS.hasFetch] at hb; omega
    have hq : (r.mark r.t == r.mark r.b) = true := by simpa using hm.2 e1
    have hR : r.fetchR = r := by simp [RS.fetchR, hb]
    clear hm
    go_quiet (fail)
    obtain ⟨w2, hw2⟩ : ∃ w2, w1.drewN nq = w2 := ⟨_, rfl⟩
    have h2 : RingP w2 p q r := by rw [← hw2]; exact hA.drewN _
    have hF2 : Foot (Own2 p q) W w2 := by rw [← hw2]; exact hF0.drewN _
    have hR2 : Held w2 W.heap.size 35 (dcs 0 0 0 false) := by rw [← hw2]; exact hR0
    rw [hw2]
    clear hw2 hA hF0 hR0 c0 c1 c2 c3 c4 c5
    obtain ⟨⟨r0, r1, r2, r3⟩, q0, q1, q2, q3⟩ := hR2.desc
    go_wp2
    refine bodyPost_ret (v := .tuple #[dv 0 0 0 false, .int .i64 31]) (by simp [results, Try.results20, go_sem, r0, r1, r2, r3]) rfl ⟨by simp [hb, RS.emptyE], ?_, ?_⟩
    · rw [hR]
      exact (((h2.other hnp hnq 0 _).other hnp hnq 1 _).other hnp hnq 2 _).other hnp hnq 3 _
    · exact (((hF2.setCell (by simp) _).setCell (by simp) _).setCell (by simp) _).setCell (by simp) _
  · have hs := h.ok.isSize
    obtain ⟨m0, m1⟩ := mark_bd r r.t
    have hlt2 : r.t < r.b := by simpa [RS.hasFetch] using hb
    have hq : (r.mark r.t == r.mark r.b) = false := by simpa using fun e => absurd (hm.1 e) (by omega)
    have hR : r.fetchR = r.fetch := by simp [RS.fetchR, hb]
    have hat := h.ok.at_ok (j := r.t) (by omega)
    obtain ⟨hs1, hs2, hs3, hs4, hs5, hs6⟩ := hat
    have hbyt := h.ok.fetch_byt hlt2
    have hslot := h.ok.slot_lt r.t
    have hdec : decB (encS (r.at_ r.t).1 (r.at_ r.t).2.1 (r.at_ r.t).2.2 false) = true := by rw [decB_encS _ _ _ _ hs1 hs2 (by omega) (by omega) hs5 hs6]; exact (RS.rightB_iff _).2 ⟨hs3, hs4⟩
    obtain ⟨e1, e2, e3, e4⟩ := numAt_encS (r.at_ r.t).1 (r.at_ r.t).2.1 (r.at_ r.t).2.2 false hs1 hs2 (by omega) (by omega) hs5 hs6
    have HE := Lib.hid (And.intro e1 (And.intro e2 (And.intro e3 e4)))
    have HB := Lib.hid hbyt
    have HR := Lib.hid hR
    clear hm e1 e2 e3 e4 hbyt hR
    go_quiet (fail)
    obtain ⟨w2, hw2⟩ : ∃ w2, w1.drewN nq = w2 := ⟨_, rfl⟩
    have h2 : RingP w2 p q r := by rw [← hw2]; exact hA.drewN _
    have hF2 : Foot (Own2 p q) W w2 := by rw [← hw2]; exact hF0.drewN _
    have hR2 : Held w2 W.heap.size 35 (dcs 0 0 0 false) := by rw [← hw2]; exact hR0
    rw [hw2]
    clear hw2 hA hF0 hR0 c0 c1 c2 c3 c4 c5
    obtain ⟨⟨_, _, c2, _, _, c5⟩, _⟩ := h2.ring.ring
    have c2d : w2.drew.cell? ⟨p, 2, none⟩ = some (.int .u32 (r.mark r.t)) := c2
    go_wp2_with fail
    refine (wpIn_wide (n := 6)).1 ?_
    refine wpIn_region_G (fun w => w.cell? ⟨p, 2, none⟩ = some (.int .u32 (r.mark r.t))) 13 18 rfl (by kernel_rfl) (fun hcl => ?_)
    refine wpAnyG_take (i := 1) 8 (v := (.pointer (some ⟨p, 0, none⟩))) rfl rfl (by kernel_rfl) (by kernel_rfl) (by kernel_rfl) (fun _ _ _ h => h) (by kernel_rfl) (by decide) hcl ⟨by rfl, fun w hR => ?hy_1, fun _ => rfl⟩ c2d (fun hc1 => ?rest_1)
    case hy_1 => (try dsimp only at hR); go_simp; try (first | rfl | (intro h; omega) | omega)
    clear hcl; have hcl := hc1; clear hc1; simp only [Act.put, List.setIfInBounds_toArray]
    refine wpAnyG_take (i := 2) 8 (v := (.pointer (some ⟨p, 0, none⟩))) rfl rfl (by kernel_rfl) (by kernel_rfl) (by kernel_rfl) (fun _ _ _ h => h) (by kernel_rfl) (by decide) hcl ⟨by rfl, fun w hR => ?hy_2, fun _ => rfl⟩ c2d (fun hc1 => ?rest_2)
    case hy_2 => (try dsimp only at hR); go_simp; try (first | rfl | (intro h; omega) | omega)
    clear hcl; have hcl := hc1; clear hc1; simp only [Act.put]
    refine wpAnyG_take (i := 3) 8 (v := (.pointer (some ⟨p, 0, none⟩))) rfl rfl (by kernel_rfl) (by kernel_rfl) (by kernel_rfl) (fun _ _ _ h => h) (by kernel_rfl) (by decide) hcl ⟨by rfl, fun w hR => ?hy_3, fun _ => rfl⟩ c2d (fun hc1 => ?rest_3)
    case hy_3 => (try dsimp only at hR); go_simp; try (first | rfl | (intro h; omega) | omega)
    clear hcl; have hcl := hc1; clear hc1; simp only [Act.put]
    refine wpAnyG_take (i := 4) 8 (v := (.pointer (some ⟨p, 2, none⟩))) rfl rfl (by kernel_rfl) (by kernel_rfl) (by kernel_rfl) (fun _ _ _ h => h) (by kernel_rfl) (by decide) hcl ⟨by rfl, fun w hR => ?hy_4, fun _ => rfl⟩ c2d (fun hc1 => ?rest_4)
    case hy_4 => (try dsimp only at hR); go_simp; try (first | rfl | (intro h; omega) | omega)
    clear hcl; have hcl := hc1; clear hc1; simp only [Act.put]
    refine wpAnyG_take (i := 5) 8 (v := (.int .u32 (r.mark r.t))) rfl rfl (by kernel_rfl) (by kernel_rfl) (by kernel_rfl) (fun _ _ _ h => h) (by kernel_rfl) (by decide) hcl ⟨by rfl, fun w hR => ?hy_5, fun _ => rfl⟩ c2d (fun hc1 => ?rest_5)
    case hy_5 => (try dsimp only at hR); go_simp; try (first | rfl | (intro h; omega) | omega)
    clear hcl; have hcl := hc1; clear hc1; simp only [Act.put]
    refine wpAnyG_pure (i := 0) (v := (.pointer (some ⟨p, 0, none⟩))) rfl rfl (by kernel_rfl) (by kernel_rfl) (by kernel_rfl) (fun _ _ _ h => h) (by decide) ⟨by rfl, fun w _ => ?hy_6, fun _ => rfl⟩ (.inr c2d) ?rest_6
    case hy_6 => go_simp; try (first | rfl | (intro h; omega) | omega)
    simp only [Act.put]
    refine wpAnyG_pure (i := 8) (v := (.pointer (some ⟨p, 0, none⟩))) rfl rfl (by kernel_rfl) (by kernel_rfl) (by kernel_rfl) (fun _ _ _ h => h) (by decide) ⟨by rfl, fun w _ => ?hy_7, fun _ => rfl⟩ (.inr c2d) ?rest_7
    case hy_7 => go_simp; try (first | rfl | (intro h; omega) | omega)
    simp only [Act.put]
    refine wpAnyG_pure (i := 9) (v := (.pointer (some ⟨p, 0, none⟩))) rfl rfl (by kernel_rfl) (by kernel_rfl) (by kernel_rfl) (fun _ _ _ h => h) (by decide) ⟨by rfl, fun w _ => ?hy_8, fun _ => rfl⟩ (.inr c2d) ?rest_8
    case hy_8 => go_simp; try (first | rfl | (intro h; omega) | omega)
    simp only [Act.put]
    refine wpAnyG_pure (i := 10) (v := (.pointer (some ⟨p, 0, none⟩))) rfl rfl (by kernel_rfl) (by kernel_rfl) (by kernel_rfl) (fun _ _ _ h => h) (by decide) ⟨by rfl, fun w _ => ?hy_9, fun _ => rfl⟩ (.inr c2d) ?rest_9
    case hy_9 => go_simp; try (first | rfl | (intro h; omega) | omega)
    simp only [Act.put]
    refine wpAnyG_pure (i := 11) (v := (.pointer (some ⟨p, 2, none⟩))) rfl rfl (by kernel_rfl) (by kernel_rfl) (by kernel_rfl) (fun _ _ _ h => h) (by decide) ⟨by rfl, fun w _ => ?hy_10, fun _ => rfl⟩ (.inr c2d) ?rest_10
    case hy_10 => go_simp; try (first | rfl | (intro h; omega) | omega)
    simp only [Act.put]
    refine wpAnyG_pure (i := 12) (v := (.func (.func 40) #[.pointer (some ⟨p, 2, none⟩)] #[])) rfl rfl (by kernel_rfl) (by kernel_rfl) (by kernel_rfl) (fun _ _ _ h => h) (by decide) ⟨by rfl, fun w _ => ?hy_11, fun _ => rfl⟩ (.inr c2d) ?rest_11
    case hy_11 => go_simp; try (first | rfl | (intro h; omega) | omega)
    simp only [Act.put]
    refine wpAnyG_one (i := 6) (by kernel_rfl) rfl (fun K hK => ?_)
    go_simp
    refine ⟨trivial, (callsIn_wide.2 (at_p p q r.n _ hs m0 m1 w2.drew c5)).mono ?_⟩
    rintro e w3 ⟨rfl, hb3⟩
    have h3 := h2.drew.below hb3
    have hF3 := hF2.drew.then_below hb3
    have hR3 : Held w3 W.heap.size 35 (dcs 0 0 0 false) := Held.below (W := w2.drew) hR2 hb3 hR2.lt
    have c23 := h3.ring.ring.1.2.2.1
    refine hK _ _ (.inr c23) ?_
    clear hK K hb3 h2 hF2 hR2 c2 c2d c5
    refine wpAnyG_one (i := 7) (by kernel_rfl) rfl (fun K hK => ?_)
    go_simp
    refine ⟨trivial, (callsIn_wide.2 (text_p2 q (r.slot r.t * 16) _ _ (h3.slots.cells _ hslot) (r.cont_text _))).mono ?_⟩
    rintro e w4 ⟨rfl, rfl⟩
    refine hK _ _ (.inr c23) ?_
    clear hK K
    rw [HB.out]
    refine wpAnyG_one (i := 13) (by kernel_rfl) rfl (fun K hK => ?_)
    go_simp
    refine ⟨trivial, (callsIn_wide.2 (pass_p _ hdec p 2 _ _ (r.mark r.t) _ h3.ring rfl)).mono ?_⟩
    rintro e w4 ⟨rfl, hp4, hF4⟩
    rw [HE.out.1, HE.out.2.1, HE.out.2.2.1, HE.out.2.2.2]
    have hS4 := h3.slots.same (hF4.block q h3.slots.lt (Ne.symm h.ne))
    have hR4 := hR3.foot hF4 hnp
    have hF5 := hF3.trans hF4 (fun _ _ e => .inl e)
    rw [r.mark_succ] at hp4
    refine hK _ _ (.inl (by kernel_rfl)) ?_
    clear hK K h3 hF3 hR3 c23 hF4
    obtain ⟨⟨r0, r1, r2, r3⟩, q0, q1, q2, q3⟩ := hR4.desc
    refine wpAnyG_pure (i := 14) (v := (dv (r.at_ r.t).1 (r.at_ r.t).2.1 (r.at_ r.t).2.2 false)) rfl rfl (by kernel_rfl) (by kernel_rfl) (by kernel_rfl) (fun _ _ _ h => h) (by decide) ⟨by rfl, fun w _ => ?hy_201, fun _ => rfl⟩ (.inl (by kernel_rfl)) ?rest_201
    case hy_201 => go_simp; try (first | rfl | (intro h; omega) | omega)
    simp only [Act.put, List.setIfInBounds_toArray]
    refine wpAnyG_pure (i := 15) (v := (.int .i64 0)) rfl rfl (by kernel_rfl) (by kernel_rfl) (by kernel_rfl) (fun _ _ _ h => h) (by decide) ⟨by rfl, fun w _ => ?hy_202, fun _ => rfl⟩ (.inl (by kernel_rfl)) ?rest_202
    case hy_202 => go_simp; try (first | rfl | (intro h; omega) | omega)
    simp only [Act.put]
    refine wpAnyG_one (i := 16) (by kernel_rfl) rfl (fun K hK => ?_)
    go_simp
    refine hK _ _ (.inl (by kernel_rfl)) ?_
    clear hK K
    refine wpAnyG_one (i := 17) (by kernel_rfl) rfl (fun K hK => ?_)
    go_simp
    refine hK _ _ (.inl (by kernel_rfl)) ?_
    clear hK K
    refine wpAnyG_done (by kernel_rfl) ?_ _
    go_wp2
    refine bodyPost_ret (v := .tuple #[dv (r.at_ r.t).1 (r.at_ r.t).2.1 (r.at_ r.t).2.2 false, .int .i64 0]) (by simp [results, Try.results20, go_sem, r0, r1, r2, r3]) rfl ⟨by simp [hb, RS.emptyE], ?_, ?_⟩
    · rw [HR.out]
      have h5 : RingP w4 p q r.fetch := ⟨hp4, hS4, h.ne, h.ok.fetch hlt2⟩
      exact (((h5.other hnp hnq 0 _).other hnp hnq 1 _).other hnp hnq 2 _).other hnp hnq 3 _
    · exact (((hF5.setCell (by simp) _).setCell (by simp) _).setCell (by simp) _).setCell (by simp) _
end Go.Proofs.Ytfnhnicjomaelaa
