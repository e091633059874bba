/-
  The program's Change, Settle, Lock, Unlock. Conditions: the cells lie where their pointer says. The program's visit of the locks that are held. Conditions: the cells lie where their pointer says.
-/
import Derived.Test.YtoajgaljccaccaaMGf
import Derived.Test.YtoajgaljccaccaaMGa
/- The program's Change, Settle, Lock, Unlock. Conditions: the cells lie where their pointer says. -/
section
namespace Go.Proofs.Ytoajgaljccaccaa.Ce
set_option linter.unusedSimpArgs false
set_option linter.unusedVariables false
set_option maxRecDepth 100000
open Go.ChangeShapes Go.WideShapes Go.ChangeAt Go.RowKit

theorem DidF.up {W w' : World} {own : Nat → Prop} {p N M : Nat} {s : CC} {v : Value} {e : Ending} (hM : N ≤ M) (h : DidF PAt11 W own p s N v e w') : DidF PAt11 W own p s M v e w' := by
  obtain ⟨he, ⟨own', ⟨oc, ol, os, bc, bl, bs, h1⟩, h2⟩, hf⟩ := h
  exact ⟨he, ⟨own', ⟨oc, ol, os, bc, bl, bs, { h1 with fits := h1.fits.mono hM }⟩, h2⟩, hf⟩
set_option maxHeartbeats 1600000 in
theorem advP (W : World) (own : Nat → Prop) (p : Nat) (s : CC) (N : Nat) (i f : Int) (hN : N ≤ 1000000) (h : PAt11 W own p s N) : Calls Try.prog 45 #[.pointer (some ⟨p, 0, none⟩), .int .i64 i, .int .i64 f] W (DidF PAt11 W own p (stepS s i f) (N + 1) (.int .i64 (stepE s i f))) := by
  obtain ⟨oc, ol, os, bc, bl, bs, h⟩ := h
  have HD := Lib.hid h
  have hnot : ∀ (x : Bool) (w : World), (Op.unary .not (.bool x)).run Try.prog w = .ok (.bool (!x)) w := fun _ _ => rfl
  cases hh : has s.s i with
  | false =>
    have k1 := count_no W own oc ol os p bc bl bs s N i h hh
    have e2 : stepE s i f = 2 := by rw [stepE, if_pos hh]
    have e1 : stepS s i f = s := by rw [stepS, e2]; rfl
    rw [e1, e2]
    clear h hh e1 e2
    go_enter Try.func45, Try.ntmps45
    go_wp2_with (first
    | go_skip
    | (go_at_call 40; refine k1.mono ?_; rintro e w2 ⟨rfl, hb⟩))
    go_ret
    exact (HD.out.same rfl hb).up (Nat.le_succ _)
  | true =>
    obtain ⟨k, rfl, hk, hv⟩ := has_at hh
    have k1 := count_yes W own oc ol os p bc bl bs s N k h hh
    have hm := h.fits.fs _ (val_mem hh)
    have hne : ¬ has s.s k = false := by rw [hh]; decide
    by_cases hx : val s.s k % 2 = f
    · have e2 : stepE s k f = 0 := by rw [stepE, if_neg hne, if_pos hx]
      have e1 : stepS s k f = { s with s := put s.s k (val s.s k + 1) } := by rw [stepS, if_pos e2]
      rw [e1, e2]
      have tq : ((val s.s k).tmod 2 != f) = false := by rw [Int.tmod_eq_emod_of_nonneg hm.1]; simpa using hx
      clear h hh e1 e2 hv hne hx
      have w1 : IntKind.i64.wrap (val s.s k + 1) = val s.s k + 1 := wrap_id (by omega) (by omega)
      go_enter Try.func45, Try.ntmps45
      go_wp2_with (first
    | go_skip
    | (go_at_call 40; refine k1.mono ?_; rintro e w2 ⟨d, rfl, G⟩; have gc := G.cell; have gz := G.froz; have G' := Lib.hid G; clear G k1)
    | (go_at_call 36; refine (at_load d _ _ _ gc).mono ?_; rintro e w3 ⟨rfl, rfl⟩)
    | (go_at_call 41; refine (parity_p _ _).mono ?_; rintro e w4 ⟨rfl, rfl⟩)
    | (go_at_call 39; refine (at_cas_hit d _ (val s.s k) (val s.s k) (val s.s k + 1) _ gc gz rfl).mono ?_; rintro e w3 ⟨rfl, rfl⟩))
      go_ret
      exact G'.out.set (val s.s k + 1) (N + 1) _ _ (Nat.le_succ _) ⟨by omega, by omega⟩ rfl
    · have e2 : stepE s k f = 111 := by rw [stepE, if_neg hne, if_neg hx]
      have e1 : stepS s k f = s := by rw [stepS, e2]; rfl
      rw [e1, e2]
      have tq : ((val s.s k).tmod 2 != f) = true := by rw [Int.tmod_eq_emod_of_nonneg hm.1]; simpa using hx
      clear h hh e1 e2 hv hne hx
      go_enter Try.func45, Try.ntmps45
      go_wp2_with (first
    | go_skip
    | (go_at_call 40; refine k1.mono ?_; rintro e w2 ⟨d, rfl, G⟩; have gc := G.cell; have gz := G.froz; have G' := Lib.hid G; clear G k1)
    | (go_at_call 36; refine (at_load d _ _ _ gc).mono ?_; rintro e w3 ⟨rfl, rfl⟩)
    | (go_at_call 41; refine (parity_p _ _).mono ?_; rintro e w4 ⟨rfl, rfl⟩))
      go_ret
      exact (G'.out.same _ _ rfl).up (Nat.le_succ _)
theorem advN (W : World) (i f : Int) : Calls Try.prog 45 #[.pointer none, .int .i64 i, .int .i64 f] W fun e w' => e = .returned (.int .i64 1) ∧ Below W.heap.size W w' := by
  have HB := Lib.hid (Below.refl W.heap.size W)
  have k1 := fun i => count_nil W i
  go_enter Try.func45, Try.ntmps45
  go_wp2_with (first
    | go_skip
    | (go_at_call 40; refine (k1 _).mono ?_; rintro e w2 ⟨rfl, rfl⟩))
  go_ret
  exact ⟨rfl, HB.out⟩
theorem changeOP (W : World) (own : Nat → Prop) (p : Nat) (s : CC) (N : Nat) (i : Int) (hi : I64 i) (hN : N ≤ 1000000) (h : PAt11 W own p s N) : Calls Try.prog 25 #[.pointer (some ⟨p, 0, none⟩), .int .i64 i] W (DidF PAt11 W own p (stepS s i 0) (N + 1) (.int .i64 (stepE s i 0))) := by
  have k1 := advP W own p s N i 0 hN h
  clear h
  go_enter Try.func25, Try.ntmps25
  go_wp2_with (first
    | go_skip
    | (go_at_call 45; refine k1.mono ?_; rintro e w2 ⟨rfl, hd⟩))
  go_ret
  exact ⟨rfl, hd⟩
theorem changeON (W : World) (i : Int) : Calls Try.prog 25 #[.pointer none, .int .i64 i] W fun e w' => e = .returned (.int .i64 1) ∧ Below W.heap.size W w' := by
  have k1 := advN W i 0
  go_enter Try.func25, Try.ntmps25
  go_wp2_with (first
    | go_skip
    | (go_at_call 45; refine k1.mono ?_; rintro e w2 ⟨rfl, hb⟩))
  go_ret
  exact ⟨rfl, hb⟩
theorem settleOP (W : World) (own : Nat → Prop) (p : Nat) (s : CC) (N : Nat) (i : Int) (hi : I64 i) (hN : N ≤ 1000000) (h : PAt11 W own p s N) : Calls Try.prog 26 #[.pointer (some ⟨p, 0, none⟩), .int .i64 i] W (DidF PAt11 W own p (stepS s i 1) (N + 1) (.int .i64 (stepE s i 1))) := by
  have k1 := advP W own p s N i 1 hN h
  clear h
  go_enter Try.func26, Try.ntmps26
  go_wp2_with (first
    | go_skip
    | (go_at_call 45; refine k1.mono ?_; rintro e w2 ⟨rfl, hd⟩))
  go_ret
  exact ⟨rfl, hd⟩
theorem settleON (W : World) (i : Int) : Calls Try.prog 26 #[.pointer none, .int .i64 i] W fun e w' => e = .returned (.int .i64 1) ∧ Below W.heap.size W w' := by
  have k1 := advN W i 1
  go_enter Try.func26, Try.ntmps26
  go_wp2_with (first
    | go_skip
    | (go_at_call 45; refine k1.mono ?_; rintro e w2 ⟨rfl, hb⟩))
  go_ret
  exact ⟨rfl, hb⟩
/-- what a lock's passing leaves -/
def passE (s : CC) (i a from' : Int) : Int := if (has s.l i && actor a) = false then 2 else if val s.l i = from' then 0 else 110
def passS (s : CC) (i a from' to' : Int) : CC := if passE s i a from' = 0 then { s with l := put s.l i to' } else s
set_option maxHeartbeats 1600000 in
theorem passP (W : World) (own : Nat → Prop) (p : Nat) (s : CC) (N : Nat) (i a x y : Int) (hy : actor a = true → 0 ≤ y ∧ y ≤ 64) (h : PAt11 W own p s N) : Calls Try.prog 43 #[.pointer (some ⟨p, 0, none⟩), .int .i64 i, .int .i64 a, .int .i64 x, .int .i64 y] W (DidF PAt11 W own p (passS s i a x y) N (.int .i64 (passE s i a x))) := by
  obtain ⟨oc, ol, os, bc, bl, bs, h⟩ := h
  have HD := Lib.hid h
  have hnot : ∀ (x : Bool) (w : World), (Op.unary .not (.bool x)).run Try.prog w = .ok (.bool (!x)) w := fun _ _ => rfl
  have hb0 : Below W.heap.size W (W.alloc (.cells (ints [a]) 3)) := (Below.refl _ _).alloc (Nat.le_refl _) _
  have HB := Lib.hid hb0
  cases hh : (has s.l i && actor a) with
  | false =>
    have k1 := lock_no _ own oc ol os p bc bl bs s N i a _ _ (h.below hb0) (Held.new W 3 (ints [a])) hh
    have e2 : passE s i a x = 2 := by rw [passE, if_pos hh]
    have e1 : passS s i a x y = s := by rw [passS, e2]; rfl
    rw [e1, e2]
    clear h hh e1 e2 hb0
    go_enter Try.func43, Try.ntmps43
    go_wp2_with (first
    | go_skip
    | (go_at_call 60; refine k1.mono ?_; rintro e w2 ⟨rfl, hb⟩))
    go_ret
    exact HD.out.same rfl (HB.out.trans (hb.mono HB.out.size))
  | true =>
    have hne : ¬ (has s.l i && actor a) = false := by rw [hh]; decide
    have hh' := hh
    rw [Bool.and_eq_true] at hh
    obtain ⟨k, rfl, hk, hv⟩ := has_at hh.1
    have k1 := lock_yes _ own oc ol os p bc bl bs s N k a _ _ (h.below hb0) (Held.new W 3 (ints [a])) hh.1 hh.2
    have hy := hy hh.2
    by_cases hx : val s.l k = x
    · have e2 : passE s k a x = 0 := by rw [passE, if_neg hne, if_pos hx]
      have e1 : passS s k a x y = { s with l := put s.l k y } := by rw [passS, if_pos e2]
      rw [e1, e2]
      clear h hh hh' e1 e2 hv hne hb0
      go_enter Try.func43, Try.ntmps43
      go_wp2_with (first
    | go_skip
    | (go_at_call 60; refine k1.mono ?_; rintro e w2 ⟨d, rfl, G⟩; have gc := G.cell; have gz := G.froz; have G' := Lib.hid (G.from HB.out); clear G k1)
    | (go_at_call 39; refine (at_cas_hit d _ _ x y _ gc gz hx).mono ?_; rintro e w3 ⟨rfl, rfl⟩))
      go_ret
      exact G'.out.set y N _ _ (Nat.le_refl _) hy rfl
    · have e2 : passE s k a x = 110 := by rw [passE, if_neg hne, if_neg hx]
      have e1 : passS s k a x y = s := by rw [passS, e2]; rfl
      rw [e1, e2]
      clear h hh hh' e1 e2 hv hne hb0
      go_enter Try.func43, Try.ntmps43
      go_wp2_with (first
    | go_skip
    | (go_at_call 60; refine k1.mono ?_; rintro e w2 ⟨d, rfl, G⟩; have gc := G.cell; have gz := G.froz; have G' := Lib.hid (G.from HB.out); clear G k1)
    | (go_at_call 39; refine (at_cas_miss d _ _ x y _ gc gz hx).mono ?_; rintro e w3 ⟨rfl, rfl⟩))
      go_ret
      exact G'.out.same _ _ rfl
theorem passN (W : World) (i a x y : Int) : Calls Try.prog 43 #[.pointer none, .int .i64 i, .int .i64 a, .int .i64 x, .int .i64 y] W fun e w' => e = .returned (.int .i64 1) ∧ Below W.heap.size W w' := by
  have hb0 : Below W.heap.size W (W.alloc (.cells (ints [a]) 3)) := (Below.refl _ _).alloc (Nat.le_refl _) _
  have HB := Lib.hid hb0
  clear hb0
  have k1 := fun w v => lock_nil w i v
  go_enter Try.func43, Try.ntmps43
  go_wp2_with (first
    | go_skip
    | (go_at_call 60; refine (k1 _ _).mono ?_; rintro e w2 ⟨rfl, rfl⟩))
  go_ret
  exact ⟨rfl, HB.out⟩
theorem actor_in {a : Int} (h : actor a = true) : 0 ≤ a ∧ a < 64 := by
  simpa [actor] using h
theorem pass_lock (s : CC) (i a z : Int) (hz : actor a = true → z = a + 1) : passE s i a 0 = lockE s i a ∧ passS s i a 0 z = lockS s i a := by
  have e : passE s i a 0 = lockE s i a := rfl
  refine ⟨e, ?_⟩
  unfold passS lockS
  rw [e]
  by_cases hq : lockE s i a = 0
  · rw [if_pos hq, if_pos hq]
    have hx : actor a = true := by
      cases ha : actor a with
      | true => rfl
      | false =>
        exfalso
        rw [lockE, ha, Bool.and_false, if_pos rfl] at hq
        omega
    rw [hz hx]
  · rw [if_neg hq, if_neg hq]
theorem pass_unlock (s : CC) (i a z : Int) (hz : actor a = true → z = a + 1) : passE s i a z = unlockE s i a ∧ passS s i a z 0 = unlockS s i a := by
  have e : passE s i a z = unlockE s i a := by
    cases hq : (has s.l i && actor a) with
    | false => rw [passE, unlockE, if_pos hq, if_pos hq]
    | true =>
      have hx := hq
      rw [Bool.and_eq_true] at hx
      rw [passE, unlockE, hz hx.2]
  refine ⟨e, ?_⟩
  unfold passS unlockS
  rw [e]
theorem lockOP (W : World) (own : Nat → Prop) (p : Nat) (s : CC) (N : Nat) (i a : Int) (hi : I64 i) (ha : I64 a) (hN : N ≤ 1000000) (h : PAt11 W own p s N) : Calls Try.prog 23 #[.pointer (some ⟨p, 0, none⟩), .int .i64 i, .int .i64 a] W (DidF PAt11 W own p (lockS s i a) N (.int .i64 (lockE s i a))) := by
  obtain ⟨z, hz⟩ : ∃ z, IntKind.i64.wrap (a + 1) = z := ⟨_, rfl⟩
  have hza : actor a = true → z = a + 1 := fun hx => by
    have := actor_in hx
    rw [← hz]
    exact wrap_id (by omega) (by omega)
  have k1 := passP W own p s N i a 0 z (fun hx => by have h1 := actor_in hx; have h2 := hza hx; omega) h
  have hp := pass_lock s i a z hza
  rw [hp.1, hp.2] at k1
  clear hp hza h
  go_enter Try.func23, Try.ntmps23
  go_wp2_with (first
    | go_skip
    | (go_at_call 43; refine k1.mono ?_; rintro e w2 ⟨rfl, hd⟩)
    | (go_at_call 44; refine (held_p _ z hz _).mono ?_; rintro e w4 ⟨rfl, rfl⟩))
  go_ret
  exact ⟨rfl, hd⟩
theorem lockON (W : World) (i a : Int) : Calls Try.prog 23 #[.pointer none, .int .i64 i, .int .i64 a] W fun e w' => e = .returned (.int .i64 1) ∧ Below W.heap.size W w' := by
  obtain ⟨z, hz⟩ : ∃ z, IntKind.i64.wrap (a + 1) = z := ⟨_, rfl⟩
  have k1 := passN W i a 0 z
  go_enter Try.func23, Try.ntmps23
  go_wp2_with (first
    | go_skip
    | (go_at_call 43; refine k1.mono ?_; rintro e w2 ⟨rfl, hb⟩)
    | (go_at_call 44; refine (held_p _ z hz _).mono ?_; rintro e w4 ⟨rfl, rfl⟩))
  go_ret
  exact ⟨rfl, hb⟩
theorem unlockOP (W : World) (own : Nat → Prop) (p : Nat) (s : CC) (N : Nat) (i a : Int) (hi : I64 i) (ha : I64 a) (hN : N ≤ 1000000) (h : PAt11 W own p s N) : Calls Try.prog 24 #[.pointer (some ⟨p, 0, none⟩), .int .i64 i, .int .i64 a] W (DidF PAt11 W own p (unlockS s i a) N (.int .i64 (unlockE s i a))) := by
  obtain ⟨z, hz⟩ : ∃ z, IntKind.i64.wrap (a + 1) = z := ⟨_, rfl⟩
  have hza : actor a = true → z = a + 1 := fun hx => by
    have := actor_in hx
    rw [← hz]
    exact wrap_id (by omega) (by omega)
  have k1 := passP W own p s N i a z 0 (fun hx => by have h1 := actor_in hx; have h2 := hza hx; omega) h
  have hp := pass_unlock s i a z hza
  rw [hp.1, hp.2] at k1
  clear hp hza h
  go_enter Try.func24, Try.ntmps24
  go_wp2_with (first
    | go_skip
    | (go_at_call 43; refine k1.mono ?_; rintro e w2 ⟨rfl, hd⟩)
    | (go_at_call 44; refine (held_p _ z hz _).mono ?_; rintro e w4 ⟨rfl, rfl⟩))
  go_ret
  exact ⟨rfl, hd⟩
theorem unlockON (W : World) (i a : Int) : Calls Try.prog 24 #[.pointer none, .int .i64 i, .int .i64 a] W fun e w' => e = .returned (.int .i64 1) ∧ Below W.heap.size W w' := by
  obtain ⟨z, hz⟩ : ∃ z, IntKind.i64.wrap (a + 1) = z := ⟨_, rfl⟩
  have k1 := passN W i a z 0
  go_enter Try.func24, Try.ntmps24
  go_wp2_with (first
    | go_skip
    | (go_at_call 43; refine k1.mono ?_; rintro e w2 ⟨rfl, hb⟩)
    | (go_at_call 44; refine (held_p _ z hz _).mono ?_; rintro e w4 ⟨rfl, rfl⟩))
  go_ret
  exact ⟨rfl, hb⟩
end Go.Proofs.Ytoajgaljccaccaa.Ce
end
/- The program's visit of the locks that are held. Conditions: the cells lie where their pointer says. -/
section
namespace Go.Proofs.Ytoajgaljccaccaa.Ce
set_option linter.unusedSimpArgs false
set_option linter.unusedVariables false
set_option maxRecDepth 100000
attribute [local go_sem] Oper.semAt_some
open Go.ChangeShapes Go.WideShapes Go.ChangeAt Go.RowKit Go.Maps Go.Shelf

/-- the cells lie there, whatever was made since -/
def GH (w : World) (own : Nat → Prop) (p : Nat) (s : CC) (N : Nat) (V : World) : Prop := ∃ own', PAt11 V own' p s N ∧ ∀ i, own' i → own i ∨ w.heap.size + 2 ≤ i
/-- what the visit may change ahead of its rounds -/
def RelH (w : World) (own : Nat → Prop) (p : Nat) (s : CC) (N : Nat) (X Y : World) : Prop := Foot own X Y ∧ (GH w own p s N X → GH w own p s N Y)
theorem GH.below {w : World} {own : Nat → Prop} {p N : Nat} {s : CC} {X Y : World} (h : GH w own p s N X) (hb : Below X.heap.size X Y) : GH w own p s N Y := by
  obtain ⟨own', h1, h2⟩ := h
  exact ⟨own', PAt11.pt.on h1 (fun i hi => hb.block i (PAt11.pt.lt h1 i hi)) hb.size, h2⟩
theorem GH.foot {w : World} {own : Nat → Prop} {p N b : Nat} {s : CC} {X Y : World} (h : GH w own p s N X) (hf : Foot (· = b) X Y) (hb : ¬ own b) (hb2 : b < w.heap.size + 2) : GH w own p s N Y := by
  obtain ⟨own', h1, h2⟩ := h
  refine ⟨own', PAt11.pt.on h1 (fun i hi => hf.block i (PAt11.pt.lt h1 i hi) fun e => ?_) hf.size, h2⟩
  have e : i = b := e
  subst e
  rcases h2 i hi with h3 | h3
  · exact hb h3
  · omega
theorem RelH.below {w : World} {own : Nat → Prop} {p N : Nat} {s : CC} (X Y : World) (hb : Below X.heap.size X Y) : RelH w own p s N X Y := ⟨Foot.of_below hb, fun h => h.below hb⟩
/-- the k-th lock -/
def lk (s : CC) (k : Nat) : Int := s.l.getD k 0
abbrev encL (s : CC) (k : Nat) : Array Value := #[.int .i64 (k : Int), .int .i64 (lk s k - 1)]
theorem lk_of {s : CC} {k : Nat} {y : Int} (h : s.l[k]? = some y) : lk s k = y := by rw [lk, List.getD_eq_getElem?_getD, h]; rfl
def AnsweredH (l : Nat) (J Jx : Nat → World → Prop) (k : Nat) (W : World) (y : Bool) (W' : World) : Prop := (y = true → J (k + 1) W' ∧ Foot (· = l) W W') ∧ (y = false → Jx k W')
theorem answeredH (l : Nat) (J Jx : Nat → World → Prop) (k : Nat) (W : World) : ∀ (e : Ending) (W' : World), ((e = .returned (.bool true) ∧ J (k + 1) W' ∧ Foot (· = l) W W') ∨ (e = .returned (.bool false) ∧ Jx k W')) → ∃ y, e = .returned (.bool y) ∧ AnsweredH l J Jx k W y W' := by
  rintro e W' (⟨rfl, h1⟩ | ⟨rfl, h1⟩)
  · exact ⟨true, rfl, fun _ => h1, (fun h => by cases h)⟩
  · exact ⟨false, rfl, (fun h => by cases h), fun _ => h1⟩
theorem results_none {fn : Func} (h : fn.results = #[]) (tmps : Array Value) (P : Program) (w : World) : (results fn tmps).run P w = .ok (.tuple #[]) w := by
  simp [results, h, go_sem]
set_option maxHeartbeats 4000000 in
theorem holders_seq (n : Nat) (hn : 2 ≤ n) (own oc ol os : Nat → Prop) (p bc bl bs : Nat) (s : CC) (N : Nat) (w : World) (h : PAtS w own oc ol os p bc bl bs s N) :
    SeqRel (RelH w own p s N) (fun k => ¬ lk s k = 0) Fence.wide n Try.prog 37 #[.pointer (some ⟨p, 0, none⟩)] (encL s) s.l.length w := by
  intro l J Jx W hW hl hsz hJ hskip hY h0
  have hD := h.below hW
  have c0 : W.cell? ⟨p, 0, none⟩ = some (.pointer (some ⟨bc, 0, none⟩)) := hD.box.cell 0
  have c1 : W.cell? ⟨p, 1, none⟩ = some (.pointer (some ⟨bl, 0, none⟩)) := hD.box.cell 1
  have k1 := missing_no p bc W c0
  have k2 := all_d W ol bl s.l hD.hl
  have HF := Lib.hid h.fits.fl
  have hll : ∀ i, ol i → i < w.heap.size := fun i hi => h.hl.lt i hi
  have hrel : ∀ d ol' W1, NMade W1 ol' bl d s.l → (∀ i, ol' i → ol i ∨ W.heap.size ≤ i) → Foot ol W W1 → RelH w own p s N W W1 := fun d ol' W1 hm ho hf => by
    have hd := hD.chl (.inr ⟨d, hm⟩) ho hf hD.fits (rfl : Ending.returned (.bool true) = .returned (.bool true))
    obtain ⟨_, ⟨own', q1, q2⟩, q3⟩ := hd
    exact ⟨q3, fun _ => ⟨own', q1, fun i hi => (q2 i hi).imp id fun h => by omega⟩⟩
  obtain ⟨M, hM⟩ : ∃ M, s.l.length = M := ⟨_, rfl⟩
  have HM := Lib.hid hM
  have HL := Lib.hid (And.intro hl (And.intro hsz hll))
  have hle : M ≤ 1000 := by rw [← hM]; exact h.fits.ln
  rw [hM] at hskip hY ⊢
  have HH := Lib.hid (And.intro hJ (And.intro hskip (And.intro hY (And.intro h0 hrel))))
  clear hM hJ hskip hY h0 hrel hl hsz hll h hD hW
  refine callsIn_of_wp Try.func37 rfl trivial ?_ rfl
  simp only [Try.ntmps37, List.size_toArray, List.length_cons, List.length_nil, Nat.reduceAdd, Nat.reduceSub, Array.replicate_succ, Array.replicate_zero, List.push_toArray, List.append_toArray, List.nil_append, List.cons_append]
  gi_wp2_with (first
    | (refine ⟨trivial, fun _ => by omega, ?_⟩; gi_at_call 52; refine (callsIn_wide.2 (k1)).mono ?_; rintro e w2 ⟨rfl, hw⟩; rw [hw]; clear hw w2)
    | (refine ⟨trivial, fun _ => by omega, ?_⟩; gi_at_call 55; refine (callsIn_wide.2 (k2)).mono ?_; rintro e w2 ⟨d, ol', rfl, hm, ho, hf⟩; rw [sl, HM.out]))
  clear c0 c1 k1 k2
  have hj0 := HH.out.1 0 _ _ HH.out.2.2.2.1 (HH.out.2.2.2.2 d ol' w2 hm ho hf)
  obtain ⟨t, ht⟩ := hm.row
  have hdl : d ≠ l := by
    have h1 := HL.out
    rcases ho d ((hm.own d).2 (.inr rfl)) with h2 | h2
    · have := h1.2.2 d h2
      omega
    · omega
  have hsz2 := hf.size
  gi_loopw [16] (fun i wr => ∃ k : Nat, k ≤ M ∧ i = .int .i64 k ∧ Held wr d t (ints s.l) ∧ W.heap.size ≤ wr.heap.size ∧ Hid (J k wr)) (fun i _ => M - (intOf i).toNat)
  case atStart => exact ⟨0, Nat.zero_le _, rfl, ht, hsz2, Lib.hid hj0⟩
  case round =>
    clear ht hj0 hsz2 hm ho hf
    obtain ⟨k, hk, rfl, ht, hsz2, HJ⟩ := hrel
    by_cases hlt : (k : Int) < (M : Int)
    · have hkM : k < M := by omega
      obtain ⟨y, hy⟩ : ∃ y, s.l[k]? = some y := ⟨s.l[k]'(by have := HM.out; omega), List.getElem?_eq_getElem _⟩
      have g0 := Held.num ht hy
      have hb := HF.out y (List.mem_of_getElem? hy)
      have hlk := lk_of hy
      have w1 : IntKind.i64.wrap (y - 1) = y - 1 := wrap_id (by omega) (by omega)
      have k3 := at_load d k y wr g0
      have k4 := fun W => holderOf_p y (y - 1) w1 W
      have t0 : ¬ ((k : Int) < 0) := by omega
      have t2 : ¬ M ≤ k := by omega
      have HT := Lib.hid ht
      by_cases h0 : y = 0
      · have e1 : (y - 1 != -1) = false := by rw [h0]; rfl
        have hj2 := HH.out.2.1 k wr hkM (fun hn => hn (by rw [hlk]; exact h0)) HJ.out
        have HJ2 := Lib.hid hj2
        clear hj2 hy hb hlk ht h0 HJ
        gi_wp2_with (first
          | (refine ⟨trivial, fun _ => by omega, ?_⟩; gi_at_call 36; refine (callsIn_wide.2 (k3)).mono ?_; rintro e w2 ⟨rfl, hw⟩; rw [hw]; clear hw w2)
          | (refine ⟨trivial, fun _ => by omega, ?_⟩; gi_at_call 56; refine (callsIn_wide.2 (k4 _)).mono ?_; rintro e w2 ⟨rfl, hw⟩; rw [hw]; clear hw w2))
        refine ⟨(fun _ h => by cases h), ?_⟩
        gi_wp2
        go_roundw
        case rel => exact ⟨k + 1, by omega, by go_num, HT.out, hsz2, HJ2⟩
        case measure => simp [intOf]; omega
      · have e1 : (y - 1 != -1) = true := by simp; omega
        obtain ⟨fn, tmps, assign, body, hyy0, hR0⟩ := HH.out.2.2.1 k wr hkM (fun hn => h0 (by rw [← hlk]; exact hn)) HJ.out hsz2
        rw [encL, hlk] at hyy0
        have hyy : (Instr.yield l #[.int .i64 (k : Int), .int .i64 (y - 1)]).run Try.prog wr = _ := hyy0
        have hR := hR0.mono (answeredH l J Jx k wr)
        clear hyy0 hR0 hy hb hlk ht h0 HJ
        gi_wp2_with (first
          | (refine ⟨trivial, fun _ => by omega, ?_⟩; gi_at_call 36; refine (callsIn_wide.2 (k3)).mono ?_; rintro e w2 ⟨rfl, hw⟩; rw [hw]; clear hw w2)
          | (refine ⟨trivial, fun _ => by omega, ?_⟩; gi_at_call 56; refine (callsIn_wide.2 (k4 _)).mono ?_; rintro e w2 ⟨rfl, hw⟩; rw [hw]; clear hw w2))
        refine ⟨fun _ => by omega, hR.mono ?_⟩
        rintro e W3 ⟨v, rfl, hA⟩
        clear hR hyy k3 g0
        cases v
        · have hJx3 := hA.2 rfl
          gi_wp2
          refine bodyPost_ret (results_none rfl _ _ _) rfl ?_
          exact ⟨⟨_, rfl⟩, .inr ⟨k, hkM, hJx3⟩⟩
        · obtain ⟨hJ3, hk3⟩ := hA.1 rfl
          have ht3 := HT.out.foot hk3 hdl
          have hs3 := hk3.size
          have HJ3 := Lib.hid hJ3
          have HT3 := Lib.hid ht3
          clear hJ3 hk3 hA ht3 HT
          gi_wp2
          go_roundw
          case rel => exact ⟨k + 1, by omega, by go_num, HT3.out, by omega, HJ3⟩
          case measure => simp [intOf]; omega
    · obtain rfl : k = M := by omega
      clear ht
      gi_wp2
      go_end0
      exact ⟨⟨_, rfl⟩, .inl HJ.out⟩
end Go.Proofs.Ytoajgaljccaccaa.Ce
end
