/-
  The document's wheel in memory; its Cancel and Turn. Conditions: those that each theorem names.
-/
import Derived.Test.YtbnfjppidmiheaaWheelA
namespace Go.Proofs.Ytbnfjppidmiheaa
set_option linter.unusedSimpArgs false
set_option linter.unusedVariables false
open Go.ChangeShapes Go.WideShapes Go.ChangeAt Go.RowKit

/-- a slice of timers: where they lie, below n -/
def SlT (W : World) (n : Nat) (v : Value) (l : List Tm) : Prop :=
  ∃ A b o cap, v = .slice A l.length cap ∧ l.length ≤ cap ∧ cap ≤ maxLen ∧ (A = none ∧ cap = 0 ∨ A = some ⟨b, o, none⟩ ∧ b < n) ∧ Tms W b o l
theorem SlT.below {W W' : World} {n m : Nat} {v : Value} {l : List Tm} (h : SlT W n v l) (hb : Below m W W') (hn : n ≤ m) : SlT W' n v l := by
  obtain ⟨A, b, o, cap, h1, h2, h3, h4, h5⟩ := h
  refine ⟨A, b, o, cap, h1, h2, h3, h4, ?_⟩
  rcases h4 with ⟨_, rfl⟩ | ⟨_, h4⟩
  · exact ⟨fun k t hk => by rw [List.eq_nil_of_length_eq_zero (l := l) (by omega)] at hk; cases hk⟩
  · exact h5.below hb (by omega)
theorem tmCs_get {l : List Tm} : ∀ {k : Nat} {t : Tm}, l[k]? = some t → (tmCs l)[k * 2]? = some (.int .u64 t.1) ∧ (tmCs l)[k * 2 + 1]? = some (.int .i64 t.2) := by
  induction l with
  | nil => intro k t h; cases h
  | cons a l ih =>
    intro k t h
    have e : tmCs (a :: l) = .int .u64 a.1 :: .int .i64 a.2 :: tmCs l := rfl
    rw [e]
    cases k with
    | zero => cases h; exact ⟨rfl, rfl⟩
    | succ k =>
      have := ih (k := k) (t := t) h
      rw [show (k + 1) * 2 = k * 2 + 1 + 1 by omega]
      simpa using this
theorem SlT.of_row {W : World} {base : Nat} {v : Value} {l : List Tm} (h : W.ownsRow base 41 2 v l.length (tmCs l)) : SlT W W.heap.size v l := by
  rcases h.2 with ⟨rfl, h0⟩ | ⟨g, cap, cur, rfl, hg, hc, h1, h2, h3, h4⟩
  · refine ⟨none, 0, 0, 0, by rw [h0], by omega, by simp [maxLen], .inl ⟨rfl, rfl⟩, ⟨fun k t hk => ?_⟩⟩
    rw [List.eq_nil_of_length_eq_zero h0] at hk
    cases hk
  · refine ⟨_, g, 0, cap, rfl, h1, h2, .inr ⟨rfl, (Array.getElem?_eq_some_iff.1 hc).1⟩, ⟨fun k t hk => ?_⟩⟩
    obtain ⟨k1, k2⟩ := tmCs_get hk
    have e := h.cells (g := g) rfl
    have e1 := e _ _ k1
    have e2 := e _ _ k2
    rw [addr_add] at e1 e2
    rw [Nat.zero_add]
    exact ⟨e1, e2⟩
/-- the document's wheel -/
structure WhR (W : World) (p : Nat) (s : WS) : Prop where
  box : ∃ v n, Held W p 30 #[v, .int .u64 s.clk] ∧ SlT W n v s.l ∧ n ≤ W.heap.size ∧ (∀ b, v.ownBlock = some b → b ≠ p)
theorem WhR.lt {W : World} {p : Nat} {s : WS} (h : WhR W p s) : p < W.heap.size := by
  obtain ⟨v, n, h1, _⟩ := h.box
  exact h1.lt
theorem WhR.below {W W' : World} {p : Nat} {s : WS} (h : WhR W p s) (hb : Below W.heap.size W W') : WhR W' p s := by
  obtain ⟨v, n, h1, h2, h3, h4⟩ := h.box
  exact ⟨v, n, h1.below hb h1.lt, h2.below hb h3, Nat.le_trans h3 hb.size, h4⟩
theorem ownsRow_len {W : World} {base : Nat} {e : TypeId} {size : Nat} {v : Value} {n : Nat} {xs : List Value} (h : W.ownsRow base e size v n xs) : ∃ a c, v = .slice a n c := by
  rcases h.2 with ⟨rfl, rfl⟩ | ⟨g, cap, cur, rfl, _⟩
  · exact ⟨none, 0, rfl⟩
  · exact ⟨_, _, rfl⟩
theorem SlT.cellset {W : World} {p j : Nat} {u v : Value} {n : Nat} {l : List Tm} (h : SlT W n v l) (hp : ∀ b, v.ownBlock = some b → b ≠ p) : SlT (W.setCell ⟨p, j, none⟩ u) n v l := by
  obtain ⟨A, b, o, cap, rfl, h2, h3, h4, h5⟩ := h
  refine ⟨A, b, o, cap, rfl, h2, h3, h4, ⟨fun k t hk => ?_⟩⟩
  rcases h4 with ⟨_, rfl⟩ | ⟨rfl, h4⟩
  · rw [List.eq_nil_of_length_eq_zero (l := l) (by omega)] at hk
    cases hk
  · have hne : b ≠ p := hp b rfl
    have e : ∀ i, (W.setCell ⟨p, j, none⟩ u).cell? ⟨b, i, none⟩ = W.cell? ⟨b, i, none⟩ := fun i => World.cell?_of_block (Below.heap_setCell _ _ _ _ hne)
    rw [e, e]
    exact h5.cell k t hk
set_option maxHeartbeats 1000000 in
theorem cancel_r (W : World) (p : Nat) (s : WS) (key : Int) (h : WhR W p s) (hlen : s.l.length ≤ 1000) : Calls Try.prog 15 #[.pointer (some ⟨p, 0, none⟩), .int .i64 key] W fun e w' =>
    e = .returned (.bool (s.cancelB key)) ∧ WhR w' p (s.cancel key) ∧ Foot (· = p) W w' := by
  obtain ⟨v, n, g, hv, hn, hne⟩ := h.box
  obtain ⟨A, b, o, cap, rfl, h2, h3, h4, h5⟩ := hv
  have c0 : W.cell? ⟨p, 0, none⟩ = some (.slice A s.l.length cap) := g.cell 0
  have lp := g.lt
  have hwo := without_r A b o cap s.l key hlen W (fun h0 => by rcases h4 with ⟨_, rfl⟩ | ⟨h4, _⟩; omega; exact h4) (fun h0 => by rcases h4 with ⟨_, rfl⟩ | ⟨_, h4⟩ <;> omega) h5
  unfold WS.cancelB
  clear h4 h5
  go_enter Try.func15, Try.ntmps15
  go_wp2_with (go_at_call 24; refine hwo.mono ?_; rintro e w1 ⟨v1, rfl, hown, hB⟩; obtain ⟨a1, c1, rfl⟩ := ownsRow_len hown; have g1 := g.below hB lp; have d0 : w1.cell? ⟨p, 0, none⟩ = some (.slice A s.l.length cap) := g1.cell 0; have d1 := g1.frozen 0; clear c0 hwo)
  go_ret
  have hob : ∀ b, (Value.slice a1 (Tm.wo s.l key).length c1).ownBlock = some b → b ≠ p := fun b hb => by have := (hown.lt b hb).1; omega
  refine ⟨rfl, ⟨_, w1.heap.size, g1.set 0 _, (SlT.of_row hown).cellset hob, by simp [World.setCell], hob⟩, ?_⟩
  exact (Foot.of_below (B := (· = p)) hB).setCell (p := ⟨p, 0, none⟩) (fun _ => rfl) _
theorem due_take {now : Int} : ∀ {l : List Tm} {k : Nat}, (∀ j t, j < k → l[j]? = some t → t.1 ≤ now) → (∀ t, l[k]? = some t → ¬ t.1 ≤ now) → Tm.due l now = l.take k ∧ Tm.later l now = l.drop k
  | [], k, _, _ => by simp [Tm.due, Tm.later]
  | a :: l, 0, _, h2 => by
    have h := h2 a rfl
    have e : decide (a.1 ≤ now) = false := decide_eq_false h
    constructor
    · unfold Tm.due
      rw [List.takeWhile_cons, e]
      rfl
    · unfold Tm.later
      rw [List.dropWhile_cons, e]
      rfl
  | a :: l, k + 1, h1, h2 => by
    have h := h1 0 a (by omega) rfl
    have e : decide (a.1 ≤ now) = true := decide_eq_true h
    obtain ⟨i1, i2⟩ := due_take (l := l) (k := k) (fun j t hj hg => h1 (j + 1) t (by omega) (by simpa using hg)) (fun t hg => h2 t (by simpa using hg))
    constructor
    · unfold Tm.due at *
      rw [List.takeWhile_cons, e, List.take_succ_cons, ← i1]
      rfl
    · unfold Tm.later at *
      rw [List.dropWhile_cons, e, List.drop_succ_cons, ← i2]
      rfl
theorem Tms.take {W : World} {b o : Nat} {l : List Tm} (h : Tms W b o l) (k : Nat) : Tms W b o (l.take k) := ⟨fun j t hj => h.cell j t (by
  rw [List.getElem?_take] at hj
  split at hj
  · exact hj
  · cases hj)⟩
theorem Tms.drop {W : World} {b o : Nat} {l : List Tm} (h : Tms W b o l) (k : Nat) : Tms W b (o + k * 2) (l.drop k) := ⟨fun j t hj => by
  rw [List.getElem?_drop] at hj
  have := h.cell (k + j) t hj
  rw [show o + k * 2 + j * 2 = o + (k + j) * 2 by omega]
  exact this⟩
theorem Tms.cellset {W : World} {b o p j : Nat} {u : Value} {l : List Tm} (h : Tms W b o l) (hne : b ≠ p) : Tms (W.setCell ⟨p, j, none⟩ u) b o l := ⟨fun k t hk => by
  have e : ∀ i, (W.setCell ⟨p, j, none⟩ u).cell? ⟨b, i, none⟩ = W.cell? ⟨b, i, none⟩ := fun i => World.cell?_of_block (Below.heap_setCell _ _ _ _ hne)
  rw [e, e]
  exact h.cell k t hk⟩
set_option maxRecDepth 100000 in
set_option maxHeartbeats 2000000 in
theorem turn_r (W : World) (p : Nat) (s : WS) (now : Int) (hn0 : 0 ≤ now ∧ now ≤ 18446744073709551615) (h : WhR W p s) (hok : s.Ok) : Calls Try.prog 17 #[.pointer (some ⟨p, 0, none⟩), .int .u64 now] W fun e w' =>
    ∃ v, e = .returned (.tuple #[v, .int .i64 (s.turnE now)]) ∧ SlT w' W.heap.size v (s.turned now) ∧ (∀ b, v.ownBlock = some b → b ≠ p) ∧ WhR w' p (s.turn now) ∧ Foot (· = p) W w' := by
  obtain ⟨v, n, g, hv, hn, hne⟩ := h.box
  obtain ⟨A, b, o, cap, rfl, h2, h3, h4, h5⟩ := hv
  have c0 : W.cell? ⟨p, 0, none⟩ = some (.slice A s.l.length cap) := g.cell 0
  have c1 : W.cell? ⟨p, 1, none⟩ = some (.int .u64 s.clk) := g.cell 1
  have f1 := g.frozen 1
  have lp := g.lt
  by_cases he : s.turnE now = 0
  · have ht : s.turn now = ⟨Tm.later s.l now, now⟩ := if_pos he
    have hd : s.turned now = Tm.due s.l now := if_pos he
    have hb := WS.turnE_0 he
    rw [he, ht, hd]
    have e1 : decide (now < s.clk) = false := decide_eq_false (by omega)
    have e2 : decide (9223372036854775807 < now) = false := decide_eq_false (by omega)
    clear he ht hd
    obtain ⟨W1, hW1⟩ : ∃ W1, W.setCell ⟨p, 1, none⟩ (.int .u64 now) = W1 := ⟨_, rfl⟩
    have g1 : Held W1 p 30 #[.slice A s.l.length cap, .int .u64 now] := by rw [← hW1]; exact g.set 1 _
    have F1 : Foot (· = p) W W1 := by rw [← hW1]; exact Foot.cell W ⟨p, 1, none⟩ _
    have d0 : W1.cell? ⟨p, 0, none⟩ = some (.slice A s.l.length cap) := g1.cell 0
    have d1 := g1.frozen 0
    have hT1 : Tms W1 b o s.l := by
      obtain ⟨A', b', o', cap', q1, q2, q3, q4, q5⟩ := (show SlT W n (.slice A s.l.length cap) s.l from ⟨A, b, o, cap, rfl, h2, h3, h4, h5⟩).cellset (p := p) (j := 1) (u := .int .u64 now) hne
      rw [hW1] at q5
      refine ⟨fun k t hk => ?_⟩
      cases q1
      rcases q4 with ⟨_, rfl⟩ | ⟨q4, _⟩
      · rw [List.eq_nil_of_length_eq_zero (l := s.l) (by omega)] at hk
        cases hk
      · rcases h4 with ⟨h4, _⟩ | ⟨h4, _⟩
        · rw [h4] at q4
          cases q4
        · rw [h4] at q4
          cases q4
          exact q5.cell k t hk
    obtain ⟨m, hm⟩ : ∃ m, s.l.length = m := ⟨_, rfl⟩
    have HM := Lib.hid hm
    have hlen := hok.len
    rw [hm] at g g1 c0 d0 h2 hlen
    have H4 := Lib.hid h4
    have HT := Lib.hid hT1
    have HW := Lib.hid hW1
    have HNE := Lib.hid hne
    clear hm h4 hT1 h5 hne
    go_enter Try.func17, Try.ntmps17
    go_wp2
    go_loopw [6] (fun i wr => ∃ k : Nat, k ≤ m ∧ i = .int .i64 k ∧ (∀ j t, j < k → s.l[j]? = some t → t.1 ≤ now) ∧ wr = W1) (fun i _ => m - (intOf i).toNat)
    case atStart => exact ⟨0, Nat.zero_le _, rfl, (fun j t h => by omega), by first | rfl | exact HW.out⟩
    case round =>
      obtain ⟨k, hk, rfl, hall, hwr⟩ := hrel
      subst hwr
      by_cases hlt : k < m
      · obtain ⟨t, ht⟩ : ∃ t, s.l[k]? = some t := ⟨s.l[k]'(by rw [HM.out]; exact hlt), List.getElem?_eq_getElem _⟩
        obtain ⟨x0, x1⟩ := HT.out.cell k t ht
        obtain rfl : A = some ⟨b, o, none⟩ := by rcases H4.out with ⟨_, h0⟩ | ⟨h0, _⟩; omega; exact h0
        by_cases hle : t.1 ≤ now
        · have e3 : decide (t.1 ≤ now) = true := decide_eq_true hle
          have HH := Lib.hid (And.intro hall ht)
          clear hall ht
          go_wp2
          go_roundw
          case rel =>
            refine ⟨k + 1, by omega, by go_num, fun j t' hj hj2 => ?_, by first | rfl | trivial⟩
            by_cases hjk : j = k
            · subst hjk
              rw [HH.out.2] at hj2
              cases hj2
              exact hle
            · exact HH.out.1 j t' (by omega) hj2
          case measure => simp [intOf]; omega
        · have e3 : decide (t.1 ≤ now) = false := decide_eq_false hle
          have HH := Lib.hid (And.intro hall ht)
          clear hall ht
          go_wp2
          refine bodyPost_ret (v := .tuple #[.slice (some ⟨b, o, none⟩) k cap, .int .i64 0]) (by simp [results, Try.results17, Sem.run_bind, Result.andThen]) rfl ?_
          have hbn : b ≠ p := HNE.out b rfl
          have hbl : b < n := by rcases H4.out with ⟨h0, _⟩ | ⟨_, h0⟩; cases h0; exact h0
          obtain ⟨q1, q2⟩ := due_take HH.out.1 (fun t' h' => by rw [HH.out.2] at h'; cases h'; omega)
          have hlt2 : (s.l.take k).length = k := by rw [List.length_take, HM.out]; omega
          have hld : (s.l.drop k).length = m - k := by rw [List.length_drop, HM.out]
          have hT2 := HT.out.cellset (j := 0) (u := .slice (some ⟨b, o + k * 2, none⟩) (m - k) (cap - k)) hbn
          refine ⟨_, rfl, ?_, fun b' hb' => by cases hb'; exact hbn, ⟨_, n, g1.set 0 _, ?_, ?_, fun b' hb' => by cases hb'; exact hbn⟩, ?_⟩
          · rw [q1]
            exact ⟨_, b, o, cap, by rw [hlt2], by omega, h3, .inr ⟨rfl, by omega⟩, hT2.take k⟩
          · show SlT _ n _ (Tm.later s.l now)
            rw [q2]
            exact ⟨_, b, o + k * 2, cap - k, by rw [hld], by omega, by omega, .inr ⟨rfl, hbl⟩, hT2.drop k⟩
          · have := F1.size
            simp [World.setCell]
            omega
          · exact F1.setCell (p := ⟨p, 0, none⟩) (fun _ => rfl) _
      · obtain rfl : k = m := by omega
        clear hlt
        obtain ⟨q1, q2⟩ := due_take hall (fun t' h' => by rw [List.getElem?_eq_none (by rw [HM.out]; omega)] at h'; cases h')
        have q3 : s.l.take k = s.l := List.take_of_length_le (by rw [HM.out]; omega)
        have q4 : s.l.drop k = [] := List.drop_of_length_le (by rw [HM.out]; omega)
        rw [q3] at q1
        rw [q4] at q2
        have HQ := Lib.hid (And.intro q1 q2)
        clear q1 q2 q3 q4 hall
        rcases H4.out with ⟨rfl, hc0⟩ | ⟨rfl, hbl⟩
        · obtain rfl : k = 0 := by omega
          subst hc0
          go_wp2
          refine bodyPost_ret (v := .tuple #[.slice none 0 0, .int .i64 0]) (by simp [results, Try.results17, Sem.run_bind, Result.andThen]) rfl ?_
          have hnil : s.l = [] := List.eq_nil_of_length_eq_zero HM.out
          obtain ⟨q1, q2⟩ := HQ.out
          refine ⟨_, rfl, ?_, (fun b' hb' => by cases hb'), ⟨_, n, g1.set 0 _, ?_, ?_, (fun b' hb' => by cases hb')⟩, ?_⟩
          · rw [q1, hnil]
            exact ⟨none, 0, 0, 0, rfl, by simp, by simp [maxLen], .inl ⟨rfl, rfl⟩, ⟨fun k t hk => by cases hk⟩⟩
          · show SlT _ n _ (Tm.later s.l now)
            rw [q2]
            exact ⟨none, 0, 0, 0, rfl, by simp, by simp [maxLen], .inl ⟨rfl, rfl⟩, ⟨fun k t hk => by cases hk⟩⟩
          · have := F1.size
            simp [World.setCell]
            omega
          · exact F1.setCell (p := ⟨p, 0, none⟩) (fun _ => rfl) _
        · by_cases hck : cap = k
          · subst hck
            go_wp2
            refine bodyPost_ret (v := .tuple #[.slice (some ⟨b, o, none⟩) cap cap, .int .i64 0]) (by simp [results, Try.results17, Sem.run_bind, Result.andThen]) rfl ?_
            have hbn : b ≠ p := HNE.out b rfl
            obtain ⟨q1, q2⟩ := HQ.out
            refine ⟨_, rfl, ?_, (fun b' hb' => by cases hb'; exact hbn), ⟨_, n, g1.set 0 _, ?_, ?_, (fun b' hb' => by cases hb'; exact hbn)⟩, ?_⟩
            · rw [q1]
              exact ⟨_, b, o, cap, by rw [HM.out], by rw [HM.out]; omega, h3, .inr ⟨rfl, by omega⟩, HT.out.cellset hbn⟩
            · show SlT _ n _ (Tm.later s.l now)
              rw [q2]
              first
                | exact ⟨_, b, o, 0, rfl, by simp, by simp [maxLen], .inr ⟨rfl, hbl⟩, ⟨fun k t hk => by cases hk⟩⟩
                | exact ⟨_, b, o + k * 2, cap - k, rfl, by simp, by omega, .inr ⟨rfl, hbl⟩, ⟨fun k t hk => by cases hk⟩⟩
            · have := F1.size
              simp [World.setCell]
              omega
            · exact F1.setCell (p := ⟨p, 0, none⟩) (fun _ => rfl) _
          · go_wp2
            refine bodyPost_ret (v := .tuple #[.slice (some ⟨b, o, none⟩) k cap, .int .i64 0]) (by simp [results, Try.results17, Sem.run_bind, Result.andThen]) rfl ?_
            have hbn : b ≠ p := HNE.out b rfl
            obtain ⟨q1, q2⟩ := HQ.out
            refine ⟨_, rfl, ?_, (fun b' hb' => by cases hb'; exact hbn), ⟨_, n, g1.set 0 _, ?_, ?_, (fun b' hb' => by cases hb'; exact hbn)⟩, ?_⟩
            · rw [q1]
              exact ⟨_, b, o, cap, by rw [HM.out], by rw [HM.out]; omega, h3, .inr ⟨rfl, by omega⟩, HT.out.cellset hbn⟩
            · show SlT _ n _ (Tm.later s.l now)
              rw [q2]
              first
                | exact ⟨_, b, o, 0, rfl, by simp, by simp [maxLen], .inr ⟨rfl, hbl⟩, ⟨fun k t hk => by cases hk⟩⟩
                | exact ⟨_, b, o + k * 2, cap - k, rfl, by simp, by omega, .inr ⟨rfl, hbl⟩, ⟨fun k t hk => by cases hk⟩⟩
            · have := F1.size
              simp [World.setCell]
              omega
            · exact F1.setCell (p := ⟨p, 0, none⟩) (fun _ => rfl) _
  · have ht : s.turn now = s := if_neg he
    have hd : s.turned now = [] := if_neg he
    have h50 : s.turnE now = 50 := by
      unfold WS.turnE at he ⊢
      split
      · rfl
      · rename_i hh
        exact absurd (if_neg hh) he
    have hbad : now < s.clk ∨ 9223372036854775807 < now := by
      unfold WS.turnE at he
      split at he
      · rename_i hh
        exact hh
      · exact absurd rfl he
    rw [h50, ht, hd]
    clear ht hd h50 he
    have HWH := Lib.hid h
    clear h h4 h5
    by_cases h1 : now < s.clk
    · have e1 : decide (now < s.clk) = true := decide_eq_true h1
      clear hbad
      go_enter Try.func17, Try.ntmps17
      go_wp2
      refine bodyPost_ret (v := .tuple #[.slice none 0 0, .int .i64 50]) (by simp [results, Try.results17, Sem.run_bind, Result.andThen]) rfl ?_
      exact ⟨_, rfl, ⟨none, 0, 0, 0, rfl, by simp, by simp [maxLen], .inl ⟨rfl, rfl⟩, ⟨fun k t hk => by cases hk⟩⟩, (fun b' hb' => by cases hb'), HWH.out, Foot.refl _ _⟩
    · have e1 : decide (now < s.clk) = false := decide_eq_false h1
      have e2 : decide (9223372036854775807 < now) = true := decide_eq_true (by omega)
      clear hbad
      go_enter Try.func17, Try.ntmps17
      go_wp2
      refine bodyPost_ret (v := .tuple #[.slice none 0 0, .int .i64 50]) (by simp [results, Try.results17, Sem.run_bind, Result.andThen]) rfl ?_
      exact ⟨_, rfl, ⟨none, 0, 0, 0, rfl, by simp, by simp [maxLen], .inl ⟨rfl, rfl⟩, ⟨fun k t hk => by cases hk⟩⟩, (fun b' hb' => by cases hb'), HWH.out, Foot.refl _ _⟩
end Go.Proofs.Ytbnfjppidmiheaa
