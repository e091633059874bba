/-
  Owners reckoned span by span. Mathematics alone.
-/
import Derived.Test.YtoofmklknffhpaaTableK
namespace Go.Proofs.Ytoofmklknffhpaa
set_option linter.unusedSimpArgs false
set_option linter.unusedVariables false

/-- the k-th span -/
def spK (l : List (Int × Int)) (k : Nat) : Int × Int := l.getD k (0, 0)
theorem spK_get {l : List (Int × Int)} {k : Nat} (h : k < l.length) : l[k]? = some (spK l k) := by
  rw [spK, List.getD_eq_getElem?_getD, List.getElem?_eq_getElem h]
  rfl
/-- no two spans of a list have a queue in common -/
def Apart (l : List (Int × Int)) : Prop := ∀ (q : Nat) (i j : Nat) (s s' : Int × Int), i < j → l[i]? = some s → l[j]? = some s' → inB q s = true → inB q s' = true → False
theorem apart_once {l : List (Int × Int)} (h : Apart l) (q : Nat) : onceB l q = true := onceB_of fun i j s s' hij hi hj hs hs' => h q i j s s' hij hi hj hs hs'
/-- owners, once k spans have been told -/
def ownK (l : List (Int × Int)) (k : Nat) (q : Nat) : Int := ownAt (l.take k) q 0
theorem ownK_zero (l : List (Int × Int)) (q : Nat) : ownK l 0 q = -1 := by
  rw [ownK, List.take_zero]
  exact ownAt_end (Nat.le_refl _)
theorem take_lt {l : List (Int × Int)} {k i : Nat} {s : Int × Int} (h : (l.take k)[i]? = some s) : i < k ∧ l[i]? = some s := by
  rw [List.getElem?_take] at h
  split at h
  · exact ⟨by assumption, h⟩
  · cases h
theorem take_of {l : List (Int × Int)} {k i : Nat} {s : Int × Int} (hk : i < k) (h : l[i]? = some s) : (l.take k)[i]? = some s := by
  rw [List.getElem?_take, if_pos hk]
  exact h
theorem ownK_none {l : List (Int × Int)} {k q : Nat} (h : ownK l k q = -1) {i : Nat} {s : Int × Int} (hi : i < k) (hs : l[i]? = some s) : inB q s = false := by
  rcases ownAt_spec (l.take k) q 0 with ⟨j, t, _, _, _, he, _⟩ | ⟨_, hn⟩
  · rw [ownK, he] at h
    omega
  · exact hn i s (Nat.zero_le _) (take_of hi hs)
theorem ownK_some {l : List (Int × Int)} {k q : Nat} (h : ownK l k q ≠ -1) : ∃ i s, i < k ∧ l[i]? = some s ∧ inB q s = true := by
  rcases ownAt_spec (l.take k) q 0 with ⟨j, t, _, hj, ht, _, _⟩ | ⟨he, _⟩
  · exact ⟨j, t, (take_lt hj).1, (take_lt hj).2, ht⟩
  · exact (h he).elim
/-- the next span, none of whose queues has an owner -/
theorem apart_next {l : List (Int × Int)} {k : Nat} (hk : k < l.length) (h : Apart (l.take k)) (hn : ∀ q : Nat, inB q (spK l k) = true → ownK l k q = -1) : Apart (l.take (k + 1)) := by
  intro q i j s s' hij hi hj hs hs'
  obtain ⟨hi1, hi2⟩ := take_lt hi
  obtain ⟨hj1, hj2⟩ := take_lt hj
  by_cases e : j = k
  · subst e
    have e2 := spK_get hk
    rw [hj2] at e2
    cases e2
    have := ownK_none (hn q hs') hij hi2
    rw [hs] at this
    cases this
  · exact h q i j s s' hij (take_of (by omega) hi2) (take_of (by omega) hj2) hs hs'
theorem ownK_next {l : List (Int × Int)} {k : Nat} (hk : k < l.length) (hn : ∀ q : Nat, inB q (spK l k) = true → ownK l k q = -1) (q : Nat) : ownK l (k + 1) q = if inB q (spK l k) = true then (k : Int) else ownK l k q := by
  rcases ownAt_spec (l.take (k + 1)) q 0 with ⟨j, t, _, hj, ht, he, hb⟩ | ⟨he, hb⟩
  · obtain ⟨hj1, hj2⟩ := take_lt hj
    rw [ownK, he]
    by_cases e : j = k
    · subst e
      have e2 := spK_get hk
      rw [hj2] at e2
      cases e2
      rw [if_pos ht]
    · have hne : ownK l k q ≠ -1 := fun h => by
        have := ownK_none h (show j < k by omega) hj2
        rw [ht] at this
        cases this
      rcases hib : inB q (spK l k) with _ | _
      · rw [if_neg (by simp)]
        rcases ownAt_spec (l.take k) q 0 with ⟨i, u, _, hi, hu, he', hb'⟩ | ⟨he', _⟩
        · obtain ⟨hi1, hi2⟩ := take_lt hi
          rw [ownK, he']
          rcases Nat.lt_trichotomy i j with h | h | h
          · have := hb i u (Nat.zero_le _) h (take_of (by omega) hi2)
            rw [hu] at this
            cases this
          · rw [h]
          · have := hb' j t (Nat.zero_le _) h (take_of (by omega) hj2)
            rw [ht] at this
            cases this
        · exact (hne he').elim
      · exact (hne (hn q hib)).elim
  · have h1 : inB q (spK l k) = false := hb k (spK l k) (Nat.zero_le _) (take_of (by omega) (spK_get hk))
    rw [if_neg (by simp [h1]), ownK, he]
    by_cases e : ownK l k q = -1
    · exact e.symm
    · obtain ⟨i, s, hi, hs, hin⟩ := ownK_some e
      have := hb i s (Nat.zero_le _) (take_of (by omega) hs)
      rw [hin] at this
      cases this
/-- a queue of the next span that has an owner is in two spans -/
theorem twice {l : List (Int × Int)} {k : Nat} (hk : k < l.length) {q : Nat} (hq : inB q (spK l k) = true) (ho : ownK l k q ≠ -1) : onceB l q = false := by
  obtain ⟨i, s, hi, hs, hin⟩ := ownK_some ho
  rcases h : onceB l q with _ | _
  · rfl
  · exact (onceB_two h hi hs (spK_get hk) hin hq).elim
/-- owners while a span is told: its queues below x are -/
def ownX (l : List (Int × Int)) (k x : Nat) (q : Nat) : Int := if (spK l k).1 ≤ (q : Int) ∧ q < x then (k : Int) else ownK l k q
theorem ownX_zero {l : List (Int × Int)} {k o : Nat} (ho : (spK l k).1 = (o : Int)) : ownX l k o = ownK l k := by
  funext q
  rw [ownX, ho, if_neg (by omega)]
theorem ownX_next {l : List (Int × Int)} {k x : Nat} {o : Nat} (ho : (spK l k).1 = (o : Int)) (hx : o ≤ x) : (fun q => if q = x then (k : Int) else ownX l k x q) = ownX l k (x + 1) := by
  funext q
  unfold ownX
  rw [ho]
  by_cases h : q = x
  · rw [if_pos h, if_pos (by omega)]
  · rw [if_neg h]
    by_cases h2 : (o : Int) ≤ q ∧ q < x
    · rw [if_pos h2, if_pos (by omega)]
    · rw [if_neg h2, if_neg (by omega)]
theorem ownX_at (l : List (Int × Int)) (k x : Nat) : ownX l k x x = ownK l k x := by
  unfold ownX
  rw [if_neg (by omega)]
theorem ownX_all {l : List (Int × Int)} {k o c : Nat} (hk : k < l.length) (ho : (spK l k).1 = (o : Int)) (hc : (spK l k).2 = (c : Int)) (hn : ∀ q : Nat, inB q (spK l k) = true → ownK l k q = -1) : ownX l k (o + c) = ownK l (k + 1) := by
  funext q
  rw [ownK_next hk hn]
  unfold ownX
  by_cases h : inB q (spK l k) = true
  · rw [if_pos h]
    simp only [inB, Bool.and_eq_true, decide_eq_true_eq] at h
    rw [if_pos (by omega)]
  · rw [if_neg h]
    simp only [inB, Bool.and_eq_true, decide_eq_true_eq] at h
    rw [if_neg (by omega)]
/-- 64 numbers, as cells -/
def byV (f : Nat → Int) : Array Value := ((List.range 64).map fun q => Value.int .i64 (f q)).toArray
theorem byV_size (f : Nat → Int) : (byV f).size = 64 := by simp [byV]
theorem byV_at (f : Nat → Int) {j : Nat} (h : j < 64) : (byV f).toList[j]? = some (.int .i64 (f j)) := by
  simp [byV, h]
theorem byV_set (f : Nat → Int) (j : Nat) (v : Int) : (byV f).setIfInBounds j (.int .i64 v) = byV (fun q => if q = j then v else f q) := by
  apply Array.ext
  · simp [byV]
  · intro i h1 h2
    simp only [byV, List.setIfInBounds_toArray, List.getElem_toArray, List.getElem_set, List.getElem_map, List.getElem_range]
    by_cases e : j = i
    · rw [if_pos e, if_pos e.symm]
    · rw [if_neg e, if_neg (fun h => e h.symm)]
theorem byV_congr {f g : Nat → Int} (h : ∀ q, q < 64 → f q = g q) : byV f = byV g := by
  unfold byV
  congr 1
  exact List.map_congr_left fun q hq => by rw [h q (List.mem_range.1 hq)]
theorem byV_one (f : Nat → Int) : (byV f).toList.all (·.oneCell') = true := by
  simp [byV, Value.oneCell']
/-- what a while of two loops comes to: whether no queue is in two spans, and the owners if so -/
def OwnsAll (l : List (Int × Int)) (Q : Nat) (f : Nat → Int) (v : Bool) : Prop := v = (List.range Q).all (fun k => onceB l k) ∧ (v = true → ∀ q : Nat, f q = ownAt l q 0)
theorem ownsAll_yes {l : List (Int × Int)} {Q : Nat} (h : Apart (l.take l.length)) : OwnsAll l Q (ownK l l.length) true := by
  refine ⟨Eq.symm (List.all_eq_true.2 fun k _ => ?_), fun _ q => by rw [ownK, List.take_length]⟩
  rw [List.take_length] at h
  exact apart_once h k
theorem ownsAll_no {l : List (Int × Int)} {Q : Nat} {f : Nat → Int} {q : Nat} (hq : q < Q) (h : onceB l q = false) : OwnsAll l Q f false :=
  ⟨Eq.symm (List.all_eq_false.2 ⟨q, List.mem_range.2 hq, by simp [h]⟩), fun h => by cases h⟩
end Go.Proofs.Ytoofmklknffhpaa
