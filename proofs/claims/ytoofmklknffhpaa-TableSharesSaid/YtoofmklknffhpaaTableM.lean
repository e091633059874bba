/-
  Tables: which are valid, owners of queues. Mathematics alone.
-/
namespace Go.Proofs.Ytoofmklknffhpaa
set_option linter.unusedSimpArgs false
set_option linter.unusedVariables false

/-- a table -/
structure TB where
  q : Int
  cl : List Int
  sp : List (Int × Int)
/-- is a queue in a span -/
def inB (q : Int) (s : Int × Int) : Bool := decide (s.1 ≤ q) && decide (q - s.1 < s.2)
/-- the class of a queue, from a class on -/
def ownAt (l : List (Int × Int)) (q : Int) (i : Nat) : Int :=
  if h : i < l.length then (if inB q l[i] then (i : Int) else ownAt l q (i + 1)) else -1
termination_by l.length - i
theorem ownAt_hit {l : List (Int × Int)} {q : Int} {i : Nat} {s : Int × Int} (h : l[i]? = some s) (hi : inB q s = true) : ownAt l q i = i := by
  obtain ⟨hl, hs⟩ := List.getElem?_eq_some_iff.1 h
  rw [ownAt, dif_pos hl, hs, if_pos hi]
theorem ownAt_miss {l : List (Int × Int)} {q : Int} {i : Nat} {s : Int × Int} (h : l[i]? = some s) (hi : inB q s = false) : ownAt l q i = ownAt l q (i + 1) := by
  obtain ⟨hl, hs⟩ := List.getElem?_eq_some_iff.1 h
  conv => lhs; rw [ownAt]
  rw [dif_pos hl, hs, if_neg (by simp [hi])]
theorem ownAt_end {l : List (Int × Int)} {q : Int} {i : Nat} (h : l.length ≤ i) : ownAt l q i = -1 := by
  rw [ownAt, dif_neg (by omega)]
/-- what an owner is: the first one from i on that has it, or none has it -/
theorem ownAt_spec (l : List (Int × Int)) (q : Int) (i : Nat) : (∃ k s, i ≤ k ∧ l[k]? = some s ∧ inB q s = true ∧ ownAt l q i = k ∧ ∀ j s', i ≤ j → j < k → l[j]? = some s' → inB q s' = false) ∨
    (ownAt l q i = -1 ∧ ∀ j s', i ≤ j → l[j]? = some s' → inB q s' = false) := by
  by_cases h : i < l.length
  · obtain ⟨s, hs⟩ : ∃ s, l[i]? = some s := ⟨l[i], List.getElem?_eq_getElem h⟩
    rcases hb : inB q s with _ | _
    · rw [ownAt_miss hs hb]
      rcases ownAt_spec l q (i + 1) with ⟨k, s', hk, hs', hb', he, hn⟩ | ⟨he, hn⟩
      · refine .inl ⟨k, s', by omega, hs', hb', he, fun j t hj hjk ht => ?_⟩
        by_cases e : j = i
        · subst e
          rw [hs] at ht
          cases ht
          exact hb
        · exact hn j t (by omega) hjk ht
      · refine .inr ⟨he, fun j t hj ht => ?_⟩
        by_cases e : j = i
        · subst e
          rw [hs] at ht
          cases ht
          exact hb
        · exact hn j t (by omega) ht
    · exact .inl ⟨i, s, Nat.le_refl _, hs, hb, ownAt_hit hs hb, fun j t hj hjk _ => absurd hjk (by omega)⟩
  · exact .inr ⟨ownAt_end (by omega), fun j t hj ht => absurd (List.getElem?_eq_some_iff.1 ht).1 (by omega)⟩
termination_by l.length - i
/-- may a span be -/
def spanOk (q : Int) (s : Int × Int) : Bool := decide (0 ≤ s.1) && decide (1 ≤ s.2) && decide (s.1 ≤ q) && decide (s.2 ≤ q - s.1)
/-- has a queue one class at most -/
def onceB (l : List (Int × Int)) (k : Int) : Bool := !(decide (0 ≤ ownAt l k 0) && decide (0 ≤ ownAt l k ((ownAt l k 0).toNat + 1)))
def classOk (n : Nat) (x : Int) : Bool := decide (0 ≤ x) && decide (x < n)
def TB.ok0 (t : TB) : Bool := decide (1 ≤ t.q) && decide (t.q ≤ 64) && decide (1 ≤ t.sp.length) && decide (t.sp.length ≤ 16) && decide (t.cl.length = 16)
def TB.ok1 (t : TB) : Bool := t.sp.all (spanOk t.q)
def TB.ok2 (t : TB) : Bool := (List.range t.q.toNat).all fun k => onceB t.sp k
def TB.ok3 (t : TB) : Bool := t.cl.all (classOk t.sp.length)
/-- may a table be -/
def TB.right (t : TB) : Bool := t.ok0 && t.ok1 && t.ok2 && t.ok3
/-- some beginning of a list, and the next one -/
theorem all_take {α : Type} {l : List α} {f : α → Bool} {k : Nat} {x : α} (h : l[k]? = some x) : (l.take (k + 1)).all f = ((l.take k).all f && f x) := by
  rw [List.take_add_one, h]
  simp
theorem all_no {α : Type} {l : List α} {f : α → Bool} {k : Nat} {x : α} (h : l[k]? = some x) (hx : f x = false) : l.all f = false := by
  rw [List.all_eq_false]
  exact ⟨x, List.mem_of_getElem? h, by simp [hx]⟩
theorem range_get {n k : Nat} (h : k < n) : (List.range n)[k]? = some k := by simp [h]
end Go.Proofs.Ytoofmklknffhpaa
