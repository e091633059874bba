/-
  Even tables may be, and leave no queue idle; owners of queues. Mathematics alone.
-/
import Derived.Test.YtoofmklknffhpaaTableI
namespace Go.Proofs.Ytoofmklknffhpaa
set_option linter.unusedSimpArgs false
set_option linter.unusedVariables false

/-- no queue in two spans -/
theorem onceB_of {l : List (Int × Int)} {q : Int} (h : ∀ (i j : Nat) (s s' : Int × Int), i < j → l[i]? = some s → l[j]? = some s' → inB q s = true → inB q s' = true → False) : onceB l q = true := by
  rcases ownAt_spec l q 0 with ⟨i, s, _, hi, hs, he, _⟩ | ⟨he, _⟩
  · rcases ownAt_spec l q (i + 1) with ⟨j, s', hj, hj', hs', _, _⟩ | ⟨he', _⟩
    · exact (h i j s s' (by omega) hi hj' hs hs').elim
    · rw [onceB, he, Int.toNat_natCast, he']
      rfl
  · rw [onceB, he]
    rfl
/-- a queue of two spans is found -/
theorem onceB_two {l : List (Int × Int)} {q : Int} (h : onceB l q = true) {i j : Nat} {s s' : Int × Int} (hij : i < j) (hi : l[i]? = some s) (hj : l[j]? = some s') (hs : inB q s = true) (hs' : inB q s' = true) : False := by
  rcases ownAt_spec l q 0 with ⟨a, t, _, ha, ht, he, hn⟩ | ⟨he, hn⟩
  · have hai : a ≤ i := by
      by_cases e : a ≤ i
      · exact e
      · have := hn i s (Nat.zero_le _) (by omega) hi
        rw [hs] at this
        cases this
    rcases ownAt_spec l q (a + 1) with ⟨c, u, _, _, _, he', _⟩ | ⟨he', hn'⟩
    · rw [onceB, he, Int.toNat_natCast, he'] at h
      simp at h
    · have := hn' j s' (by omega) hj
      rw [hs'] at this
      cases this
  · have := hn i s (Nat.zero_le _) hi
    rw [hs] at this
    cases this
/-- the owner of a queue that is in a span -/
theorem own_of_in {l : List (Int × Int)} {q : Int} (h : onceB l q = true) {i : Nat} {s : Int × Int} (hi : l[i]? = some s) (hs : inB q s = true) : ownAt l q 0 = i := by
  rcases ownAt_spec l q 0 with ⟨a, t, _, ha, ht, he, hn⟩ | ⟨he, hn⟩
  · rw [he]
    have : a = i := by
      rcases Nat.lt_trichotomy a i with e | e | e
      · exact (onceB_two h e ha hi ht hs).elim
      · exact e
      · exact (onceB_two h e hi ha hs ht).elim
    rw [this]
  · have := hn i s (Nat.zero_le _) hi
    rw [hs] at this
    cases this
theorem evenS_get {Q C n k : Nat} (h : k < n) : (evenS Q C n)[k]? = some ((offN Q C k : Int), (cntN Q C k : Int)) := by simp [evenS, h]
theorem evenS_lt {Q C n k : Nat} {s : Int × Int} (h : (evenS Q C n)[k]? = some s) : k < n ∧ s = ((offN Q C k : Int), (cntN Q C k : Int)) := by
  have hk : k < n := by
    have := (List.getElem?_eq_some_iff.1 h).1
    rwa [evenS_len] at this
  rw [evenS_get hk] at h
  exact ⟨hk, (Option.some.inj h).symm⟩
theorem offN_mono (Q C : Nat) {i j : Nat} (h : i ≤ j) : offN Q C i ≤ offN Q C j := by
  unfold offN
  have := Nat.mul_le_mul_right (Q / C) h
  omega
theorem inB_even {Q C k : Nat} {q : Int} : inB q ((offN Q C k : Int), (cntN Q C k : Int)) = true ↔ (offN Q C k : Int) ≤ q ∧ q < (offN Q C (k + 1) : Int) := by
  rw [offN_succ]
  simp only [inB, Bool.and_eq_true, decide_eq_true_eq]
  omega
theorem offN_le' {Q C k : Nat} (h : 1 ≤ C) (hk : k < C) : offN Q C k + cntN Q C k ≤ Q := by
  have e := offN_all (Q := Q) h
  rw [← offN_succ]
  have := offN_mono Q C (show k + 1 ≤ C by omega)
  omega
theorem evenT_ok {Q C : Nat} (hQ : 1 ≤ Q ∧ Q ≤ 64) (hC : 1 ≤ C ∧ C ≤ 16 ∧ C ≤ Q) : (evenT Q C).Ok := by
  refine ⟨⟨?_, ?_⟩, ⟨?_, ?_⟩, ?_, fun s hs => ?_, fun k _ => ?_, fun x hx => ?_⟩
  · simp only [evenT]; omega
  · simp only [evenT]; omega
  · simp only [evenT, evenS_len]; omega
  · simp only [evenT, evenS_len]; omega
  · simp only [evenT, evenC_len]
  · obtain ⟨i, hi⟩ := List.mem_iff_getElem?.1 hs
    obtain ⟨hk, rfl⟩ := evenS_lt hi
    have h1 := offN_le' (Q := Q) hC.1 hk
    have h2 : 1 ≤ cntN Q C i := by
      have : 1 ≤ Q / C := (Nat.le_div_iff_mul_le (by omega)).2 (by omega)
      unfold cntN
      omega
    simp only [evenT]
    omega
  · refine onceB_of fun i j s s' hij hi hj h1 h2 => ?_
    obtain ⟨_, rfl⟩ := evenS_lt hi
    obtain ⟨_, rfl⟩ := evenS_lt hj
    rw [inB_even] at h1 h2
    have := offN_mono Q C (show i + 1 ≤ j by omega)
    omega
  · simp only [evenT, evenC, List.mem_map, List.mem_range] at hx
    obtain ⟨i, hi', rfl⟩ := hx
    have := Nat.mod_lt i (show 0 < C by omega)
    simp only [evenT, evenS_len]
    omega
theorem evenT_right {Q C : Nat} (hQ : 1 ≤ Q ∧ Q ≤ 64) (hC : 1 ≤ C ∧ C ≤ 16 ∧ C ≤ Q) : (evenT Q C).right = true := (TB.right_iff _).2 (evenT_ok hQ hC)
/-- every queue is in a span -/
theorem even_in (Q C : Nat) {q n : Nat} (h : q < offN Q C n) : ∃ k, k < n ∧ offN Q C k ≤ q ∧ q < offN Q C (k + 1) := by
  induction n with
  | zero => rw [offN_zero] at h; omega
  | succ n ih =>
    by_cases e : q < offN Q C n
    · obtain ⟨k, hk, h1⟩ := ih e
      exact ⟨k, by omega, h1⟩
    · exact ⟨n, by omega, by omega, h⟩
theorem even_idle {Q C : Nat} (hQ : 1 ≤ Q ∧ Q ≤ 64) (hC : 1 ≤ C ∧ C ≤ 16 ∧ C ≤ Q) : (evenT Q C).idle = [] := by
  have hk := evenT_ok hQ hC
  rw [TB.idle, if_pos (evenT_right hQ hC)]
  unfold idleTo
  rw [List.map_eq_nil_iff, List.filter_eq_nil_iff]
  intro q hq
  have hq' : q < Q := by
    have := List.mem_range.1 hq
    simp only [evenT] at this
    omega
  obtain ⟨k, h1, h2, h3⟩ := even_in Q C (q := q) (n := C) (by rw [offN_all hC.1]; exact hq')
  have ho := hk.o q (by simp only [evenT]; omega)
  have := own_of_in ho (i := k) (s := ((offN Q C k : Int), (cntN Q C k : Int))) (evenS_get h1) (inB_even.2 ⟨by omega, by omega⟩)
  rw [this]
  simp
end Go.Proofs.Ytoofmklknffhpaa
