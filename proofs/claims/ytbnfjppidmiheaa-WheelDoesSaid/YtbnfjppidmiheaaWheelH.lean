/-
  Plain mathematics of layer 6: timers in a heap; what sinking one leaves; the first of all stands first. Conditions: those that each theorem names.
-/
import Derived.Test.YtbnfjppidmiheaaWheelM
namespace Go.Proofs.Ytbnfjppidmiheaa
set_option linter.unusedSimpArgs false
set_option linter.unusedVariables false
namespace Tm
theorem le_trans {a b c : Tm} (h : bef b a = false) (k : bef c b = false) : bef c a = false := by
  rw [Bool.eq_false_iff, Ne, bef_iff] at *
  omega
theorem lt_le {a b c : Tm} (h : bef b a = true) (k : bef c a = false) : bef c b = false := by
  rw [Bool.eq_false_iff, Ne, bef_iff] at *
  omega
/-- a place below another one -/
def Kid (j c : Nat) : Prop := c = 2 * j + 1 ∨ c = 2 * j + 2
/-- from place k on none comes ahead of the one that it is below -/
def HeapFrom (L : List Tm) (k : Nat) : Prop := ∀ j c tj tc, k ≤ j → Kid j c → L[j]? = some tj → L[c]? = some tc → bef tc tj = false
/-- .. but for what is below place i -/
structure Sk (L : List Tm) (i0 i : Nat) : Prop where
  pos : i0 ≤ i
  heap : ∀ j c tj tc, i0 ≤ j → j ≠ i → Kid j c → L[j]? = some tj → L[c]? = some tc → bef tc tj = false
  up : ∀ p c tp tc, i0 ≤ p → Kid p i → Kid i c → L[p]? = some tp → L[c]? = some tc → bef tc tp = false
theorem Sk.start {L : List Tm} {i : Nat} (h : HeapFrom L (i + 1)) : Sk L i i :=
  ⟨Nat.le_refl _, fun j c tj tc hj hne hk => h j c tj tc (by omega) hk, fun p c tp tc hp hk => by unfold Kid at hk; omega⟩
theorem Sk.stop {L : List Tm} {i0 i : Nat} (h : Sk L i0 i) (hmin : ∀ c ti tc, Kid i c → L[i]? = some ti → L[c]? = some tc → bef tc ti = false) : HeapFrom L i0 := fun j c tj tc hj hk h1 h2 => by
  by_cases e : j = i
  · subst e
    exact hmin c tj tc hk h1 h2
  · exact h.heap j c tj tc hj e hk h1 h2
/-- two places exchanged -/
def swp (L : List Tm) (i f : Nat) (ti tf : Tm) : List Tm := (L.set i tf).set f ti
theorem swp_length (L : List Tm) (i f : Nat) (ti tf : Tm) : (swp L i f ti tf).length = L.length := by simp [swp]
theorem swp_perm {L : List Tm} {i f : Nat} {ti tf : Tm} (h1 : L[i]? = some ti) (h2 : L[f]? = some tf) : (swp L i f ti tf).Perm L := by
  obtain ⟨l1, e1⟩ := List.getElem?_eq_some_iff.1 h1
  obtain ⟨l2, e2⟩ := List.getElem?_eq_some_iff.1 h2
  subst e1
  subst e2
  exact List.set_set_perm l1 l2
theorem swp_get {L : List Tm} {i f : Nat} {ti tf : Tm} (h1 : L[i]? = some ti) (h2 : L[f]? = some tf) (hne : i ≠ f) {j : Nat} {t : Tm} (h : (swp L i f ti tf)[j]? = some t) : (j = f ∧ t = ti) ∨ (j = i ∧ t = tf) ∨ (j ≠ f ∧ j ≠ i ∧ L[j]? = some t) := by
  unfold swp at h
  rw [List.getElem?_set] at h
  split at h
  · rename_i e
    split at h
    · exact .inl ⟨e.symm, (Option.some.inj h).symm⟩
    · cases h
  · rename_i e
    rw [List.getElem?_set] at h
    split at h
    · rename_i e2
      split at h
      · exact .inr (.inl ⟨e2.symm, (Option.some.inj h).symm⟩)
      · cases h
    · rename_i e2
      exact .inr (.inr ⟨fun x => e x.symm, fun x => e2 x.symm, h⟩)
theorem Sk.step {L : List Tm} {i0 i f : Nat} (h : Sk L i0 i) {ti tf : Tm} (hf : Kid i f) (h1 : L[i]? = some ti) (h2 : L[f]? = some tf) (hb : bef tf ti = true) (hmin : ∀ c tc, Kid i c → L[c]? = some tc → bef tc tf = false) : Sk (swp L i f ti tf) i0 f := by
  have hp := h.pos
  have hif : i < f := by unfold Kid at hf; omega
  refine ⟨by omega, fun j c tj tc hj hne hk g1 g2 => ?_, fun p c tp tc hj hk hk2 g1 g2 => ?_⟩
  · have hjc : j < c := by unfold Kid at hk; omega
    rcases swp_get h1 h2 (by omega) g1 with ⟨rfl, rfl⟩ | ⟨rfl, rfl⟩ | ⟨n1, n2, g1'⟩
    · exact absurd rfl hne
    · rcases swp_get h1 h2 (by omega) g2 with ⟨rfl, rfl⟩ | ⟨e, _⟩ | ⟨n3, n4, g2'⟩
      · exact bef_asymm hb
      · omega
      · exact hmin c tc hk g2'
    · rcases swp_get h1 h2 (by omega) g2 with ⟨rfl, rfl⟩ | ⟨rfl, rfl⟩ | ⟨n3, n4, g2'⟩
      · exfalso
        unfold Kid at hk hf
        omega
      · exact h.up j f tj tc hj hk hf g1' h2
      · exact h.heap j c tj tc hj n2 hk g1' g2'
  · have e : p = i := by unfold Kid at hk hf; omega
    subst e
    have hfc : f < c := by unfold Kid at hk2; omega
    rcases swp_get h1 h2 (by omega) g1 with ⟨e, _⟩ | ⟨_, rfl⟩ | ⟨_, n2, _⟩
    · omega
    · rcases swp_get h1 h2 (by omega) g2 with ⟨e, _⟩ | ⟨e, _⟩ | ⟨n3, n4, g2'⟩
      · omega
      · omega
      · exact h.heap f c tp tc (by omega) (by omega) hk2 h2 g2'
    · exact absurd rfl n2
/-- while the first below place i is looked for: those ahead of place b have been looked at, and the first is at place f -/
structure Lk (L : List Tm) (i f b : Nat) (ti tf : Tm) : Prop where
  at_ : L[f]? = some tf
  who : f = i ∧ tf = ti ∨ Kid i f ∧ bef tf ti = true
  min : ∀ c tc, Kid i c → c < b → L[c]? = some tc → bef tc tf = false
theorem Lk.start {L : List Tm} {i : Nat} {ti : Tm} (h : L[i]? = some ti) : Lk L i i (2 * i + 1) ti ti := ⟨h, .inl ⟨rfl, rfl⟩, fun c tc hk hc => by unfold Kid at hk; omega⟩
theorem Lk.yes {L : List Tm} {i f b : Nat} {ti tf t : Tm} (h : Lk L i f b ti tf) (hk : Kid i b) (hb : L[b]? = some t) (e : bef t tf = true) : Lk L i b (b + 1) ti t := by
  refine ⟨hb, .inr ⟨hk, ?_⟩, fun c tc hc hlt hg => ?_⟩
  · rcases h.who with ⟨_, rfl⟩ | ⟨_, h1⟩
    · exact e
    · exact bef_trans e h1
  · by_cases hcb : c = b
    · subst hcb
      rw [hb] at hg
      cases hg
      exact bef_irrefl _
    · exact lt_le e (h.min c tc hc (by omega) hg)
theorem Lk.no {L : List Tm} {i f b : Nat} {ti tf t : Tm} (h : Lk L i f b ti tf) (hb : L[b]? = some t) (e : bef t tf = false) : Lk L i f (b + 1) ti tf := by
  refine ⟨h.at_, h.who, fun c tc hc hlt hg => ?_⟩
  by_cases hcb : c = b
  · subst hcb
    rw [hb] at hg
    cases hg
    exact e
  · exact h.min c tc hc (by omega) hg
theorem Lk.all {L : List Tm} {i f b : Nat} {ti tf : Tm} (h : Lk L i f b ti tf) (hb : 2 * i + 2 < b ∨ L.length ≤ b) {c : Nat} {tc : Tm} (hk : Kid i c) (hg : L[c]? = some tc) : bef tc tf = false := by
  have := (List.getElem?_eq_some_iff.1 hg).1
  exact h.min c tc hk (by unfold Kid at hk; omega) hg
/-- the first of all stands first -/
theorem heap_first {L : List Tm} (h : HeapFrom L 0) {t0 : Tm} (h0 : L[0]? = some t0) : ∀ (j : Nat) t, L[j]? = some t → bef t t0 = false := by
  intro j
  induction j using Nat.strongRecOn with
  | ind j ih =>
    intro t hj
    by_cases e : j = 0
    · subst e
      rw [h0] at hj
      cases hj
      exact bef_irrefl _
    · have hl := (List.getElem?_eq_some_iff.1 hj).1
      obtain ⟨tp, htp⟩ : ∃ tp, L[(j - 1) / 2]? = some tp := ⟨L[(j - 1) / 2]'(by omega), List.getElem?_eq_getElem _⟩
      have h1 := ih ((j - 1) / 2) (by omega) tp htp
      have h2 := h ((j - 1) / 2) j tp t (Nat.zero_le _) (by unfold Kid; omega) htp hj
      exact le_trans h1 h2
/-- where nothing is below -/
theorem heap_end {L : List Tm} {k : Nat} (hk : L.length ≤ 2 * k + 1) : HeapFrom L k := fun j c tj tc hj hc h1 h2 => by
  have := (List.getElem?_eq_some_iff.1 h2).1
  unfold Kid at hc
  omega
/-- a heap of timers that are these, in their order: the first one -/
theorem first_of {L l : List Tm} (hp : L.Perm l) (hs : Srt l) (h : HeapFrom L 0) {t0 : Tm} (h0 : L[0]? = some t0) : l[0]? = some t0 := by
  have hm : t0 ∈ l := hp.mem_iff.1 (List.mem_of_getElem? h0)
  cases l with
  | nil => cases hm
  | cons a l =>
    obtain ⟨s1, s2⟩ := List.pairwise_cons.1 hs
    rcases List.mem_cons.1 hm with rfl | hm
    · rfl
    · obtain ⟨j, hj⟩ := List.mem_iff_getElem?.1 (hp.mem_iff.2 (List.mem_cons_self .. : a ∈ a :: l))
      have h1 := heap_first h h0 j a hj
      rw [s1 t0 hm] at h1
      cases h1
/-- the last one laid where the first one was, which goes -/
theorem pop_perm {L : List Tm} {n : Nat} (hn : L.length = n + 1) {t0 tl : Tm} (h0 : L[0]? = some t0) (hl : L[n]? = some tl) : (t0 :: (L.set 0 tl).take n).Perm L := by
  cases L with
  | nil => cases h0
  | cons a L =>
    cases h0
    cases n with
    | zero =>
      cases L with
      | nil => exact List.Perm.refl _
      | cons b L => simp at hn
    | succ n =>
      rw [List.set_cons_zero, List.take_succ_cons]
      refine List.Perm.cons _ ?_
      have hlen : L.length = n + 1 := by simpa using hn
      have hl' : L[n]? = some tl := by simpa using hl
      have e : L = L.take n ++ [tl] := by
        have : L.take (n + 1) = L.take n ++ [tl] := by rw [List.take_add_one, hl']; rfl
        rwa [List.take_of_length_le (by omega)] at this
      have h1 : (tl :: L.take n).Perm (L.take n ++ [tl]) := (List.perm_append_singleton _ _).symm
      rwa [← e] at h1
theorem pop_heap {L : List Tm} {n : Nat} (h : HeapFrom L 0) (tl : Tm) : HeapFrom ((L.set 0 tl).take n) 1 := fun j c tj tc hj hk h1 h2 => by
  rw [List.getElem?_take] at h1 h2
  split at h1
  · split at h2
    · rw [List.getElem?_set_ne (by omega)] at h1
      rw [List.getElem?_set_ne (by unfold Kid at hk; omega)] at h2
      exact h j c tj tc (Nat.zero_le _) hk h1 h2
    · cases h2
  · cases h1
end Tm
end Go.Proofs.Ytbnfjppidmiheaa
