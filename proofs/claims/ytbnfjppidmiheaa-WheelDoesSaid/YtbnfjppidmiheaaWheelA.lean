/-
  The document's before and without of layer 6. Conditions: the numbers fit their kinds, at most a thousand timers.
-/
import Derived.Test.YtbnfjppidmiheaaRows
import Derived.Test.YtbnfjppidmiheaaWheelM
import Derived.Test.YtbnfjppidmiheaaMemP
import Derived.Test.YtbnfjppidmiheaaSlice
import Derived.Maps.AppendAt
import Derived.WalkKit
import Derived.WalkMore
import Derived.ProofKit
import Derived.OpenShut
import Derived.Handy
import Derived.Lib.Hide
namespace Go.Proofs.Ytbnfjppidmiheaa
set_option linter.unusedSimpArgs false
set_option linter.unusedVariables false
open Go.ChangeShapes Go.WideShapes Go.ChangeAt Go.RowKit

/-- a timer, as a value; its cells; the cells of many -/
abbrev tm (t : Tm) : Value := .agg #[.int .u64 t.1, .int .i64 t.2]
def tmC (t : Tm) : List Value := [.int .u64 t.1, .int .i64 t.2]
def tmCs (l : List Tm) : List Value := l.flatMap tmC
theorem tmCs_length (l : List Tm) : (tmCs l).length = l.length * 2 := by
  induction l with
  | nil => rfl
  | cons a l ih => simp only [tmCs, List.flatMap_cons, List.length_append, List.length_cons, tmC, List.length_nil] at *; omega
theorem tmCs_snoc (l : List Tm) (t : Tm) : tmCs (l ++ [t]) = tmCs l ++ tmC t := by simp [tmCs]
/-- timers where they lie -/
structure Tms (w : World) (b o : Nat) (l : List Tm) : Prop where
  cell : ∀ k t, l[k]? = some t → w.cell? ⟨b, o + k * 2, none⟩ = some (.int .u64 t.1) ∧ w.cell? ⟨b, o + k * 2 + 1, none⟩ = some (.int .i64 t.2)
theorem Tms.below {w w' : World} {b o n : Nat} {l : List Tm} (h : Tms w b o l) (hb : Below n w w') (hlt : b < n) : Tms w' b o l := ⟨fun k t hk => by
  have e : ∀ j, w'.cell? ⟨b, j, none⟩ = w.cell? ⟨b, j, none⟩ := fun j => World.cell?_of_block (hb.block b hlt)
  rw [e, e]
  exact h.cell k t hk⟩
theorem infoTm : (Try.prog.info? 41).map (fun i => (i.zero, i.size, i.bytes)) = some (some (.agg #[.int .u64 0, .int .i64 0]), 2, 16) := by kernel_rfl
theorem infoTm_parts : ∃ i, Try.prog.info? 41 = some i ∧ i.zero = some (.agg #[.int .u64 0, .int .i64 0]) ∧ i.size = 2 ∧ i.bytes = 16 := by
  have h := infoTm
  cases hi : Try.prog.info? 41 with
  | none => rw [hi] at h; cases h
  | some i =>
    rw [hi] at h
    simp at h
    exact ⟨i, rfl, h.1, h.2.1, h.2.2⟩
theorem addr_add (q n : Nat) : (⟨q, 0, none⟩ : Addr).add n = ⟨q, n, none⟩ := by
  unfold Addr.add
  split
  all_goals first | (simp; done) | rfl
theorem tmCs_one (l : List Tm) : ∀ u ∈ tmCs l, u.oneCell' = true := by
  intro u hu
  obtain ⟨t, _, ht⟩ := List.mem_flatMap.1 hu
  simp only [tmC, List.mem_cons, List.not_mem_nil, or_false] at ht
  rcases ht with rfl | rfl <;> rfl
set_option maxHeartbeats 1000000 in
theorem before_r (a b : Tm) (w : World) : Calls Try.prog 25 #[tm a, tm b] w fun e w' => e = .returned (.bool (Tm.bef a b)) ∧ Below w.heap.size w w' := by
  obtain ⟨a1, a2⟩ := a
  obtain ⟨b1, b2⟩ := b
  by_cases h : a1 = b1
  · subst h
    have e : Tm.bef (a1, a2) (a1, b2) = decide (a2 < b2) := by simp [Tm.bef]
    rw [e]
    go_enter Try.func25, Try.ntmps25
    go_wp2
    go_ret
    exact ⟨rfl, by go_grown⟩
  · have e : Tm.bef (a1, a2) (b1, b2) = decide (a1 < b1) := by simp [Tm.bef, h]
    rw [e]
    have h1 : (a1 == b1) = false := by simpa using h
    clear e
    go_enter Try.func25, Try.ntmps25
    go_wp2
    go_ret
    exact ⟨rfl, by go_grown⟩
set_option maxRecDepth 100000 in
set_option maxHeartbeats 2000000 in
theorem without_r (A : Option Addr) (b o cap : Nat) (l : List Tm) (key : Int) (hlen : l.length ≤ 1000) (w : World) (hA : 0 < l.length → A = some ⟨b, o, none⟩) (hb : 0 < l.length → b < w.heap.size) (hl : Tms w b o l) :
    Calls Try.prog 24 #[.slice A l.length cap, .int .i64 key] w fun e w' => ∃ v, e = .returned v ∧ w'.ownsRow w.heap.size 41 2 v (Tm.wo l key).length (tmCs (Tm.wo l key)) ∧ Below w.heap.size w w' := by
  obtain ⟨i0, hi, hz0, hz1, hz2⟩ := infoTm_parts
  obtain ⟨n, hn⟩ : ∃ n, l.length = n := ⟨_, rfl⟩
  have HA := Lib.hid hA
  have HN := Lib.hid hn
  rw [hn] at hlen hb ⊢
  clear hA hn
  go_enter Try.func24, Try.ntmps24
  go_wp2
  go_loopw [5, 6] (fun ov i wr => ∃ k : Nat, k ≤ n ∧ i = .int .i64 k ∧ wr.ownsRow w.heap.size 41 2 ov (Tm.wo (l.take k) key).length (tmCs (Tm.wo (l.take k) key)) ∧ Below w.heap.size w wr) (fun _ i _ => n - (intOf i).toNat)
  case atStart => exact ⟨0, Nat.zero_le _, rfl, World.ownsRow_nil _ _ _ _, Below.refl _ _⟩
  case round =>
    obtain ⟨k, hk, rfl, hown, hB⟩ := hrel
    by_cases hlt : k < n
    · obtain rfl := HA.out (by rw [HN.out]; omega)
      obtain ⟨t, ht⟩ : ∃ t, l[k]? = some t := ⟨l[k]'(by rw [HN.out]; exact hlt), List.getElem?_eq_getElem _⟩
      obtain ⟨c0, c1⟩ := (hl.below hB (hb (by omega))).cell k t ht
      have hsz := hB.size
      have htake : l.take (k + 1) = l.take k ++ [t] := by rw [List.take_add_one, ht]; rfl
      have HT := Lib.hid htake
      clear htake ht hl
      by_cases he : t.2 = key
      · have e1 : (t.2 == key) = true := by simpa using he
        have hw : Tm.wo (l.take (k + 1)) key = Tm.wo (l.take k) key := by rw [HT.out]; simp [Tm.wo, he]
        have HW := Lib.hid hw
        clear hw
        go_wp2
        go_roundw
        case rel => exact ⟨k + 1, by omega, by go_num, by rw [HW.out]; exact hown, hB⟩
        case measure => simp [intOf]; omega
      · have e1 : (t.2 == key) = false := by simpa using he
        have hw : Tm.wo (l.take (k + 1)) key = Tm.wo (l.take k) key ++ [t] := by rw [HT.out]; simp [Tm.wo, he]
        have hlw : (Tm.wo (l.take k) key).length ≤ 1000 := by
          have h1 := List.length_filter_le (fun t : Tm => decide (t.2 ≠ key)) (l.take k)
          have h2 := List.length_take_le k l
          have : (Tm.wo (l.take k) key).length ≤ (l.take k).length := h1
          omega
        have HW := Lib.hid hw
        clear hw
        go_wp2_with (at_builtin; refine wpList_append_own _ rfl _ _ 28 rfl w.heap.size 41 i0 _ 2 16 Try.underlying28 hi hz0 hz1 hz2 rfl (by decide) _ _ _ rfl (hown.alloc _) ⟨wr.heap.size, 0, none⟩ 1 1 (tmC t) rfl rfl (fun j u hu => by rw [addr_add]; exact ((Held.new wr 41 #[.int .u64 t.1, .int .i64 t.2]).cell j).trans (by simpa [tmC] using hu)) (fun u hu => tmCs_one [t] u (by simpa [tmCs] using hu)) (by simp [maxLen]; omega) (by omega) (by simp; omega) ?_; intro v' w8 hown' hgrow _)
        have hB8 : Below w.heap.size w w8 := (hB.alloc hsz _).grown hgrow (by simp; omega) (fun j ej => (hown.lt j ej).1)
        go_roundw
        case rel => exact ⟨k + 1, by omega, by go_num, by rw [HW.out, tmCs_snoc, List.length_append]; exact hown', hB8⟩
        case measure => simp [intOf]; omega
    · have hkn : l.take k = l := List.take_of_length_le (by rw [HN.out]; omega)
      rw [hkn] at hown
      clear hl
      go_wp2
      go_ret
      exact ⟨_, rfl, hown, hB⟩
end Go.Proofs.Ytbnfjppidmiheaa
