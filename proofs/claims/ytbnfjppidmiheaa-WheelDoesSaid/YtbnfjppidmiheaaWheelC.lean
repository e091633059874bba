/-
  The document's Same of layer 6. Conditions: those that each theorem names.
-/
import Derived.Laws.StructEq
import Derived.Deep.QuietTactic
import Derived.BigQuiet
import Derived.Test.YtbnfjppidmiheaaWheelB
namespace Go.Proofs.Ytbnfjppidmiheaa
set_option linter.unusedSimpArgs false
set_option linter.unusedVariables false
open Go.ChangeShapes Go.WideShapes Go.ChangeAt Go.RowKit

/-- two structs held against each other, a whole number first -/
theorem eqFT_int {P : Program} {d : Nat} {xs ys : Array Value} {f : Field} {fs : List Field} {k k' : IntKind} {a b : Int} {r : Bool} {w : World} (hn : (f.name == "_") = false) (hu : P.underlying f.type = some (.int k'))
    (hx : (part f.type xs f.offset).run P w = .ok (.int k a) w) (hy : (part f.type ys f.offset).run P w = .ok (.int k b) w) (hr : (Op.eqFields (d + 1) xs ys fs).run P w = .ok r w) : (Op.eqFields (d + 1) xs ys (f :: fs)).run P w = .ok ((a == b) && r) w := by
  have hn' : f.name ≠ "_" := by simpa using hn
  simp only [Op.eqFields, ne_eq, hn', not_false_eq_true, if_true, Sem.run_bind, hx, hy, Result.andThen_ok, run_equalIn_int w d f.type k k' a b hu]
  cases h : (a == b)
  · simp
  · simp [hr]
set_option maxHeartbeats 4000000 in
theorem tm_eq (a b : Tm) (w : World) : (Op.equalIn 10000 41 (tm a) (tm b)).run Try.prog w = .ok (decide (a = b)) w := by
  rw [run_equalIn_struct w 9999 41 _ _ (by kernel_rfl) (by kernel_rfl)]
  have u := Try.underlying22
  have i := Try.underlying3
  unfold Program.fieldsOf
  rw [Try.underlying41]
  dsimp only
  have e : decide (a = b) = ((a.1 == b.1) && ((a.2 == b.2) && true)) := by
    obtain ⟨a1, a2⟩ := a
    obtain ⟨b1, b2⟩ := b
    simp [Prod.ext_iff]
    rfl
  rw [e]
  refine eqFT_int (d := 9998) (k := .u64) (by decide) u (by simp [go_sem]) (by simp [go_sem]) ?_
  refine eqFT_int (d := 9998) (k := .i64) (by decide) i (by simp [go_sem]) (by simp [go_sem]) ?_
  rfl
set_option maxRecDepth 100000 in
set_option maxHeartbeats 2000000 in
theorem same_r (W : World) (n1 n2 : Nat) (v1 v2 : Value) (l1 l2 : List Tm) (h1 : SlT W n1 v1 l1) (h2 : SlT W n2 v2 l2) (hn1 : n1 ≤ W.heap.size) (hn2 : n2 ≤ W.heap.size) : Calls Try.prog 18 #[v1, v2] W fun e w' =>
    e = .returned (.bool (decide (l1 = l2))) ∧ Below W.heap.size W w' := by
  obtain ⟨A1, b1, o1, cap1, rfl, p1, p2, p3, p4⟩ := h1
  obtain ⟨A2, b2, o2, cap2, rfl, r1, r2, r3, r4⟩ := h2
  unfold maxLen at p2 r2
  by_cases hl : l1.length = l2.length
  · obtain ⟨n, hn⟩ : ∃ n, l1.length = n := ⟨_, rfl⟩
    have hn' : l2.length = n := by omega
    have HN := Lib.hid (And.intro hn hn')
    have HP := Lib.hid (And.intro p3 (And.intro p4 (And.intro r3 r4)))
    rw [hn] at p1 ⊢
    rw [hn'] at r1 ⊢
    clear hl hn hn' p3 p4 r3 r4
    go_enter Try.func18, Try.ntmps18
    go_wp2
    go_loopw [5] (fun i wr => ∃ k : Nat, k ≤ n ∧ i = .int .i64 k ∧ l1.take k = l2.take k ∧ Below W.heap.size W wr) (fun i _ => n - (intOf i).toNat)
    case atStart => exact ⟨0, Nat.zero_le _, rfl, rfl, Below.refl _ _⟩
    case round =>
      obtain ⟨k, hk, rfl, hE, hB⟩ := hrel
      obtain ⟨m1, m2⟩ := HN.out
      obtain ⟨p3, p4, r3, r4⟩ := HP.out
      by_cases hlt : k < n
      · obtain ⟨t1, ht1⟩ : ∃ t, l1[k]? = some t := ⟨l1[k]'(by omega), List.getElem?_eq_getElem _⟩
        obtain ⟨t2, ht2⟩ : ∃ t, l2[k]? = some t := ⟨l2[k]'(by omega), List.getElem?_eq_getElem _⟩
        obtain ⟨rfl, q1⟩ : A1 = some ⟨b1, o1, none⟩ ∧ b1 < n1 := by rcases p3 with ⟨_, h0⟩ | h0; omega; exact h0
        obtain ⟨rfl, q2⟩ : A2 = some ⟨b2, o2, none⟩ ∧ b2 < n2 := by rcases r3 with ⟨_, h0⟩ | h0; omega; exact h0
        obtain ⟨x0, x1⟩ := (p4.below hB (by omega)).cell k t1 ht1
        obtain ⟨y0, y1⟩ := (r4.below hB (by omega)).cell k t2 ht2
        have hEq := fun w => tm_eq t1 t2 w
        have s1 : l1.take (k + 1) = l1.take k ++ [t1] := by rw [List.take_add_one, ht1]; rfl
        have s2 : l2.take (k + 1) = l2.take k ++ [t2] := by rw [List.take_add_one, ht2]; rfl
        have HS := Lib.hid (And.intro s1 (And.intro s2 (And.intro ht1 (And.intro ht2 hE))))
        clear s1 s2 ht1 ht2 hE p3 p4 r3 r4 m1 m2
        by_cases he : t1 = t2
        · rw [decide_eq_true he] at hEq
          have HE := Lib.hid he
          clear he
          go_wp2
          go_quiet (fail)
          go_wp2
          go_roundw
          case rel => exact ⟨k + 1, by omega, by go_num, by rw [HS.out.1, HS.out.2.1, HS.out.2.2.2.2, HE.out], ⟨hB.os, hB.tape, hB.output, hB.size, hB.block⟩⟩
          case measure => simp [intOf]; omega
        · rw [decide_eq_false he] at hEq
          have hne : l1 ≠ l2 := fun e => by
            have a1 := HS.out.2.2.1
            rw [e, HS.out.2.2.2.1] at a1
            cases a1
            exact he rfl
          have HE := Lib.hid hne
          clear he hne
          go_wp2
          go_quiet (fail)
          go_wp2
          go_ret
          rw [decide_eq_false HE.out]
          exact ⟨rfl, ⟨hB.os, hB.tape, hB.output, hB.size, hB.block⟩⟩
      · have e : l1 = l2 := by
          have u1 : l1.take k = l1 := List.take_of_length_le (by omega)
          have u2 : l2.take k = l2 := List.take_of_length_le (by omega)
          rw [u1, u2] at hE
          exact hE
        have HE := Lib.hid e
        clear e hE p3 p4 r3 r4
        go_wp2
        go_ret
        rw [decide_eq_true HE.out]
        exact ⟨rfl, hB⟩
  · have hne : l1 ≠ l2 := fun e => hl (by rw [e])
    rw [decide_eq_false hne]
    clear hne
    go_enter Try.func18, Try.ntmps18
    go_wp2
    go_ret
    exact ⟨rfl, Below.refl _ _⟩
end Go.Proofs.Ytbnfjppidmiheaa
