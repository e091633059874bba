/-
  The contracts of wheel's heap: withoutFirst. Conditions: those that each theorem names.
-/
import Derived.Test.YtbnfjppidmiheaaWheelS
namespace Go.Proofs.Ytbnfjppidmiheaa
set_option linter.unusedSimpArgs false
set_option linter.unusedVariables false
open Go.ChangeShapes Go.WideShapes Go.ChangeAt Go.RowKit Go.Maps

set_option maxHeartbeats 1000000 in
theorem sink_e (A : Option Addr) (cap : Nat) (W : World) : Calls Try.prog 31 #[.slice A 0 cap, .int .i64 0] W fun e w' => (∃ v, e = .returned v) ∧ w' = W := by
  go_enter Try.func31, Try.ntmps31
  go_wp2
  go_rounds 1
  go_rounds 1
  go_wp2
  refine bodyPost_ret (results_none rfl _ _ _) rfl ?_
  exact ⟨⟨_, rfl⟩, rfl⟩
set_option maxRecDepth 100000 in
set_option maxHeartbeats 1000000 in
theorem pop_p (g cap n : Nat) (L : List Tm) (W : World) (h : Hp W g cap L) (hlen : L.length ≤ 1000) (hn : L.length = n + 1) (hh : Tm.HeapFrom L 0) (t0 : Tm) (h0 : L[0]? = some t0) : Calls Try.prog 30 #[.slice (some ⟨g, 0, none⟩) (n + 1) cap] W fun e w' =>
    e = .returned (.slice (some ⟨g, 0, none⟩) n cap) ∧ ∃ L', Hp w' g cap L' ∧ L'.length = n ∧ (t0 :: L').Perm L ∧ Tm.HeapFrom L' 0 ∧ Foot (· = g) W w' := by
  obtain ⟨tl, htl⟩ : ∃ t, L[n]? = some t := ⟨L[n]'(by omega), List.getElem?_eq_getElem _⟩
  obtain ⟨x0, x1⟩ := h.cell htl
  obtain ⟨cur0, _, hcap, hmx, _, _⟩ := h.out
  have hp := h.put 0 tl
  have hF := foot_cells W g (0 * 2) (.int .u64 tl.1) (.int .i64 tl.2)
  have hth : W.there g 0 2 := h.there (k := 0) (by omega)
  rw [Nat.zero_mul] at hp hF
  obtain ⟨w1, hw1⟩ : ∃ w1, W.setCells g 0 [.int .u64 tl.1, .int .i64 tl.2] = w1 := ⟨_, rfl⟩
  rw [hw1] at hp hF
  have hl1 : (L.set 0 tl).length = n + 1 := by rw [List.length_set]; exact hn
  have hq := hp.take n (by omega)
  have hql : ((L.set 0 tl).take n).length = n := by rw [List.length_take]; omega
  have hqp := Tm.pop_perm hn h0 htl
  have hqh := Tm.pop_heap (n := n) hh tl
  obtain ⟨L1, hL1⟩ : ∃ L1, (L.set 0 tl).take n = L1 := ⟨_, rfl⟩
  rw [hL1] at hq hql hqp hqh
  unfold maxLen at hmx
  rw [hn] at hcap hlen
  have HH := Lib.hid (And.intro hq (And.intro hql (And.intro hqp (And.intro hqh hF))))
  have hsz : w1.heap.size = W.heap.size := by rw [← hw1]; simp [setCells_two, World.setCell]
  clear h hn hh h0 htl hp hl1 hL1 hq hqp hqh hF
  by_cases hz : n = 0
  · subst hz
    obtain rfl : L1 = [] := List.eq_nil_of_length_eq_zero hql
    clear hql
    go_enter Try.func30, Try.ntmps30
    go_wp2_with (first
      | ((with_reducible show wpList _ _ _ (⟨_, .store _ _ _, _, _, _, _⟩ :: _) _ _); refine wpList_store_mid rfl _ _ _ rfl g 0 #[.int .u64 tl.1, .int .i64 tl.2] rfl rfl hth tmInfo (by rw [← Array.all_toList]; rfl) ?_; rw [hw1])
      | (go_at_call 31; refine (sink_e _ _ _).mono ?_; rintro e w2 ⟨⟨v, rfl⟩, rfl⟩))
    go_ret
    exact ⟨rfl, [], HH.out.1, rfl, HH.out.2.2.1, Tm.heap_end (by simp), HH.out.2.2.2.2⟩
  · have hsk := sink_p g cap 0 L1 w1 HH.out.1 (by omega) (by omega) (fun j c tj tc hj => HH.out.2.2.2.1 j c tj tc (by omega))
    rw [hql] at hsk
    go_enter Try.func30, Try.ntmps30
    go_wp2_with (first
      | ((with_reducible show wpList _ _ _ (⟨_, .store _ _ _, _, _, _, _⟩ :: _) _ _); refine wpList_store_mid rfl _ _ _ rfl g 0 #[.int .u64 tl.1, .int .i64 tl.2] rfl rfl hth tmInfo (by rw [← Array.all_toList]; rfl) ?_; rw [hw1])
      | (go_at_call 31; refine hsk.mono ?_; rintro e w2 ⟨⟨v, rfl⟩, L2, g1, g2, g3, g4⟩))
    go_ret
    exact ⟨rfl, L2, g1, by rw [g2.length_eq]; exact hql, (List.Perm.cons t0 g2).trans HH.out.2.2.1, g3, HH.out.2.2.2.2.trans' g4⟩
end Go.Proofs.Ytbnfjppidmiheaa
