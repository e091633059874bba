/-
  The program's wheel of layer 6 in memory; its small functions. Conditions: those that each theorem names.
-/
import Derived.Maps.RangeWalk
import Derived.Maps.OwnSet
import Derived.WalkSpells
import Derived.Test.YtbnfjppidmiheaaWheelD
import Derived.Test.YtbnfjppidmiheaaWheelH
namespace Go.Proofs.Ytbnfjppidmiheaa
set_option linter.unusedSimpArgs false
set_option linter.unusedVariables false
open Go.ChangeShapes Go.WideShapes Go.ChangeAt Go.RowKit Go.Maps

theorem law : Keyed Try.prog 3 := int_keyed Try.underlying3
/-- an int, as a key -/
abbrev kl (k : Int) : Lit := .int .i64 k
abbrev el (a : Int) : DataW Unit := .lit (.int .u64 a)
/-- a map of times by keys holds these timers -/
structure MapIs (D : DataW Unit) (l : List Tm) : Prop where
  has : ∀ key, Maps.has D (kl key) = l.any (fun t => t.2 == key)
  at_ : ∀ t, t ∈ l → ∀ z, D.atKey (kl t.2) z = el t.1
  size : Maps.size D = l.length
theorem MapIs.empty : MapIs (.map []) [] := ⟨fun _ => rfl, (fun _ h => by cases h), rfl⟩
theorem kl_ne {a b : Int} (h : a ≠ b) : kl a ≠ kl b := fun e => h (by injection e)
theorem isKey (k : Int) : WideAt.IsKeyLit (kl k) := trivial
theorem any_key {l : List Tm} {key : Int} : l.any (fun t => t.2 == key) = true ↔ ∃ t, t ∈ l ∧ t.2 = key := by simp
theorem wo_same {l : List Tm} {key : Int} (h : l.any (fun t => t.2 == key) = false) : Tm.wo l key = l := by
  unfold Tm.wo
  rw [List.filter_eq_self]
  intro t ht
  rw [List.any_eq_false] at h
  have := h t ht
  simpa using this
theorem any_ins {l : List Tm} {t : Tm} {key : Int} : (Tm.ins t l).any (fun t => t.2 == key) = (t.2 == key || l.any (fun t => t.2 == key)) := by
  rw [Bool.eq_iff_iff, Bool.or_eq_true, any_key, any_key]
  constructor
  · rintro ⟨x, hx, he⟩
    rcases Tm.mem_ins.1 hx with rfl | hx
    · exact .inl (by simpa using he)
    · exact .inr ⟨x, hx, he⟩
  · rintro (h | ⟨x, hx, he⟩)
    · exact ⟨t, Tm.mem_ins.2 (.inl rfl), by simpa using h⟩
    · exact ⟨x, Tm.mem_ins.2 (.inr hx), he⟩
theorem any_wo {l : List Tm} {key k' : Int} : (Tm.wo l key).any (fun t => t.2 == k') = (l.any (fun t => t.2 == k') && (k' != key)) := by
  rw [Bool.eq_iff_iff, Bool.and_eq_true, any_key, any_key]
  constructor
  · rintro ⟨x, hx, rfl⟩
    exact ⟨⟨x, (Tm.mem_wo.1 hx).1, rfl⟩, by simpa using (Tm.mem_wo.1 hx).2⟩
  · rintro ⟨⟨x, hx, rfl⟩, he⟩
    exact ⟨x, Tm.mem_wo.2 ⟨hx, by simpa using he⟩, rfl⟩
/-- how many are left without a key's -/
theorem wo_count {s : WS} (h : s.Ok) (key : Int) : (Tm.wo s.l key).length = if s.l.any (fun t => t.2 == key) then s.l.length - 1 else s.l.length := by
  split
  · rename_i ha
    obtain ⟨t, ht, rfl⟩ := any_key.1 ha
    have := WS.wo_length h ht
    omega
  · rename_i ha
    rw [wo_same (Bool.eq_false_iff.2 ha)]
theorem MapIs.put {D : DataW Unit} {s : WS} (h : MapIs D s.l) (hok : s.Ok) (ht : Tidy D) (at_ key : Int) : MapIs (D.put (kl key) (el at_)) (Tm.ins (at_, key) (Tm.wo s.l key)) := by
  refine ⟨fun k => ?_, fun t hm z => ?_, ?_⟩
  · rw [any_ins, any_wo]
    by_cases e : k = key
    · subst e
      rw [has_put_same ht.isMap (isKey k)]
      simp
    · rw [has_put_other (kl_ne e), h.has]
      have e1 : (key == k) = false := by simpa using fun e' => e e'.symm
      have e2 : (k != key) = true := by simpa using e
      rw [e1, e2]
      simp
  · rcases Tm.mem_ins.1 hm with rfl | hm
    · exact atKey_put_same ht.isMap (isKey key) _ z
    · obtain ⟨h1, h2⟩ := Tm.mem_wo.1 hm
      rw [atKey_put_other (kl_ne h2)]
      exact h.at_ t h1 z
  · rw [size_put ht, h.has, Tm.ins_length, wo_count hok, h.size]
    cases ha : s.l.any (fun t => t.2 == key)
    · simp
    · simp only [if_true]
      obtain ⟨t, ht, _⟩ := any_key.1 ha
      have := List.length_pos_of_mem ht
      omega
theorem MapIs.del {D : DataW Unit} {s : WS} (h : MapIs D s.l) (hok : s.Ok) (ht : Tidy D) (key : Int) : MapIs (D.del (kl key)) (Tm.wo s.l key) := by
  refine ⟨fun k => ?_, fun t hm z => ?_, ?_⟩
  · rw [any_wo]
    by_cases e : k = key
    · subst e
      rw [has_del_same]
      simp
    · rw [has_del_other (kl_ne e), h.has]
      have e2 : (k != key) = true := by simpa using e
      rw [e2]
      simp
  · obtain ⟨h1, h2⟩ := Tm.mem_wo.1 hm
    rw [atKey_del_other (kl_ne h2)]
    exact h.at_ t h1 z
  · have := size_del ht (k := kl key)
    rw [h.has, h.size] at this
    rw [wo_count hok]
    cases ha : s.l.any (fun t => t.2 == key)
    · rw [ha] at this
      simpa using this
    · rw [ha] at this
      simp only [if_true] at this ⊢
      omega
section
variable {w : World} {b n : Nat} {D : DataW Unit}
theorem own_tight (h : w.ownsMap Try.prog 3 (plainElem Try.prog 22) b n D) {m : Nat} (hm : Maps.size D ≤ m) : w.ownsMap Try.prog 3 (plainElem Try.prog 22) b m D := by
  obtain ⟨es, clock, hb, F, hs, rfl⟩ := h
  refine ⟨es, clock, hb, F, ?_, rfl⟩
  rw [size_eq, length_read] at hm
  exact hm
end
/-- the program's wheel: block p, its map in block m -/
structure WhP (W : World) (p m : Nat) (s : WS) : Prop where
  box : Held W p 57 #[.int .u64 s.clk, .map (some m)]
  map : ∃ D, W.ownsMap Try.prog 3 (plainElem Try.prog 22) m 1000 D ∧ MapIs D s.l
  rng : ∀ t, t ∈ s.l → (kl t.2).wf = true
theorem WhP.lt {W : World} {p m : Nat} {s : WS} (h : WhP W p m s) : p < W.heap.size := h.box.lt
theorem WhP.ltm {W : World} {p m : Nat} {s : WS} (h : WhP W p m s) : m < W.heap.size := by
  obtain ⟨D, h1, _⟩ := h.map
  exact h1.lt
theorem WhP.ne {W : World} {p m : Nat} {s : WS} (h : WhP W p m s) : p ≠ m := by
  rintro rfl
  obtain ⟨D, ⟨es, cl, h1, _⟩, _⟩ := h.map
  have := h.box
  unfold Held at this
  rw [this] at h1
  cases h1
/-- where both blocks lie as they lay -/
theorem WhP.same {W W' : World} {p m : Nat} {s : WS} (h : WhP W p m s) (hp : W'.heap[p]? = W.heap[p]?) (hm : W'.heap[m]? = W.heap[m]?) : WhP W' p m s := by
  obtain ⟨D, ⟨es, cl, h1, h2⟩, h3⟩ := h.map
  exact ⟨hp.trans h.box, ⟨D, ⟨es, cl, hm.trans h1, h2⟩, h3⟩, h.rng⟩
theorem WhP.below {W W' : World} {p m n : Nat} {s : WS} (h : WhP W p m s) (hb : Below n W W') (hp : p < n) (hm : m < n) : WhP W' p m s := h.same (hb.block p hp) (hb.block m hm)
theorem WhP.call {W W' : World} {p m : Nat} {s : WS} (h : WhP W p m s) (hb : Below W.heap.size W W') : WhP W' p m s := h.below hb h.lt h.ltm
theorem WhP.foot {W W' : World} {p m : Nat} {s : WS} {B : Nat → Prop} (h : WhP W p m s) (hf : Foot B W W') (hp : ¬ B p) (hm : ¬ B m) : WhP W' p m s := h.same (hf.block p h.lt hp) (hf.block m h.ltm hm)
set_option maxHeartbeats 1000000 in
theorem ahead_p (a b : Tm) (w : World) : Calls Try.prog 32 #[tm a, tm b] w fun e w' => e = .returned (.bool (Tm.bef a b)) ∧ Below w.heap.size w w' := by
  obtain ⟨a1, a2⟩ := a
  obtain ⟨b1, b2⟩ := b
  by_cases h : a1 = b1
  · subst h
    have e : Tm.bef (a1, a2) (a1, b2) = decide (a2 < b2) := by simp [Tm.bef]
    rw [e]
    go_enter Try.func32, Try.ntmps32
    go_wp2
    go_ret
    exact ⟨rfl, by go_grown⟩
  · have e : Tm.bef (a1, a2) (b1, b2) = decide (a1 < b1) := by simp [Tm.bef, h]
    rw [e]
    have h1 : (a1 == b1) = false := by simpa using h
    clear e
    go_enter Try.func32, Try.ntmps32
    go_wp2
    go_ret
    exact ⟨rfl, by go_grown⟩
set_option maxHeartbeats 1000000 in
theorem missing_no (W : World) (p m : Nat) (s : WS) (h : WhP W p m s) : Calls Try.prog 23 #[.pointer (some ⟨p, 0, none⟩)] W fun e w' => e = .returned (.bool false) ∧ w' = W := by
  have c1 : W.cell? ⟨p, 1, none⟩ = some (.map (some m)) := h.box.cell 1
  clear h
  have he : ∀ w, (binOp .eql 55 (.map (some m)) (.map none)).run Try.prog w = .ok (.bool false) w := fun w => run_eql_map_nil w _ 3 22 (some m) Try.underlying55
  go_enter Try.func23, Try.ntmps23
  go_wp2
  refine bodyPost_ret (v := .bool false) (by simp [results, Try.results23, Sem.run_bind, Result.andThen]) rfl ?_
  exact ⟨rfl, rfl⟩
set_option maxHeartbeats 1000000 in
theorem missing_yes (W : World) : Calls Try.prog 23 #[.pointer none] W fun e w' => e = .returned (.bool true) ∧ w' = W := by
  go_enter Try.func23, Try.ntmps23
  go_wp2
  refine bodyPost_ret (v := .bool true) (by simp [results, Try.results23, Sem.run_bind, Result.andThen]) rfl ?_
  exact ⟨rfl, rfl⟩
set_option maxHeartbeats 1000000 in
theorem reached_p (W : World) (p : Nat) (at_ clk : Int) (c0 : W.cell? ⟨p, 0, none⟩ = some (.int .u64 clk)) : Calls Try.prog 28 #[.pointer (some ⟨p, 0, none⟩), .int .u64 at_] W fun e w' => e = .returned (.bool (decide (at_ ≤ clk))) ∧ w' = W := by
  go_enter Try.func28, Try.ntmps28
  go_wp2
  go_ret
  exact ⟨rfl, rfl⟩
set_option maxHeartbeats 1000000 in
theorem advance_no (W : World) (p : Nat) (now clk : Int) (c0 : W.cell? ⟨p, 0, none⟩ = some (.int .u64 clk)) (hn : now < clk ∨ 9223372036854775807 < now) : Calls Try.prog 26 #[.pointer (some ⟨p, 0, none⟩), .int .u64 now] W fun e w' => e = .returned (.bool false) ∧ w' = W := by
  by_cases h1 : now < clk
  · have e1 : decide (now < clk) = true := decide_eq_true h1
    clear hn
    go_enter Try.func26, Try.ntmps26
    go_wp2
    go_ret
    exact ⟨rfl, rfl⟩
  · have e1 : decide (now < clk) = false := decide_eq_false h1
    have e2 : decide (9223372036854775807 < now) = true := decide_eq_true (by omega)
    clear hn
    go_enter Try.func26, Try.ntmps26
    go_wp2
    go_ret
    exact ⟨rfl, rfl⟩
set_option maxHeartbeats 1000000 in
theorem advance_yes (W : World) (p : Nat) (now clk : Int) (c0 : W.cell? ⟨p, 0, none⟩ = some (.int .u64 clk)) (f0 : W.frozen? ⟨p, 0, none⟩ = false) (h1 : clk ≤ now) (h2 : now ≤ 9223372036854775807) : Calls Try.prog 26 #[.pointer (some ⟨p, 0, none⟩), .int .u64 now] W fun e w' => e = .returned (.bool true) ∧ w' = W.setCell ⟨p, 0, none⟩ (.int .u64 now) := by
  have e1 : decide (now < clk) = false := decide_eq_false (by omega)
  have e2 : decide (9223372036854775807 < now) = false := decide_eq_false (by omega)
  go_enter Try.func26, Try.ntmps26
  go_wp2
  go_ret
  exact ⟨rfl, rfl⟩
end Go.Proofs.Ytbnfjppidmiheaa
