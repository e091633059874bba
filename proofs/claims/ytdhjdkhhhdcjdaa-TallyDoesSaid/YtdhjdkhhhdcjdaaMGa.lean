/-
  What a call on an object may touch: every block that was there, but the object's own ones, lies as it lay. Conditions: those that each theorem names. A region that draws its order, inside a fence: an operation that reads may be taken first where, until it has come up, the world gives what it reads. The condition on the world need be shown only until operation k has come up, for which all readers are waited. Conditions: those that each theorem names. For iterators: what a round keeps, and a scope inside the wide fence. Conditions: those that each theorem names. A struct by value out of, and into, a block of its own: one step of the walk each, however many fields it has; one field of it likewise; its return out of its box. Conditions: those that each theorem names. A struct by value out of, and into, a block of its own, inside a fence: one step of the walk each. Conditions: those that each theorem names. A region that draws its order: an operation that neither reads nor writes memory may be taken first, wherever the region stands. Conditions: those that each theorem names. A region that draws its order, over structs that lie in boxes: a load of a struct, or of one of its fields, may be taken first where the condition on the world gives the box. Conditions: those that each theorem names. Boxes on the heap as one fact: each of a list of blocks holds its cells, all of them new since a world, nothing that was there touched. Conditions: those that each theorem names. A region that d
-/
import Derived.Below
import Derived.RangeFuncBox
import Derived.Laws.OwnMore
import Derived.Deep.Draws
import Derived.OrdersIn
import Derived.RegionIn
import Derived.RangeFuncNested
import Derived.RangeFuncBound
import Derived.RangeFuncCalls
import Derived.RangeFuncLeaves
import Derived.Shelf.Abstract
import Derived.Shelf.RegionOpen
import Derived.OwnWalkIn
import Derived.TacticsInMore
import Derived.LoopNIn
import Derived.LoopIn
import Derived.Maps.AppendAt
import Derived.WalkMore
import Derived.Deep.MidRow
import Derived.Laws.ResultCell
import Derived.Deep.Slices
import Derived.Deep.Fields
import Derived.ChangeSame
import Derived.Lib.SmallJoins
import Derived.OpenShut
import Derived.Carry
/- What a call on an object may touch: every block that was there, but the object's own ones, lies as it lay. Conditions: those that each theorem names. -/
section
namespace Go.Proofs.Ytdhjdkhhhdcjdaa
open Go.RowKit

/-- every block that was there, but those in B, lies as it lay -/
structure Foot (B : Nat → Prop) (W W' : World) : Prop where
  os : W'.os = W.os
  tape : W'.tape = W.tape
  output : W'.output = W.output
  size : W.heap.size ≤ W'.heap.size
  block : ∀ k, k < W.heap.size → ¬ B k → W'.heap[k]? = W.heap[k]?

theorem Foot.refl (B : Nat → Prop) (W : World) : Foot B W W := ⟨rfl, rfl, rfl, Nat.le_refl _, fun _ _ _ => rfl⟩
/-- two steps: what the second one touches is touched already, or new -/
theorem Foot.trans {B B' : Nat → Prop} {a b c : World} (h : Foot B a b) (k : Foot B' b c) (hB : ∀ i, i < a.heap.size → B' i → B i) : Foot B a c :=
  ⟨k.os.trans h.os, k.tape.trans h.tape, k.output.trans h.output, Nat.le_trans h.size k.size, fun i hi hn => (k.block i (Nat.lt_of_lt_of_le hi h.size) (fun e => hn (hB i hi e))).trans (h.block i hi hn)⟩
theorem Foot.trans' {B : Nat → Prop} {a b c : World} (h : Foot B a b) (k : Foot B b c) : Foot B a c := h.trans k fun _ _ e => e
theorem Foot.mono {B B' : Nat → Prop} {W W' : World} (h : Foot B W W') (hB : ∀ i, i < W.heap.size → B i → B' i) : Foot B' W W' := ⟨h.os, h.tape, h.output, h.size, fun i hi hn => h.block i hi fun e => hn (hB i hi e)⟩
theorem Foot.alloc {B : Nat → Prop} {a w : World} (h : Foot B a w) (o : Obj) : Foot B a (w.alloc o) :=
  h.trans' ⟨rfl, rfl, rfl, by simp, fun k hk _ => Below.heap_alloc _ _ _ hk⟩
theorem Foot.drew {B : Nat → Prop} {a w : World} (h : Foot B a w) : Foot B a w.drew := ⟨h.os, h.tape, h.output, h.size, h.block⟩
theorem Foot.drewN {B : Nat → Prop} {a w : World} (h : Foot B a w) (n : Nat) : Foot B a (w.drewN n) := ⟨h.os, h.tape, h.output, h.size, h.block⟩
/-- a store into an own block, or a new one -/
theorem Foot.setCell {B : Nat → Prop} {a w : World} (h : Foot B a w) {p : Addr} (hp : p.block < a.heap.size → B p.block) (u : Value) : Foot B a (w.setCell p u) :=
  ⟨h.os, h.tape, h.output, by have := h.size; simp [World.setCell]; exact this, fun k hk hn => (Below.heap_setCell _ _ _ _ (fun e => hn (by subst e; exact hp hk))).trans (h.block k hk hn)⟩
theorem Foot.grown {B : Nat → Prop} {a w w' : World} {row : Option Nat} (h : Foot B a w) (hg : w.grownBy w' row) (hr : ∀ k, row = some k → k < a.heap.size → B k) : Foot B a w' :=
  ⟨hg.os.trans h.os, hg.tape.trans h.tape, hg.output.trans h.output, Nat.le_trans h.size hg.size, fun k hk hn => (hg.block k (Nat.lt_of_lt_of_le hk h.size) (fun e => hn (hr k e.symm hk))).trans (h.block k hk hn)⟩
/-- a call that touches nothing that was there -/
theorem Foot.of_below {B : Nat → Prop} {W W' : World} (h : Below W.heap.size W W') : Foot B W W' := ⟨h.os, h.tape, h.output, h.size, fun k hk _ => h.block k hk⟩
theorem Foot.then_below {B : Nat → Prop} {a w w' : World} (h : Foot B a w) (hb : Below w.heap.size w w') : Foot B a w' := h.trans' (Foot.of_below hb)
/-- what is touched lies from n on -/
theorem Foot.below {B : Nat → Prop} {W W' : World} (h : Foot B W W') {n : Nat} (hn : n ≤ W.heap.size) (hB : ∀ i, B i → n ≤ i) : Below n W W' :=
  ⟨h.os, h.tape, h.output, h.size, fun k hk => h.block k (Nat.lt_of_lt_of_le hk hn) fun e => by have := hB k e; omega⟩
/-- behind what touches nothing that was there -/
theorem Foot.after {B : Nat → Prop} {a w w' : World} (h : Below a.heap.size a w) (k : Foot B w w') (hB : ∀ i, B i → a.heap.size ≤ i) : Below a.heap.size a w' := h.trans (k.below h.size hB)

/-- block b holds these cells -/
def Held (W : World) (b : Nat) (t : TypeId) (cs : Array Value) : Prop := W.heap[b]? = some (.cells cs t (0, 0))
theorem Held.lt {W : World} {b : Nat} {t : TypeId} {cs : Array Value} (h : Held W b t cs) : b < W.heap.size := (Array.getElem?_eq_some_iff.1 h).1
theorem Held.cell {W : World} {b : Nat} {t : TypeId} {cs : Array Value} (h : Held W b t cs) (j : Nat) : W.cell? ⟨b, j, none⟩ = cs[j]? := by simp [World.cell?, show W.heap[b]? = _ from h]
theorem Held.frozen {W : World} {b : Nat} {t : TypeId} {cs : Array Value} (h : Held W b t cs) (j : Nat) : W.frozen? ⟨b, j, none⟩ = false := by simp [World.frozen?, show W.heap[b]? = _ from h]
theorem Held.alloc {W : World} {b : Nat} {t : TypeId} {cs : Array Value} (h : Held W b t cs) (o : Obj) : Held (W.alloc o) b t cs := (Below.heap_alloc _ _ _ h.lt).trans h
theorem Held.new (W : World) (t : TypeId) (cs : Array Value) : Held (W.alloc (.cells cs t)) W.heap.size t cs := World.alloc_heap_new W _
theorem Held.set {W : World} {b : Nat} {t : TypeId} {cs : Array Value} (h : Held W b t cs) (j : Nat) (v : Value) : Held (W.setCell ⟨b, j, none⟩ v) b t (cs.setIfInBounds j v) := by
  obtain ⟨hlt, hk⟩ := Array.getElem?_eq_some_iff.1 h
  show (W.heap.modify b _)[b]? = _
  rw [Array.getElem?_eq_getElem (by rw [Array.size_modify]; exact hlt), Array.getElem_modify_self, hk]
  rfl
theorem Held.other {W : World} {b b' : Nat} {t : TypeId} {cs : Array Value} (h : Held W b t cs) (hne : b ≠ b') (j : Nat) (v : Value) : Held (W.setCell ⟨b', j, none⟩ v) b t cs := (Below.heap_setCell _ _ _ _ hne).trans h
theorem Held.below {W W' : World} {b B : Nat} {t : TypeId} {cs : Array Value} (h : Held W b t cs) (hb : Below B W W') (hlt : b < B) : Held W' b t cs := (hb.block b hlt).trans h
theorem Held.foot {W W' : World} {b : Nat} {B : Nat → Prop} {t : TypeId} {cs : Array Value} (h : Held W b t cs) (hf : Foot B W W') (hn : ¬ B b) : Held W' b t cs := (hf.block b h.lt hn).trans h
theorem Held.drew {W : World} {b : Nat} {t : TypeId} {cs : Array Value} (h : Held W b t cs) : Held W.drew b t cs := h
end Go.Proofs.Ytdhjdkhhhdcjdaa
end
/- A region that draws its order, inside a fence: an operation that reads may be taken first where, until it has come up, the world gives what it reads. The condition on the world need be shown only until operation k has come up, for which all readers are waited. Conditions: those that each theorem names. -/
section
namespace Go.Proofs.Ytdhjdkhhhdcjdaa
open Go
section
variable {F : Fence} {n : Nat} {P : Program} {ops : Array Oper} {Q : Exit → Act → World → Prop} {md : Region.Mode} {R : World → Prop} {k : Nat}

/-- in both states the operation looks at the same -/
def SameLook (P : Program) (ops : Array Oper) (o : Oper) (a a' : Act) : Prop :=
  execOp a'.eval o = execOp a.eval o ∧ Region.wanted o (yielded ops a'.tmps) = Region.wanted o (yielded ops a.tmps) ∧ ∀ w, o.about P w a'.eval = o.about P w a.eval

theorem wpOpIn_look {j : Nat} {oi oj : Oper} {v : Value} (hro : F.round = none) (hj : ops[j]? = some oj) (hap : oi.apart ops oj = true)
    (hsi : ∀ cs b, oi.op ≠ .select cs b) (hsj : ∀ cs b, oj.op ≠ .select cs b) (hQ : ∀ c a w, Q (.panic c) (a.put oi.dst v) w → Q (.panic c) a w)
    {K : Act → World → Prop} {a : Act} {w : World} (h : wpOpIn F n P ops Q j K (a.put oi.dst v) w) :
    wpOpIn F n P ops Q j (fun a' w' => SameLook P ops oi a a' ∧ K (a'.put oi.dst v) w') a w := by
  obtain ⟨h1, h2, h3⟩ := Oper.apart_spec hap
  have keep : ∀ u, SameLook P ops oi a (a.put oj.dst u) := fun u => ⟨execOp_put oi hsi a oj.dst u h3, wanted_put oi a oj.dst u h3, fun w => about_put oi w a oj.dst u h3⟩
  have keepD : ∀ d u, SameLook P ops oi a ({ a with defers := d :: a.defers }.put oj.dst u) := fun d u =>
    ⟨(execOp_put oi hsi { a with defers := d :: a.defers } oj.dst u h3).trans rfl, (wanted_put oi { a with defers := d :: a.defers } oj.dst u h3).trans rfl, fun w => (about_put oi w { a with defers := d :: a.defers } oj.dst u h3).trans rfl⟩
  unfold wpOpIn at *
  simp only [hj] at *
  rw [wanted_put oj a oi.dst v h1, about_put oj w a oi.dst v h1] at h
  by_cases hw : Region.wanted oj (yielded ops a.tmps) = true
  · simp only [hw, if_true] at h ⊢
    unfold Oper.wpIn at *
    rw [about_put oj w a oi.dst v h1] at h
    refine ⟨h.1, ?_⟩
    have h := h.2
    rw [hro, Oper.semAt_none, execOp_put oj hsj a oi.dst v h1] at h
    rw [hro, Oper.semAt_none]
    generalize (execOp a.eval oj).run P w = r at *
    have fin : ∀ (e : Ending) (w'' : World), (match e, w'' with
        | .returned u, w'' => K ((a.put oi.dst v).put oj.dst u) w''
        | .panicked c, w'' => Q (.panic c) (a.put oi.dst v) w''
        | .outgrown, _ => LetsOut Q) → (match e, w'' with
        | .returned u, w'' => SameLook P ops oi a (a.put oj.dst u) ∧ K ((a.put oj.dst u).put oi.dst v) w''
        | .panicked c, w'' => Q (.panic c) a w''
        | .outgrown, _ => LetsOut Q) := fun e w'' he => by
      cases e with
      | returned u => exact ⟨keep u, by rw [← Act.put_comm a v u h2]; exact he⟩
      | panicked c => exact hQ _ _ _ he
      | outgrown => exact he
    cases r with
    | ok x w' =>
      cases x <;> simp only [Oper.uponIn] at h ⊢
      case value u => exact ⟨keep u, by rw [← Act.put_comm a v u h2]; exact h⟩
      case skip => exact ⟨keep _, by rw [← Act.put_comm a v undef h2]; exact h⟩
      case defer d => exact ⟨keepD d _, by rw [← Act.put_comm _ v undef h2, ← Act.put_defers]; exact h⟩
      case enter f args => exact ⟨h.1, h.2.mono fin⟩
      case row row args => exact ⟨h.1, RowsIn.mono h.2 fun u w'' he => ⟨keep u, by rw [← Act.put_comm a v u h2]; exact he⟩⟩
      case round l f tmps assign body => exact ⟨h.1, h.2.mono fin⟩
    | halt x w' =>
      cases x <;> simp only [Oper.uponIn] at h ⊢
      case panic u => exact hQ _ _ _ h
  · simp only [hw] at h ⊢
    exact ⟨h.1, keep _, by rw [← Act.put_comm a v undef h2]; exact h.2⟩

/-- what has come up has come up behind all that it waits for -/
def ClosedL (md : Region.Mode) (ops : Array Oper) (listed : Array Bool) : Prop :=
  ∀ j oj, ops[j]? = some oj → listed.getD j false = true → ∀ e ∈ oj.after, Region.binds md e = true → listed.getD e.on false = true
/-- k waits for i, in f steps at most -/
def reach (md : Region.Mode) (ops : Array Oper) : Nat → Nat → Nat → Bool
  | 0, _, _ => false
  | f + 1, k, i => match ops[k]? with
    | none => false
    | some o => o.after.any fun e => Region.binds md e && (e.on == i || reach md ops f e.on i)
theorem reach_listed {listed : Array Bool} (hc : ClosedL md ops listed) (i : Nat) : ∀ (f k : Nat), listed.getD k false = true → reach md ops f k i = true → listed.getD i false = true
  | 0, _, _, h => by cases h
  | f + 1, k, hk, h => by
    unfold reach at h
    split at h
    · cases h
    · rename_i o ho
      obtain ⟨e, he, hb⟩ := Array.any_eq_true'.1 h
      simp only [Bool.and_eq_true, Bool.or_eq_true, beq_iff_eq] at hb
      have h1 := hc k o ho hk e he hb.1
      rcases hb.2 with h2 | h2
      · rw [← h2]; exact h1
      · exact reach_listed hc i f e.on h1 h2
theorem getD_tf {listed : Array Bool} {i : Nat} (h : listed.getD i true = false) : listed.getD i false = false := by
  rcases Nat.lt_or_ge i listed.size with h' | h'
  · simp [h'] at h ⊢; exact h
  · simp [Array.getElem?_eq_none h'] at h
theorem getD_up {listed : Array Bool} {i j : Nat} (h : listed.getD i false = true) : (listed.setIfInBounds j true).getD i false = true := by
  rcases Nat.lt_or_ge i listed.size with h' | h'
  · simp [h'] at h ⊢
    by_cases hij : j = i
    · subst hij; simp
    · rw [Array.getElem_setIfInBounds_ne (by simpa using h') hij]; exact h
  · simp [Array.getElem?_eq_none h'] at h
theorem getD_back {listed : Array Bool} {i j : Nat} (hne : j ≠ i) (h : (listed.setIfInBounds j true).getD i false = true) : listed.getD i false = true := by
  rcases Nat.lt_or_ge i listed.size with h' | h'
  · simp [h'] at h ⊢
    rw [Array.getElem_setIfInBounds_ne (by simpa using h') hne] at h; exact h
  · rw [Array.getD_eq_getD_getElem?, Array.getElem?_eq_none (by simpa using h')] at h
    cases h
theorem ClosedL.set {listed : Array Bool} {i : Nat} (hc : ClosedL md ops listed) (hi : i ∈ Region.ready md ops listed) : ClosedL md ops (listed.setIfInBounds i true) := by
  intro j oj hj hl e he hb
  obtain ⟨_, oi, hoi, hall⟩ := mem_ready.1 hi
  by_cases hij : i = j
  · subst hij
    have : oj = oi := Option.some.inj (hj.symm.trans hoi)
    subst this
    exact getD_up (hall e he hb)
  · exact getD_up (hc j oj hj (getD_back hij hl) e he hb)
theorem closedL_none (m : Nat) : ClosedL md ops (Array.replicate m false) := by
  intro j oj _ hl
  rcases Nat.lt_or_ge j m with h | h
  · simp [h] at hl
  · simp [h] at hl

/-- whatever order is picked from here on; behind each operation R holds of the world, or k has come up -/
def wpAnyG (F : Fence) (n : Nat) (P : Program) (md : Region.Mode) (ops : Array Oper) (Q : Exit → Act → World → Prop) (R : World → Prop) (k : Nat) : Nat → Array Bool → Act → World → Prop
  | 0, listed, a, w => Region.ready md ops listed = [] ∧ Q .normal a w
  | fuel + 1, listed, a, w => (Region.ready md ops listed = [] → Q .normal a w) ∧
    ∀ i ∈ Region.ready md ops listed, wpOpIn F n P ops Q i (fun a' w' => ((listed.setIfInBounds i true).getD k false = true ∨ R w') ∧ wpAnyG F n P md ops Q R k fuel (listed.setIfInBounds i true) a' w') a w

theorem wpAnyIn_of_G : ∀ (fuel : Nat) (listed : Array Bool) (a : Act) (w : World), wpAnyG F n P md ops Q R k fuel listed a w → wpAnyIn F n P md ops Q fuel listed a w
  | 0, _, _, _, h => h
  | fuel + 1, _, _, _, h => ⟨h.1, fun i hi => wpOpIn_mono (fun a' w' h' => wpAnyIn_of_G fuel _ a' w' h'.2) (h.2 i hi)⟩

/-- where R holds, the operation leaves v and does nothing else -/
def YieldsG (P : Program) (ops : Array Oper) (R : World → Prop) (o : Oper) (v : Value) (a : Act) : Prop :=
  Region.wanted o (yielded ops a.tmps) = true ∧ (∀ w, R w → (execOp a.eval o).run P w = .ok (.value v) w) ∧ ∀ w, o.about P w a.eval = none

theorem YieldsG.same {o : Oper} {v : Value} {a a' : Act} (h : YieldsG P ops R o v a) (hl : SameLook P ops o a a') : YieldsG P ops R o v a' :=
  ⟨hl.2.1.trans h.1, fun w h1 => by rw [hl.1]; exact h.2.1 w h1, fun w => by rw [hl.2.2]; exact h.2.2 w⟩

theorem YieldsG.wpOpIn {i : Nat} {o : Oper} {v : Value} {a : Act} (hro : F.round = none) (hi : ops[i]? = some o) (hy : YieldsG P ops R o v a) {K : Act → World → Prop} {w : World}
    (hR : R w) (h : K (a.put o.dst v) w) : wpOpIn F n P ops Q i K a w := by
  unfold Go.wpOpIn
  simp only [hi]
  have hab : ∀ f, o.about P w a.eval = some f → F.fn f := fun f hf => by rw [hy.2.2 w] at hf; cases hf
  simp only [hy.1, if_true, Oper.wpIn, hro, Oper.semAt_none, hy.2.1 w hR, Oper.uponIn]
  exact ⟨hab, h⟩

theorem wpAnyG_first {i f : Nat} {oi : Oper} {v : Value} (hro : F.round = none) (hi : ops[i]? = some oi) (hsel : ∀ (j : Nat) (o : Oper) cs b, ops[j]? = some o → o.op ≠ .select cs b)
    (hQ : ∀ c a w, Q (.panic c) (a.put oi.dst v) w → Q (.panic c) a w) (hk : reach md ops f k i = true) (hik : i ≠ k) :
    ∀ (fuel : Nat) (listed : Array Bool) (a : Act) (w : World), ClosedL md ops listed →
      (∀ j oj, ops[j]? = some oj → j ≠ i → listed.getD j true = false → (∀ e ∈ oj.after, Region.binds md e = true → e.on ≠ i) → oi.apart ops oj = true) →
      i ∈ Region.ready md ops listed → YieldsG P ops R oi v a → R w →
      wpAnyG F n P md ops Q R k fuel (listed.setIfInBounds i true) (a.put oi.dst v) w → wpAnyG F n P md ops Q R k (fuel + 1) listed a w := by
  intro fuel
  induction fuel with
  | zero =>
    intro listed a w _ _ hr hy hS H
    refine ⟨fun h => (by rw [h] at hr; cases hr), fun j hj => ?_⟩
    by_cases hji : j = i
    · subst hji; exact hy.wpOpIn hro hi hS ⟨.inr hS, H⟩
    · have := ready_mono hj hji
      rw [H.1] at this
      cases this
  | succ fuel ih =>
    intro listed a w hc hfree hr hy hS H
    refine ⟨fun h => (by rw [h] at hr; cases hr), fun j hj => ?_⟩
    by_cases hji : j = i
    · subst hji; exact hy.wpOpIn hro hi hS ⟨.inr hS, H⟩
    · have h1 := H.2 j (ready_mono hj hji)
      obtain ⟨hjun, oj, hoj, hall⟩ := mem_ready.1 hj
      have hun := (mem_ready.1 hr).1
      have hnot : ∀ e ∈ oj.after, Region.binds md e = true → e.on ≠ i := fun e he hb heq => by
        have h1 := hall e he hb
        rw [heq, getD_tf hun] at h1
        cases h1
      have h2 := wpOpIn_look hro hoj (hfree j oj hoj hji hjun hnot) (fun cs b => hsel i oi cs b hi) (fun cs b => hsel j oj cs b hoj) hQ h1
      have hfree' : ∀ k ok, ops[k]? = some ok → k ≠ i → (listed.setIfInBounds j true).getD k true = false →
          (∀ e ∈ ok.after, Region.binds md e = true → e.on ≠ i) → oi.apart ops ok = true := fun k ok hk hki hun hno => by
        refine hfree k ok hk hki ?_ hno
        by_cases hjk : j = k
        · subst hjk; exact hjun
        · rw [getD_set_ne true hjk] at hun; exact hun
      have hcj := hc.set hj
      have hrj : i ∈ Region.ready md ops (listed.setIfInBounds j true) := ready_mono hr (Ne.symm hji)
      have hkj : (listed.setIfInBounds j true).getD k false = false := by
        rcases hb : (listed.setIfInBounds j true).getD k false with _ | _
        · rfl
        · have := reach_listed hcj i f k hb hk
          rw [getD_tf (mem_ready.1 hrj).1] at this
          cases this
      refine wpOpIn_mono (fun a' w' h3 => ?_) h2
      obtain ⟨hl, hS', hW⟩ := h3
      have hR' : R w' := by
        rcases hS' with h | h
        · rw [Array.setIfInBounds_comm _ _ (Ne.symm hji)] at h
          have := getD_back hik h
          rw [hkj] at this
          cases this
        · exact h
      rw [Array.setIfInBounds_comm _ _ (Ne.symm hji)] at hW
      exact ⟨.inr hR', ih (listed.setIfInBounds j true) a' w' hcj hfree' hrj (hy.same hl) hR' hW⟩

/-- the beginning -/
theorem wpIn_region_G {id : Nat} {a : Act} {w : World} (R : World → Prop) (k m : Nat) (hsz : ops.size = m) (hm : P.follows .mixedOrders = true)
    (h : ClosedL .any ops (Array.replicate m false) → wpAnyG F n P .any ops Q R k m (Array.replicate m false) a w.drew) : (Code.region id ops true).wpIn F n P Q a w := by
  subst hsz
  exact wpIn_region_any hm (wpAnyIn_of_G _ _ _ _ (h (closedL_none _)))

/-- take operation i first -/
theorem wpAnyG_take {i : Nat} (f : Nat) {oi : Oper} {v : Value} {fuel : Nat} {listed : Array Bool} {a : Act} {w : World} (hro : F.round = none) (hi : ops[i]? = some oi)
    (hs : Region.noSelect ops = true) (hf : Region.free md ops listed i = true) (hr : (Region.ready md ops listed).contains i = true)
    (hQ : ∀ c a w, Q (.panic c) (a.put oi.dst v) w → Q (.panic c) a w) (hk : reach md ops f k i = true) (hik : i ≠ k) (hc : ClosedL md ops listed)
    (hy : YieldsG P ops R oi v a) (hS : R w)
    (h : ClosedL md ops (listed.setIfInBounds i true) → wpAnyG F n P md ops Q R k fuel (listed.setIfInBounds i true) (a.put oi.dst v) w) : wpAnyG F n P md ops Q R k (fuel + 1) listed a w :=
  wpAnyG_first hro hi (Region.noSelect_spec hs) hQ hk hik fuel listed a w hc (Region.free_spec hi hf) (by simpa using hr) hy hS (h (hc.set (by simpa using hr)))

/-- one operation alone may come up -/
theorem wpAnyG_one {i : Nat} {oi : Oper} {fuel : Nat} {listed : Array Bool} {a : Act} {w : World} (hr : Region.ready md ops listed = [i]) (hi : ops[i]? = some oi)
    (h : ∀ K' : Act → World → Prop, (∀ a' w', ((listed.setIfInBounds i true).getD k false = true ∨ R w') → wpAnyG F n P md ops Q R k fuel (listed.setIfInBounds i true) a' w' → K' a' w') →
      if Region.wanted oi (yielded ops a.tmps) = true then Oper.wpIn F n P oi a w K' Q else (∀ f, oi.about P w a.eval = some f → F.fn f) ∧ K' (a.put oi.dst undef) w) : wpAnyG F n P md ops Q R k (fuel + 1) listed a w := by
  refine ⟨fun h0 => (by rw [hr] at h0; cases h0), fun j hj => ?_⟩
  rw [hr] at hj
  obtain rfl : j = i := by simpa using hj
  exact wpOpIn_step hi (fun K' hK => h K' (fun a' w' h1 h2 => hK _ _ ⟨h1, h2⟩))
/-- two operations may come up -/
theorem wpAnyG_two {i j : Nat} {oi oj : Oper} {fuel : Nat} {listed : Array Bool} {a : Act} {w : World} (hr : Region.ready md ops listed = [i, j]) (hi : ops[i]? = some oi) (hj : ops[j]? = some oj)
    (h : ∀ K' : Act → World → Prop, (∀ a' w', ((listed.setIfInBounds i true).getD k false = true ∨ R w') → wpAnyG F n P md ops Q R k fuel (listed.setIfInBounds i true) a' w' → K' a' w') →
      if Region.wanted oi (yielded ops a.tmps) = true then Oper.wpIn F n P oi a w K' Q else (∀ f, oi.about P w a.eval = some f → F.fn f) ∧ K' (a.put oi.dst undef) w)
    (h' : ∀ K' : Act → World → Prop, (∀ a' w', ((listed.setIfInBounds j true).getD k false = true ∨ R w') → wpAnyG F n P md ops Q R k fuel (listed.setIfInBounds j true) a' w' → K' a' w') →
      if Region.wanted oj (yielded ops a.tmps) = true then Oper.wpIn F n P oj a w K' Q else (∀ f, oj.about P w a.eval = some f → F.fn f) ∧ K' (a.put oj.dst undef) w) : wpAnyG F n P md ops Q R k (fuel + 1) listed a w := by
  refine ⟨fun h0 => (by rw [hr] at h0; cases h0), fun m hm => ?_⟩
  rw [hr] at hm
  have hm' : m = i ∨ m = j := by simpa using hm
  rcases hm' with rfl | rfl
  · exact wpOpIn_step hi (fun K' hK => h K' (fun a' w' h1 h2 => hK _ _ ⟨h1, h2⟩))
  · exact wpOpIn_step hj (fun K' hK => h' K' (fun a' w' h1 h2 => hK _ _ ⟨h1, h2⟩))
theorem wpAnyG_done {listed : Array Bool} {a : Act} {w : World} (hr : Region.ready md ops listed = []) (h : Q .normal a w) : ∀ fuel, wpAnyG F n P md ops Q R k fuel listed a w
  | 0 => ⟨hr, h⟩
  | _ + 1 => ⟨fun _ => h, by rw [hr]; simp⟩
end
end Go.Proofs.Ytdhjdkhhhdcjdaa
end
/- For iterators: what a round keeps, and a scope inside the wide fence. Conditions: those that each theorem names. -/
section
namespace Go.Proofs.Ytdhjdkhhhdcjdaa
open Go.RowKit Go.Shelf

/-- what a round keeps: every block below n but block b lies as it lay -/
def KeepsBut (n b : Nat) (W W' : World) : Prop := ∀ k, k < n → k ≠ b → W'.heap[k]? = W.heap[k]?
theorem KeepsBut.refl (n b : Nat) (W : World) : KeepsBut n b W W := fun _ _ _ => rfl
theorem KeepsBut.trans {n b : Nat} {A B C : World} (h : KeepsBut n b A B) (k : KeepsBut n b B C) : KeepsBut n b A C := fun i hi hb => (k i hi hb).trans (h i hi hb)
theorem KeepsBut.put {n b : Nat} {w : World} (hn : n ≤ w.heap.size) (W : World) (l : Nat) (o o' : Obj) (hl : w.heap.size ≤ l) (_ : W.heap[l]? = some o) (_ : o.isCells = false) (_ : o.isWalk = false) : KeepsBut n b W (W.putObj l o') :=
  fun k hk _ => World.putObj_heap_other (by omega)
theorem KeepsBut.boxed {n b : Nat} {A B : World} (h : KeepsBut n b A B) {i : Nat} {t : TypeId} {v : Value} (hx : Boxed A i t v) (hi : i < n) (hb : i ≠ b) : Boxed B i t v := (h i hi hb).trans hx
theorem scope_in {n : Nat} {P : Program} {c : Code} {Q : Exit → Act → World → Prop} {a : Act} {w : World} (h : c.wpIn Fence.wide n P (Exit.noGoto Q) a w) : (Code.scope c).wpIn Fence.wide n P Q a w :=
  wpIn_wide.2 (wp_scope_straight (wpIn_wide.1 h))
end Go.Proofs.Ytdhjdkhhhdcjdaa
end
/- A struct by value out of, and into, a block of its own: one step of the walk each, however many fields it has; one field of it likewise; its return out of its box. Conditions: those that each theorem names. -/
section
namespace Go.Proofs.Ytdhjdkhhhdcjdaa
open Go.RowKit

theorem Held.setRow {W : World} {b : Nat} {t : TypeId} {cs : Array Value} (h : Held W b t cs) (vs : Array Value) : Held (W.setRow b vs) b t vs := setRow_heap W b cs vs t (0, 0) h
theorem Foot.setRow (W : World) (b : Nat) (vs : Array Value) : Foot (· = b) W (W.setRow b vs) := ⟨rfl, rfl, rfl, by simp, fun k _ hk => setRow_other W b k vs hk⟩
theorem Foot.cell (W : World) (p : Addr) (v : Value) : Foot (· = p.block) W (W.setCell p v) := (Foot.refl (fun i => i = p.block) W).setCell (p := p) (fun _ => rfl) v
/-- two boxes behind each other -/
theorem two_boxes (w : World) (t t' : TypeId) (cs cs' : Array Value) : Held ((w.alloc (.cells cs t)).alloc (.cells cs' t')) w.heap.size t cs ∧ Held ((w.alloc (.cells cs t)).alloc (.cells cs' t')) (w.heap.size + 1) t' cs' ∧ Below w.heap.size w ((w.alloc (.cells cs t)).alloc (.cells cs' t')) := by
  refine ⟨(Held.new w _ _).alloc _, ?_, ((Below.refl _ _).alloc (Nat.le_refl _) _).alloc (by simp) _⟩
  have h := Held.new (w.alloc (.cells cs t)) t' cs'
  rwa [World.size_alloc] at h
/-- a box -/
theorem one_box (w : World) (t : TypeId) (cs : Array Value) : Held (w.alloc (.cells cs t)) w.heap.size t cs ∧ Below w.heap.size w (w.alloc (.cells cs t)) := ⟨Held.new w _ _, (Below.refl _ _).alloc (Nat.le_refl _) _⟩
/-- a call of which nothing is known below n touches a block from n on -/
theorem below_foot {n b : Nat} {a w w' : World} (h : Below n a w) (hf : Foot (· = b) w w') (hb : n ≤ b) (hn : n ≤ a.heap.size) : Below n a w' :=
  ⟨hf.os.trans h.os, hf.tape.trans h.tape, hf.output.trans h.output, Nat.le_trans h.size hf.size, fun k hk => (hf.block k (Nat.lt_of_lt_of_le hk (Nat.le_trans hn h.size)) (by omega)).trans (h.block k hk)⟩
/-- what an operand holds, as a literal -/
def opnd (a : Act) : Operand → Option Value
  | .tmp k => a.tmps.toList[k]?
  | .const v => some v
  | x => some (a.eval x)
theorem opnd_eval {a : Act} {x : Operand} {v : Value} (h : opnd a x = some v) : a.eval x = v := by
  cases x with
  | tmp k =>
    have h' : a.tmps[k]? = some v := (Array.getElem?_toList ..).symm.trans h
    show a.tmps.getD k undef = v
    simp [h']
  | const u => exact Option.some.inj h
  | _ => exact Option.some.inj h
section
variable {P : Program} {ops : Array Oper} {rest : List Oper} {o : Oper} {a : Act} {w : World} {Q : Exit → Act → World → Prop}
theorem wpList_wanted (hw : Region.wanted o (yielded ops a.tmps) = true) (h : ∀ K : Act → World → Prop, (∀ a w, wpList P ops Q rest a w → K a w) → o.wp P a w K Q) : wpList P ops Q (o :: rest) a w :=
  wpList_step fun K hK => by rw [if_pos hw]; exact h K hK
theorem wanted_none (h : o.guard = none) : Region.wanted o (yielded ops a.tmps) = true := by simp [Region.wanted, h]
theorem wanted_some {j d : Nat} {b : Bool} {oj : Oper} (h : o.guard = some (j, b)) (hj : ops.toList[j]? = some oj) (hd : oj.dst = some d) (hv : a.tmps.toList[d]? = some (.bool b)) : Region.wanted o (yielded ops a.tmps) = true := by
  have h1 : ops[j]? = some oj := (Array.getElem?_toList ..).symm.trans hj
  have h2 : a.tmps[d]? = some (.bool b) := (Array.getElem?_toList ..).symm.trans hv
  simp [Region.wanted, h, yielded, h1, hd, h2]
/-- the whole struct is read -/
theorem load_held {b : Nat} {t ty : TypeId} {cs : Array Value} {x : Operand} {d : TypeDesc} (g : Held w b t cs) (hw : Region.wanted o (yielded ops a.tmps) = true) (ho : o.op = .load ty x) (hx : opnd a x = some (.pointer (some ⟨b, 0, none⟩)))
    (hu : P.underlying ty = some d) (hd : (match d with | .struct _ | .array _ _ => true | _ => false) = true) (hi : (P.info? ty).map (·.size) = some cs.size)
    (h : wpList P ops Q rest (a.put o.dst (.agg cs)) w) : wpList P ops Q (o :: rest) a w :=
  wpList_wanted hw fun _ hK => wp_load_row ty x ho b (opnd_eval hx) t cs (0, 0) d g hu hd hi (hK _ _ h)
/-- the whole struct is written -/
theorem store_held {b : Nat} {t ty : TypeId} {cs vs : Array Value} {x y : Operand} (g : Held w b t cs) (hw : Region.wanted o (yielded ops a.tmps) = true) (ho : o.op = .store ty x y) (hx : opnd a x = some (.pointer (some ⟨b, 0, none⟩))) (hy : opnd a y = some (.agg vs))
    (hi : (P.info? ty).map (·.size) = some vs.size) (hs : cs.size = vs.size) (h1' : vs.toList.all (·.oneCell') = true)
    (h : ∀ w', Held w' b t vs → Foot (· = b) w w' → wpList P ops Q rest (a.put o.dst undef) w') : wpList P ops Q (o :: rest) a w :=
  wpList_wanted hw fun _ hK => wp_store_row ty x y ho b vs (opnd_eval hx) (opnd_eval hy) t cs g hi hs (by rw [← Array.all_toList]; exact h1') (hK _ _ (h _ (g.setRow vs) (Foot.setRow w b vs)))
/-- one field is read -/
theorem load_fld {b j : Nat} {t ty : TypeId} {cs : Array Value} {x : Operand} {d : TypeDesc} {v : Value} (g : Held w b t cs) (hw : Region.wanted o (yielded ops a.tmps) = true) (ho : o.op = .load ty x) (hx : opnd a x = some (.pointer (some ⟨b, j, none⟩)))
    (hu : P.underlying ty = some d) (hd : (match d with | .struct _ | .array _ _ => true | _ => false) = false) (hv : cs.toList[j]? = some v)
    (h : wpList P ops Q rest (a.put o.dst v) w) : wpList P ops Q (o :: rest) a w := by
  refine wpList_wanted hw fun K hK => ?_
  have hc : w.cell? ⟨b, j, none⟩ = some v := (g.cell j).trans ((Array.getElem?_toList ..).symm.trans hv)
  have hagg : (isAgg ty).run P w = .ok false w := by
    unfold isAgg
    rw [Sem.run_bind, run_underlying hu w]
    cases d <;> simp_all
  unfold Oper.wp execOp
  simp only [ho, opnd_eval hx, Instr.loadAt, Instr.sureAddr, Sem.run_bind, Sem.run_pure, Result.andThen_ok, loadVar, hagg]
  simp [go_sem, hc]
  exact hK _ _ h
/-- one field is written -/
theorem store_fld {b j : Nat} {t ty : TypeId} {cs : Array Value} {x y : Operand} {v : Value} (g : Held w b t cs) (hw : Region.wanted o (yielded ops a.tmps) = true) (ho : o.op = .store ty x y) (hx : opnd a x = some (.pointer (some ⟨b, j, none⟩))) (hy : opnd a y = some v)
    (hi : (P.info? ty).map (·.size) = some 1) (hj' : decide (j < cs.size) = true) (h1 : v.oneCell' = true)
    (h : ∀ w', Held w' b t (cs.setIfInBounds j v) → Foot (· = b) w w' → wpList P ops Q rest (a.put o.dst undef) w') : wpList P ops Q (o :: rest) a w := by
  refine wpList_wanted hw fun K hK => ?_
  have hj : j < cs.size := of_decide_eq_true hj'
  have hc : w.cell? ⟨b, j, none⟩ = some cs[j] := (g.cell j).trans (by simp [hj])
  have hf := g.frozen j
  have hcs : v.cells = #[v] := by cases v <;> first | rfl | cases h1
  have hst : (storeVar ty ⟨b, j, none⟩ v).run P w = .ok () (w.setCell ⟨b, j, none⟩ v) := by
    cases hq : P.info? ty with
    | none => simp [hq] at hi
    | some i =>
      have hs : i.size = 1 := by simpa [hq] using hi
      simp [storeVar, sizeOf, typeInfo, hq, hcs, hs, storeCells, Addr.add_mid, run_store P w _ v _ h1, hc, hf]
  unfold Oper.wp execOp
  simp only [ho, opnd_eval hx, opnd_eval hy, Instr.storeAt, Instr.sureAddr, Sem.run_bind, Sem.run_pure, Result.andThen_ok, hst]
  exact hK _ _ (h _ (g.set j v) (Foot.cell w ⟨b, j, none⟩ v))
end
section
variable {P : Program} {fn : Func} {p u : Tmp} {ty : TypeId} {tmps : Array Value} {Q : Ending → World → Prop} {w : World} {b : Nat} {t : TypeId} {cs : Array Value} {d : TypeDesc}
/-- a struct is returned out of its box -/
theorem ret_held (g : Held w b t cs) (h : fn.results = #[.cell p ty]) (hp : tmps.getD p undef = .pointer (some ⟨b, 0, none⟩)) (hu : P.underlying ty = some d) (hd : (match d with | .struct _ | .array _ _ => true | _ => false) = true) (hi : (P.info? ty).map (·.size) = some cs.size)
    (hq : Q (.returned (.agg cs)) w) : bodyPost P fn Q .ret { tmps := tmps, defers := [] } w :=
  bodyPost_ret (results_cell_row h tmps w b t cs (0, 0) d hp g hu hd hi) rfl hq
/-- .. and something else beside it -/
theorem ret_held2 (g : Held w b t cs) (h : fn.results = #[.cell p ty, .tmp u]) (hp : tmps.getD p undef = .pointer (some ⟨b, 0, none⟩)) (hu : P.underlying ty = some d) (hd : (match d with | .struct _ | .array _ _ => true | _ => false) = true) (hi : (P.info? ty).map (·.size) = some cs.size)
    (hq : Q (.returned (.tuple #[.agg cs, tmps.getD u undef])) w) : bodyPost P fn Q .ret { tmps := tmps, defers := [] } w :=
  bodyPost_ret (v := .tuple #[.agg cs, tmps.getD u undef]) (by
    rw [results_cell_tmp h, hp]
    simp [asAddr, run_loadVar_row w b t ty cs (0, 0) d g hu hd hi]) rfl hq
end
end Go.Proofs.Ytdhjdkhhhdcjdaa
end
/- A struct by value out of, and into, a block of its own, inside a fence: one step of the walk each. Conditions: those that each theorem names. -/
section
namespace Go.Proofs.Ytdhjdkhhhdcjdaa
set_option linter.unusedSimpArgs false
set_option linter.unusedVariables false
open Go.RowKit

section
variable {F : Fence} {n : Nat} {P : Program} {ops : Array Oper} {rest : List Oper} {o : Oper} {a : Act} {w : World} {Q : Exit → Act → World → Prop}
theorem wpListIn_wanted (hw : Region.wanted o (yielded ops a.tmps) = true) (h : ∀ K : Act → World → Prop, (∀ a w, wpListIn F n P ops Q rest a w → K a w) → o.wpIn F n P a w K Q) : wpListIn F n P ops Q (o :: rest) a w :=
  wpListIn_step fun K hK => by rw [if_pos hw]; exact h K hK
/-- the whole struct is read -/
theorem load_heldI {b : Nat} {t ty : TypeId} {cs : Array Value} {x : Operand} {d : TypeDesc} (g : Held w b t cs) (hw : Region.wanted o (yielded ops a.tmps) = true) (ho : o.op = .load ty x) (hx : opnd a x = some (.pointer (some ⟨b, 0, none⟩)))
    (hu : P.underlying ty = some d) (hd : (match d with | .struct _ | .array _ _ => true | _ => false) = true) (hi : (P.info? ty).map (·.size) = some cs.size)
    (h : wpListIn F n P ops Q rest (a.put o.dst (.agg cs)) w) : wpListIn F n P ops Q (o :: rest) a w := by
  refine wpListIn_wanted hw fun K hK => ⟨by simp [Oper.about, ho], ?_⟩
  rw [Oper.semAt_plain F _ _ (by rw [ho]; intro c hc'; cases hc')]
  unfold execOp
  simp only [ho, opnd_eval hx, Instr.loadAt, Instr.sureAddr, Sem.run_bind, Sem.run_pure, Result.andThen_ok, run_loadVar_row w b t ty cs (0, 0) d g hu hd hi]
  exact hK _ _ h
/-- the whole struct is written -/
theorem store_heldI {b : Nat} {t ty : TypeId} {cs vs : Array Value} {x y : Operand} (g : Held w b t cs) (hw : Region.wanted o (yielded ops a.tmps) = true) (ho : o.op = .store ty x y) (hx : opnd a x = some (.pointer (some ⟨b, 0, none⟩))) (hy : opnd a y = some (.agg vs))
    (hi : (P.info? ty).map (·.size) = some vs.size) (hs : cs.size = vs.size) (h1' : vs.toList.all (·.oneCell') = true)
    (h : ∀ w', Held w' b t vs → Foot (· = b) w w' → wpListIn F n P ops Q rest (a.put o.dst undef) w') : wpListIn F n P ops Q (o :: rest) a w := by
  refine wpListIn_wanted hw fun K hK => ⟨by simp [Oper.about, ho], ?_⟩
  rw [Oper.semAt_plain F _ _ (by rw [ho]; intro c hc'; cases hc')]
  have h0 : o.wp P a w (fun a' w' => K a' w' ∧ a' = a.put o.dst undef) Q := wp_store_row ty x y ho b vs (opnd_eval hx) (opnd_eval hy) t cs g hi hs (by rw [← Array.all_toList]; exact h1') ⟨hK _ _ (h _ (g.setRow vs) (Foot.setRow w b vs)), rfl⟩
  unfold Oper.wp at h0
  unfold execOp at h0 ⊢
  simp only [ho, opnd_eval hx, opnd_eval hy, Instr.storeAt, Instr.sureAddr, Sem.run_bind, Sem.run_pure, Result.andThen_ok] at h0 ⊢
  rcases hr : (storeVar ty ⟨b, 0, none⟩ (.agg vs)).run P w with ⟨_, w'⟩ | ⟨hlt, w'⟩
  · rw [hr] at h0
    exact h0.1
  · rw [hr] at h0
    cases hlt <;> first | exact h0 | exact h0.elim
end
end Go.Proofs.Ytdhjdkhhhdcjdaa
end
/- A region that draws its order: an operation that neither reads nor writes memory may be taken first, wherever the region stands. Conditions: those that each theorem names. -/
section
namespace Go.Proofs.Ytdhjdkhhhdcjdaa
open Go
section
variable {F : Fence} {n : Nat} {P : Program} {ops : Array Oper} {Q : Exit → Act → World → Prop} {md : Region.Mode} {R : World → Prop} {k : Nat}

theorem wpAnyG_pure1 {i : Nat} {oi : Oper} {v : Value} (hro : F.round = none) (hi : ops[i]? = some oi) (hsel : ∀ (j : Nat) (o : Oper) cs b, ops[j]? = some o → o.op ≠ .select cs b)
    (hQ : ∀ c a w, Q (.panic c) (a.put oi.dst v) w → Q (.panic c) a w) (hik : i ≠ k) :
    ∀ (fuel : Nat) (listed : Array Bool) (a : Act) (w : World),
      (∀ j oj, ops[j]? = some oj → j ≠ i → listed.getD j true = false → (∀ e ∈ oj.after, Region.binds md e = true → e.on ≠ i) → oi.apart ops oj = true) →
      i ∈ Region.ready md ops listed → YieldsG P ops (fun _ => True) oi v a → ((listed.setIfInBounds i true).getD k false = true ∨ R w) →
      wpAnyG F n P md ops Q R k fuel (listed.setIfInBounds i true) (a.put oi.dst v) w → wpAnyG F n P md ops Q R k (fuel + 1) listed a w := by
  intro fuel
  induction fuel with
  | zero =>
    intro listed a w _ hr hy hS H
    refine ⟨fun h => (by rw [h] at hr; cases hr), fun j hj => ?_⟩
    by_cases hji : j = i
    · subst hji; exact hy.wpOpIn hro hi trivial ⟨hS, H⟩
    · have := ready_mono hj hji
      rw [H.1] at this
      cases this
  | succ fuel ih =>
    intro listed a w hfree hr hy hS H
    refine ⟨fun h => (by rw [h] at hr; cases hr), fun j hj => ?_⟩
    by_cases hji : j = i
    · subst hji; exact hy.wpOpIn hro hi trivial ⟨hS, H⟩
    · have h1 := H.2 j (ready_mono hj hji)
      obtain ⟨hjun, oj, hoj, hall⟩ := mem_ready.1 hj
      have hun := (mem_ready.1 hr).1
      have hnot : ∀ e ∈ oj.after, Region.binds md e = true → e.on ≠ i := fun e he hb heq => by
        have h1 := hall e he hb
        rw [heq, getD_tf hun] at h1
        cases h1
      have h2 := wpOpIn_look hro hoj (hfree j oj hoj hji hjun hnot) (fun cs b => hsel i oi cs b hi) (fun cs b => hsel j oj cs b hoj) hQ h1
      have hfree' : ∀ k ok, ops[k]? = some ok → k ≠ i → (listed.setIfInBounds j true).getD k true = false →
          (∀ e ∈ ok.after, Region.binds md e = true → e.on ≠ i) → oi.apart ops ok = true := fun k ok hk hki hun hno => by
        refine hfree k ok hk hki ?_ hno
        by_cases hjk : j = k
        · subst hjk; exact hjun
        · rw [getD_set_ne true hjk] at hun; exact hun
      have hrj : i ∈ Region.ready md ops (listed.setIfInBounds j true) := ready_mono hr (Ne.symm hji)
      refine wpOpIn_mono (fun a' w' h3 => ?_) h2
      obtain ⟨hl, hS', hW⟩ := h3
      rw [Array.setIfInBounds_comm _ _ (Ne.symm hji)] at hS' hW
      refine ⟨?_, ih (listed.setIfInBounds j true) a' w' hfree' hrj (hy.same hl) hS' hW⟩
      rcases hS' with h | h
      · exact .inl (getD_back hik h)
      · exact .inr h
/-- take operation i first: it leaves v whatever the world -/
theorem wpAnyG_pure {i : Nat} {oi : Oper} {v : Value} {fuel : Nat} {listed : Array Bool} {a : Act} {w : World} (hro : F.round = none) (hi : ops[i]? = some oi)
    (hs : Region.noSelect ops = true) (hf : Region.free md ops listed i = true) (hr : (Region.ready md ops listed).contains i = true)
    (hQ : ∀ c a w, Q (.panic c) (a.put oi.dst v) w → Q (.panic c) a w) (hik : i ≠ k)
    (hy : YieldsG P ops (fun _ => True) oi v a) (hS : listed.getD k false = true ∨ R w)
    (h : wpAnyG F n P md ops Q R k fuel (listed.setIfInBounds i true) (a.put oi.dst v) w) : wpAnyG F n P md ops Q R k (fuel + 1) listed a w :=
  wpAnyG_pure1 hro hi (Region.noSelect_spec hs) hQ hik fuel listed a w (Region.free_spec hi hf) (by simpa using hr) hy (hS.imp getD_up id) h
theorem ClosedL.step {listed : Array Bool} {i : Nat} (hc : ClosedL md ops listed) (hr : (Region.ready md ops listed).contains i = true) : ClosedL md ops (listed.setIfInBounds i true) := hc.set (by simpa using hr)
end
end Go.Proofs.Ytdhjdkhhhdcjdaa
end
/- A region that draws its order, over structs that lie in boxes: a load of a struct, or of one of its fields, may be taken first where the condition on the world gives the box. Conditions: those that each theorem names. -/
section
namespace Go.Proofs.Ytdhjdkhhhdcjdaa
open Go Go.RowKit
section
variable {P : Program} {ops : Array Oper} {R : World → Prop} {o : Oper} {a : Act}
theorem yields_held {b : Nat} {t ty : TypeId} {cs : Array Value} {x : Operand} {d : TypeDesc} (hR : ∀ w, R w → Held w b t cs) (hw : Region.wanted o (yielded ops a.tmps) = true) (ho : o.op = .load ty x) (hx : opnd a x = some (.pointer (some ⟨b, 0, none⟩)))
    (hu : P.underlying ty = some d) (hd : (match d with | .struct _ | .array _ _ => true | _ => false) = true) (hi : (P.info? ty).map (·.size) = some cs.size) : YieldsG P ops R o (.agg cs) a := by
  refine ⟨hw, fun w h => ?_, fun w => ?_⟩
  · unfold execOp
    simp only [ho, opnd_eval hx, Instr.loadAt, Instr.sureAddr, Sem.run_bind, Sem.run_pure, Result.andThen_ok, run_loadVar_row w b t ty cs (0, 0) d (hR w h) hu hd hi]
  · unfold Oper.about
    rw [ho]
theorem yields_fld {b j : Nat} {t ty : TypeId} {cs : Array Value} {x : Operand} {d : TypeDesc} {v : Value} (hR : ∀ w, R w → Held w b t cs) (hw : Region.wanted o (yielded ops a.tmps) = true) (ho : o.op = .load ty x) (hx : opnd a x = some (.pointer (some ⟨b, j, none⟩)))
    (hu : P.underlying ty = some d) (hd : (match d with | .struct _ | .array _ _ => true | _ => false) = false) (hv : cs.toList[j]? = some v) : YieldsG P ops R o v a := by
  refine ⟨hw, fun w h => ?_, fun w => ?_⟩
  · have hc : w.cell? ⟨b, j, none⟩ = some v := ((hR w h).cell j).trans ((Array.getElem?_toList ..).symm.trans hv)
    have hagg : (isAgg ty).run P w = .ok false w := by
      unfold isAgg
      rw [Sem.run_bind, run_underlying hu w]
      cases d <;> simp_all
    unfold execOp
    simp only [ho, opnd_eval hx, Instr.loadAt, Instr.sureAddr, Sem.run_bind, Sem.run_pure, Result.andThen_ok, loadVar, hagg]
    simp [go_sem, hc]
  · unfold Oper.about
    rw [ho]
end
end Go.Proofs.Ytdhjdkhhhdcjdaa
end
/- Boxes on the heap as one fact: each of a list of blocks holds its cells, all of them new since a world, nothing that was there touched. Conditions: those that each theorem names. -/
section
namespace Go.Proofs.Ytdhjdkhhhdcjdaa
set_option linter.unusedSimpArgs false
set_option linter.unusedVariables false
set_option maxRecDepth 100000
open Go.RowKit

structure Mem (w0 W : World) (l : List (Nat × TypeId × Array Value)) : Prop where
  below : Below w0.heap.size w0 W
  held : ∀ p, p ∈ l → w0.heap.size ≤ p.1 ∧ Held W p.1 p.2.1 p.2.2
  inc : l.Pairwise (fun p q => p.1 ≠ q.1)
theorem Mem.start (w : World) : Mem w w [] := ⟨Below.refl _ _, (fun _ h => by cases h), .nil⟩
section
variable {w0 W W' : World} {l : List (Nat × TypeId × Array Value)}
theorem Mem.at (h : Mem w0 W l) (i : Nat) {b : Nat} {t : TypeId} {cs : Array Value} (hi : l[i]? = some (b, t, cs)) : Held W b t cs := (h.held _ (List.mem_of_getElem? hi)).2
theorem Mem.call (h : Mem w0 W l) (hb : Below W.heap.size W W') : Mem w0 W' l := ⟨h.below.trans (hb.mono h.below.size), fun p hp => ⟨(h.held p hp).1, (h.held p hp).2.below hb (h.held p hp).2.lt⟩, h.inc⟩
theorem Mem.same (h : Mem w0 W l) (e : W = W') : Mem w0 W' l := e ▸ h
theorem Mem.alloc (h : Mem w0 W l) (t : TypeId) (cs : Array Value) : Mem w0 (W.alloc (.cells cs t)) (l ++ [(W.heap.size, t, cs)]) :=
  ⟨h.below.alloc h.below.size _, fun p hp => by
    rcases List.mem_append.1 hp with hp | hp
    · exact ⟨(h.held p hp).1, (h.held p hp).2.alloc _⟩
    · obtain rfl := List.mem_singleton.1 hp
      exact ⟨h.below.size, Held.new W t cs⟩,
   List.pairwise_append.2 ⟨h.inc, List.pairwise_singleton .., fun p hp q hq => by
    obtain rfl := List.mem_singleton.1 hq
    exact Nat.ne_of_lt (h.held p hp).2.lt⟩⟩
/-- an object that is not listed -/
theorem Mem.skip (h : Mem w0 W l) (o : Obj) : Mem w0 (W.alloc o) l := ⟨h.below.alloc h.below.size _, fun p hp => ⟨(h.held p hp).1, (h.held p hp).2.alloc _⟩, h.inc⟩
theorem Mem.drew (h : Mem w0 W l) : Mem w0 W.drew l := ⟨⟨h.below.os, h.below.tape, h.below.output, h.below.size, h.below.block⟩, fun p hp => ⟨(h.held p hp).1, (h.held p hp).2⟩, h.inc⟩
theorem Mem.drewN (h : Mem w0 W l) (n : Nat) : Mem w0 (W.drewN n) l := ⟨⟨h.below.os, h.below.tape, h.below.output, h.below.size, h.below.block⟩, fun p hp => ⟨(h.held p hp).1, (h.held p hp).2⟩, h.inc⟩
theorem Mem.set (h : Mem w0 W l) (i : Nat) {b : Nat} {t : TypeId} {cs vs : Array Value} (hi : l[i]? = some (b, t, cs)) (F : Foot (· = b) W W') (g : Held W' b t vs) : Mem w0 W' (l.set i (b, t, vs)) := by
  have hb := (h.held _ (List.mem_of_getElem? hi)).1
  obtain ⟨hlt, hget⟩ := List.getElem?_eq_some_iff.1 hi
  refine ⟨below_foot h.below F hb (Nat.le_refl _), fun p hp => ?_, ?_⟩
  · obtain ⟨j, hj⟩ := List.mem_iff_getElem?.1 hp
    rw [List.getElem?_set] at hj
    split at hj
    · rename_i hij
      obtain rfl := Option.some.inj hj
      exact ⟨hb, g⟩
    · rename_i hij
      have hm := h.held p (List.mem_of_getElem? hj)
      refine ⟨hm.1, hm.2.foot F ?_⟩
      have hpw := List.pairwise_iff_getElem.1 h.inc
      obtain ⟨hjl, hjg⟩ := List.getElem?_eq_some_iff.1 hj
      rcases Nat.lt_or_gt_of_ne hij with h1 | h1
      · have := hpw i j hlt hjl h1
        rw [hget, hjg] at this
        exact fun e => this e.symm
      · have := hpw j i hjl hlt h1
        rw [hget, hjg] at this
        exact this
  · rw [List.pairwise_iff_getElem]
    intro j k hj hk hjk
    have hpw := List.pairwise_iff_getElem.1 h.inc
    simp only [List.length_set] at hj hk
    have hf : ∀ (m : Nat) (hm : m < l.length), ((l.set i (b, t, vs))[m]'(by simpa using hm)).1 = l[m].1 := fun m hm => by
      rw [List.getElem_set]
      split
      · rename_i e
        subst e
        rw [hget]
      · rfl
    rw [hf j hj, hf k hk]
    exact hpw j k hj hk hjk
/-- the first so many -/
theorem Mem.drop (h : Mem w0 W l) (n : Nat) : Mem w0 W (l.take n) := ⟨h.below, fun p hp => h.held p (List.mem_of_mem_take hp), h.inc.sublist (List.take_sublist n l)⟩
end
section
variable {P : Program} {ops : Array Oper} {rest : List Oper} {o : Oper} {a : Act} {w0 w : World} {Q : Exit → Act → World → Prop} {l : List (Nat × TypeId × Array Value)} {t : TypeId} {cs : Array Value}
/-- a box that was just laid is taken up -/
theorem mem_new (H : Mem w0 w l) (h : ∀ w2, Mem w0 w2 (l ++ [(w.heap.size, t, cs)]) → wpList P ops Q rest a w2) : wpList P ops Q rest a (w.alloc (.cells cs t)) := h _ (H.alloc t cs)
/-- .. under a name of its own -/
theorem mem_newb (H : Mem w0 w l) (h : ∀ b w2, b = w.heap.size → Mem w0 w2 (l ++ [(b, t, cs)]) → wpList P ops Q rest a w2) : wpList P ops Q rest a (w.alloc (.cells cs t)) := h _ _ rfl (H.alloc t cs)
theorem mem_load {b i : Nat} {ty : TypeId} {x : Operand} {d : TypeDesc} (H : Mem w0 w l) (hw : Region.wanted o (yielded ops a.tmps) = true) (ho : o.op = .load ty x) (hx : opnd a x = some (.pointer (some ⟨b, 0, none⟩))) (hm : l[i]? = some (b, t, cs))
    (hu : P.underlying ty = some d) (hd : (match d with | .struct _ | .array _ _ => true | _ => false) = true) (hi : (P.info? ty).map (·.size) = some cs.size)
    (h : wpList P ops Q rest (a.put o.dst (.agg cs)) w) : wpList P ops Q (o :: rest) a w := load_held (H.at i hm) hw ho hx hu hd hi h
theorem mem_store {b i : Nat} {ty : TypeId} {vs : Array Value} {x y : Operand} (H : Mem w0 w l) (hw : Region.wanted o (yielded ops a.tmps) = true) (ho : o.op = .store ty x y) (hx : opnd a x = some (.pointer (some ⟨b, 0, none⟩))) (hm : l[i]? = some (b, t, cs)) (hy : opnd a y = some (.agg vs))
    (hi : (P.info? ty).map (·.size) = some vs.size) (hs : cs.size = vs.size) (h1' : vs.toList.all (·.oneCell') = true)
    (h : ∀ w', Mem w0 w' (l.set i (b, t, vs)) → wpList P ops Q rest (a.put o.dst undef) w') : wpList P ops Q (o :: rest) a w :=
  store_held (H.at i hm) hw ho hx hy hi hs h1' fun w' g F => h w' (H.set i hm F g)
theorem mem_loadf {b i j : Nat} {ty : TypeId} {x : Operand} {d : TypeDesc} {v : Value} (H : Mem w0 w l) (hw : Region.wanted o (yielded ops a.tmps) = true) (ho : o.op = .load ty x) (hx : opnd a x = some (.pointer (some ⟨b, j, none⟩))) (hm : l[i]? = some (b, t, cs))
    (hu : P.underlying ty = some d) (hd : (match d with | .struct _ | .array _ _ => true | _ => false) = false) (hv : cs.toList[j]? = some v)
    (h : wpList P ops Q rest (a.put o.dst v) w) : wpList P ops Q (o :: rest) a w := load_fld (H.at i hm) hw ho hx hu hd hv h
theorem mem_storef {b i j : Nat} {ty : TypeId} {x y : Operand} {v : Value} (H : Mem w0 w l) (hw : Region.wanted o (yielded ops a.tmps) = true) (ho : o.op = .store ty x y) (hx : opnd a x = some (.pointer (some ⟨b, j, none⟩))) (hm : l[i]? = some (b, t, cs)) (hy : opnd a y = some v)
    (hi : (P.info? ty).map (·.size) = some 1) (hj' : decide (j < cs.size) = true) (h1 : v.oneCell' = true)
    (h : ∀ w', Mem w0 w' (l.set i (b, t, cs.setIfInBounds j v)) → wpList P ops Q rest (a.put o.dst undef) w') : wpList P ops Q (o :: rest) a w :=
  store_fld (H.at i hm) hw ho hx hy hi hj' h1 fun w' g F => h w' (H.set i hm F g)
end
end Go.Proofs.Ytdhjdkhhhdcjdaa
end
/- A region that draws its order, over boxes that one fact holds: it begins. Conditions: those that each theorem names. -/
section
namespace Go.Proofs.Ytdhjdkhhhdcjdaa
open Go Go.RowKit
section
variable {F : Fence} {n : Nat} {P : Program} {md : Region.Mode} {ops : Array Oper} {Q : Exit → Act → World → Prop} {R : World → Prop} {k : Nat}
theorem wpAnyR_first {i : Nat} {oi : Oper} {v : Value} (hro : F.round = none) (hi : ops[i]? = some oi) (hsel : ∀ (j : Nat) (o : Oper) cs b, ops[j]? = some o → o.op ≠ .select cs b)
    (hQ : ∀ c a w, Q (.panic c) (a.put oi.dst v) w → Q (.panic c) a w) :
    ∀ (fuel : Nat) (listed : Array Bool) (a : Act) (w : World), listed.size ≤ k →
      (∀ j oj, ops[j]? = some oj → j ≠ i → listed.getD j true = false → (∀ e ∈ oj.after, Region.binds md e = true → e.on ≠ i) → oi.apart ops oj = true) →
      i ∈ Region.ready md ops listed → YieldsG P ops R oi v a → R w →
      wpAnyG F n P md ops Q R k fuel (listed.setIfInBounds i true) (a.put oi.dst v) w → wpAnyG F n P md ops Q R k (fuel + 1) listed a w := by
  intro fuel
  induction fuel with
  | zero =>
    intro listed a w _ _ hr hy hS H
    refine ⟨fun h => (by rw [h] at hr; cases hr), fun j hj => ?_⟩
    by_cases hji : j = i
    · subst hji; exact hy.wpOpIn hro hi hS ⟨.inr hS, H⟩
    · have := ready_mono hj hji
      rw [H.1] at this
      cases this
  | succ fuel ih =>
    intro listed a w hc hfree hr hy hS H
    refine ⟨fun h => (by rw [h] at hr; cases hr), fun j hj => ?_⟩
    by_cases hji : j = i
    · subst hji; exact hy.wpOpIn hro hi hS ⟨.inr hS, H⟩
    · have h1 := H.2 j (ready_mono hj hji)
      obtain ⟨hjun, oj, hoj, hall⟩ := mem_ready.1 hj
      have hun := (mem_ready.1 hr).1
      have hnot : ∀ e ∈ oj.after, Region.binds md e = true → e.on ≠ i := fun e he hb heq => by
        have h1 := hall e he hb
        rw [heq, getD_tf hun] at h1
        cases h1
      have h2 := wpOpIn_look hro hoj (hfree j oj hoj hji hjun hnot) (fun cs b => hsel i oi cs b hi) (fun cs b => hsel j oj cs b hoj) hQ h1
      have hfree' : ∀ k ok, ops[k]? = some ok → k ≠ i → (listed.setIfInBounds j true).getD k true = false →
          (∀ e ∈ ok.after, Region.binds md e = true → e.on ≠ i) → oi.apart ops ok = true := fun k ok hk hki hun hno => by
        refine hfree k ok hk hki ?_ hno
        by_cases hjk : j = k
        · subst hjk; exact hjun
        · rw [getD_set_ne true hjk] at hun; exact hun
      have hrj : i ∈ Region.ready md ops (listed.setIfInBounds j true) := ready_mono hr (Ne.symm hji)
      refine wpOpIn_mono (fun a' w' h3 => ?_) h2
      obtain ⟨hl, hS', hW⟩ := h3
      have hR' : R w' := by
        rcases hS' with h | h
        · rw [Array.getD_eq_getD_getElem?, Array.getElem?_eq_none (by simpa using hc)] at h
          cases h
        · exact h
      rw [Array.setIfInBounds_comm _ _ (Ne.symm hji)] at hW
      exact ⟨.inr hR', ih (listed.setIfInBounds j true) a' w' (by simpa using hc) hfree' hrj (hy.same hl) hR' hW⟩
/-- take operation i first, where the condition holds all along -/
theorem wpAnyR_take {i : Nat} {oi : Oper} {v : Value} {fuel : Nat} {listed : Array Bool} {a : Act} {w : World} (hro : F.round = none) (hi : ops[i]? = some oi)
    (hs : Region.noSelect ops = true) (hf : Region.free md ops listed i = true) (hr : (Region.ready md ops listed).contains i = true)
    (hQ : ∀ c a w, Q (.panic c) (a.put oi.dst v) w → Q (.panic c) a w) (hk : listed.size ≤ k) (hy : YieldsG P ops R oi v a) (hS : R w)
    (h : wpAnyG F n P md ops Q R k fuel (listed.setIfInBounds i true) (a.put oi.dst v) w) : wpAnyG F n P md ops Q R k (fuel + 1) listed a w :=
  wpAnyR_first hro hi (Region.noSelect_spec hs) hQ fuel listed a w hk (Region.free_spec hi hf) (by simpa using hr) hy hS h
end
theorem region_mem {P : Program} {ops : Array Oper} {Q : Exit → Act → World → Prop} {id : Nat} {a : Act} {w0 w : World} {l : List (Nat × TypeId × Array Value)} (H : Mem w0 w l) (m : Nat) (hsz : ops.size = m) (hm : P.follows .mixedOrders = true)
    (h : ∀ w2, Mem w0 w2 l → wpAnyG Fence.wide 6 P .any ops Q (fun wx => Mem w0 wx l) m m (Array.replicate m false) a w2) : (Code.region id ops true).wp P Q a w :=
  (wpIn_wide (n := 6)).1 (wpIn_region_G (fun wx => Mem w0 wx l) m m hsz hm fun _ => h w.drew H.drew)
end Go.Proofs.Ytdhjdkhhhdcjdaa
end
/- Boxes on the heap as one fact: what was there read, a struct written within a region that draws its order. Conditions: those that each theorem names. -/
section
namespace Go.Proofs.Ytdhjdkhhhdcjdaa
set_option linter.unusedSimpArgs false
set_option linter.unusedVariables false
set_option maxRecDepth 100000
open Go Go.RowKit
/-- a cell that was there lies as it lay -/
theorem Mem.old {w0 W : World} {l : List (Nat × TypeId × Array Value)} (H : Mem w0 W l) {p : Addr} (hp : p.block < w0.heap.size) : W.cell? p = w0.cell? p := by
  unfold World.cell?
  rw [H.below.block p.block hp]
section
variable {P : Program} {ops : Array Oper} {rest : List Oper} {o : Oper} {a : Act} {w0 w : World} {Q : Exit → Act → World → Prop} {l : List (Nat × TypeId × Array Value)} {t : TypeId} {cs : Array Value}
/-- a number is read that was there -/
theorem mem_loado {p : Addr} {ty : TypeId} {x : Operand} {d : TypeDesc} {v : Value} (H : Mem w0 w l) (hc : w0.cell? p = some v) (hp : p.block < w0.heap.size) (hw : Region.wanted o (yielded ops a.tmps) = true) (ho : o.op = .load ty x) (hx : opnd a x = some (.pointer (some p)))
    (hu : P.underlying ty = some d) (hd : (match d with | .struct _ | .array _ _ => true | _ => false) = false)
    (h : wpList P ops Q rest (a.put o.dst v) w) : wpList P ops Q (o :: rest) a w := by
  refine wpList_wanted hw fun K hK => ?_
  have hc' : w.cell? p = some v := (H.old hp).trans hc
  have hagg : (isAgg ty).run P w = .ok false w := by
    unfold isAgg
    rw [Sem.run_bind, run_underlying hu w]
    cases d <;> simp_all
  unfold Oper.wp execOp
  simp only [ho, opnd_eval hx, Instr.loadAt, Instr.sureAddr, Sem.run_bind, Sem.run_pure, Result.andThen_ok, loadVar, hagg]
  simp [go_sem, hc']
  exact hK _ _ h
theorem yields_old {p : Addr} {ty : TypeId} {x : Operand} {d : TypeDesc} {v : Value} (hc : w0.cell? p = some v) (hp : p.block < w0.heap.size) (hw : Region.wanted o (yielded ops a.tmps) = true) (ho : o.op = .load ty x) (hx : opnd a x = some (.pointer (some p)))
    (hu : P.underlying ty = some d) (hd : (match d with | .struct _ | .array _ _ => true | _ => false) = false) : YieldsG P ops (fun wx => Mem w0 wx l) o v a := by
  refine ⟨hw, fun w H => ?_, fun w => ?_⟩
  · have hc' : w.cell? p = some v := (H.old hp).trans hc
    have hagg : (isAgg ty).run P w = .ok false w := by
      unfold isAgg
      rw [Sem.run_bind, run_underlying hu w]
      cases d <;> simp_all
    unfold execOp
    simp only [ho, opnd_eval hx, Instr.loadAt, Instr.sureAddr, Sem.run_bind, Sem.run_pure, Result.andThen_ok, loadVar, hagg]
    simp [go_sem, hc']
  · unfold Oper.about
    rw [ho]
/-- a whole struct is written, inside a fence -/
theorem wpIn_store_mem {F : Fence} {n b i : Nat} {ty : TypeId} {vs : Array Value} {x y : Operand} {K : Act → World → Prop} (H : Mem w0 w l) (ho : o.op = .store ty x y) (hx : opnd a x = some (.pointer (some ⟨b, 0, none⟩))) (hm : l[i]? = some (b, t, cs)) (hy : opnd a y = some (.agg vs))
    (hi : (P.info? ty).map (·.size) = some vs.size) (hs : cs.size = vs.size) (h1' : vs.toList.all (·.oneCell') = true)
    (h : ∀ w', Mem w0 w' (l.set i (b, t, vs)) → K (a.put o.dst undef) w') : o.wpIn F n P a w K Q := by
  have g := H.at i hm
  refine ⟨by simp [Oper.about, ho], ?_⟩
  rw [Oper.semAt_plain F _ _ (by rw [ho]; intro c hc'; cases hc')]
  have h0 : o.wp P a w (fun a' w' => K a' w' ∧ a' = a.put o.dst undef) Q := wp_store_row ty x y ho b vs (opnd_eval hx) (opnd_eval hy) t cs g hi hs (by rw [← Array.all_toList]; exact h1') ⟨h _ (H.set i hm (Foot.setRow w b vs) (g.setRow vs)), rfl⟩
  unfold Oper.wp at h0
  unfold execOp at h0 ⊢
  simp only [ho, opnd_eval hx, opnd_eval hy, Instr.storeAt, Instr.sureAddr, Sem.run_bind, Sem.run_pure, Result.andThen_ok] at h0 ⊢
  rcases hr : (storeVar ty ⟨b, 0, none⟩ (.agg vs)).run P w with ⟨_, w'⟩ | ⟨hlt, w'⟩
  · rw [hr] at h0
    exact h0.1
  · rw [hr] at h0
    cases hlt <;> first | exact h0 | exact h0.elim
/-- a region that draws its order begins: the boxes lie as they lay until operation k has come up -/
theorem region_memk {id : Nat} (H : Mem w0 w l) (k m : Nat) (hsz : ops.size = m) (hm : P.follows .mixedOrders = true)
    (h : ∀ w2, ClosedL .any ops (Array.replicate m false) → Mem w0 w2 l → wpAnyG Fence.wide 6 P .any ops Q (fun wx => Mem w0 wx l) k m (Array.replicate m false) a w2) : (Code.region id ops true).wp P Q a w :=
  (wpIn_wide (n := 6)).1 (wpIn_region_G (fun wx => Mem w0 wx l) k m hsz hm fun hcl => h w.drew hcl H.drew)
end
end Go.Proofs.Ytdhjdkhhhdcjdaa
end
/- A region that draws its order: an operation that is not wanted may be taken first. Conditions: those that each theorem names. -/
section
namespace Go.Proofs.Ytdhjdkhhhdcjdaa
set_option linter.unusedSimpArgs false
set_option linter.unusedVariables false
open Go Go.RowKit
section
variable {F : Fence} {n : Nat} {P : Program} {md : Region.Mode} {ops : Array Oper} {Q : Exit → Act → World → Prop} {R : World → Prop} {k : Nat}
theorem unwanted_wpOpIn {i : Nat} {o : Oper} {a : Act} (hF : ∀ f, F.fn f) (hi : ops[i]? = some o) (hw : Region.wanted o (yielded ops a.tmps) = false) {K : Act → World → Prop} {w : World} (h : K (a.put o.dst undef) w) : wpOpIn F n P ops Q i K a w := by
  unfold Go.wpOpIn
  simp only [hi]
  rw [if_neg (by rw [hw]; simp)]
  exact ⟨fun f _ => hF f, h⟩
theorem wpAnyU_first {i : Nat} {oi : Oper} (hro : F.round = none) (hF : ∀ f, F.fn f) (hi : ops[i]? = some oi) (hsel : ∀ (j : Nat) (o : Oper) cs b, ops[j]? = some o → o.op ≠ .select cs b)
    (hQ : ∀ c a w, Q (.panic c) (a.put oi.dst undef) w → Q (.panic c) a w) :
    ∀ (fuel : Nat) (listed : Array Bool) (a : Act) (w : World), listed.size ≤ k →
      (∀ j oj, ops[j]? = some oj → j ≠ i → listed.getD j true = false → (∀ e ∈ oj.after, Region.binds md e = true → e.on ≠ i) → oi.apart ops oj = true) →
      i ∈ Region.ready md ops listed → Region.wanted oi (yielded ops a.tmps) = false → R w →
      wpAnyG F n P md ops Q R k fuel (listed.setIfInBounds i true) (a.put oi.dst undef) w → wpAnyG F n P md ops Q R k (fuel + 1) listed a w := by
  intro fuel
  induction fuel with
  | zero =>
    intro listed a w _ _ hr hy hS H
    refine ⟨fun h => (by rw [h] at hr; cases hr), fun j hj => ?_⟩
    by_cases hji : j = i
    · subst hji; exact unwanted_wpOpIn hF hi hy ⟨.inr hS, H⟩
    · have := ready_mono hj hji
      rw [H.1] at this
      cases this
  | succ fuel ih =>
    intro listed a w hc hfree hr hy hS H
    refine ⟨fun h => (by rw [h] at hr; cases hr), fun j hj => ?_⟩
    by_cases hji : j = i
    · subst hji; exact unwanted_wpOpIn hF hi hy ⟨.inr hS, H⟩
    · have h1 := H.2 j (ready_mono hj hji)
      obtain ⟨hjun, oj, hoj, hall⟩ := mem_ready.1 hj
      have hun := (mem_ready.1 hr).1
      have hnot : ∀ e ∈ oj.after, Region.binds md e = true → e.on ≠ i := fun e he hb heq => by
        have h1 := hall e he hb
        rw [heq, getD_tf hun] at h1
        cases h1
      have h2 := wpOpIn_look hro hoj (hfree j oj hoj hji hjun hnot) (fun cs b => hsel i oi cs b hi) (fun cs b => hsel j oj cs b hoj) hQ h1
      have hfree' : ∀ k ok, ops[k]? = some ok → k ≠ i → (listed.setIfInBounds j true).getD k true = false →
          (∀ e ∈ ok.after, Region.binds md e = true → e.on ≠ i) → oi.apart ops ok = true := fun k ok hk hki hun hno => by
        refine hfree k ok hk hki ?_ hno
        by_cases hjk : j = k
        · subst hjk; exact hjun
        · rw [getD_set_ne true hjk] at hun; exact hun
      have hrj : i ∈ Region.ready md ops (listed.setIfInBounds j true) := ready_mono hr (Ne.symm hji)
      refine wpOpIn_mono (fun a' w' h3 => ?_) h2
      obtain ⟨hl, hS', hW⟩ := h3
      have hR' : R w' := by
        rcases hS' with h | h
        · rw [Array.getD_eq_getD_getElem?, Array.getElem?_eq_none (by simpa using hc)] at h
          cases h
        · exact h
      rw [Array.setIfInBounds_comm _ _ (Ne.symm hji)] at hW
      exact ⟨.inr hR', ih (listed.setIfInBounds j true) a' w' (by simpa using hc) hfree' hrj (hl.2.1.trans hy) hR' hW⟩
/-- take operation i first, which is not wanted -/
theorem wpAnyU_take {i : Nat} {oi : Oper} {fuel : Nat} {listed : Array Bool} {a : Act} {w : World} (hro : F.round = none) (hF : ∀ f, F.fn f) (hi : ops[i]? = some oi)
    (hs : Region.noSelect ops = true) (hf : Region.free md ops listed i = true) (hr : (Region.ready md ops listed).contains i = true)
    (hQ : ∀ c a w, Q (.panic c) (a.put oi.dst undef) w → Q (.panic c) a w) (hk : listed.size ≤ k) (hw : Region.wanted oi (yielded ops a.tmps) = false) (hS : R w)
    (h : wpAnyG F n P md ops Q R k fuel (listed.setIfInBounds i true) (a.put oi.dst undef) w) : wpAnyG F n P md ops Q R k (fuel + 1) listed a w :=
  wpAnyU_first hro hF hi (Region.noSelect_spec hs) hQ fuel listed a w hk (Region.free_spec hi hf) (by simpa using hr) hw hS h
end
end Go.Proofs.Ytdhjdkhhhdcjdaa
end
/- Boxes on the heap as one fact, inside a fence: one cell of a box read, and written. Conditions: those that each theorem names. -/
section
namespace Go.Proofs.Ytdhjdkhhhdcjdaa
set_option linter.unusedSimpArgs false
set_option linter.unusedVariables false
set_option maxRecDepth 100000
open Go.RowKit
theorem Mem.far {w0 X Y : World} {B : Nat} {l : List (Nat × TypeId × Array Value)} (h : Mem w0 X l) (hb : Below B X Y) (hB : w0.heap.size ≤ B) (hl : ∀ p, p ∈ l → p.1 < B) : Mem w0 Y l :=
  ⟨h.below.trans (hb.mono hB), fun p hp => ⟨(h.held p hp).1, (h.held p hp).2.below hb (hl p hp)⟩, h.inc⟩
theorem Mem.join {w0 W W' : World} {l l' : List (Nat × TypeId × Array Value)} (h : Mem w0 W l) (h' : Mem W W' l') : Mem w0 W' (l ++ l') :=
  ⟨h.below.trans (h'.below.mono h.below.size), fun p hp => by
    rcases List.mem_append.1 hp with hp | hp
    · exact ⟨(h.held p hp).1, (h.held p hp).2.below h'.below (h.held p hp).2.lt⟩
    · exact ⟨Nat.le_trans h.below.size (h'.held p hp).1, (h'.held p hp).2⟩,
   List.pairwise_append.2 ⟨h.inc, h'.inc, fun p hp q hq => by
    have h1 := (h.held p hp).2.lt
    have h2 := (h'.held q hq).1
    omega⟩⟩
section
variable {F : Fence} {n : Nat} {P : Program} {ops : Array Oper} {rest : List Oper} {o : Oper} {a : Act} {w0 w : World} {Q : Exit → Act → World → Prop} {l : List (Nat × TypeId × Array Value)} {t : TypeId} {cs : Array Value}
theorem mem_loadfI {b i j : Nat} {ty : TypeId} {x : Operand} {d : TypeDesc} {v : Value} (H : Mem w0 w l) (hw : Region.wanted o (yielded ops a.tmps) = true) (ho : o.op = .load ty x) (hx : opnd a x = some (.pointer (some ⟨b, j, none⟩))) (hm : l[i]? = some (b, t, cs))
    (hu : P.underlying ty = some d) (hd : (match d with | .struct _ | .array _ _ => true | _ => false) = false) (hv : cs.toList[j]? = some v)
    (h : wpListIn F n P ops Q rest (a.put o.dst v) w) : wpListIn F n P ops Q (o :: rest) a w := by
  refine wpListIn_wanted hw fun K hK => ⟨by simp [Oper.about, ho], ?_⟩
  rw [Oper.semAt_plain F _ _ (by rw [ho]; intro c hc'; cases hc')]
  have hc : w.cell? ⟨b, j, none⟩ = some v := ((H.at i hm).cell j).trans ((Array.getElem?_toList ..).symm.trans hv)
  have hagg : (isAgg ty).run P w = .ok false w := by
    unfold isAgg
    rw [Sem.run_bind, run_underlying hu w]
    cases d <;> simp_all
  unfold execOp
  simp only [ho, opnd_eval hx, Instr.loadAt, Instr.sureAddr, Sem.run_bind, Sem.run_pure, Result.andThen_ok, loadVar, hagg]
  simp [go_sem, hc]
  exact hK _ _ h
theorem mem_storefI {b i j : Nat} {ty : TypeId} {x y : Operand} {v : Value} (H : Mem w0 w l) (hw : Region.wanted o (yielded ops a.tmps) = true) (ho : o.op = .store ty x y) (hx : opnd a x = some (.pointer (some ⟨b, j, none⟩))) (hm : l[i]? = some (b, t, cs)) (hy : opnd a y = some v)
    (hi : (P.info? ty).map (·.size) = some 1) (hj' : decide (j < cs.size) = true) (h1 : v.oneCell' = true)
    (h : ∀ w', Mem w0 w' (l.set i (b, t, cs.setIfInBounds j v)) → Foot (· = b) w w' → wpListIn F n P ops Q rest (a.put o.dst undef) w') : wpListIn F n P ops Q (o :: rest) a w := by
  refine wpListIn_wanted hw fun K hK => ⟨by simp [Oper.about, ho], ?_⟩
  rw [Oper.semAt_plain F _ _ (by rw [ho]; intro c hc'; cases hc')]
  have g := H.at i hm
  have hj : j < cs.size := of_decide_eq_true hj'
  have hc : w.cell? ⟨b, j, none⟩ = some cs[j] := (g.cell j).trans (by simp [hj])
  have hf := g.frozen j
  have hcs : v.cells = #[v] := by cases v <;> first | rfl | cases h1
  have hst : (storeVar ty ⟨b, j, none⟩ v).run P w = .ok () (w.setCell ⟨b, j, none⟩ v) := by
    cases hq : P.info? ty with
    | none => simp [hq] at hi
    | some i =>
      have hs : i.size = 1 := by simpa [hq] using hi
      simp [storeVar, sizeOf, typeInfo, hq, hcs, hs, storeCells, Addr.add_mid, run_store P w _ v _ h1, hc, hf]
  unfold execOp
  simp only [ho, opnd_eval hx, opnd_eval hy, Instr.storeAt, Instr.sureAddr, Sem.run_bind, Sem.run_pure, Result.andThen_ok, hst]
  exact hK _ _ (h _ (H.set i hm (Foot.cell w ⟨b, j, none⟩ v) (g.set j v)) (Foot.cell w ⟨b, j, none⟩ v))
end
end Go.Proofs.Ytdhjdkhhhdcjdaa
end
/- A region that draws its order, inside a round of a range over a function: what reads may be taken first, where no operation defers. Conditions: those that each theorem names. -/
section
namespace Go.Proofs.Ytdhjdkhhhdcjdaa
open Go Go.RowKit
/-- no operation defers -/
def noDefer (ops : Array Oper) : Bool := ops.all fun o => match o.op with | .defer _ => false | _ => true
theorem noDefer_spec {ops : Array Oper} (h : noDefer ops = true) (j : Nat) (o : Oper) (c : Call) (ho : ops[j]? = some o) : o.op ≠ .defer c := by
  intro heq
  have := Array.all_eq_true_iff_forall_mem.1 h o (Array.mem_of_getElem? ho)
  simp [heq] at this
section
variable {F : Fence} {n : Nat} {P : Program} {md : Region.Mode} {ops : Array Oper} {Q : Exit → Act → World → Prop} {R : World → Prop} {k : Nat}
theorem wpOpIn_lookR {j : Nat} {oi oj : Oper} {v : Value} (hnd : ∀ c, oj.op ≠ .defer c) (hj : ops[j]? = some oj) (hap : oi.apart ops oj = true)
    (hsi : ∀ cs b, oi.op ≠ .select cs b) (hsj : ∀ cs b, oj.op ≠ .select cs b) (hQ : ∀ c a w, Q (.panic c) (a.put oi.dst v) w → Q (.panic c) a w)
    {K : Act → World → Prop} {a : Act} {w : World} (h : wpOpIn F n P ops Q j K (a.put oi.dst v) w) :
    wpOpIn F n P ops Q j (fun a' w' => SameLook P ops oi a a' ∧ K (a'.put oi.dst v) w') a w := by
  obtain ⟨h1, h2, h3⟩ := Oper.apart_spec hap
  have keep : ∀ u, SameLook P ops oi a (a.put oj.dst u) := fun u => ⟨execOp_put oi hsi a oj.dst u h3, wanted_put oi a oj.dst u h3, fun w => about_put oi w a oj.dst u h3⟩
  have keepD : ∀ d u, SameLook P ops oi a ({ a with defers := d :: a.defers }.put oj.dst u) := fun d u =>
    ⟨(execOp_put oi hsi { a with defers := d :: a.defers } oj.dst u h3).trans rfl, (wanted_put oi { a with defers := d :: a.defers } oj.dst u h3).trans rfl, fun w => (about_put oi w { a with defers := d :: a.defers } oj.dst u h3).trans rfl⟩
  unfold wpOpIn at *
  simp only [hj] at *
  rw [wanted_put oj a oi.dst v h1, about_put oj w a oi.dst v h1] at h
  by_cases hw : Region.wanted oj (yielded ops a.tmps) = true
  · simp only [hw, if_true] at h ⊢
    unfold Oper.wpIn at *
    rw [about_put oj w a oi.dst v h1] at h
    refine ⟨h.1, ?_⟩
    have h := h.2
    rw [Oper.semAt_plain F _ _ hnd, execOp_put oj hsj a oi.dst v h1] at h
    rw [Oper.semAt_plain F _ _ hnd]
    generalize (execOp a.eval oj).run P w = r at *
    have fin : ∀ (e : Ending) (w'' : World), (match e, w'' with
        | .returned u, w'' => K ((a.put oi.dst v).put oj.dst u) w''
        | .panicked c, w'' => Q (.panic c) (a.put oi.dst v) w''
        | .outgrown, _ => LetsOut Q) → (match e, w'' with
        | .returned u, w'' => SameLook P ops oi a (a.put oj.dst u) ∧ K ((a.put oj.dst u).put oi.dst v) w''
        | .panicked c, w'' => Q (.panic c) a w''
        | .outgrown, _ => LetsOut Q) := fun e w'' he => by
      cases e with
      | returned u => exact ⟨keep u, by rw [← Act.put_comm a v u h2]; exact he⟩
      | panicked c => exact hQ _ _ _ he
      | outgrown => exact he
    cases r with
    | ok x w' =>
      cases x <;> simp only [Oper.uponIn] at h ⊢
      case value u => exact ⟨keep u, by rw [← Act.put_comm a v u h2]; exact h⟩
      case skip => exact ⟨keep _, by rw [← Act.put_comm a v undef h2]; exact h⟩
      case defer d => exact ⟨keepD d _, by rw [← Act.put_comm _ v undef h2, ← Act.put_defers]; exact h⟩
      case enter f args => exact ⟨h.1, h.2.mono fin⟩
      case row row args => exact ⟨h.1, RowsIn.mono h.2 fun u w'' he => ⟨keep u, by rw [← Act.put_comm a v u h2]; exact he⟩⟩
      case round l f tmps assign body => exact ⟨h.1, h.2.mono fin⟩
    | halt x w' =>
      cases x <;> simp only [Oper.uponIn] at h ⊢
      case panic u => exact hQ _ _ _ h
  · simp only [hw] at h ⊢
    exact ⟨h.1, keep _, by rw [← Act.put_comm a v undef h2]; exact h.2⟩

theorem yieldsG_wpOpInR {i : Nat} {o : Oper} {v : Value} {a : Act} (hnd : ∀ c, o.op ≠ .defer c) (hi : ops[i]? = some o) (hy : YieldsG P ops R o v a) {K : Act → World → Prop} {w : World}
    (hR : R w) (h : K (a.put o.dst v) w) : wpOpIn F n P ops Q i K a w := by
  unfold Go.wpOpIn
  simp only [hi]
  have hab : ∀ f, o.about P w a.eval = some f → F.fn f := fun f hf => by rw [hy.2.2 w] at hf; cases hf
  simp only [hy.1, if_true, Oper.wpIn, Oper.semAt_plain F _ _ hnd, hy.2.1 w hR, Oper.uponIn]
  exact ⟨hab, h⟩

theorem wpAnyR_firstR {i : Nat} {oi : Oper} {v : Value} (hnd : ∀ (j : Nat) (o : Oper) c, ops[j]? = some o → o.op ≠ .defer c) (hi : ops[i]? = some oi) (hsel : ∀ (j : Nat) (o : Oper) cs b, ops[j]? = some o → o.op ≠ .select cs b)
    (hQ : ∀ c a w, Q (.panic c) (a.put oi.dst v) w → Q (.panic c) a w) :
    ∀ (fuel : Nat) (listed : Array Bool) (a : Act) (w : World), listed.size ≤ k →
      (∀ j oj, ops[j]? = some oj → j ≠ i → listed.getD j true = false → (∀ e ∈ oj.after, Region.binds md e = true → e.on ≠ i) → oi.apart ops oj = true) →
      i ∈ Region.ready md ops listed → YieldsG P ops R oi v a → R w →
      wpAnyG F n P md ops Q R k fuel (listed.setIfInBounds i true) (a.put oi.dst v) w → wpAnyG F n P md ops Q R k (fuel + 1) listed a w := by
  intro fuel
  induction fuel with
  | zero =>
    intro listed a w _ _ hr hy hS H
    refine ⟨fun h => (by rw [h] at hr; cases hr), fun j hj => ?_⟩
    by_cases hji : j = i
    · subst hji; exact yieldsG_wpOpInR (fun c => hnd _ _ c hi) hi hy hS ⟨.inr hS, H⟩
    · have := ready_mono hj hji
      rw [H.1] at this
      cases this
  | succ fuel ih =>
    intro listed a w hc hfree hr hy hS H
    refine ⟨fun h => (by rw [h] at hr; cases hr), fun j hj => ?_⟩
    by_cases hji : j = i
    · subst hji; exact yieldsG_wpOpInR (fun c => hnd _ _ c hi) hi hy hS ⟨.inr hS, H⟩
    · have h1 := H.2 j (ready_mono hj hji)
      obtain ⟨hjun, oj, hoj, hall⟩ := mem_ready.1 hj
      have hun := (mem_ready.1 hr).1
      have hnot : ∀ e ∈ oj.after, Region.binds md e = true → e.on ≠ i := fun e he hb heq => by
        have h1 := hall e he hb
        rw [heq, getD_tf hun] at h1
        cases h1
      have h2 := wpOpIn_lookR (fun c => hnd _ _ c hoj) hoj (hfree j oj hoj hji hjun hnot) (fun cs b => hsel i oi cs b hi) (fun cs b => hsel j oj cs b hoj) hQ h1
      have hfree' : ∀ k ok, ops[k]? = some ok → k ≠ i → (listed.setIfInBounds j true).getD k true = false →
          (∀ e ∈ ok.after, Region.binds md e = true → e.on ≠ i) → oi.apart ops ok = true := fun k ok hk hki hun hno => by
        refine hfree k ok hk hki ?_ hno
        by_cases hjk : j = k
        · subst hjk; exact hjun
        · rw [getD_set_ne true hjk] at hun; exact hun
      have hrj : i ∈ Region.ready md ops (listed.setIfInBounds j true) := ready_mono hr (Ne.symm hji)
      refine wpOpIn_mono (fun a' w' h3 => ?_) h2
      obtain ⟨hl, hS', hW⟩ := h3
      have hR' : R w' := by
        rcases hS' with h | h
        · rw [Array.getD_eq_getD_getElem?, Array.getElem?_eq_none (by simpa using hc)] at h
          cases h
        · exact h
      rw [Array.setIfInBounds_comm _ _ (Ne.symm hji)] at hW
      exact ⟨.inr hR', ih (listed.setIfInBounds j true) a' w' (by simpa using hc) hfree' hrj (hy.same hl) hR' hW⟩
/-- take operation i first, where the condition holds all along -/
theorem wpAnyR_takeR {i : Nat} {oi : Oper} {v : Value} {fuel : Nat} {listed : Array Bool} {a : Act} {w : World} (hnd : noDefer ops = true) (hi : ops[i]? = some oi)
    (hs : Region.noSelect ops = true) (hf : Region.free md ops listed i = true) (hr : (Region.ready md ops listed).contains i = true)
    (hQ : ∀ c a w, Q (.panic c) (a.put oi.dst v) w → Q (.panic c) a w) (hk : listed.size ≤ k) (hy : YieldsG P ops R oi v a) (hS : R w)
    (h : wpAnyG F n P md ops Q R k fuel (listed.setIfInBounds i true) (a.put oi.dst v) w) : wpAnyG F n P md ops Q R k (fuel + 1) listed a w :=
  wpAnyR_firstR (noDefer_spec hnd) hi (Region.noSelect_spec hs) hQ fuel listed a w hk (Region.free_spec hi hf) (by simpa using hr) hy hS h
/-- three operations may come up -/
theorem wpAnyG_three {i j m : Nat} {oi oj om : Oper} {fuel : Nat} {listed : Array Bool} {a : Act} {w : World} (hr : Region.ready md ops listed = [i, j, m]) (hi : ops[i]? = some oi) (hj : ops[j]? = some oj) (hm : ops[m]? = some om)
    (h : ∀ K' : Act → World → Prop, (∀ a' w', ((listed.setIfInBounds i true).getD k false = true ∨ R w') → wpAnyG F n P md ops Q R k fuel (listed.setIfInBounds i true) a' w' → K' a' w') →
      if Region.wanted oi (yielded ops a.tmps) = true then Oper.wpIn F n P oi a w K' Q else (∀ f, oi.about P w a.eval = some f → F.fn f) ∧ K' (a.put oi.dst undef) w)
    (h' : ∀ K' : Act → World → Prop, (∀ a' w', ((listed.setIfInBounds j true).getD k false = true ∨ R w') → wpAnyG F n P md ops Q R k fuel (listed.setIfInBounds j true) a' w' → K' a' w') →
      if Region.wanted oj (yielded ops a.tmps) = true then Oper.wpIn F n P oj a w K' Q else (∀ f, oj.about P w a.eval = some f → F.fn f) ∧ K' (a.put oj.dst undef) w)
    (h'' : ∀ K' : Act → World → Prop, (∀ a' w', ((listed.setIfInBounds m true).getD k false = true ∨ R w') → wpAnyG F n P md ops Q R k fuel (listed.setIfInBounds m true) a' w' → K' a' w') →
      if Region.wanted om (yielded ops a.tmps) = true then Oper.wpIn F n P om a w K' Q else (∀ f, om.about P w a.eval = some f → F.fn f) ∧ K' (a.put om.dst undef) w) : wpAnyG F n P md ops Q R k (fuel + 1) listed a w := by
  refine ⟨fun h0 => (by rw [hr] at h0; cases h0), fun q hq => ?_⟩
  rw [hr] at hq
  simp only [List.mem_cons, List.not_mem_nil, or_false] at hq
  rcases hq with rfl | rfl | rfl
  · exact wpOpIn_step hi (fun K' hK => h K' (fun a' w' h1 h2 => hK _ _ ⟨h1, h2⟩))
  · exact wpOpIn_step hj (fun K' hK => h' K' (fun a' w' h1 h2 => hK _ _ ⟨h1, h2⟩))
  · exact wpOpIn_step hm (fun K' hK => h'' K' (fun a' w' h1 h2 => hK _ _ ⟨h1, h2⟩))
end
end Go.Proofs.Ytdhjdkhhhdcjdaa
end
/- A slice that came in, opened: the cells of each element, however the elements are opened. Conditions: the types' shapes, and how one element is opened. -/
section
namespace Go.Proofs.Ytdhjdkhhhdcjdaa
set_option linter.unusedSimpArgs false
set_option linter.unusedVariables false
set_option maxRecDepth 100000
open Go.ChangeShapes Go.WideShapes Go.ChangeAt Go.RowKit Go.Deep

/-- the elements of a slice, m cells each: cell j of element k -/
def SliceAt {α : Type} (w : World) (A : Option Addr) (len m : Nat) (cells : α → List Value) (Fit : α → Prop) (xs : Nat → α) : Prop :=
  ∀ k, k < len → Fit (xs k) ∧ ∃ a, A = some a ∧ a.block < w.heap.size ∧ ∀ j v, (cells (xs k))[j]? = some v → w.cell? (a.add (k * m + j)) = some v
theorem SliceAt.plain {α : Type} {w : World} {A : Option Addr} {len m : Nat} {cells : α → List Value} {Fit : α → Prop} {xs : Nat → α} (h : SliceAt w A len m cells Fit xs) (hm : ∀ x, (cells x).length = m) (hm0 : 0 < m) (h0 : 0 < len) :
    ∃ b o, A = some ⟨b, o, none⟩ ∧ b < w.heap.size ∧ ∀ k, k < len → Fit (xs k) ∧ ∀ j v, (cells (xs k))[j]? = some v → w.cell? ⟨b, o + k * m + j, none⟩ = some v := by
  obtain ⟨_, a, ha, hb, hc⟩ := h 0 h0
  have hs : a.spot = none := by
    have hl : 0 < (cells (xs 0)).length := by rw [hm]; exact hm0
    have := hc 0 (cells (xs 0))[0] (List.getElem?_eq_getElem hl)
    have e : a.add (0 * m + 0) = a := by simp [Addr.add]
    rw [e] at this
    unfold World.cell? at this
    split at this
    · split at this
      · cases this
      · rename_i hh; simpa using hh
    · cases this
  obtain ⟨b, o, s⟩ := a
  have hs' : s = none := hs
  subst hs'
  refine ⟨b, o, ha, hb, fun k hk => ?_⟩
  obtain ⟨hf, a', ha', _, hc'⟩ := h k hk
  rw [ha] at ha'
  cases ha'
  refine ⟨hf, fun j v hj => ?_⟩
  have := hc' j v hj
  have e : (⟨b, o, none⟩ : Addr).add (k * m + j) = ⟨b, o + k * m + j, none⟩ := by
    unfold Addr.add
    split
    all_goals first | (simp; done) | (simp; omega)
  rwa [e] at this
section
variable {H : Type} {enc : TypeId × Value → H} {P : Program} {w : World} {base : Nat} {spare : Nat → Bool} {held : Bool}
theorem open_sliceOf {α : Type} [Inhabited α] {t e : TypeId} {r : Reach} {b0 m : Nat} {v : Value} {x : DataW H} {p : List MemPlace} (cells : α → List Value) (Fit : α → Prop) (ht : P.underlying t = some (.slice e)) (ce : P.cellsOf e = m) (hlen : ∀ y, (cells y).length = m) (hm0 : 0 < m)
    (he : ∀ fuel cs x, DataW.trod enc P w base spare held fuel e cs = some x → ∃ y : α, cs = cells y ∧ Fit y)
    (hv : Value.okWide P w r b0 t v) (h : DataW.Trod enc P w base spare held t v x p) :
    ∃ (A : Option Addr) (len cap : Nat) (xs : Nat → α), v = .slice A len cap ∧ len ≤ cap ∧ cap ≤ maxLen ∧ SliceAt w A len m cells Fit xs := by
  obtain ⟨A, len, cap, rfl⟩ := okWide_slice ht hv
  obtain ⟨fuel, hf⟩ := h
  rcases open_slice ht hf with ⟨hcs, _⟩ | ⟨a, len', cap', m', n, D, Pl, hcs, hb, hl, hm, hmm, _, hi⟩
  · simp [Value.cells] at hcs
    obtain ⟨rfl, rfl, rfl⟩ := hcs
    exact ⟨none, 0, 0, fun _ => default, rfl, Nat.le_refl _, Nat.zero_le _, fun k hk => absurd hk (by omega)⟩
  · simp [Value.cells] at hcs
    obtain ⟨rfl, rfl, rfl⟩ := hcs
    have hle : len ≤ m' := by rw [hmm]; split <;> omega
    have hex : ∀ k, k < len → ∃ y : α, Fit y ∧ a.block < w.heap.size ∧ ∀ j u, (cells y)[j]? = some u → w.cell? (a.add (k * m + j)) = some u := fun k hk => by
      obtain ⟨cs', hc, ht'⟩ := hi k (by omega)
      rw [ce] at hc
      obtain ⟨y, rfl, hy⟩ := he _ _ _ ht'
      obtain ⟨_, _, hat⟩ := World.cells?_some hc
      have hcell : ∀ j u, (cells y)[j]? = some u → w.cell? (a.add (k * m + j)) = some u := fun j u hj => by
        have hjl : j < m := by
          have := (List.getElem?_eq_some_iff.1 hj).1
          rwa [hlen] at this
        rw [← Go.Deep.add_add, hat j hjl, hj]
      refine ⟨y, hy, ?_, hcell⟩
      have hl0 : 0 < (cells y).length := by rw [hlen]; exact hm0
      have h2 := World.block_lt_of_cell? w _ (hcell 0 _ (List.getElem?_eq_getElem hl0))
      have hbk : (a.add (k * m + 0)).block = a.block := by unfold Addr.add; split <;> rfl
      rw [hbk] at h2
      exact h2
    obtain ⟨xs, hxs⟩ := choose_lt hex
    exact ⟨some a, len, cap, xs, rfl, hl, hm, fun k hk => ⟨(hxs k hk).1, a, rfl, (hxs k hk).2⟩⟩
/-- an element that is a whole number -/
theorem open_num {e : TypeId} {k : IntKind} (he : P.underlying e = some (.int k)) (fuel : Nat) (cs : List Value) (x : DataW H × List MemPlace) (h : DataW.trod enc P w base spare held fuel e cs = some x) : ∃ y : Int, cs = [.int k y] ∧ (Lit.int k y).wf = true := by
  obtain ⟨y, q, _, hw⟩ := DataW.trod_int he h
  exact ⟨y, q, hw⟩
/-- an element of three whole numbers -/
theorem open_num3 {e : TypeId} {f0 f1 f2 : Field} {k0 k1 k2 : IntKind} (he : P.underlying e = some (.struct #[f0, f1, f2])) (hone : oneCellFields P #[f0, f1, f2] = true) (ce : P.cellsOf e = 3)
    (u0 : P.underlying f0.type = some (.int k0)) (u1 : P.underlying f1.type = some (.int k1)) (u2 : P.underlying f2.type = some (.int k2)) (fuel : Nat) (cs : List Value) (x : DataW H × List MemPlace) (h : DataW.trod enc P w base spare held fuel e cs = some x) :
    ∃ y : Int × Int × Int, cs = [.int k0 y.1, .int k1 y.2.1, .int k2 y.2.2] ∧ ((Lit.int k0 y.1).wf = true ∧ (Lit.int k1 y.2.1).wf = true ∧ (Lit.int k2 y.2.2).wf = true) := by
  obtain ⟨xs, m, _, hx, hlen, hxl, hg⟩ := DataW.trod_struct he h
  rw [ce] at hlen
  match cs, hlen with
  | [c0, c1, c2], _ =>
    match xs, hxl with
    | [y0, y1, y2], _ =>
      obtain ⟨o0, q0⟩ := hone_of hone 0 f0 rfl
      have g0 := hg 0 f0 rfl
      rw [o0, q0] at g0
      obtain ⟨n0, e0, _, w0⟩ := DataW.trod_int u0 (show DataW.trod enc P w base spare held m f0.type [c0] = some y0 from g0)
      obtain ⟨o1, q1⟩ := hone_of hone 1 f1 rfl
      have g1 := hg 1 f1 rfl
      rw [o1, q1] at g1
      obtain ⟨n1, e1, _, w1⟩ := DataW.trod_int u1 (show DataW.trod enc P w base spare held m f1.type [c1] = some y1 from g1)
      obtain ⟨o2, q2⟩ := hone_of hone 2 f2 rfl
      have g2 := hg 2 f2 rfl
      rw [o2, q2] at g2
      obtain ⟨n2, e2, _, w2⟩ := DataW.trod_int u2 (show DataW.trod enc P w base spare held m f2.type [c2] = some y2 from g2)
      simp at e0 e1 e2
      subst e0 e1 e2
      exact ⟨(n0, n1, n2), rfl, w0, w1, w2⟩
end
end Go.Proofs.Ytdhjdkhhhdcjdaa
end
/- A struct of whole numbers by value that came in, opened: its numbers, and that each fits its kind. Conditions: the type's shape. -/
section
namespace Go.Proofs.Ytdhjdkhhhdcjdaa
open Go.Joins Go.ChangeShapes Go.WideShapes Go.RowKit Go.Deep
theorem bd_u64 {n : Int} (h : (Lit.int .u64 n).wf = true) : 0 ≤ n ∧ n ≤ 18446744073709551615 := by
  simpa [Lit.wf, IntKind.min, IntKind.max, IntKind.signed, IntKind.bits] using h
section
variable {H : Type} {enc : TypeId × Value → H} {P : Program} {w : World} {base : Nat} {spare : Nat → Bool} {held : Bool}
theorem open_ints3 {r : Reach} {b0 : Nat} {t : TypeId} {f0 f1 f2 : Field} {k0 k1 k2 : IntKind} {v : Value} {x : DataW H} {p : List MemPlace} (hs : P.underlying t = some (.struct #[f0, f1, f2])) (hone : oneCellFields P #[f0, f1, f2] = true) (hC : P.cellsOf t = 3)
    (u0 : P.underlying f0.type = some (.int k0)) (u1 : P.underlying f1.type = some (.int k1)) (u2 : P.underlying f2.type = some (.int k2))
    (hv : Value.okWide P w r b0 t v) (h : DataW.Trod enc P w base spare held t v x p) :
    ∃ n0 n1 n2 : Int, v = .agg #[.int k0 n0, .int k1 n1, .int k2 n2] ∧ (Lit.int k0 n0).wf = true ∧ (Lit.int k1 n1).wf = true ∧ (Lit.int k2 n2).wf = true := by
  obtain ⟨cs, rfl, hsz⟩ := okWide_struct hs hv
  obtain ⟨l⟩ := cs
  match l, hsz.trans hC with
  | [c0, c1, c2], _ =>
    obtain ⟨fuel, hf⟩ := h
    obtain ⟨xs, m, _, _, _, hlen, hg⟩ := DataW.trod_struct hs hf
    match xs, hlen with
    | [y0, y1, y2], _ =>
      obtain ⟨o0, q0⟩ := hone_of hone 0 f0 rfl
      have g0 := hg 0 f0 rfl
      rw [o0, q0] at g0
      obtain ⟨n0, e0, _, w0⟩ := DataW.trod_int u0 (show DataW.trod enc P w base spare held m f0.type [c0] = some y0 from g0)
      obtain ⟨o1, q1⟩ := hone_of hone 1 f1 rfl
      have g1 := hg 1 f1 rfl
      rw [o1, q1] at g1
      obtain ⟨n1, e1, _, w1⟩ := DataW.trod_int u1 (show DataW.trod enc P w base spare held m f1.type [c1] = some y1 from g1)
      obtain ⟨o2, q2⟩ := hone_of hone 2 f2 rfl
      have g2 := hg 2 f2 rfl
      rw [o2, q2] at g2
      obtain ⟨n2, e2, _, w2⟩ := DataW.trod_int u2 (show DataW.trod enc P w base spare held m f2.type [c2] = some y2 from g2)
      simp at e0 e1 e2
      subst e0 e1 e2
      exact ⟨n0, n1, n2, rfl, w0, w1, w2⟩
theorem open_ints5 {r : Reach} {b0 : Nat} {t : TypeId} {f0 f1 f2 f3 f4 : Field} {k0 k1 k2 k3 k4 : IntKind} {v : Value} {x : DataW H} {p : List MemPlace} (hs : P.underlying t = some (.struct #[f0, f1, f2, f3, f4])) (hone : oneCellFields P #[f0, f1, f2, f3, f4] = true) (hC : P.cellsOf t = 5)
    (u0 : P.underlying f0.type = some (.int k0)) (u1 : P.underlying f1.type = some (.int k1)) (u2 : P.underlying f2.type = some (.int k2)) (u3 : P.underlying f3.type = some (.int k3)) (u4 : P.underlying f4.type = some (.int k4))
    (hv : Value.okWide P w r b0 t v) (h : DataW.Trod enc P w base spare held t v x p) :
    ∃ n0 n1 n2 n3 n4 : Int, v = .agg #[.int k0 n0, .int k1 n1, .int k2 n2, .int k3 n3, .int k4 n4] ∧ (Lit.int k0 n0).wf = true ∧ (Lit.int k1 n1).wf = true ∧ (Lit.int k2 n2).wf = true ∧ (Lit.int k3 n3).wf = true ∧ (Lit.int k4 n4).wf = true := by
  obtain ⟨cs, rfl, hsz⟩ := okWide_struct hs hv
  obtain ⟨l⟩ := cs
  match l, hsz.trans hC with
  | [c0, c1, c2, c3, c4], _ =>
    obtain ⟨fuel, hf⟩ := h
    obtain ⟨xs, m, _, _, _, hlen, hg⟩ := DataW.trod_struct hs hf
    match xs, hlen with
    | [y0, y1, y2, y3, y4], _ =>
      obtain ⟨o0, q0⟩ := hone_of hone 0 f0 rfl
      have g0 := hg 0 f0 rfl
      rw [o0, q0] at g0
      obtain ⟨n0, e0, _, w0⟩ := DataW.trod_int u0 (show DataW.trod enc P w base spare held m f0.type [c0] = some y0 from g0)
      obtain ⟨o1, q1⟩ := hone_of hone 1 f1 rfl
      have g1 := hg 1 f1 rfl
      rw [o1, q1] at g1
      obtain ⟨n1, e1, _, w1⟩ := DataW.trod_int u1 (show DataW.trod enc P w base spare held m f1.type [c1] = some y1 from g1)
      obtain ⟨o2, q2⟩ := hone_of hone 2 f2 rfl
      have g2 := hg 2 f2 rfl
      rw [o2, q2] at g2
      obtain ⟨n2, e2, _, w2⟩ := DataW.trod_int u2 (show DataW.trod enc P w base spare held m f2.type [c2] = some y2 from g2)
      obtain ⟨o3, q3⟩ := hone_of hone 3 f3 rfl
      have g3 := hg 3 f3 rfl
      rw [o3, q3] at g3
      obtain ⟨n3, e3, _, w3⟩ := DataW.trod_int u3 (show DataW.trod enc P w base spare held m f3.type [c3] = some y3 from g3)
      obtain ⟨o4, q4⟩ := hone_of hone 4 f4 rfl
      have g4 := hg 4 f4 rfl
      rw [o4, q4] at g4
      obtain ⟨n4, e4, _, w4⟩ := DataW.trod_int u4 (show DataW.trod enc P w base spare held m f4.type [c4] = some y4 from g4)
      simp at e0 e1 e2 e3 e4
      subst e0 e1 e2 e3 e4
      exact ⟨n0, n1, n2, n3, n4, rfl, w0, w1, w2, w3, w4⟩
theorem open_ints13 {r : Reach} {b0 : Nat} {t : TypeId} {f0 f1 f2 f3 f4 f5 f6 f7 f8 f9 f10 f11 f12 : Field} {k0 k1 k2 k3 k4 k5 k6 k7 k8 k9 k10 k11 k12 : IntKind} {v : Value} {x : DataW H} {p : List MemPlace} (hs : P.underlying t = some (.struct #[f0, f1, f2, f3, f4, f5, f6, f7, f8, f9, f10, f11, f12])) (hone : oneCellFields P #[f0, f1, f2, f3, f4, f5, f6, f7, f8, f9, f10, f11, f12] = true) (hC : P.cellsOf t = 13)
    (u0 : P.underlying f0.type = some (.int k0)) (u1 : P.underlying f1.type = some (.int k1)) (u2 : P.underlying f2.type = some (.int k2)) (u3 : P.underlying f3.type = some (.int k3)) (u4 : P.underlying f4.type = some (.int k4)) (u5 : P.underlying f5.type = some (.int k5)) (u6 : P.underlying f6.type = some (.int k6)) (u7 : P.underlying f7.type = some (.int k7)) (u8 : P.underlying f8.type = some (.int k8)) (u9 : P.underlying f9.type = some (.int k9)) (u10 : P.underlying f10.type = some (.int k10)) (u11 : P.underlying f11.type = some (.int k11)) (u12 : P.underlying f12.type = some (.int k12))
    (hv : Value.okWide P w r b0 t v) (h : DataW.Trod enc P w base spare held t v x p) :
    ∃ n0 n1 n2 n3 n4 n5 n6 n7 n8 n9 n10 n11 n12 : Int, v = .agg #[.int k0 n0, .int k1 n1, .int k2 n2, .int k3 n3, .int k4 n4, .int k5 n5, .int k6 n6, .int k7 n7, .int k8 n8, .int k9 n9, .int k10 n10, .int k11 n11, .int k12 n12] ∧ (Lit.int k0 n0).wf = true ∧ (Lit.int k1 n1).wf = true ∧ (Lit.int k2 n2).wf = true ∧ (Lit.int k3 n3).wf = true ∧ (Lit.int k4 n4).wf = true ∧ (Lit.int k5 n5).wf = true ∧ (Lit.int k6 n6).wf = true ∧ (Lit.int k7 n7).wf = true ∧ (Lit.int k8 n8).wf = true ∧ (Lit.int k9 n9).wf = true ∧ (Lit.int k10 n10).wf = true ∧ (Lit.int k11 n11).wf = true ∧ (Lit.int k12 n12).wf = true := by
  obtain ⟨cs, rfl, hsz⟩ := okWide_struct hs hv
  obtain ⟨l⟩ := cs
  match l, hsz.trans hC with
  | [c0, c1, c2, c3, c4, c5, c6, c7, c8, c9, c10, c11, c12], _ =>
    obtain ⟨fuel, hf⟩ := h
    obtain ⟨xs, m, _, _, _, hlen, hg⟩ := DataW.trod_struct hs hf
    match xs, hlen with
    | [y0, y1, y2, y3, y4, y5, y6, y7, y8, y9, y10, y11, y12], _ =>
      obtain ⟨o0, q0⟩ := hone_of hone 0 f0 rfl
      have g0 := hg 0 f0 rfl
      rw [o0, q0] at g0
      obtain ⟨n0, e0, _, w0⟩ := DataW.trod_int u0 (show DataW.trod enc P w base spare held m f0.type [c0] = some y0 from g0)
      obtain ⟨o1, q1⟩ := hone_of hone 1 f1 rfl
      have g1 := hg 1 f1 rfl
      rw [o1, q1] at g1
      obtain ⟨n1, e1, _, w1⟩ := DataW.trod_int u1 (show DataW.trod enc P w base spare held m f1.type [c1] = some y1 from g1)
      obtain ⟨o2, q2⟩ := hone_of hone 2 f2 rfl
      have g2 := hg 2 f2 rfl
      rw [o2, q2] at g2
      obtain ⟨n2, e2, _, w2⟩ := DataW.trod_int u2 (show DataW.trod enc P w base spare held m f2.type [c2] = some y2 from g2)
      obtain ⟨o3, q3⟩ := hone_of hone 3 f3 rfl
      have g3 := hg 3 f3 rfl
      rw [o3, q3] at g3
      obtain ⟨n3, e3, _, w3⟩ := DataW.trod_int u3 (show DataW.trod enc P w base spare held m f3.type [c3] = some y3 from g3)
      obtain ⟨o4, q4⟩ := hone_of hone 4 f4 rfl
      have g4 := hg 4 f4 rfl
      rw [o4, q4] at g4
      obtain ⟨n4, e4, _, w4⟩ := DataW.trod_int u4 (show DataW.trod enc P w base spare held m f4.type [c4] = some y4 from g4)
      obtain ⟨o5, q5⟩ := hone_of hone 5 f5 rfl
      have g5 := hg 5 f5 rfl
      rw [o5, q5] at g5
      obtain ⟨n5, e5, _, w5⟩ := DataW.trod_int u5 (show DataW.trod enc P w base spare held m f5.type [c5] = some y5 from g5)
      obtain ⟨o6, q6⟩ := hone_of hone 6 f6 rfl
      have g6 := hg 6 f6 rfl
      rw [o6, q6] at g6
      obtain ⟨n6, e6, _, w6⟩ := DataW.trod_int u6 (show DataW.trod enc P w base spare held m f6.type [c6] = some y6 from g6)
      obtain ⟨o7, q7⟩ := hone_of hone 7 f7 rfl
      have g7 := hg 7 f7 rfl
      rw [o7, q7] at g7
      obtain ⟨n7, e7, _, w7⟩ := DataW.trod_int u7 (show DataW.trod enc P w base spare held m f7.type [c7] = some y7 from g7)
      obtain ⟨o8, q8⟩ := hone_of hone 8 f8 rfl
      have g8 := hg 8 f8 rfl
      rw [o8, q8] at g8
      obtain ⟨n8, e8, _, w8⟩ := DataW.trod_int u8 (show DataW.trod enc P w base spare held m f8.type [c8] = some y8 from g8)
      obtain ⟨o9, q9⟩ := hone_of hone 9 f9 rfl
      have g9 := hg 9 f9 rfl
      rw [o9, q9] at g9
      obtain ⟨n9, e9, _, w9⟩ := DataW.trod_int u9 (show DataW.trod enc P w base spare held m f9.type [c9] = some y9 from g9)
      obtain ⟨o10, q10⟩ := hone_of hone 10 f10 rfl
      have g10 := hg 10 f10 rfl
      rw [o10, q10] at g10
      obtain ⟨n10, e10, _, w10⟩ := DataW.trod_int u10 (show DataW.trod enc P w base spare held m f10.type [c10] = some y10 from g10)
      obtain ⟨o11, q11⟩ := hone_of hone 11 f11 rfl
      have g11 := hg 11 f11 rfl
      rw [o11, q11] at g11
      obtain ⟨n11, e11, _, w11⟩ := DataW.trod_int u11 (show DataW.trod enc P w base spare held m f11.type [c11] = some y11 from g11)
      obtain ⟨o12, q12⟩ := hone_of hone 12 f12 rfl
      have g12 := hg 12 f12 rfl
      rw [o12, q12] at g12
      obtain ⟨n12, e12, _, w12⟩ := DataW.trod_int u12 (show DataW.trod enc P w base spare held m f12.type [c12] = some y12 from g12)
      simp at e0 e1 e2 e3 e4 e5 e6 e7 e8 e9 e10 e11 e12
      subst e0 e1 e2 e3 e4 e5 e6 e7 e8 e9 e10 e11 e12
      exact ⟨n0, n1, n2, n3, n4, n5, n6, n7, n8, n9, n10, n11, n12, rfl, w0, w1, w2, w3, w4, w5, w6, w7, w8, w9, w10, w11, w12⟩
end
end Go.Proofs.Ytdhjdkhhhdcjdaa
end
/- The last step of a row over a world of which only 'Below' is known: what was there when the call began is as it was. Conditions: those that the theorem names. -/
section
namespace Go.Proofs.Ytdhjdkhhhdcjdaa
open Go.RowKit Go.WideShapes Go.ChangeShapes
theorem bd_u32 {n : Int} (h : (Lit.int .u32 n).wf = true) : 0 ≤ n ∧ n ≤ 4294967295 := by
  simpa [Lit.wf, IntKind.min, IntKind.max, IntKind.signed, IntKind.bits] using h
theorem bd_i64 {n : Int} (h : (Lit.int .i64 n).wf = true) : -9223372036854775808 ≤ n ∧ n ≤ 9223372036854775807 := by
  simpa [Lit.wf, IntKind.min, IntKind.max, IntKind.signed, IntKind.bits] using h
theorem bd_u8 {n : Int} (h : (Lit.int .u8 n).wf = true) : 0 ≤ n ∧ n ≤ 255 := by
  simpa [Lit.wf, IntKind.min, IntKind.max, IntKind.signed, IntKind.bits] using h
theorem below_drewN {B : Nat} {a w : World} (h : Below B a w) (n : Nat) : Below B a (w.drewN n) := ⟨h.os, h.tape, h.output, h.size, h.block⟩
section
variable {H : Type} {enc : TypeId × Value → H} {P : Program}
/-- the row's end: results and arguments read as said, nothing that was there has turned -/
theorem shut_below {f : Func} {s : ChangeSpec} {apart fresh handsOn again : Bool} {W W' : World} {args : Array Value} {v : Value} {ds gs : List (DataW H)} {met pa pv : List MemPlace}
    (hW : DataW.Whole enc P f.params.toList s.vars apart W args.toList ds gs met)
    (hr : ∀ (b : Nat) (sp : Nat → Bool) (hd : Bool), DataW.TrodAll enc P W' b sp hd f.resultTypes.toList (v.resultList f.resultTypes.size) (s.fn H (ds ++ gs)).results [])
    (ha : ∀ sp : Nat → Bool, (∀ p ∈ met, sp p.block = true) → DataW.TrodAll enc P W' 0 sp true f.params.toList args.toList (s.fn H (ds ++ gs)).args pa)
    (hv : ∀ sp : Nat → Bool, (∀ p ∈ met, sp p.block = true) → DataW.TrodVars enc P W' sp s.vars (s.fn H (ds ++ gs)).vars pv)
    (hm : met = pa ++ pv) (hb : Below W.heap.size W W')
    (hk : ∀ (j : Nat) (t : TypeId) (r : Value), f.resultTypes[j]? = some t → (v.resultList f.resultTypes.size)[j]? = some r → Value.okWide P W' .any 0 t r) :
    s.post enc P f apart fresh handsOn again W args v W' := by
  have hin : ∀ p ∈ met, p.block < W.heap.size := fun p hp => hW.lt p hp
  have hsp : ∀ p ∈ met, (fun b => decide (b < W.heap.size)) p.block = true := fun p hp => by simpa using hin p hp
  refine ⟨ds, gs, met, [], pa, pv, hW, hr _ _ _, ha _ hsp, hv _ hsp, World.keptBut_mono (fun p hp => ⟨hp, .inr ?_⟩) (hb.frame (· ∈ met)), fun _ => ⟨hk, _, _, ([] ++ pa) ++ pv, ⟨[] ++ pa, pv, trodAll_append (ha _ (fun _ _ => rfl)) (hr _ _ _), hv _ (fun _ _ => rfl), rfl, ?_, ?_⟩, ?_⟩⟩
  · simpa [hm] using hp
  · intro b off hp
    have hp' : MemPlace.cell b off ∈ met := by simpa [hm] using hp
    obtain ⟨_, _, _, _, _, hz, _⟩ := hW
    rw [hb.frozen (hin _ hp')]
    exact hz b off hp'
  · intro h
    obtain ⟨_, _, _, _, _, _, hn⟩ := hW
    simpa [hm] using hn h
  · intro p hp _
    simpa [hm] using hp
end
end Go.Proofs.Ytdhjdkhhhdcjdaa
end
/- The last step of a law's row, whatever its arguments: nothing that was there when the call began has turned, so every argument reads as it read. Conditions: those that the theorem names. -/
section
namespace Go.Proofs.Ytdhjdkhhhdcjdaa
open Go.RowKit Go.WideShapes Go.ChangeShapes
section
variable {H : Type} {enc : TypeId × Value → H} {P : Program}
/-- all arguments are carried over -/
theorem trodAll_stays (hl : laidOutB P = true) {W W' : World} {sp : Nat → Bool} : ∀ (ts : List TypeId) (vs : List Value) (ds : List (DataW H)) (ps : List MemPlace), (∀ t ∈ ts, P.readableRec t = true ∧ t < P.types.size) →
    DataW.TrodAll enc P W 0 (fun _ => true) true ts vs ds ps → (∀ p ∈ ps, W.sameAt W' p) → (∀ p ∈ ps, sp p.block = true) → DataW.TrodAll enc P W' 0 sp true ts vs ds ps
  | [], [], [], _, _, h, _, _ => h
  | t :: ts, v :: vs, d :: ds, ps, ht, h, hs, hp => by
    obtain ⟨p, q, h1, h2, rfl⟩ := h
    exact ⟨p, q, WideElems.Trod_stays hl (ht t (List.mem_cons_self ..)).1 (ht t (List.mem_cons_self ..)).2 h1 (fun x hx => hs x (List.mem_append_left _ hx)) (fun x hx => hp x (List.mem_append_left _ hx)),
      trodAll_stays hl ts vs ds q (fun x hx => ht x (List.mem_cons_of_mem _ hx)) h2 (fun x hx => hs x (List.mem_append_right _ hx)) (fun x hx => hp x (List.mem_append_right _ hx)), rfl⟩
  | [], [], _ :: _, _, _, h, _, _ => by cases h
  | [], _ :: _, _, _, _, h, _, _ => by cases h
  | _ :: _, [], _, _, _, h, _, _ => by cases h
  | _ :: _, _ :: _, [], _, _, h, _, _ => by cases h
/-- the row's end of a law without package variables: it has returned true -/
theorem law_end {f : Func} {s : ChangeSpec} {W W' : World} {args : Array Value} {v : Value} {ds : List (DataW H)} {met : List MemPlace} {tb : TypeId}
    (hl : laidOutB P = true) (htb' : (f.params.toList.all fun t => P.readableRec t && decide (t < P.types.size)) = true) (hvars : s.vars = [])
    (hW : DataW.Whole enc P f.params.toList s.vars false W args.toList ds [] met)
    (hres : f.resultTypes = #[tb]) (htb : P.underlying tb = some .bool) (hv : v = .bool true)
    (hfn : (s.fn H (ds ++ [])).results = [.lit (.bool true)] ∧ (s.fn H (ds ++ [])).args = ds ∧ (s.fn H (ds ++ [])).vars = []) (hb : Below W.heap.size W W') :
    s.post enc P f false true false false W args v W' := by
  have ht : ∀ t ∈ f.params.toList, P.readableRec t = true ∧ t < P.types.size := fun t h => by
    have := List.all_eq_true.1 htb' t h
    simpa using this
  have hW' := hW
  obtain ⟨p, q, hA, hV, hm, _, _⟩ := hW
  rw [hvars] at hV
  have hq : q = [] := hV
  subst hq
  have hmp : met = p := by simpa using hm
  subst hv
  refine shut_below (pa := p) (pv := []) hW' (fun _ _ _ => ?_) (fun sp hsp => ?_) (fun sp _ => ?_) hm hb ?_
  · rw [hfn.1, hres]
    exact trodAll_cons_mk (shut_bool htb _) trodAll_mk0
  · rw [hfn.2.1]
    exact trodAll_stays hl _ _ _ _ ht hA (fun x hx => hb.same (hW'.lt x (by rw [hmp]; exact hx))) (fun x hx => hsp x (by rw [hmp]; exact hx))
  · rw [hfn.2.2, hvars]
    rfl
  · exact ok_one hres rfl (okWide_bool_mk htb _)
end
end Go.Proofs.Ytdhjdkhhhdcjdaa
end
/- A range over a function whose iterator writes variables of its own between two rounds: the caller's invariant speaks only of what lay there when the loop began. Conditions: those that each theorem names. -/
section
namespace Go.Proofs.Ytdhjdkhhhdcjdaa
open Go.RowKit Go.Shelf

/-- an invariant that speaks of what lies below B -/
def FarFrom {β : Type} (B : Nat) (J : β → World → Prop) : Prop := ∀ s X Y, J s X → Below B X Y → J s Y
theorem FarFrom.mono {β : Type} {B B' : Nat} {J : β → World → Prop} (h : FarFrom B J) (hB : B ≤ B') : FarFrom B' J := fun s X Y hJ hb => h s X Y hJ (hb.mono hB)
theorem below_put {B l : Nat} (hl : B ≤ l) (X : World) (o : Obj) : Below B X (X.putObj l o) := ⟨rfl, rfl, rfl, by simp, fun _ hk => World.putObj_heap_other (by omega)⟩
theorem FarFrom.put {β : Type} {B l : Nat} {J : β → World → Prop} (h : FarFrom B J) (hl : B ≤ l) {s : β} {X : World} (hs : J s X) (o : Obj) : J s (X.putObj l o) := h s X _ hs (below_put hl X o)

/-- what an iterator gives that may write what it has laid itself -/
def SeqFar {α : Type} (F : Fence) (n : Nat) (P : Program) (g : Nat) (lb : Array Value) (encs : α → Array Value) (Kp : World → World → Prop) (S Sp : List α → Prop) (N : Nat) (w : World) : Prop :=
  ∀ (l : Nat) (J Jx : List α → World → Prop) (W : World), Below w.heap.size w W → FarFrom W.heap.size J → FarFrom W.heap.size Jx →
    (∀ pre x V, J pre V → pre.length < N → YieldAt F (n - 1) P l (encs x) V fun e V' => (e = .returned (.bool true) ∧ J (pre ++ [x]) V' ∧ Kp V V') ∨ (e = .returned (.bool false) ∧ Jx (pre ++ [x]) V')) →
    J [] W → CallsIn F n P g (#[.func (.yield l) #[] #[]] ++ lb) W fun e W' => (∃ v, e = .returned v) ∧ ((∃ xs, S xs ∧ J xs W') ∨ (∃ pre, Sp pre ∧ Jx pre W'))

/-- the loop's record and the block of its deferred calls -/
structure LoopAt (D : Nat) (r : Loop) (W : World) : Prop where
  row : W.heap[D + 1]? = some (.loop r)
  calls : W.heap[D]? = some (.deferred (some []))
theorem LoopAt.lt {D : Nat} {r : Loop} {W : World} (h : LoopAt D r W) : D + 1 < W.heap.size := (Array.getElem?_eq_some_iff.1 h.row).1
theorem LoopAt.below {D B : Nat} {r : Loop} {X Y : World} (h : LoopAt D r X) (hb : Below B X Y) (hB : D + 2 ≤ B) : LoopAt D r Y := ⟨(hb.block _ (by omega)).trans h.row, (hb.block _ (by omega)).trans h.calls⟩
theorem LoopAt.put {D : Nat} {r : Loop} {X : World} (h : LoopAt D r X) (r' : Loop) : LoopAt D r' (X.putObj (D + 1) (.loop r')) := ⟨World.putObj_heap_same h.lt, (World.putObj_heap_other (by omega)).trans h.calls⟩
theorem LoopAt.kept {D : Nat} {r : Loop} {X Y : World} (h : LoopAt D r X) (hk : KeepsFrom D X Y) : LoopAt D r Y := ⟨hk.same _ _ (by omega) h.row rfl, hk.same _ _ (Nat.le_refl _) h.calls rfl⟩

section
variable {F : Fence} {n : Nat} {P : Program} {α : Type}

/-- how a round ends, its body walked -/
theorem round_far {D : Nat} {Kp : World → World → Prop} {I : List α → World → Prop} {Ix : Code → List α → World → Prop} (r : Loop) (hps : r.pending = none) (hst : r.state = .ready)
    (hKt : ∀ {A B C : World}, Kp A B → Kp B C → Kp A C) (hKb : ∀ (W : World) (o o' : Obj), W.heap[D + 1]? = some o → o.isCells = false → o.isWalk = false → Kp W (W.putObj (D + 1) o'))
    (hI : FarFrom D I) (hIx : ∀ c, FarFrom D (Ix c)) (xs : List α) (W W3 : World) (hl : LoopAt D r W) (e : Exit) (a3 : Act)
    (h : ownPostG D Kp I Ix xs (W.putObj (D + 1) (.loop { r with state := .busy })) e a3 W3) :
    roundPost P (D + 1) (fun e' V' => (e' = .returned (.bool true) ∧ (I xs V' ∧ LoopAt D r V') ∧ Kp W V') ∨ (e' = .returned (.bool false) ∧ ∃ c, Ix c xs V' ∧ LoopAt D { r with state := .done, pending := some c } V')) e a3 W3 := by
  have go : ∀ jump, LoopAt D { r with state := .busy } W3 → (Instr.endRound (D + 1) jump).run P W3 = .ok (.bool jump.isNone) (W3.putObj (D + 1) (.loop { r with state := if jump.isNone then .ready else .done, pending := jump })) := fun jump h3 => run_endRound (r := { r with state := .busy }) jump h3.row
  have l2 := hl.put { r with state := .busy }
  have leave : ∀ c, KeepsFrom D (W.putObj (D + 1) (.loop { r with state := .busy })) W3 → Ix c xs W3 → ∃ v w4, (Instr.endRound (D + 1) (some c)).run P W3 = .ok v w4 ∧
      ((Ending.returned v = .returned (.bool true) ∧ (I xs w4 ∧ LoopAt D r w4) ∧ Kp W w4) ∨ (Ending.returned v = .returned (.bool false) ∧ ∃ c, Ix c xs w4 ∧ LoopAt D { r with state := .done, pending := some c } w4)) := fun c hk hx =>
    ⟨_, _, go (some c) (l2.kept hk), .inr ⟨rfl, c, (hIx c).put (by omega) hx _, (l2.kept hk).put _⟩⟩
  cases e with
  | normal =>
    obtain ⟨hk, hkp, hi⟩ := h
    refine ⟨_, _, go none (l2.kept hk), .inl ⟨rfl, ⟨hI.put (by omega) hi _, ?_⟩, hKt (hKt (hKb _ _ _ hl.row rfl rfl) hkp) (hKb _ _ _ (l2.kept hk).row rfl rfl)⟩⟩
    have h4 := (l2.kept hk).put { r with state := .ready, pending := none }
    have hr : { r with state := LoopState.ready, pending := none } = r := by
      cases r
      simp_all
    rw [hr] at h4
    exact (by simpa [hr] using h4)
  | ret => exact leave _ h.1 h.2
  | exit id => exact leave _ h.1 h.2
  | goto t => exact leave _ h.1 h.2
  | panic ch => exact h.elim
  | outgrown => exact h.elim

/-- a loop's record at its beginning -/
abbrev recOf (fn : FuncId) (tmps : Array Value) (ps : Array Tmp) (assign body : Code) (D : Nat) : Loop := { state := .ready, pending := none, fn := fn, tmps := tmps, params := ps, assign := assign, body := body, defers := D }

/-- the statement 'for .. := range g', over an iterator that may write what it has laid -/
theorem wpIn_rangeFar {g : Operand} {ps : Array Tmp} {assign body : Code} {Q : Exit → Act → World → Prop} {a : Act} {w : World} (hro : F.round = none) (h1 : 1 ≤ n) {gf : Nat} {lb : Array Value}
    (hg : a.eval g = .func (.func gf) #[] lb) (hFg : F.fn gf) (eg : ∀ args w, (callFunc gf args).run P w = .ok (.enter gf args) w) {encs : α → Array Value} {Kp : World → World → Prop} {S Sp : List α → Prop} {N : Nat}
    (hseq : SeqFar F (n - 1) P gf lb encs Kp S Sp N w) (hKt : ∀ {A B C : World}, Kp A B → Kp B C → Kp A C)
    (hKb : ∀ (W : World) (l : Nat) (o o' : Obj), w.heap.size ≤ l → W.heap[l]? = some o → o.isCells = false → o.isWalk = false → Kp W (W.putObj l o')) (hps : ∀ x, (encs x).size = ps.size)
    (I : List α → World → Prop) (Ix : Code → List α → World → Prop) (hI : FarFrom w.heap.size I) (hIx : ∀ c, FarFrom w.heap.size (Ix c)) (h0 : I [] w) (a₁ : α → Act)
    (hassign : ∀ (l : Nat) (x : α) (W : World) (K : Act → World → Prop), K (a₁ x) W →
      assign.wpIn (F.inRound l) (n - 1 - 1) P (Exit.then K (fun _ _ _ => False)) { tmps := (ps.zip (encs x)).foldl (fun t (p, v) => t.setIfInBounds p v) a.tmps, defers := [] } W)
    (hbody : ∀ (l : Nat) (pre : List α) (x : α) (W : World), I pre W → pre.length < N → body.wpIn (F.inRound l) (n - 1 - 1) P (ownPostG w.heap.size Kp I Ix (pre ++ [x]) W) (a₁ x) W)
    (hdone : ∀ (D : Nat) (xs : List α) (W : World), w.heap.size ≤ D → S xs → I xs W → W.heap[D]? = some (.deferred (some [])) → Q .normal { a with defers := { target := .collected D, args := #[] } :: a.defers } W)
    (hstop : ∀ (D : Nat) (c : Code) (pre : List α) (W : World), w.heap.size ≤ D → Sp pre → Ix c pre W → W.heap[D]? = some (.deferred (some [])) → c.wpIn F n P Q { a with defers := { target := .collected D, args := #[] } :: a.defers } W) :
    (Code.rangeFunc g ps assign body).wpIn F n P Q a w := by
  refine wpIn_rangeFunc fun fn hfn => ?_
  rw [hro]
  obtain ⟨V, hV⟩ : ∃ V, (w.alloc (.deferred (some []))).alloc (.loop (recOf fn a.tmps ps assign body w.heap.size)) = V := ⟨_, rfl⟩
  have hsz : V.heap.size = w.heap.size + 2 := by rw [← hV]; simp
  have hbV : Below w.heap.size w V := by rw [← hV]; exact ((Below.refl _ _).alloc (Nat.le_refl _) _).alloc (by simp) _
  have hLV : LoopAt w.heap.size (recOf fn a.tmps ps assign body w.heap.size) V := by
    rw [← hV]
    have e := World.alloc_heap_new (w.alloc (.deferred (some []))) (.loop (recOf fn a.tmps ps assign body w.heap.size))
    rw [World.size_alloc] at e
    exact ⟨e, (Below.heap_alloc _ _ _ (by simp)).trans (World.alloc_heap_new w _)⟩
  refine ⟨w.heap.size + 1, [{ target := .collected w.heap.size, args := #[] }], V, { target := .fn (.func gf) lb, args := #[.func (.yield (w.heap.size + 1)) #[] #[]] }, V, gf, #[.func (.yield (w.heap.size + 1)) #[] #[]] ++ lb, V, ?_, ?_, ?_, ?_, fun _ => h1, ?_⟩
  · rw [← hV]
    exact run_enterLoop_outer _ _ _ _ _
  · simp only [resolve, hg]
    simp [go_sem]
  · intro f' hf'
    simp [Target.leads] at hf'
    subst hf'
    exact hFg
  · simp only [invoke, go_sem, eg]
  refine (hseq (w.heap.size + 1) (fun pre W => I pre W ∧ LoopAt w.heap.size (recOf fn a.tmps ps assign body w.heap.size) W) (fun pre W => ∃ c, Ix c pre W ∧ LoopAt w.heap.size { recOf fn a.tmps ps assign body w.heap.size with state := .done, pending := some c } W) V hbV ?_ ?_ ?_ ⟨hI _ _ _ h0 hbV, hLV⟩).mono ?_
  · rintro s X Y ⟨hi, hl⟩ hb
    exact ⟨hI _ _ _ hi (hb.mono (by omega)), hl.below hb (by omega)⟩
  · rintro s X Y ⟨c, hi, hl⟩ hb
    exact ⟨c, hIx c _ _ _ hi (hb.mono (by omega)), hl.below hb (by omega)⟩
  · rintro pre x W ⟨hi, hl⟩ hlen
    have hy := run_yield (P := P) (args := encs x) hl.row (hps x)
    refine ⟨fn, _, assign, body, hy, roundIn_of_wpIn hfn ?_⟩
    refine hassign _ x W _ ⟨_, run_beginRound hl.row rfl, ?_⟩
    refine wpIn_mono (hbody _ pre x _ (hI.put (by omega) hi _) hlen) fun e a3 W3 h3 => ?_
    exact round_far (Kp := Kp) (recOf fn a.tmps ps assign body w.heap.size) rfl rfl (fun h k => hKt h k) (fun W o o' => hKb W (w.heap.size + 1) o o' (by omega)) hI hIx (pre ++ [x]) W W3 hl e a3 h3
  · rintro e W2 ⟨⟨v, rfl⟩, ⟨xs, hS, hi, hl⟩ | ⟨pre, hSp, c, hi, hl⟩⟩
    · refine ⟨none, _, run_endLoop hl.row (by simp), ?_⟩
      exact hdone _ xs _ (Nat.le_refl _) hS (hI.put (by omega) hi _) ((World.putObj_heap_other (by omega)).trans hl.calls)
    · refine ⟨some c, _, run_endLoop hl.row (by simp), ?_⟩
      exact hstop _ c pre _ (Nat.le_refl _) hSp ((hIx c).put (by omega) hi _) ((World.putObj_heap_other (by omega)).trans hl.calls)
end
end Go.Proofs.Ytdhjdkhhhdcjdaa
end
/- A range over a closure that asks for rounds 0, 1, .. N - 1, in order, and may lay blocks of its own: the loop's variable may be a box, the rounds may write what was laid before the loop. Conditions: those that each theorem names. -/
section
namespace Go.Proofs.Ytdhjdkhhhdcjdaa
open Go.RowKit Go.Shelf

/-- how a round's body ends: it goes on, or it leaves -/
def ownPostK (D : Nat) (Kp : World → World → Prop) (I : Nat → World → Prop) (Ix : Code → Nat → World → Prop) (k : Nat) (W : World) : Exit → Act → World → Prop
  | .normal, _, W' => KeepsFrom D W W' ∧ Kp W W' ∧ I (k + 1) W'
  | .ret, _, W' => KeepsFrom D W W' ∧ Ix .ret k W'
  | .exit id, _, W' => KeepsFrom D W W' ∧ Ix (.exit id) k W'
  | .goto t, _, W' => KeepsFrom D W W' ∧ Ix (.goto t) k W'
  | .panic _, _, _ => False
  | .outgrown, _, _ => False

/-- what an iterator does that asks for N rounds, by their numbers -/
def SeqNum (F : Fence) (n : Nat) (P : Program) (gf : Nat) (lb : Array Value) (encs : Nat → Array Value) (Kp : World → World → Prop) (N : Nat) (w : World) : Prop :=
  ∀ (l : Nat) (J Jx : Nat → World → Prop) (W : World), Below w.heap.size w W → FarFrom W.heap.size J → FarFrom W.heap.size Jx →
    (∀ k V, k < N → J k V → W.heap.size ≤ V.heap.size → YieldAt F (n - 1) P l (encs k) V fun e V' => (e = .returned (.bool true) ∧ J (k + 1) V' ∧ Kp V V' ∧ W.heap.size ≤ V'.heap.size) ∨ (e = .returned (.bool false) ∧ Jx k V')) →
    J 0 W → CallsIn F n P gf (#[.func (.yield l) #[] #[]] ++ lb) W fun e W' => (∃ v, e = .returned v) ∧ (J N W' ∨ ∃ k, k < N ∧ Jx k W')

section
variable {F : Fence} {n : Nat} {P : Program}

theorem roundPost_more {l : Nat} {R R' : Ending → World → Prop} (hR : ∀ e w, R e w → R' e w) {e : Exit} {a : Act} {w : World} (h : roundPost P l R e a w) : roundPost P l R' e a w := by
  cases e with
  | normal => obtain ⟨v, w', h1, h2⟩ := h; exact ⟨v, w', h1, hR _ _ h2⟩
  | ret => obtain ⟨v, w', h1, h2⟩ := h; exact ⟨v, w', h1, hR _ _ h2⟩
  | exit id => obtain ⟨v, w', h1, h2⟩ := h; exact ⟨v, w', h1, hR _ _ h2⟩
  | goto t => obtain ⟨v, w', h1, h2⟩ := h; exact ⟨v, w', h1, hR _ _ h2⟩
  | panic ch => exact h.elim
  | outgrown => exact h.elim

theorem round_num {D k : Nat} {Kp : World → World → Prop} {I : Nat → World → Prop} {Ix : Code → Nat → World → Prop} (r : Loop) (hps : r.pending = none) (hst : r.state = .ready)
    (hI : FarFrom D I) (hIx : ∀ c, FarFrom D (Ix c)) (hKt : ∀ {A B C : World}, Kp A B → Kp B C → Kp A C) (hKb : ∀ X Y : World, D ≤ X.heap.size → Below D X Y → Kp X Y) (W W3 : World) (hl : LoopAt D r W) (e : Exit) (a3 : Act)
    (h : ownPostK D Kp I Ix k (W.putObj (D + 1) (.loop { r with state := .busy })) e a3 W3) :
    roundPost P (D + 1) (fun e' V' => (e' = .returned (.bool true) ∧ (I (k + 1) V' ∧ LoopAt D r V') ∧ Kp W V') ∨ (e' = .returned (.bool false) ∧ ∃ c, Ix c k V' ∧ LoopAt D { r with state := .done, pending := some c } V')) e a3 W3 := by
  have go : ∀ jump, LoopAt D { r with state := .busy } W3 → (Instr.endRound (D + 1) jump).run P W3 = .ok (.bool jump.isNone) (W3.putObj (D + 1) (.loop { r with state := if jump.isNone then .ready else .done, pending := jump })) := fun jump h3 => run_endRound (r := { r with state := .busy }) jump h3.row
  have l2 := hl.put { r with state := .busy }
  have leave : ∀ c, KeepsFrom D (W.putObj (D + 1) (.loop { r with state := .busy })) W3 → Ix c k W3 → ∃ v w4, (Instr.endRound (D + 1) (some c)).run P W3 = .ok v w4 ∧
      ((Ending.returned v = .returned (.bool true) ∧ (I (k + 1) w4 ∧ LoopAt D r w4) ∧ Kp W w4) ∨ (Ending.returned v = .returned (.bool false) ∧ ∃ c, Ix c k w4 ∧ LoopAt D { r with state := .done, pending := some c } w4)) := fun c hk hx =>
    ⟨_, _, go (some c) (l2.kept hk), .inr ⟨rfl, c, (hIx c).put (by omega) hx _, (l2.kept hk).put _⟩⟩
  cases e with
  | normal =>
    obtain ⟨hk, hs, hi⟩ := h
    have hlt := hl.lt
    have hlt3 := (l2.kept hk).lt
    refine ⟨_, _, go none (l2.kept hk), .inl ⟨rfl, ⟨hI.put (by omega) hi _, ?_⟩, ?_⟩⟩
    · have h4 := (l2.kept hk).put { r with state := .ready, pending := none }
      have hr : { r with state := LoopState.ready, pending := none } = r := by
        cases r
        simp_all
      rw [hr] at h4
      exact (by simpa [hr] using h4)
    · exact hKt (hKt (hKb _ _ (by omega) (below_put (by omega) _ _)) hs) (hKb _ _ (by omega) (below_put (by omega) _ _))
  | ret => exact leave _ h.1 h.2
  | exit id => exact leave _ h.1 h.2
  | goto t => exact leave _ h.1 h.2
  | panic ch => exact h.elim
  | outgrown => exact h.elim

/-- the statement 'for .. := range g' -/
theorem wpIn_rangeNum {g : Operand} {ps : Array Tmp} {assign body : Code} {Q : Exit → Act → World → Prop} {a : Act} {w : World} (hro : F.round = none) (h1 : 1 ≤ n) {gf : Nat} {lb : Array Value}
    (hg : a.eval g = .func (.func gf) #[] lb) (hFg : F.fn gf) (eg : ∀ args w, (callFunc gf args).run P w = .ok (.enter gf args) w) {encs : Nat → Array Value} {Kp : World → World → Prop} {N : Nat}
    (hseq : SeqNum F (n - 1) P gf lb encs Kp N w) (hps : ∀ x, (encs x).size = ps.size) (hKt : ∀ {A B C : World}, Kp A B → Kp B C → Kp A C) (hKb : ∀ X Y : World, w.heap.size ≤ X.heap.size → Below w.heap.size X Y → Kp X Y)
    (I : Nat → World → Prop) (Ix : Code → Nat → World → Prop) (hI : FarFrom w.heap.size I) (hIx : ∀ c, FarFrom w.heap.size (Ix c)) (h0 : I 0 w) (a₁ : Nat → Nat → Act)
    (Bx : Nat → Nat → World → Prop) (hBx : ∀ k y X Y, Bx k y X → Foot (· = w.heap.size + 1) X Y → Bx k y Y)
    (hassign : ∀ (l : Nat) (x : Nat) (W : World) (K : Act → World → Prop), x < N → w.heap.size + 2 ≤ W.heap.size → (∀ y W', Bx x y W' → Below W.heap.size W W' → K (a₁ x y) W') →
      assign.wpIn (F.inRound l) (n - 1 - 1) P (Exit.then K (fun _ _ _ => False)) { tmps := (ps.zip (encs x)).foldl (fun t (p, v) => t.setIfInBounds p v) a.tmps, defers := [] } W)
    (hbody : ∀ (l k y : Nat) (W : World), k < N → w.heap.size + 2 ≤ W.heap.size → Bx k y W → I k W → body.wpIn (F.inRound l) (n - 1 - 1) P (ownPostK w.heap.size Kp I Ix k W) (a₁ k y) W)
    (hdone : ∀ (D : Nat) (W : World), w.heap.size ≤ D → I N W → W.heap[D]? = some (.deferred (some [])) → Q .normal { a with defers := { target := .collected D, args := #[] } :: a.defers } W)
    (hstop : ∀ (D : Nat) (c : Code) (k : Nat) (W : World), w.heap.size ≤ D → k < N → Ix c k W → W.heap[D]? = some (.deferred (some [])) → c.wpIn F n P Q { a with defers := { target := .collected D, args := #[] } :: a.defers } W) :
    (Code.rangeFunc g ps assign body).wpIn F n P Q a w := by
  refine wpIn_rangeFunc fun fn hfn => ?_
  rw [hro]
  obtain ⟨V, hV⟩ : ∃ V, (w.alloc (.deferred (some []))).alloc (.loop (recOf fn a.tmps ps assign body w.heap.size)) = V := ⟨_, rfl⟩
  have hsz : V.heap.size = w.heap.size + 2 := by rw [← hV]; simp
  have hbV : Below w.heap.size w V := by rw [← hV]; exact ((Below.refl _ _).alloc (Nat.le_refl _) _).alloc (by simp) _
  have hLV : LoopAt w.heap.size (recOf fn a.tmps ps assign body w.heap.size) V := by
    rw [← hV]
    have e := World.alloc_heap_new (w.alloc (.deferred (some []))) (.loop (recOf fn a.tmps ps assign body w.heap.size))
    rw [World.size_alloc] at e
    exact ⟨e, (Below.heap_alloc _ _ _ (by simp)).trans (World.alloc_heap_new w _)⟩
  refine ⟨w.heap.size + 1, [{ target := .collected w.heap.size, args := #[] }], V, { target := .fn (.func gf) lb, args := #[.func (.yield (w.heap.size + 1)) #[] #[]] }, V, gf, #[.func (.yield (w.heap.size + 1)) #[] #[]] ++ lb, V, ?_, ?_, ?_, ?_, fun _ => h1, ?_⟩
  · rw [← hV]
    exact run_enterLoop_outer _ _ _ _ _
  · simp only [resolve, hg]
    simp [go_sem]
  · intro f' hf'
    simp [Target.leads] at hf'
    subst hf'
    exact hFg
  · simp only [invoke, go_sem, eg]
  refine (hseq (w.heap.size + 1) (fun k W => I k W ∧ LoopAt w.heap.size (recOf fn a.tmps ps assign body w.heap.size) W) (fun k W => ∃ c, Ix c k W ∧ LoopAt w.heap.size { recOf fn a.tmps ps assign body w.heap.size with state := .done, pending := some c } W) V hbV ?_ ?_ ?_ ⟨hI _ _ _ h0 hbV, hLV⟩).mono ?_
  · rintro s X Y ⟨hi, hl⟩ hb
    exact ⟨hI _ _ _ hi (hb.mono (by omega)), hl.below hb (by omega)⟩
  · rintro s X Y ⟨c, hi, hl⟩ hb
    exact ⟨c, hIx c _ _ _ hi (hb.mono (by omega)), hl.below hb (by omega)⟩
  · rintro k W hk ⟨hi, hl⟩ hWs
    have hy := run_yield (P := P) (args := encs k) hl.row (hps k)
    refine ⟨fn, _, assign, body, hy, roundIn_of_wpIn hfn ?_⟩
    refine hassign _ k W _ hk hl.lt (fun y W1 hy1 hB1 => ?_)
    have hlt := hl.lt
    have hB0 : Below w.heap.size W W1 := hB1.mono (by omega)
    have hi1 := hI _ _ _ hi hB0
    have hl1 := hl.below hB1 hl.lt
    have hlt1 := hl1.lt
    refine ⟨_, run_beginRound hl1.row rfl, ?_⟩
    refine wpIn_mono (hbody _ k y _ hk (by simp; omega) (hBx _ _ _ _ hy1 ⟨rfl, rfl, rfl, by simp, fun _ _ hk => World.putObj_heap_other (by omega)⟩) (hI.put (by omega) hi1 _)) fun e a3 W3 h3 => ?_
    have h4 := round_num (P := P) (Kp := Kp) (recOf fn a.tmps ps assign body w.heap.size) rfl rfl hI hIx (fun h k => hKt h k) hKb W1 W3 hl1 e a3 h3
    have hmono : ∀ (e' : Ending) (V' : World), ((e' = .returned (.bool true) ∧ (I (k + 1) V' ∧ LoopAt w.heap.size (recOf fn a.tmps ps assign body w.heap.size) V') ∧ Kp W1 V') ∨ (e' = .returned (.bool false) ∧ ∃ c, Ix c k V' ∧ LoopAt w.heap.size { recOf fn a.tmps ps assign body w.heap.size with state := .done, pending := some c } V')) →
        ((e' = .returned (.bool true) ∧ (I (k + 1) V' ∧ LoopAt w.heap.size (recOf fn a.tmps ps assign body w.heap.size) V') ∧ Kp W V' ∧ V.heap.size ≤ V'.heap.size) ∨ (e' = .returned (.bool false) ∧ ∃ c, Ix c k V' ∧ LoopAt w.heap.size { recOf fn a.tmps ps assign body w.heap.size with state := .done, pending := some c } V')) := by
      rintro e' V' (⟨h1, h2, h3⟩ | h)
      · exact .inl ⟨h1, h2, hKt (hKb _ _ (by omega) hB0) h3, by have := h2.2.lt; omega⟩
      · exact .inr h
    exact roundPost_more hmono h4
  · rintro e W2 ⟨⟨v, rfl⟩, ⟨hi, hl⟩ | ⟨k, hk, c, hi, hl⟩⟩
    · refine ⟨none, _, run_endLoop hl.row (by simp), ?_⟩
      exact hdone _ _ (Nat.le_refl _) (hI.put (by omega) hi _) ((World.putObj_heap_other (by omega)).trans hl.calls)
    · refine ⟨some c, _, run_endLoop hl.row (by simp), ?_⟩
      exact hstop _ c k _ (Nat.le_refl _) hk ((hIx c).put (by omega) hi _) ((World.putObj_heap_other (by omega)).trans hl.calls)
end
end Go.Proofs.Ytdhjdkhhhdcjdaa
end
/- A range over a closure that asks for rounds 0, 1, .. N - 1, in order, and only lays blocks between them: what the rounds speak of may lie behind the loop's own blocks. Conditions: those that each theorem names. -/
section
namespace Go.Proofs.Ytdhjdkhhhdcjdaa
open Go.RowKit Go.Shelf

/-- what new blocks leave -/
def Grows (J : Nat → World → Prop) : Prop := ∀ k X Y, J k X → Below X.heap.size X Y → J k Y
/-- what an iterator does that asks for N rounds, by their numbers -/
def SeqGrow (F : Fence) (n : Nat) (P : Program) (gf : Nat) (lb : Array Value) (encs : Nat → Array Value) (Kp : World → World → Prop) (N : Nat) (w : World) : Prop :=
  ∀ (l : Nat) (J Jx : Nat → World → Prop) (W : World), Below w.heap.size w W → Grows J → Grows Jx →
    (∀ k V, k < N → J k V → W.heap.size ≤ V.heap.size → YieldAt F (n - 1) P l (encs k) V fun e V' => (e = .returned (.bool true) ∧ J (k + 1) V' ∧ Kp V V' ∧ W.heap.size ≤ V'.heap.size) ∨ (e = .returned (.bool false) ∧ Jx k V')) →
    J 0 W → CallsIn F n P gf (#[.func (.yield l) #[] #[]] ++ lb) W fun e W' => (∃ v, e = .returned v) ∧ (J N W' ∨ ∃ k, k < N ∧ Jx k W')

section
variable {F : Fence} {n : Nat} {P : Program}

theorem foot_putG (X : World) (l : Nat) (o : Obj) : Foot (· = l) X (X.putObj l o) := ⟨rfl, rfl, rfl, by simp, fun _ _ hk => World.putObj_heap_other (by omega)⟩
theorem round_grow {D k : Nat} {Kp : World → World → Prop} {I : Nat → World → Prop} {Ix : Code → Nat → World → Prop} (r : Loop) (hps : r.pending = none) (hst : r.state = .ready)
    (hI : ∀ k X Y, I k X → Foot (· = D + 1) X Y → I k Y) (hIx : ∀ c k X Y, Ix c k X → Foot (· = D + 1) X Y → Ix c k Y) (hKt : ∀ {A B C : World}, Kp A B → Kp B C → Kp A C) (hKb : ∀ X Y : World, D ≤ X.heap.size → Below D X Y → Kp X Y) (W W3 : World) (hl : LoopAt D r W) (e : Exit) (a3 : Act)
    (h : ownPostK D Kp I Ix k (W.putObj (D + 1) (.loop { r with state := .busy })) e a3 W3) :
    roundPost P (D + 1) (fun e' V' => (e' = .returned (.bool true) ∧ (I (k + 1) V' ∧ LoopAt D r V') ∧ Kp W V') ∨ (e' = .returned (.bool false) ∧ ∃ c, Ix c k V' ∧ LoopAt D { r with state := .done, pending := some c } V')) e a3 W3 := by
  have go : ∀ jump, LoopAt D { r with state := .busy } W3 → (Instr.endRound (D + 1) jump).run P W3 = .ok (.bool jump.isNone) (W3.putObj (D + 1) (.loop { r with state := if jump.isNone then .ready else .done, pending := jump })) := fun jump h3 => run_endRound (r := { r with state := .busy }) jump h3.row
  have l2 := hl.put { r with state := .busy }
  have leave : ∀ c, KeepsFrom D (W.putObj (D + 1) (.loop { r with state := .busy })) W3 → Ix c k W3 → ∃ v w4, (Instr.endRound (D + 1) (some c)).run P W3 = .ok v w4 ∧
      ((Ending.returned v = .returned (.bool true) ∧ (I (k + 1) w4 ∧ LoopAt D r w4) ∧ Kp W w4) ∨ (Ending.returned v = .returned (.bool false) ∧ ∃ c, Ix c k w4 ∧ LoopAt D { r with state := .done, pending := some c } w4)) := fun c hk hx =>
    ⟨_, _, go (some c) (l2.kept hk), .inr ⟨rfl, c, hIx c _ _ _ hx (foot_putG _ _ _), (l2.kept hk).put _⟩⟩
  cases e with
  | normal =>
    obtain ⟨hk, hs, hi⟩ := h
    have hlt := hl.lt
    have hlt3 := (l2.kept hk).lt
    refine ⟨_, _, go none (l2.kept hk), .inl ⟨rfl, ⟨hI _ _ _ hi (foot_putG _ _ _), ?_⟩, ?_⟩⟩
    · have h4 := (l2.kept hk).put { r with state := .ready, pending := none }
      have hr : { r with state := LoopState.ready, pending := none } = r := by
        cases r
        simp_all
      rw [hr] at h4
      exact (by simpa [hr] using h4)
    · exact hKt (hKt (hKb _ _ (by omega) (below_put (by omega) _ _)) hs) (hKb _ _ (by omega) (below_put (by omega) _ _))
  | ret => exact leave _ h.1 h.2
  | exit id => exact leave _ h.1 h.2
  | goto t => exact leave _ h.1 h.2
  | panic ch => exact h.elim
  | outgrown => exact h.elim

/-- the statement 'for .. := range g' -/
theorem wpIn_rangeGrow {g : Operand} {ps : Array Tmp} {assign body : Code} {Q : Exit → Act → World → Prop} {a : Act} {w : World} (hro : F.round = none) (h1 : 1 ≤ n) {gf : Nat} {lb : Array Value}
    (hg : a.eval g = .func (.func gf) #[] lb) (hFg : F.fn gf) (eg : ∀ args w, (callFunc gf args).run P w = .ok (.enter gf args) w) {encs : Nat → Array Value} {Kp : World → World → Prop} {N : Nat}
    (hseq : SeqGrow F (n - 1) P gf lb encs Kp N w) (hps : ∀ x, (encs x).size = ps.size) (hKt : ∀ {A B C : World}, Kp A B → Kp B C → Kp A C) (hKb : ∀ X Y : World, w.heap.size ≤ X.heap.size → Below w.heap.size X Y → Kp X Y)
    (I : Nat → World → Prop) (Ix : Code → Nat → World → Prop) (hI : Grows I) (hIp : ∀ k X Y, I k X → Foot (· = w.heap.size + 1) X Y → I k Y) (hIx : ∀ c, Grows (Ix c)) (hIxp : ∀ c k X Y, Ix c k X → Foot (· = w.heap.size + 1) X Y → Ix c k Y) (h0 : I 0 w) (a₁ : Nat → Nat → Act)
    (Bx : Nat → Nat → World → Prop) (hBx : ∀ k y X Y, Bx k y X → Foot (· = w.heap.size + 1) X Y → Bx k y Y)
    (hassign : ∀ (l : Nat) (x : Nat) (W : World) (K : Act → World → Prop), x < N → w.heap.size + 2 ≤ W.heap.size → (∀ y W', Bx x y W' → Below W.heap.size W W' → K (a₁ x y) W') →
      assign.wpIn (F.inRound l) (n - 1 - 1) P (Exit.then K (fun _ _ _ => False)) { tmps := (ps.zip (encs x)).foldl (fun t (p, v) => t.setIfInBounds p v) a.tmps, defers := [] } W)
    (hbody : ∀ (l k y : Nat) (W : World), k < N → w.heap.size + 2 ≤ W.heap.size → Bx k y W → I k W → body.wpIn (F.inRound l) (n - 1 - 1) P (ownPostK w.heap.size Kp I Ix k W) (a₁ k y) W)
    (hdone : ∀ (D : Nat) (W : World), w.heap.size ≤ D → I N W → W.heap[D]? = some (.deferred (some [])) → Q .normal { a with defers := { target := .collected D, args := #[] } :: a.defers } W)
    (hstop : ∀ (D : Nat) (c : Code) (k : Nat) (W : World), w.heap.size ≤ D → k < N → Ix c k W → W.heap[D]? = some (.deferred (some [])) → c.wpIn F n P Q { a with defers := { target := .collected D, args := #[] } :: a.defers } W) :
    (Code.rangeFunc g ps assign body).wpIn F n P Q a w := by
  refine wpIn_rangeFunc fun fn hfn => ?_
  rw [hro]
  obtain ⟨V, hV⟩ : ∃ V, (w.alloc (.deferred (some []))).alloc (.loop (recOf fn a.tmps ps assign body w.heap.size)) = V := ⟨_, rfl⟩
  have hsz : V.heap.size = w.heap.size + 2 := by rw [← hV]; simp
  have hbV : Below w.heap.size w V := by rw [← hV]; exact ((Below.refl _ _).alloc (Nat.le_refl _) _).alloc (by simp) _
  have hLV : LoopAt w.heap.size (recOf fn a.tmps ps assign body w.heap.size) V := by
    rw [← hV]
    have e := World.alloc_heap_new (w.alloc (.deferred (some []))) (.loop (recOf fn a.tmps ps assign body w.heap.size))
    rw [World.size_alloc] at e
    exact ⟨e, (Below.heap_alloc _ _ _ (by simp)).trans (World.alloc_heap_new w _)⟩
  refine ⟨w.heap.size + 1, [{ target := .collected w.heap.size, args := #[] }], V, { target := .fn (.func gf) lb, args := #[.func (.yield (w.heap.size + 1)) #[] #[]] }, V, gf, #[.func (.yield (w.heap.size + 1)) #[] #[]] ++ lb, V, ?_, ?_, ?_, ?_, fun _ => h1, ?_⟩
  · rw [← hV]
    exact run_enterLoop_outer _ _ _ _ _
  · simp only [resolve, hg]
    simp [go_sem]
  · intro f' hf'
    simp [Target.leads] at hf'
    subst hf'
    exact hFg
  · simp only [invoke, go_sem, eg]
  refine (hseq (w.heap.size + 1) (fun k W => I k W ∧ LoopAt w.heap.size (recOf fn a.tmps ps assign body w.heap.size) W) (fun k W => ∃ c, Ix c k W ∧ LoopAt w.heap.size { recOf fn a.tmps ps assign body w.heap.size with state := .done, pending := some c } W) V hbV ?_ ?_ ?_ ⟨hI _ _ _ h0 hbV, hLV⟩).mono ?_
  · rintro s X Y ⟨hi, hl⟩ hb
    exact ⟨hI _ _ _ hi hb, hl.below hb hl.lt⟩
  · rintro s X Y ⟨c, hi, hl⟩ hb
    exact ⟨c, hIx c _ _ _ hi hb, hl.below hb hl.lt⟩
  · rintro k W hk ⟨hi, hl⟩ hWs
    have hy := run_yield (P := P) (args := encs k) hl.row (hps k)
    refine ⟨fn, _, assign, body, hy, roundIn_of_wpIn hfn ?_⟩
    refine hassign _ k W _ hk hl.lt (fun y W1 hy1 hB1 => ?_)
    have hlt := hl.lt
    have hB0 : Below w.heap.size W W1 := hB1.mono (by omega)
    have hi1 := hI _ _ _ hi hB1
    have hl1 := hl.below hB1 hl.lt
    have hlt1 := hl1.lt
    refine ⟨_, run_beginRound hl1.row rfl, ?_⟩
    refine wpIn_mono (hbody _ k y _ hk (by simp; omega) (hBx _ _ _ _ hy1 ⟨rfl, rfl, rfl, by simp, fun _ _ hk => World.putObj_heap_other (by omega)⟩) (hIp _ _ _ hi1 (foot_putG _ _ _))) fun e a3 W3 h3 => ?_
    have h4 := round_grow (P := P) (Kp := Kp) (recOf fn a.tmps ps assign body w.heap.size) rfl rfl hIp hIxp (fun h k => hKt h k) hKb W1 W3 hl1 e a3 h3
    have hmono : ∀ (e' : Ending) (V' : World), ((e' = .returned (.bool true) ∧ (I (k + 1) V' ∧ LoopAt w.heap.size (recOf fn a.tmps ps assign body w.heap.size) V') ∧ Kp W1 V') ∨ (e' = .returned (.bool false) ∧ ∃ c, Ix c k V' ∧ LoopAt w.heap.size { recOf fn a.tmps ps assign body w.heap.size with state := .done, pending := some c } V')) →
        ((e' = .returned (.bool true) ∧ (I (k + 1) V' ∧ LoopAt w.heap.size (recOf fn a.tmps ps assign body w.heap.size) V') ∧ Kp W V' ∧ V.heap.size ≤ V'.heap.size) ∨ (e' = .returned (.bool false) ∧ ∃ c, Ix c k V' ∧ LoopAt w.heap.size { recOf fn a.tmps ps assign body w.heap.size with state := .done, pending := some c } V')) := by
      rintro e' V' (⟨h1, h2, h3⟩ | h)
      · exact .inl ⟨h1, h2, hKt (hKb _ _ (by omega) hB0) h3, by have := h2.2.lt; omega⟩
      · exact .inr h
    exact roundPost_more hmono h4
  · rintro e W2 ⟨⟨v, rfl⟩, ⟨hi, hl⟩ | ⟨k, hk, c, hi, hl⟩⟩
    · refine ⟨none, _, run_endLoop hl.row (by simp), ?_⟩
      exact hdone _ _ (Nat.le_refl _) (hIp _ _ _ hi (foot_putG _ _ _)) ((World.putObj_heap_other (by omega)).trans hl.calls)
    · refine ⟨some c, _, run_endLoop hl.row (by simp), ?_⟩
      exact hstop _ c k _ (Nat.le_refl _) hk (hIxp c _ _ _ hi (foot_putG _ _ _)) ((World.putObj_heap_other (by omega)).trans hl.calls)
end
end Go.Proofs.Ytdhjdkhhhdcjdaa
end
/- A range over a method's value that changes what it owns ahead of its rounds, and asks for those of its rounds 0, 1, .. N - 1 that are asked for, in order. Conditions: those that each theorem names. -/
section
namespace Go.Proofs.Ytdhjdkhhhdcjdaa
open Go.RowKit Go.Shelf

/-- what a relation keeps -/
def KeptBy (Rel : World → World → Prop) (J : Nat → World → Prop) : Prop := ∀ k X Y, J k X → Rel X Y → J k Y
/-- what an iterator does that changes what it owns, and then asks for rounds -/
def SeqRel (Rel : World → World → Prop) (ask : Nat → Prop) (F : Fence) (n : Nat) (P : Program) (gf : Nat) (ra : Array Value) (encs : Nat → Array Value) (N : Nat) (w : World) : Prop :=
  ∀ (l : Nat) (J Jx : Nat → World → Prop) (W : World), Below w.heap.size w W → l = w.heap.size + 1 → w.heap.size + 2 ≤ W.heap.size → KeptBy Rel J →
    (∀ k V, k < N → ¬ ask k → J k V → J (k + 1) V) →
    (∀ k V, k < N → ask k → J k V → W.heap.size ≤ V.heap.size → YieldAt F (n - 1) P l (encs k) V fun e V' => (e = .returned (.bool true) ∧ J (k + 1) V' ∧ Foot (· = l) V V') ∨ (e = .returned (.bool false) ∧ Jx k V')) →
    J 0 W → CallsIn F n P gf (ra ++ #[.func (.yield l) #[] #[]]) W fun e W' => (∃ v, e = .returned v) ∧ (J N W' ∨ ∃ k, k < N ∧ Jx k W')

section
variable {F : Fence} {n : Nat} {P : Program}
theorem LoopAt.foot {D : Nat} {r : Loop} {B : Nat → Prop} {W W' : World} (h : LoopAt D r W) (hf : Foot B W W') (h0 : ¬ B D) (h1 : ¬ B (D + 1)) : LoopAt D r W' := by
  have hlt := h.lt
  exact ⟨(hf.block (D + 1) (by omega) h1).trans h.row, (hf.block D (by omega) h0).trans h.calls⟩
theorem round_rel {D k : Nat} {I : Nat → World → Prop} {Ix : Code → Nat → World → Prop} (r : Loop) (hps : r.pending = none) (hst : r.state = .ready)
    (hI : ∀ k X Y, I k X → Foot (· = D + 1) X Y → I k Y) (hIx : ∀ c k X Y, Ix c k X → Foot (· = D + 1) X Y → Ix c k Y) (W W3 : World) (hl : LoopAt D r W) (e : Exit) (a3 : Act)
    (h : ownPostK D (Foot (· = D + 1)) I Ix k (W.putObj (D + 1) (.loop { r with state := .busy })) e a3 W3) :
    roundPost P (D + 1) (fun e' V' => (e' = .returned (.bool true) ∧ (I (k + 1) V' ∧ LoopAt D r V') ∧ Foot (· = D + 1) W V') ∨ (e' = .returned (.bool false) ∧ ∃ c, Ix c k V' ∧ LoopAt D { r with state := .done, pending := some c } V')) e a3 W3 := by
  have go : ∀ jump, LoopAt D { r with state := .busy } W3 → (Instr.endRound (D + 1) jump).run P W3 = .ok (.bool jump.isNone) (W3.putObj (D + 1) (.loop { r with state := if jump.isNone then .ready else .done, pending := jump })) := fun jump h3 => run_endRound (r := { r with state := .busy }) jump h3.row
  have l2 := hl.put { r with state := .busy }
  have leave : ∀ c, KeepsFrom D (W.putObj (D + 1) (.loop { r with state := .busy })) W3 → Ix c k W3 → ∃ v w4, (Instr.endRound (D + 1) (some c)).run P W3 = .ok v w4 ∧
      ((Ending.returned v = .returned (.bool true) ∧ (I (k + 1) w4 ∧ LoopAt D r w4) ∧ Foot (· = D + 1) W w4) ∨ (Ending.returned v = .returned (.bool false) ∧ ∃ c, Ix c k w4 ∧ LoopAt D { r with state := .done, pending := some c } w4)) := fun c hk hx =>
    ⟨_, _, go (some c) (l2.kept hk), .inr ⟨rfl, c, hIx c _ _ _ hx (foot_putG _ _ _), (l2.kept hk).put _⟩⟩
  cases e with
  | normal =>
    obtain ⟨hk, hs, hi⟩ := h
    refine ⟨_, _, go none (l2.kept hk), .inl ⟨rfl, ⟨hI _ _ _ hi (foot_putG _ _ _), ?_⟩, ?_⟩⟩
    · have h4 := (l2.kept hk).put { r with state := .ready, pending := none }
      have hr : { r with state := LoopState.ready, pending := none } = r := by
        cases r
        simp_all
      rw [hr] at h4
      exact (by simpa [hr] using h4)
    · exact ((foot_putG _ _ _).trans' hs).trans' (foot_putG _ _ _)
  | ret => exact leave _ h.1 h.2
  | exit id => exact leave _ h.1 h.2
  | goto t => exact leave _ h.1 h.2
  | panic ch => exact h.elim
  | outgrown => exact h.elim

/-- the statement 'for .. := range x.f' -/
theorem wpIn_rangeRel {g : Operand} {ps : Array Tmp} {assign body : Code} {Q : Exit → Act → World → Prop} {a : Act} {w : World} (hro : F.round = none) (h1 : 1 ≤ n) {gf : Nat} {ra : Array Value}
    (hg : a.eval g = .func (.func gf) ra #[]) (hFg : F.fn gf) (eg : ∀ args w, (callFunc gf args).run P w = .ok (.enter gf args) w) {encs : Nat → Array Value} {Rel : World → World → Prop} {ask : Nat → Prop} {N : Nat}
    (hseq : SeqRel Rel ask F (n - 1) P gf ra encs N w) (hps : ∀ x, (encs x).size = ps.size) {B : Nat → Prop} (hRf : ∀ X Y, Rel X Y → Foot B X Y) (hB : ∀ i, B i → i < w.heap.size) (hRb : ∀ X Y, Below X.heap.size X Y → Rel X Y)
    (I : Nat → World → Prop) (Ix : Code → Nat → World → Prop) (hI : KeptBy Rel I) (hIp : ∀ k X Y, I k X → Foot (· = w.heap.size + 1) X Y → I k Y) (hIxp : ∀ c k X Y, Ix c k X → Foot (· = w.heap.size + 1) X Y → Ix c k Y)
    (hskip : ∀ k V, k < N → ¬ ask k → I k V → I (k + 1) V) (h0 : I 0 w) (a₁ : Nat → Act)
    (hassign : ∀ (l : Nat) (x : Nat) (W : World) (K : Act → World → Prop), x < N → K (a₁ x) W →
      assign.wpIn (F.inRound l) (n - 1 - 1) P (Exit.then K (fun _ _ _ => False)) { tmps := (ps.zip (encs x)).foldl (fun t (p, v) => t.setIfInBounds p v) a.tmps, defers := [] } W)
    (hbody : ∀ (l k : Nat) (W : World), k < N → ask k → w.heap.size + 2 ≤ W.heap.size → I k W → body.wpIn (F.inRound l) (n - 1 - 1) P (ownPostK w.heap.size (Foot (· = w.heap.size + 1)) I Ix k W) (a₁ k) W)
    (hdone : ∀ (D : Nat) (W : World), D = w.heap.size → I N W → W.heap[D]? = some (.deferred (some [])) → Q .normal { a with defers := { target := .collected D, args := #[] } :: a.defers } W)
    (hstop : ∀ (D : Nat) (c : Code) (k : Nat) (W : World), D = w.heap.size → k < N → Ix c k W → W.heap[D]? = some (.deferred (some [])) → c.wpIn F n P Q { a with defers := { target := .collected D, args := #[] } :: a.defers } W) :
    (Code.rangeFunc g ps assign body).wpIn F n P Q a w := by
  refine wpIn_rangeFunc fun fn hfn => ?_
  rw [hro]
  obtain ⟨V, hV⟩ : ∃ V, (w.alloc (.deferred (some []))).alloc (.loop (recOf fn a.tmps ps assign body w.heap.size)) = V := ⟨_, rfl⟩
  have hsz : V.heap.size = w.heap.size + 2 := by rw [← hV]; simp
  have hbV : Below w.heap.size w V := by rw [← hV]; exact ((Below.refl _ _).alloc (Nat.le_refl _) _).alloc (by simp) _
  have hLV : LoopAt w.heap.size (recOf fn a.tmps ps assign body w.heap.size) V := by
    rw [← hV]
    have e := World.alloc_heap_new (w.alloc (.deferred (some []))) (.loop (recOf fn a.tmps ps assign body w.heap.size))
    rw [World.size_alloc] at e
    exact ⟨e, (Below.heap_alloc _ _ _ (by simp)).trans (World.alloc_heap_new w _)⟩
  refine ⟨w.heap.size + 1, [{ target := .collected w.heap.size, args := #[] }], V, { target := .fn (.func gf) #[], args := ra ++ #[.func (.yield (w.heap.size + 1)) #[] #[]] }, V, gf, ra ++ #[.func (.yield (w.heap.size + 1)) #[] #[]], V, ?_, ?_, ?_, ?_, fun _ => h1, ?_⟩
  · rw [← hV]
    exact run_enterLoop_outer _ _ _ _ _
  · simp only [resolve, hg]
    simp [go_sem]
  · intro f' hf'
    simp [Target.leads] at hf'
    subst hf'
    exact hFg
  · simp only [invoke, go_sem, eg]
    simp
  refine (hseq (w.heap.size + 1) (fun k W => I k W ∧ LoopAt w.heap.size (recOf fn a.tmps ps assign body w.heap.size) W) (fun k W => ∃ c, Ix c k W ∧ LoopAt w.heap.size { recOf fn a.tmps ps assign body w.heap.size with state := .done, pending := some c } W) V hbV rfl (by omega) ?_ ?_ ?_ ⟨hI _ _ _ h0 (hRb _ _ hbV), hLV⟩).mono ?_
  · rintro s X Y ⟨hi, hl⟩ hr
    exact ⟨hI _ _ _ hi hr, hl.foot (hRf _ _ hr) (fun h => by have := hB _ h; omega) (fun h => by have := hB _ h; omega)⟩
  · rintro k W hk ha ⟨hi, hl⟩
    exact ⟨hskip k W hk ha hi, hl⟩
  · rintro k W hk ha ⟨hi, hl⟩ hWs
    have hy := run_yield (P := P) (args := encs k) hl.row (hps k)
    refine ⟨fn, _, assign, body, hy, roundIn_of_wpIn hfn ?_⟩
    refine hassign _ k W _ hk ?_
    have hlt := hl.lt
    refine ⟨_, run_beginRound hl.row rfl, ?_⟩
    refine wpIn_mono (hbody _ k _ hk ha (by simp; omega) (hIp _ _ _ hi (foot_putG _ _ _))) fun e a3 W3 h3 => ?_
    exact round_rel (P := P) (recOf fn a.tmps ps assign body w.heap.size) rfl rfl hIp hIxp W W3 hl e a3 h3
  · rintro e W2 ⟨⟨v, rfl⟩, ⟨hi, hl⟩ | ⟨k, hk, c, hi, hl⟩⟩
    · refine ⟨none, _, run_endLoop hl.row (by simp), ?_⟩
      exact hdone _ _ rfl (hIp _ _ _ hi (foot_putG _ _ _)) ((World.putObj_heap_other (by omega)).trans hl.calls)
    · refine ⟨some c, _, run_endLoop hl.row (by simp), ?_⟩
      exact hstop _ c k _ rfl hk (hIxp c _ _ _ hi (foot_putG _ _ _)) ((World.putObj_heap_other (by omega)).trans hl.calls)
end
end Go.Proofs.Ytdhjdkhhhdcjdaa
end
/- A range over a method's value whose iterator changes what it owns between its rounds, and whose rounds change what the caller holds. Conditions: those that each theorem names. -/
section
namespace Go.Proofs.Ytdhjdkhhhdcjdaa
open Go.RowKit Go.Shelf

/-- what an iterator does that changes what it owns between its rounds; a round may change the blocks U -/
def SeqRelU (U : Nat → Prop) (Rel : World → World → Prop) (F : Fence) (n : Nat) (P : Program) (gf : Nat) (ra : Array Value) (encs : Nat → Array Value) (N : Nat) (w : World) : Prop :=
  ∀ (l : Nat) (J Jx : Nat → World → Prop) (W : World), Below w.heap.size w W → l = w.heap.size + 1 → w.heap.size + 2 ≤ W.heap.size → KeptBy Rel J →
    (∀ k V, k < N → J k V → W.heap.size ≤ V.heap.size → YieldAt F (n - 1) P l (encs k) V fun e V' => (e = .returned (.bool true) ∧ J (k + 1) V' ∧ Foot (fun i => i = l ∨ U i) V V') ∨ (e = .returned (.bool false) ∧ Jx k V')) →
    J 0 W → CallsIn F n P gf (ra ++ #[.func (.yield l) #[] #[]]) W fun e W' => (∃ v, e = .returned v) ∧ (J N W' ∨ ∃ k, k < N ∧ Jx k W')

section
variable {F : Fence} {n : Nat} {P : Program}
theorem round_relU {U : Nat → Prop} {D k : Nat} {I : Nat → World → Prop} {Ix : Code → Nat → World → Prop} (r : Loop) (hps : r.pending = none) (hst : r.state = .ready)
    (hI : ∀ k X Y, I k X → Foot (· = D + 1) X Y → I k Y) (hIx : ∀ c k X Y, Ix c k X → Foot (· = D + 1) X Y → Ix c k Y) (W W3 : World) (hl : LoopAt D r W) (e : Exit) (a3 : Act)
    (h : ownPostK D (Foot (fun i => i = D + 1 ∨ U i)) I Ix k (W.putObj (D + 1) (.loop { r with state := .busy })) e a3 W3) :
    roundPost P (D + 1) (fun e' V' => (e' = .returned (.bool true) ∧ (I (k + 1) V' ∧ LoopAt D r V') ∧ Foot (fun i => i = D + 1 ∨ U i) W V') ∨ (e' = .returned (.bool false) ∧ ∃ c, Ix c k V' ∧ LoopAt D { r with state := .done, pending := some c } V')) e a3 W3 := by
  have go : ∀ jump, LoopAt D { r with state := .busy } W3 → (Instr.endRound (D + 1) jump).run P W3 = .ok (.bool jump.isNone) (W3.putObj (D + 1) (.loop { r with state := if jump.isNone then .ready else .done, pending := jump })) := fun jump h3 => run_endRound (r := { r with state := .busy }) jump h3.row
  have l2 := hl.put { r with state := .busy }
  have leave : ∀ c, KeepsFrom D (W.putObj (D + 1) (.loop { r with state := .busy })) W3 → Ix c k W3 → ∃ v w4, (Instr.endRound (D + 1) (some c)).run P W3 = .ok v w4 ∧
      ((Ending.returned v = .returned (.bool true) ∧ (I (k + 1) w4 ∧ LoopAt D r w4) ∧ Foot (fun i => i = D + 1 ∨ U i) W w4) ∨ (Ending.returned v = .returned (.bool false) ∧ ∃ c, Ix c k w4 ∧ LoopAt D { r with state := .done, pending := some c } w4)) := fun c hk hx =>
    ⟨_, _, go (some c) (l2.kept hk), .inr ⟨rfl, c, hIx c _ _ _ hx (foot_putG _ _ _), (l2.kept hk).put _⟩⟩
  cases e with
  | normal =>
    obtain ⟨hk, hs, hi⟩ := h
    refine ⟨_, _, go none (l2.kept hk), .inl ⟨rfl, ⟨hI _ _ _ hi (foot_putG _ _ _), ?_⟩, ?_⟩⟩
    · have h4 := (l2.kept hk).put { r with state := .ready, pending := none }
      have hr : { r with state := LoopState.ready, pending := none } = r := by
        cases r
        simp_all
      rw [hr] at h4
      exact (by simpa [hr] using h4)
    · exact (((foot_putG _ _ _).mono fun i _ e => .inl e).trans' hs).trans' ((foot_putG _ _ _).mono fun i _ e => .inl e)
  | ret => exact leave _ h.1 h.2
  | exit id => exact leave _ h.1 h.2
  | goto t => exact leave _ h.1 h.2
  | panic ch => exact h.elim
  | outgrown => exact h.elim

/-- the statement 'for .. := range x.f' -/
theorem wpIn_rangeRelU {g : Operand} {ps : Array Tmp} {assign body : Code} {Q : Exit → Act → World → Prop} {a : Act} {w : World} (hro : F.round = none) (h1 : 1 ≤ n) {gf : Nat} {ra : Array Value}
    (hg : a.eval g = .func (.func gf) ra #[]) (hFg : F.fn gf) (eg : ∀ args w, (callFunc gf args).run P w = .ok (.enter gf args) w) {encs : Nat → Array Value} {U : Nat → Prop} {Rel : World → World → Prop} {N : Nat}
    (hseq : SeqRelU U Rel F (n - 1) P gf ra encs N w) (hps : ∀ x, (encs x).size = ps.size) {B : Nat → Prop} (hRf : ∀ X Y, Rel X Y → Foot B X Y) (hB0 : ¬ B w.heap.size) (hB1 : ¬ B (w.heap.size + 1)) (hRb : ∀ X Y, Below X.heap.size X Y → Rel X Y)
    (I : Nat → World → Prop) (Ix : Code → Nat → World → Prop) (hI : KeptBy Rel I) (hIp : ∀ k X Y, I k X → Foot (· = w.heap.size + 1) X Y → I k Y) (hIxp : ∀ c k X Y, Ix c k X → Foot (· = w.heap.size + 1) X Y → Ix c k Y)
    (h0 : I 0 w) (a₁ : Nat → Nat → Act)
    (Bx : Nat → Nat → World → Prop) (hBx : ∀ k y X Y, Bx k y X → Foot (· = w.heap.size + 1) X Y → Bx k y Y)
    (hassign : ∀ (l : Nat) (x : Nat) (W : World) (K : Act → World → Prop), x < N → w.heap.size + 2 ≤ W.heap.size → (∀ y W', W.heap.size ≤ y → Bx x y W' → Below W.heap.size W W' → K (a₁ x y) W') →
      assign.wpIn (F.inRound l) (n - 1 - 1) P (Exit.then K (fun _ _ _ => False)) { tmps := (ps.zip (encs x)).foldl (fun t (p, v) => t.setIfInBounds p v) a.tmps, defers := [] } W)
    (hbody : ∀ (l k y : Nat) (W : World), k < N → w.heap.size + 2 ≤ W.heap.size → w.heap.size + 2 ≤ y → Bx k y W → I k W → body.wpIn (F.inRound l) (n - 1 - 1) P (ownPostK w.heap.size (Foot (fun i => i = w.heap.size + 1 ∨ U i)) I Ix k W) (a₁ k y) W)
    (hdone : ∀ (D : Nat) (W : World), D = w.heap.size → I N W → W.heap[D]? = some (.deferred (some [])) → Q .normal { a with defers := { target := .collected D, args := #[] } :: a.defers } W)
    (hstop : ∀ (D : Nat) (c : Code) (k : Nat) (W : World), D = w.heap.size → k < N → Ix c k W → W.heap[D]? = some (.deferred (some [])) → c.wpIn F n P Q { a with defers := { target := .collected D, args := #[] } :: a.defers } W) :
    (Code.rangeFunc g ps assign body).wpIn F n P Q a w := by
  refine wpIn_rangeFunc fun fn hfn => ?_
  rw [hro]
  obtain ⟨V, hV⟩ : ∃ V, (w.alloc (.deferred (some []))).alloc (.loop (recOf fn a.tmps ps assign body w.heap.size)) = V := ⟨_, rfl⟩
  have hsz : V.heap.size = w.heap.size + 2 := by rw [← hV]; simp
  have hbV : Below w.heap.size w V := by rw [← hV]; exact ((Below.refl _ _).alloc (Nat.le_refl _) _).alloc (by simp) _
  have hLV : LoopAt w.heap.size (recOf fn a.tmps ps assign body w.heap.size) V := by
    rw [← hV]
    have e := World.alloc_heap_new (w.alloc (.deferred (some []))) (.loop (recOf fn a.tmps ps assign body w.heap.size))
    rw [World.size_alloc] at e
    exact ⟨e, (Below.heap_alloc _ _ _ (by simp)).trans (World.alloc_heap_new w _)⟩
  refine ⟨w.heap.size + 1, [{ target := .collected w.heap.size, args := #[] }], V, { target := .fn (.func gf) #[], args := ra ++ #[.func (.yield (w.heap.size + 1)) #[] #[]] }, V, gf, ra ++ #[.func (.yield (w.heap.size + 1)) #[] #[]], V, ?_, ?_, ?_, ?_, fun _ => h1, ?_⟩
  · rw [← hV]
    exact run_enterLoop_outer _ _ _ _ _
  · simp only [resolve, hg]
    simp [go_sem]
  · intro f' hf'
    simp [Target.leads] at hf'
    subst hf'
    exact hFg
  · simp only [invoke, go_sem, eg]
    simp
  refine (hseq (w.heap.size + 1) (fun k W => I k W ∧ LoopAt w.heap.size (recOf fn a.tmps ps assign body w.heap.size) W) (fun k W => ∃ c, Ix c k W ∧ LoopAt w.heap.size { recOf fn a.tmps ps assign body w.heap.size with state := .done, pending := some c } W) V hbV rfl (by omega) ?_ ?_ ⟨hI _ _ _ h0 (hRb _ _ hbV), hLV⟩).mono ?_
  · rintro s X Y ⟨hi, hl⟩ hr
    exact ⟨hI _ _ _ hi hr, hl.foot (hRf _ _ hr) hB0 hB1⟩
  · rintro k W hk ⟨hi, hl⟩ hWs
    have hy := run_yield (P := P) (args := encs k) hl.row (hps k)
    refine ⟨fn, _, assign, body, hy, roundIn_of_wpIn hfn ?_⟩
    have hlt := hl.lt
    refine hassign _ k W _ hk hlt (fun y W1 hy0 hy1 hB1 => ?_)
    have hi1 := hI _ _ _ hi (hRb _ _ hB1)
    have hl1 := hl.below hB1 hl.lt
    have hlt1 := hl1.lt
    refine ⟨_, run_beginRound hl1.row rfl, ?_⟩
    refine wpIn_mono (hbody _ k y _ hk (by simp; omega) (by omega) (hBx _ _ _ _ hy1 (foot_putG _ _ _)) (hIp _ _ _ hi1 (foot_putG _ _ _))) fun e a3 W3 h3 => ?_
    have h4 := round_relU (P := P) (U := U) (recOf fn a.tmps ps assign body w.heap.size) rfl rfl hIp hIxp W1 W3 hl1 e a3 h3
    have hmono : ∀ (e' : Ending) (V' : World), ((e' = .returned (.bool true) ∧ (I (k + 1) V' ∧ LoopAt w.heap.size (recOf fn a.tmps ps assign body w.heap.size) V') ∧ Foot (fun i => i = w.heap.size + 1 ∨ U i) W1 V') ∨ (e' = .returned (.bool false) ∧ ∃ c, Ix c k V' ∧ LoopAt w.heap.size { recOf fn a.tmps ps assign body w.heap.size with state := .done, pending := some c } V')) →
        ((e' = .returned (.bool true) ∧ (I (k + 1) V' ∧ LoopAt w.heap.size (recOf fn a.tmps ps assign body w.heap.size) V') ∧ Foot (fun i => i = w.heap.size + 1 ∨ U i) W V') ∨ (e' = .returned (.bool false) ∧ ∃ c, Ix c k V' ∧ LoopAt w.heap.size { recOf fn a.tmps ps assign body w.heap.size with state := .done, pending := some c } V')) := by
      rintro e' V' (⟨h1, h2, h3⟩ | h)
      · exact .inl ⟨h1, h2, (Foot.of_below hB1).trans' h3⟩
      · exact .inr h
    exact roundPost_more hmono h4
  · rintro e W2 ⟨⟨v, rfl⟩, ⟨hi, hl⟩ | ⟨k, hk, c, hi, hl⟩⟩
    · refine ⟨none, _, run_endLoop hl.row (by simp), ?_⟩
      exact hdone _ _ rfl (hIp _ _ _ hi (foot_putG _ _ _)) ((World.putObj_heap_other (by omega)).trans hl.calls)
    · refine ⟨some c, _, run_endLoop hl.row (by simp), ?_⟩
      exact hstop _ c k _ rfl hk (hIxp c _ _ _ hi (foot_putG _ _ _)) ((World.putObj_heap_other (by omega)).trans hl.calls)
end
end Go.Proofs.Ytdhjdkhhhdcjdaa
end
