/-
  A region that draws its order, inside a fence: an operation that reads may be taken first where, until it has come up, the world gives what it reads. The condition on the world need be shown only until operation k has come up, for which all readers are waited. Conditions: those that each theorem names.
-/
import Derived.OrdersIn
import Derived.RegionIn
namespace Go.Proofs.Ytoofmklknffhpaa
open Go
section
variable {F : Fence} {n : Nat} {P : Program} {ops : Array Oper} {Q : Exit → Act → World → Prop} {md : Region.Mode} {R : World → Prop} {k : Nat}

/-- in both states the operation looks at the same -/
def SameLook (P : Program) (ops : Array Oper) (o : Oper) (a a' : Act) : Prop :=
  execOp a'.eval o = execOp a.eval o ∧ Region.wanted o (yielded ops a'.tmps) = Region.wanted o (yielded ops a.tmps) ∧ ∀ w, o.about P w a'.eval = o.about P w a.eval

theorem wpOpIn_look {j : Nat} {oi oj : Oper} {v : Value} (hro : F.round = none) (hj : ops[j]? = some oj) (hap : oi.apart ops oj = true)
    (hsi : ∀ cs b, oi.op ≠ .select cs b) (hsj : ∀ cs b, oj.op ≠ .select cs b) (hQ : ∀ c a w, Q (.panic c) (a.put oi.dst v) w → Q (.panic c) a w)
    {K : Act → World → Prop} {a : Act} {w : World} (h : wpOpIn F n P ops Q j K (a.put oi.dst v) w) :
    wpOpIn F n P ops Q j (fun a' w' => SameLook P ops oi a a' ∧ K (a'.put oi.dst v) w') a w := by
  obtain ⟨h1, h2, h3⟩ := Oper.apart_spec hap
  have keep : ∀ u, SameLook P ops oi a (a.put oj.dst u) := fun u => ⟨execOp_put oi hsi a oj.dst u h3, wanted_put oi a oj.dst u h3, fun w => about_put oi w a oj.dst u h3⟩
  have keepD : ∀ d u, SameLook P ops oi a ({ a with defers := d :: a.defers }.put oj.dst u) := fun d u =>
    ⟨(execOp_put oi hsi { a with defers := d :: a.defers } oj.dst u h3).trans rfl, (wanted_put oi { a with defers := d :: a.defers } oj.dst u h3).trans rfl, fun w => (about_put oi w { a with defers := d :: a.defers } oj.dst u h3).trans rfl⟩
  unfold wpOpIn at *
  simp only [hj] at *
  rw [wanted_put oj a oi.dst v h1, about_put oj w a oi.dst v h1] at h
  by_cases hw : Region.wanted oj (yielded ops a.tmps) = true
  · simp only [hw, if_true] at h ⊢
    unfold Oper.wpIn at *
    rw [about_put oj w a oi.dst v h1] at h
    refine ⟨h.1, ?_⟩
    have h := h.2
    rw [hro, Oper.semAt_none, execOp_put oj hsj a oi.dst v h1] at h
    rw [hro, Oper.semAt_none]
    generalize (execOp a.eval oj).run P w = r at *
    have fin : ∀ (e : Ending) (w'' : World), (match e, w'' with
        | .returned u, w'' => K ((a.put oi.dst v).put oj.dst u) w''
        | .panicked c, w'' => Q (.panic c) (a.put oi.dst v) w''
        | .outgrown, _ => LetsOut Q) → (match e, w'' with
        | .returned u, w'' => SameLook P ops oi a (a.put oj.dst u) ∧ K ((a.put oj.dst u).put oi.dst v) w''
        | .panicked c, w'' => Q (.panic c) a w''
        | .outgrown, _ => LetsOut Q) := fun e w'' he => by
      cases e with
      | returned u => exact ⟨keep u, by rw [← Act.put_comm a v u h2]; exact he⟩
      | panicked c => exact hQ _ _ _ he
      | outgrown => exact he
    cases r with
    | ok x w' =>
      cases x <;> simp only [Oper.uponIn] at h ⊢
      case value u => exact ⟨keep u, by rw [← Act.put_comm a v u h2]; exact h⟩
      case skip => exact ⟨keep _, by rw [← Act.put_comm a v undef h2]; exact h⟩
      case defer d => exact ⟨keepD d _, by rw [← Act.put_comm _ v undef h2, ← Act.put_defers]; exact h⟩
      case enter f args => exact ⟨h.1, h.2.mono fin⟩
      case row row args => exact ⟨h.1, RowsIn.mono h.2 fun u w'' he => ⟨keep u, by rw [← Act.put_comm a v u h2]; exact he⟩⟩
      case round l f tmps assign body => exact ⟨h.1, h.2.mono fin⟩
    | halt x w' =>
      cases x <;> simp only [Oper.uponIn] at h ⊢
      case panic u => exact hQ _ _ _ h
  · simp only [hw] at h ⊢
    exact ⟨h.1, keep _, by rw [← Act.put_comm a v undef h2]; exact h.2⟩

/-- what has come up has come up behind all that it waits for -/
def ClosedL (md : Region.Mode) (ops : Array Oper) (listed : Array Bool) : Prop :=
  ∀ j oj, ops[j]? = some oj → listed.getD j false = true → ∀ e ∈ oj.after, Region.binds md e = true → listed.getD e.on false = true
/-- k waits for i, in f steps at most -/
def reach (md : Region.Mode) (ops : Array Oper) : Nat → Nat → Nat → Bool
  | 0, _, _ => false
  | f + 1, k, i => match ops[k]? with
    | none => false
    | some o => o.after.any fun e => Region.binds md e && (e.on == i || reach md ops f e.on i)
theorem reach_listed {listed : Array Bool} (hc : ClosedL md ops listed) (i : Nat) : ∀ (f k : Nat), listed.getD k false = true → reach md ops f k i = true → listed.getD i false = true
  | 0, _, _, h => by cases h
  | f + 1, k, hk, h => by
    unfold reach at h
    split at h
    · cases h
    · rename_i o ho
      obtain ⟨e, he, hb⟩ := Array.any_eq_true'.1 h
      simp only [Bool.and_eq_true, Bool.or_eq_true, beq_iff_eq] at hb
      have h1 := hc k o ho hk e he hb.1
      rcases hb.2 with h2 | h2
      · rw [← h2]; exact h1
      · exact reach_listed hc i f e.on h1 h2
theorem getD_tf {listed : Array Bool} {i : Nat} (h : listed.getD i true = false) : listed.getD i false = false := by
  rcases Nat.lt_or_ge i listed.size with h' | h'
  · simp [h'] at h ⊢; exact h
  · simp [Array.getElem?_eq_none h'] at h
theorem getD_up {listed : Array Bool} {i j : Nat} (h : listed.getD i false = true) : (listed.setIfInBounds j true).getD i false = true := by
  rcases Nat.lt_or_ge i listed.size with h' | h'
  · simp [h'] at h ⊢
    by_cases hij : j = i
    · subst hij; simp
    · rw [Array.getElem_setIfInBounds_ne (by simpa using h') hij]; exact h
  · simp [Array.getElem?_eq_none h'] at h
theorem getD_back {listed : Array Bool} {i j : Nat} (hne : j ≠ i) (h : (listed.setIfInBounds j true).getD i false = true) : listed.getD i false = true := by
  rcases Nat.lt_or_ge i listed.size with h' | h'
  · simp [h'] at h ⊢
    rw [Array.getElem_setIfInBounds_ne (by simpa using h') hne] at h; exact h
  · rw [Array.getD_eq_getD_getElem?, Array.getElem?_eq_none (by simpa using h')] at h
    cases h
theorem ClosedL.set {listed : Array Bool} {i : Nat} (hc : ClosedL md ops listed) (hi : i ∈ Region.ready md ops listed) : ClosedL md ops (listed.setIfInBounds i true) := by
  intro j oj hj hl e he hb
  obtain ⟨_, oi, hoi, hall⟩ := mem_ready.1 hi
  by_cases hij : i = j
  · subst hij
    have : oj = oi := Option.some.inj (hj.symm.trans hoi)
    subst this
    exact getD_up (hall e he hb)
  · exact getD_up (hc j oj hj (getD_back hij hl) e he hb)
theorem closedL_none (m : Nat) : ClosedL md ops (Array.replicate m false) := by
  intro j oj _ hl
  rcases Nat.lt_or_ge j m with h | h
  · simp [h] at hl
  · simp [h] at hl

/-- whatever order is picked from here on; behind each operation R holds of the world, or k has come up -/
def wpAnyG (F : Fence) (n : Nat) (P : Program) (md : Region.Mode) (ops : Array Oper) (Q : Exit → Act → World → Prop) (R : World → Prop) (k : Nat) : Nat → Array Bool → Act → World → Prop
  | 0, listed, a, w => Region.ready md ops listed = [] ∧ Q .normal a w
  | fuel + 1, listed, a, w => (Region.ready md ops listed = [] → Q .normal a w) ∧
    ∀ i ∈ Region.ready md ops listed, wpOpIn F n P ops Q i (fun a' w' => ((listed.setIfInBounds i true).getD k false = true ∨ R w') ∧ wpAnyG F n P md ops Q R k fuel (listed.setIfInBounds i true) a' w') a w

theorem wpAnyIn_of_G : ∀ (fuel : Nat) (listed : Array Bool) (a : Act) (w : World), wpAnyG F n P md ops Q R k fuel listed a w → wpAnyIn F n P md ops Q fuel listed a w
  | 0, _, _, _, h => h
  | fuel + 1, _, _, _, h => ⟨h.1, fun i hi => wpOpIn_mono (fun a' w' h' => wpAnyIn_of_G fuel _ a' w' h'.2) (h.2 i hi)⟩

/-- where R holds, the operation leaves v and does nothing else -/
def YieldsG (P : Program) (ops : Array Oper) (R : World → Prop) (o : Oper) (v : Value) (a : Act) : Prop :=
  Region.wanted o (yielded ops a.tmps) = true ∧ (∀ w, R w → (execOp a.eval o).run P w = .ok (.value v) w) ∧ ∀ w, o.about P w a.eval = none

theorem YieldsG.same {o : Oper} {v : Value} {a a' : Act} (h : YieldsG P ops R o v a) (hl : SameLook P ops o a a') : YieldsG P ops R o v a' :=
  ⟨hl.2.1.trans h.1, fun w h1 => by rw [hl.1]; exact h.2.1 w h1, fun w => by rw [hl.2.2]; exact h.2.2 w⟩

theorem YieldsG.wpOpIn {i : Nat} {o : Oper} {v : Value} {a : Act} (hro : F.round = none) (hi : ops[i]? = some o) (hy : YieldsG P ops R o v a) {K : Act → World → Prop} {w : World}
    (hR : R w) (h : K (a.put o.dst v) w) : wpOpIn F n P ops Q i K a w := by
  unfold Go.wpOpIn
  simp only [hi]
  have hab : ∀ f, o.about P w a.eval = some f → F.fn f := fun f hf => by rw [hy.2.2 w] at hf; cases hf
  simp only [hy.1, if_true, Oper.wpIn, hro, Oper.semAt_none, hy.2.1 w hR, Oper.uponIn]
  exact ⟨hab, h⟩

theorem wpAnyG_first {i f : Nat} {oi : Oper} {v : Value} (hro : F.round = none) (hi : ops[i]? = some oi) (hsel : ∀ (j : Nat) (o : Oper) cs b, ops[j]? = some o → o.op ≠ .select cs b)
    (hQ : ∀ c a w, Q (.panic c) (a.put oi.dst v) w → Q (.panic c) a w) (hk : reach md ops f k i = true) (hik : i ≠ k) :
    ∀ (fuel : Nat) (listed : Array Bool) (a : Act) (w : World), ClosedL md ops listed →
      (∀ j oj, ops[j]? = some oj → j ≠ i → listed.getD j true = false → (∀ e ∈ oj.after, Region.binds md e = true → e.on ≠ i) → oi.apart ops oj = true) →
      i ∈ Region.ready md ops listed → YieldsG P ops R oi v a → R w →
      wpAnyG F n P md ops Q R k fuel (listed.setIfInBounds i true) (a.put oi.dst v) w → wpAnyG F n P md ops Q R k (fuel + 1) listed a w := by
  intro fuel
  induction fuel with
  | zero =>
    intro listed a w _ _ hr hy hS H
    refine ⟨fun h => (by rw [h] at hr; cases hr), fun j hj => ?_⟩
    by_cases hji : j = i
    · subst hji; exact hy.wpOpIn hro hi hS ⟨.inr hS, H⟩
    · have := ready_mono hj hji
      rw [H.1] at this
      cases this
  | succ fuel ih =>
    intro listed a w hc hfree hr hy hS H
    refine ⟨fun h => (by rw [h] at hr; cases hr), fun j hj => ?_⟩
    by_cases hji : j = i
    · subst hji; exact hy.wpOpIn hro hi hS ⟨.inr hS, H⟩
    · have h1 := H.2 j (ready_mono hj hji)
      obtain ⟨hjun, oj, hoj, hall⟩ := mem_ready.1 hj
      have hun := (mem_ready.1 hr).1
      have hnot : ∀ e ∈ oj.after, Region.binds md e = true → e.on ≠ i := fun e he hb heq => by
        have h1 := hall e he hb
        rw [heq, getD_tf hun] at h1
        cases h1
      have h2 := wpOpIn_look hro hoj (hfree j oj hoj hji hjun hnot) (fun cs b => hsel i oi cs b hi) (fun cs b => hsel j oj cs b hoj) hQ h1
      have hfree' : ∀ k ok, ops[k]? = some ok → k ≠ i → (listed.setIfInBounds j true).getD k true = false →
          (∀ e ∈ ok.after, Region.binds md e = true → e.on ≠ i) → oi.apart ops ok = true := fun k ok hk hki hun hno => by
        refine hfree k ok hk hki ?_ hno
        by_cases hjk : j = k
        · subst hjk; exact hjun
        · rw [getD_set_ne true hjk] at hun; exact hun
      have hcj := hc.set hj
      have hrj : i ∈ Region.ready md ops (listed.setIfInBounds j true) := ready_mono hr (Ne.symm hji)
      have hkj : (listed.setIfInBounds j true).getD k false = false := by
        rcases hb : (listed.setIfInBounds j true).getD k false with _ | _
        · rfl
        · have := reach_listed hcj i f k hb hk
          rw [getD_tf (mem_ready.1 hrj).1] at this
          cases this
      refine wpOpIn_mono (fun a' w' h3 => ?_) h2
      obtain ⟨hl, hS', hW⟩ := h3
      have hR' : R w' := by
        rcases hS' with h | h
        · rw [Array.setIfInBounds_comm _ _ (Ne.symm hji)] at h
          have := getD_back hik h
          rw [hkj] at this
          cases this
        · exact h
      rw [Array.setIfInBounds_comm _ _ (Ne.symm hji)] at hW
      exact ⟨.inr hR', ih (listed.setIfInBounds j true) a' w' hcj hfree' hrj (hy.same hl) hR' hW⟩

/-- the beginning -/
theorem wpIn_region_G {id : Nat} {a : Act} {w : World} (R : World → Prop) (k m : Nat) (hsz : ops.size = m) (hm : P.follows .mixedOrders = true)
    (h : ClosedL .any ops (Array.replicate m false) → wpAnyG F n P .any ops Q R k m (Array.replicate m false) a w.drew) : (Code.region id ops true).wpIn F n P Q a w := by
  subst hsz
  exact wpIn_region_any hm (wpAnyIn_of_G _ _ _ _ (h (closedL_none _)))

/-- take operation i first -/
theorem wpAnyG_take {i : Nat} (f : Nat) {oi : Oper} {v : Value} {fuel : Nat} {listed : Array Bool} {a : Act} {w : World} (hro : F.round = none) (hi : ops[i]? = some oi)
    (hs : Region.noSelect ops = true) (hf : Region.free md ops listed i = true) (hr : (Region.ready md ops listed).contains i = true)
    (hQ : ∀ c a w, Q (.panic c) (a.put oi.dst v) w → Q (.panic c) a w) (hk : reach md ops f k i = true) (hik : i ≠ k) (hc : ClosedL md ops listed)
    (hy : YieldsG P ops R oi v a) (hS : R w)
    (h : ClosedL md ops (listed.setIfInBounds i true) → wpAnyG F n P md ops Q R k fuel (listed.setIfInBounds i true) (a.put oi.dst v) w) : wpAnyG F n P md ops Q R k (fuel + 1) listed a w :=
  wpAnyG_first hro hi (Region.noSelect_spec hs) hQ hk hik fuel listed a w hc (Region.free_spec hi hf) (by simpa using hr) hy hS (h (hc.set (by simpa using hr)))

/-- one operation alone may come up -/
theorem wpAnyG_one {i : Nat} {oi : Oper} {fuel : Nat} {listed : Array Bool} {a : Act} {w : World} (hr : Region.ready md ops listed = [i]) (hi : ops[i]? = some oi)
    (h : ∀ K' : Act → World → Prop, (∀ a' w', ((listed.setIfInBounds i true).getD k false = true ∨ R w') → wpAnyG F n P md ops Q R k fuel (listed.setIfInBounds i true) a' w' → K' a' w') →
      if Region.wanted oi (yielded ops a.tmps) = true then Oper.wpIn F n P oi a w K' Q else (∀ f, oi.about P w a.eval = some f → F.fn f) ∧ K' (a.put oi.dst undef) w) : wpAnyG F n P md ops Q R k (fuel + 1) listed a w := by
  refine ⟨fun h0 => (by rw [hr] at h0; cases h0), fun j hj => ?_⟩
  rw [hr] at hj
  obtain rfl : j = i := by simpa using hj
  exact wpOpIn_step hi (fun K' hK => h K' (fun a' w' h1 h2 => hK _ _ ⟨h1, h2⟩))
/-- two operations may come up -/
theorem wpAnyG_two {i j : Nat} {oi oj : Oper} {fuel : Nat} {listed : Array Bool} {a : Act} {w : World} (hr : Region.ready md ops listed = [i, j]) (hi : ops[i]? = some oi) (hj : ops[j]? = some oj)
    (h : ∀ K' : Act → World → Prop, (∀ a' w', ((listed.setIfInBounds i true).getD k false = true ∨ R w') → wpAnyG F n P md ops Q R k fuel (listed.setIfInBounds i true) a' w' → K' a' w') →
      if Region.wanted oi (yielded ops a.tmps) = true then Oper.wpIn F n P oi a w K' Q else (∀ f, oi.about P w a.eval = some f → F.fn f) ∧ K' (a.put oi.dst undef) w)
    (h' : ∀ K' : Act → World → Prop, (∀ a' w', ((listed.setIfInBounds j true).getD k false = true ∨ R w') → wpAnyG F n P md ops Q R k fuel (listed.setIfInBounds j true) a' w' → K' a' w') →
      if Region.wanted oj (yielded ops a.tmps) = true then Oper.wpIn F n P oj a w K' Q else (∀ f, oj.about P w a.eval = some f → F.fn f) ∧ K' (a.put oj.dst undef) w) : wpAnyG F n P md ops Q R k (fuel + 1) listed a w := by
  refine ⟨fun h0 => (by rw [hr] at h0; cases h0), fun m hm => ?_⟩
  rw [hr] at hm
  have hm' : m = i ∨ m = j := by simpa using hm
  rcases hm' with rfl | rfl
  · exact wpOpIn_step hi (fun K' hK => h K' (fun a' w' h1 h2 => hK _ _ ⟨h1, h2⟩))
  · exact wpOpIn_step hj (fun K' hK => h' K' (fun a' w' h1 h2 => hK _ _ ⟨h1, h2⟩))
theorem wpAnyG_done {listed : Array Bool} {a : Act} {w : World} (hr : Region.ready md ops listed = []) (h : Q .normal a w) : ∀ fuel, wpAnyG F n P md ops Q R k fuel listed a w
  | 0 => ⟨hr, h⟩
  | _ + 1 => ⟨fun _ => h, by rw [hr]; simp⟩
end
end Go.Proofs.Ytoofmklknffhpaa
