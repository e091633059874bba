/-
  A region that draws its order, over boxes that one fact holds: it begins. Conditions: those that each theorem names.
-/
import Derived.Test.YtoofmklknffhpaaMem
import Derived.Test.YtoofmklknffhpaaOrdH
namespace Go.Proofs.Ytoofmklknffhpaa
open Go Go.RowKit
section
variable {F : Fence} {n : Nat} {P : Program} {md : Region.Mode} {ops : Array Oper} {Q : Exit → Act → World → Prop} {R : World → Prop} {k : Nat}
theorem wpAnyR_first {i : Nat} {oi : Oper} {v : Value} (hro : F.round = none) (hi : ops[i]? = some oi) (hsel : ∀ (j : Nat) (o : Oper) cs b, ops[j]? = some o → o.op ≠ .select cs b)
    (hQ : ∀ c a w, Q (.panic c) (a.put oi.dst v) w → Q (.panic c) a w) :
    ∀ (fuel : Nat) (listed : Array Bool) (a : Act) (w : World), listed.size ≤ k →
      (∀ j oj, ops[j]? = some oj → j ≠ i → listed.getD j true = false → (∀ e ∈ oj.after, Region.binds md e = true → e.on ≠ i) → oi.apart ops oj = true) →
      i ∈ Region.ready md ops listed → YieldsG P ops R oi v a → R w →
      wpAnyG F n P md ops Q R k fuel (listed.setIfInBounds i true) (a.put oi.dst v) w → wpAnyG F n P md ops Q R k (fuel + 1) listed a w := by
  intro fuel
  induction fuel with
  | zero =>
    intro listed a w _ _ hr hy hS H
    refine ⟨fun h => (by rw [h] at hr; cases hr), fun j hj => ?_⟩
    by_cases hji : j = i
    · subst hji; exact hy.wpOpIn hro hi hS ⟨.inr hS, H⟩
    · have := ready_mono hj hji
      rw [H.1] at this
      cases this
  | succ fuel ih =>
    intro listed a w hc hfree hr hy hS H
    refine ⟨fun h => (by rw [h] at hr; cases hr), fun j hj => ?_⟩
    by_cases hji : j = i
    · subst hji; exact hy.wpOpIn hro hi hS ⟨.inr hS, H⟩
    · have h1 := H.2 j (ready_mono hj hji)
      obtain ⟨hjun, oj, hoj, hall⟩ := mem_ready.1 hj
      have hun := (mem_ready.1 hr).1
      have hnot : ∀ e ∈ oj.after, Region.binds md e = true → e.on ≠ i := fun e he hb heq => by
        have h1 := hall e he hb
        rw [heq, getD_tf hun] at h1
        cases h1
      have h2 := wpOpIn_look hro hoj (hfree j oj hoj hji hjun hnot) (fun cs b => hsel i oi cs b hi) (fun cs b => hsel j oj cs b hoj) hQ h1
      have hfree' : ∀ k ok, ops[k]? = some ok → k ≠ i → (listed.setIfInBounds j true).getD k true = false →
          (∀ e ∈ ok.after, Region.binds md e = true → e.on ≠ i) → oi.apart ops ok = true := fun k ok hk hki hun hno => by
        refine hfree k ok hk hki ?_ hno
        by_cases hjk : j = k
        · subst hjk; exact hjun
        · rw [getD_set_ne true hjk] at hun; exact hun
      have hrj : i ∈ Region.ready md ops (listed.setIfInBounds j true) := ready_mono hr (Ne.symm hji)
      refine wpOpIn_mono (fun a' w' h3 => ?_) h2
      obtain ⟨hl, hS', hW⟩ := h3
      have hR' : R w' := by
        rcases hS' with h | h
        · rw [Array.getD_eq_getD_getElem?, Array.getElem?_eq_none (by simpa using hc)] at h
          cases h
        · exact h
      rw [Array.setIfInBounds_comm _ _ (Ne.symm hji)] at hW
      exact ⟨.inr hR', ih (listed.setIfInBounds j true) a' w' (by simpa using hc) hfree' hrj (hy.same hl) hR' hW⟩
/-- take operation i first, where the condition holds all along -/
theorem wpAnyR_take {i : Nat} {oi : Oper} {v : Value} {fuel : Nat} {listed : Array Bool} {a : Act} {w : World} (hro : F.round = none) (hi : ops[i]? = some oi)
    (hs : Region.noSelect ops = true) (hf : Region.free md ops listed i = true) (hr : (Region.ready md ops listed).contains i = true)
    (hQ : ∀ c a w, Q (.panic c) (a.put oi.dst v) w → Q (.panic c) a w) (hk : listed.size ≤ k) (hy : YieldsG P ops R oi v a) (hS : R w)
    (h : wpAnyG F n P md ops Q R k fuel (listed.setIfInBounds i true) (a.put oi.dst v) w) : wpAnyG F n P md ops Q R k (fuel + 1) listed a w :=
  wpAnyR_first hro hi (Region.noSelect_spec hs) hQ fuel listed a w hk (Region.free_spec hi hf) (by simpa using hr) hy hS h
end
theorem region_mem {P : Program} {ops : Array Oper} {Q : Exit → Act → World → Prop} {id : Nat} {a : Act} {w0 w : World} {l : List (Nat × TypeId × Array Value)} (H : Mem w0 w l) (m : Nat) (hsz : ops.size = m) (hm : P.follows .mixedOrders = true)
    (h : ∀ w2, Mem w0 w2 l → wpAnyG Fence.wide 6 P .any ops Q (fun wx => Mem w0 wx l) m m (Array.replicate m false) a w2) : (Code.region id ops true).wp P Q a w :=
  (wpIn_wide (n := 6)).1 (wpIn_region_G (fun wx => Mem w0 wx l) m m hsz hm fun _ => h w.drew H.drew)
end Go.Proofs.Ytoofmklknffhpaa
