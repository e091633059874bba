/-
  The cells of the program's steer, its flows in a map. Mathematics, and what lies in memory. The program's between, isPrio, isCpu, has, missing and hashOf of steers. Conditions: the steer lies where its pointer says. The program's mayList. Conditions: the classes lie where the pointer says, the list where its slice says. The program's below. Conditions: the list lies where its slice says.
-/
import Derived.Maps.RangeWalk
import Derived.Maps.OwnSet
import Derived.WalkSpells
import Derived.Test.YtaoaapbbadipfaaMGo
import Derived.Test.YtaoaapbbadipfaaMGl
import Derived.Test.YtaoaapbbadipfaaMGn
/- The cells of the program's steer, its flows in a map. Mathematics, and what lies in memory. -/
section
namespace Go.Proofs.Ytaoaapbbadipfaa
set_option linter.unusedSimpArgs false
set_option linter.unusedVariables false
set_option maxRecDepth 100000
open Go.ChangeShapes Go.WideShapes Go.ChangeAt Go.RowKit Go.Maps

/-- pairs, one behind the other -/
def prL (f : Nat → Value × Value) (n : Nat) : List Value := (List.range n).flatMap fun k => [(f k).1, (f k).2]
theorem prL_succ (f : Nat → Value × Value) (n : Nat) : prL f (n + 1) = prL f n ++ [(f n).1, (f n).2] := by simp [prL, List.range_succ]
theorem prL_len (f : Nat → Value × Value) (n : Nat) : (prL f n).length = 2 * n := by
  induction n with
  | zero => rfl
  | succ n ih => rw [prL_succ, List.length_append, ih]; simp; omega
theorem prL_get (f : Nat → Value × Value) {n k : Nat} (h : k < n) : (prL f n)[2 * k]? = some (f k).1 ∧ (prL f n)[2 * k + 1]? = some (f k).2 := by
  induction n with
  | zero => omega
  | succ n ih =>
    rw [prL_succ]
    by_cases e : k = n
    · subst e
      rw [List.getElem?_append_right (by rw [prL_len]; omega), List.getElem?_append_right (by rw [prL_len]; omega), prL_len]
      rw [show 2 * k - 2 * k = 0 by omega, show 2 * k + 1 - 2 * k = 1 by omega]
      exact ⟨rfl, rfl⟩
    · rw [List.getElem?_append_left (by rw [prL_len]; omega), List.getElem?_append_left (by rw [prL_len]; omega)]
      exact ih (by omega)
theorem prL_congr {f g : Nat → Value × Value} {n : Nat} (h : ∀ k, k < n → f k = g k) : prL f n = prL g n := by
  induction n with
  | zero => rfl
  | succ n ih => rw [prL_succ, prL_succ, ih (fun k hk => h k (by omega)), h n (by omega)]
theorem prL_set (f : Nat → Value × Value) {n k : Nat} (h : k < n) (a b : Value) : ((prL f n).set (2 * k) a).set (2 * k + 1) b = prL (fun j => if j = k then (a, b) else f j) n := by
  induction n with
  | zero => omega
  | succ n ih =>
    rw [prL_succ, prL_succ]
    by_cases e : k = n
    · subst e
      rw [List.set_append_right _ _ (by rw [prL_len]; omega), List.set_append_right _ _ (by rw [prL_len]; omega), prL_len]
      rw [show 2 * k - 2 * k = 0 by omega, show 2 * k + 1 - 2 * k = 1 by omega]
      congr 1
      · exact prL_congr fun j hj => by rw [if_neg (by omega)]
      · simp
    · rw [List.set_append_left _ _ (by rw [prL_len]; omega), List.set_append_left _ _ (by rw [List.length_set, prL_len]; omega), ih (by omega), if_neg (by omega)]
abbrev prC (sp : Nat → Int × Int) (k : Nat) : Value × Value := (.int .i64 (sp k).1, .int .i64 (sp k).2)
/-- the cells of the program's classes, and of its steer -/
def clL (q : Int) (sp : Nat → Int × Int) : List Value := .int .i64 q :: prL (prC sp) 16
def clC (q : Int) (sp : Nat → Int × Int) : Array Value := (clL q sp).toArray
theorem clL_len (q : Int) (sp : Nat → Int × Int) : (clL q sp).length = 33 := by rw [clL, List.length_cons, prL_len]
theorem clC_size (q : Int) (sp : Nat → Int × Int) : (clC q sp).size = 33 := by rw [clC, List.size_toArray, clL_len]
theorem clC_congr {q : Int} {f g : Nat → Int × Int} (h : ∀ k, k < 16 → f k = g k) : clC q f = clC q g := by
  unfold clC clL
  rw [prL_congr (f := prC f) (g := prC g) fun k hk => by simp only [prC, h k hk]]
theorem clL_sp (q : Int) (sp : Nat → Int × Int) {k : Nat} (h : k < 16) : (clL q sp)[1 + 2 * k]? = some (.int .i64 (sp k).1) ∧ (clL q sp)[1 + 2 * k + 1]? = some (.int .i64 (sp k).2) := by
  unfold clL
  rw [show 1 + 2 * k = 2 * k + 1 by omega, List.getElem?_cons_succ, List.getElem?_cons_succ]
  exact prL_get (prC sp) h
theorem clC_set (q : Int) (sp : Nat → Int × Int) {k : Nat} (h : k < 16) (x : Int × Int) : ((clC q sp).setIfInBounds (1 + 2 * k) (.int .i64 x.1)).setIfInBounds (1 + 2 * k + 1) (.int .i64 x.2) = clC q (fun j => if j = k then x else sp j) := by
  unfold clC clL
  simp only [List.setIfInBounds_toArray]
  congr 1
  rw [show 1 + 2 * k = 2 * k + 1 by omega, List.set_cons_succ, List.set_cons_succ, prL_set (prC sp) h]
  congr 1
  exact prL_congr fun j hj => by
    unfold prC
    by_cases e : j = k
    · simp only [if_pos e]
    · simp only [if_neg e]
def psT (salt : Int) (L : Nat → Value) (m : Nat) : List Value := .int .u32 salt :: ((List.range 64).map L ++ [.map (some m)])
def psC (q : Int) (sp : Nat → Int × Int) (salt : Int) (L : Nat → Value) (m : Nat) : Array Value := (clL q sp ++ psT salt L m).toArray
theorem psC_size (q : Int) (sp : Nat → Int × Int) (salt : Int) (L : Nat → Value) (m : Nat) : (psC q sp salt L m).size = 99 := by
  rw [psC, List.size_toArray, List.length_append, clL_len, psT]
  simp
section
variable (q : Int) (sp : Nat → Int × Int) (salt : Int) (L : Nat → Value) (m : Nat)
theorem psC_left {j : Nat} (h : j < 33) : (psC q sp salt L m)[j]? = (clL q sp)[j]? := by
  rw [psC, List.getElem?_toArray, List.getElem?_append_left (by rw [clL_len]; exact h)]
theorem psC_right (j : Nat) : (psC q sp salt L m)[33 + j]? = (psT salt L m)[j]? := by
  rw [psC, List.getElem?_toArray, List.getElem?_append_right (by rw [clL_len]; omega), clL_len, show 33 + j - 33 = j by omega]
theorem psC_q : (psC q sp salt L m)[0]? = some (.int .i64 q) := by rw [psC_left _ _ _ _ _ (by omega)]; rfl
theorem psC_sp {k : Nat} (h : k < 16) : (psC q sp salt L m)[1 + 2 * k]? = some (.int .i64 (sp k).1) ∧ (psC q sp salt L m)[1 + 2 * k + 1]? = some (.int .i64 (sp k).2) := by
  rw [psC_left _ _ _ _ _ (by omega), psC_left _ _ _ _ _ (by omega)]
  exact clL_sp q sp h
theorem psC_salt : (psC q sp salt L m)[33]? = some (.int .u32 salt) := (psC_right q sp salt L m 0).trans rfl
theorem psC_list {c : Nat} (h : c < 64) : (psC q sp salt L m)[34 + c]? = some (L c) := by
  rw [show 34 + c = 33 + (c + 1) by omega, psC_right, psT, List.getElem?_cons_succ, List.getElem?_append_left (by simpa using h)]
  simp [h]
theorem psC_map : (psC q sp salt L m)[98]? = some (.map (some m)) := by
  rw [show 98 = 33 + (64 + 1) by omega, psC_right, psT, List.getElem?_cons_succ, List.getElem?_append_right (by simp)]
  simp
theorem psC_set_list (v : Value) {c : Nat} (h : c < 64) : (psC q sp salt L m).setIfInBounds (34 + c) v = psC q sp salt (fun k => if k = c then v else L k) m := by
  unfold psC
  simp only [List.setIfInBounds_toArray]
  congr 1
  rw [List.set_append_right _ _ (by rw [clL_len]; omega), clL_len]
  congr 1
  unfold psT
  rw [show 34 + c - 33 = c + 1 by omega, List.set_cons_succ, List.set_append_left _ _ (by simpa using h)]
  congr 2
  apply List.ext_getElem
  · simp
  · intro i h1 h2
    simp only [List.getElem_set, List.getElem_map, List.getElem_range]
    by_cases e : c = i
    · simp only [if_pos e, if_pos e.symm]
    · simp only [if_neg e, if_neg (show ¬ i = c from fun h => e h.symm)]
end
/-- cells laid over others -/
def setL (cs : Array Value) : Nat → List Value → Array Value
  | _, [] => cs
  | o, v :: vs => setL (cs.setIfInBounds o v) (o + 1) vs
theorem Held.setCells {b : Nat} {t : TypeId} : ∀ (vs : List Value) (o : Nat) {W : World} {cs : Array Value}, Held W b t cs → Held (W.setCells b o vs) b t (setL cs o vs)
  | [], _, _, _, h => h
  | v :: vs, o, _, _, h => Held.setCells vs (o + 1) (h.set o v)
theorem Foot.setCells (b : Nat) : ∀ (vs : List Value) (o : Nat) (W : World), Foot (· = b) W (W.setCells b o vs)
  | [], _, W => Foot.refl _ W
  | v :: vs, o, W => (Foot.cell W ⟨b, o, none⟩ v).trans' (Foot.setCells b vs (o + 1) _)
theorem setL_list : ∀ (vs pre old post : List Value), old.length = vs.length → setL (pre ++ old ++ post).toArray pre.length vs = (pre ++ vs ++ post).toArray
  | [], pre, old, post, h => by
    rw [List.eq_nil_of_length_eq_zero h]
    rfl
  | v :: vs, pre, [], post, h => by cases h
  | v :: vs, pre, o :: old, post, h => by
    have ih := setL_list vs (pre ++ [v]) old post (by simpa using h)
    have e : (pre ++ o :: old ++ post).toArray.setIfInBounds pre.length v = (pre ++ [v] ++ old ++ post).toArray := by
      simp only [List.setIfInBounds_toArray]
      congr 1
      rw [List.append_assoc, List.set_append_right _ _ (Nat.le_refl _), Nat.sub_self]
      simp
    show setL ((pre ++ o :: old ++ post).toArray.setIfInBounds pre.length v) (pre.length + 1) vs = _
    rw [e]
    have el : (pre ++ [v]).length = pre.length + 1 := by simp
    rw [el] at ih
    rw [ih]
    simp
theorem psC_classes (q q' : Int) (sp sp' : Nat → Int × Int) (salt : Int) (L : Nat → Value) (m : Nat) : setL (psC q sp salt L m) 0 (clL q' sp') = psC q' sp' salt L m := by
  have h := setL_list (clL q' sp') [] (clL q sp) (psT salt L m) (by rw [clL_len, clL_len])
  simpa [psC] using h
/-- what an element of the map is -/
def fwElem (v : Value) : Option (DataW Unit × List MemPlace) :=
  match v with
  | .agg a => match a.toList with
    | [.int .i64 x, .int .i64 y] => some (.agg [.lit (.int .i64 x), .lit (.int .i64 y)], [])
    | _ => none
  | _ => none
abbrev fe (q o : Int) : DataW Unit := .agg [.lit (.int .i64 q), .lit (.int .i64 o)]
abbrev fwV (q o : Int) : Value := .agg #[.int .i64 q, .int .i64 o]
theorem fwElem_mk (q o : Int) : fwElem (fwV q o) = some (fe q o, []) := rfl
theorem fwElem_inv {v : Value} {z : DataW Unit × List MemPlace} (h : fwElem v = some z) : ∃ q o, v = fwV q o ∧ z = (fe q o, []) := by
  unfold fwElem at h
  split at h
  · rename_i a
    split at h
    · rename_i x y e
      cases h
      refine ⟨x, y, ?_, rfl⟩
      rw [fwV, ← e]
    · cases h
  · cases h
abbrev knL (n : Int) : Lit := .int .u32 n
theorem lawF : Keyed Try.prog 22 := int_keyed Try.underlying22
theorem knKey (n : Int) : WideAt.IsKeyLit (knL n) := trivial
theorem kn_ne {a b : Int} (h : a ≠ b) : knL a ≠ knL b := fun e => h (by injection e)
/-- a map holds these flows -/
def MapIs (D : DataW Unit) (fl : Int → Option (Int × Int)) : Prop := ∀ n, Maps.has D (knL n) = (fl n).isSome ∧ ∀ q o, fl n = some (q, o) → ∀ z, D.atKey (knL n) z = fe q o
theorem MapIs.empty : MapIs (.map []) (fun _ => none) := fun n => ⟨rfl, (fun _ _ h => by cases h)⟩
theorem MapIs.put {D : DataW Unit} {fl : Int → Option (Int × Int)} (h : MapIs D fl) (ht : Tidy D) (n q o : Int) : MapIs (D.put (knL n) (fe q o)) (fun m => if m = n then some (q, o) else fl m) := fun m => by
  by_cases e : m = n
  · subst e
    simp only [if_true]
    refine ⟨has_put_same ht.isMap (knKey m) _, fun q' o' h' z => ?_⟩
    cases h'
    exact atKey_put_same ht.isMap (knKey m) _ z
  · simp only [if_neg e]
    rw [has_put_other (kn_ne e)]
    refine ⟨(h m).1, fun q' o' h' z => ?_⟩
    rw [atKey_put_other (kn_ne e)]
    exact (h m).2 q' o' h' z
/-- what is looked up -/
def fQ (fl : Int → Option (Int × Int)) (n : Int) : Int := match fl n with | some (q, _) => q | none => 0
def fO (fl : Int → Option (Int × Int)) (n : Int) : Int := match fl n with | some (_, o) => o | none => 0
theorem MapIs.look {D : DataW Unit} {fl : Int → Option (Int × Int)} (h : MapIs D fl) (n : Int) : D.atKey (knL n) (fe 0 0) = fe (fQ fl n) (fO fl n) := by
  unfold fQ fO
  rcases e : fl n with _ | ⟨q, o⟩
  · exact atKey_of_not_has (by rw [(h n).1, e]; rfl) _
  · exact (h n).2 q o e _
theorem own_tightF {w : World} {b n : Nat} {D : DataW Unit} (h : w.ownsMap Try.prog 22 fwElem b n D) {m : Nat} (hm : Maps.size D ≤ m) : w.ownsMap Try.prog 22 fwElem b m D := by
  obtain ⟨es, clock, hb, F, hs, rfl⟩ := h
  refine ⟨es, clock, hb, F, ?_, rfl⟩
  rw [size_eq, length_read] at hm
  exact hm
/-- the parts of the program's steer -/
structure PParts where
  m : Nat
  L : Nat → Value
/-- the program's steer at block p -/
structure QAt (W : World) (rd own : Nat → Prop) (p : Nat) (s : SS) (N : Nat) (x : PParts) : Prop where
  box : Held W p 77 (psC s.t.q s.t.spAt s.salt x.L x.m)
  map : ∃ D, W.ownsMap Try.prog 22 fwElem x.m N D ∧ MapIs D s.fl
  lists : ∀ c, c < 64 → SlI W.heap.size W (x.L c) (s.maps c)
  out : ∀ n q o, s.fl n = some (q, o) → I64 q ∧ 0 ≤ o ∧ o ≤ N
  salt : 0 ≤ s.salt ∧ s.salt ≤ 4294967295
  right : s.t.right = true
  m64 : ∀ c, c < 64 → (s.maps c).length ≤ 64 ∧ ∀ q, q ∈ s.maps c → 0 ≤ q ∧ q < 64
  op : own p
  om : own x.m
  ne : p ≠ x.m
  rl : ∀ c, c < 64 → s.maps c ≠ [] → ∀ i, blk (x.L c) i → rd i ∧ ¬ own i
  or : ∀ i, own i → rd i
  lt : ∀ i, rd i → i < W.heap.size
theorem SlI.on0 {B B' : Nat} {w w' : World} {v : Value} {l : List Int} (h : SlI B w v l) (hs : l ≠ [] → ∀ i, blk v i → w'.heap[i]? = w.heap[i]?) (hB : B ≤ B') : SlI B' w' v l := by
  by_cases e : l = []
  · subst e
    obtain ⟨A, c, rfl, h1, h2, h3⟩ := h
    exact ⟨A, c, rfl, h1, h2, fun k x hx => by simp at hx⟩
  · exact h.on (hs e) hB
theorem map_on {W W' : World} {b n : Nat} {D : DataW Unit} (h : W.ownsMap Try.prog 22 fwElem b n D) (hb : W'.heap[b]? = W.heap[b]?) : W'.ownsMap Try.prog 22 fwElem b n D := by
  obtain ⟨es, cl, h1, h2⟩ := h
  exact ⟨es, cl, hb.trans h1, h2⟩
theorem QAt.on {W W' : World} {rd own : Nat → Prop} {p : Nat} {s : SS} {N : Nat} {x : PParts} (h : QAt W rd own p s N x) (hs : ∀ i, rd i → W'.heap[i]? = W.heap[i]?) (hz : W.heap.size ≤ W'.heap.size) : QAt W' rd own p s N x :=
  { h with
    box := (hs p (h.or p h.op)).trans h.box
    map := h.map.imp fun D hD => ⟨map_on hD.1 (hs _ (h.or _ h.om)), hD.2⟩
    lists := fun c hc => (h.lists c hc).on0 (fun hn i hi => hs i (h.rl c hc hn i hi).1) hz
    lt := fun i hi => Nat.lt_of_lt_of_le (h.lt i hi) hz }
theorem QAt.below {W W' : World} {rd own : Nat → Prop} {p : Nat} {s : SS} {N : Nat} {x : PParts} (h : QAt W rd own p s N x) (hb : Below W.heap.size W W') : QAt W' rd own p s N x := h.on (fun i hi => hb.block i (h.lt i hi)) hb.size
theorem QAt.plt {W : World} {rd own : Nat → Prop} {p : Nat} {s : SS} {N : Nat} {x : PParts} (h : QAt W rd own p s N x) : p < W.heap.size := h.box.lt
theorem QAt.mlt {W : World} {rd own : Nat → Prop} {p : Nat} {s : SS} {N : Nat} {x : PParts} (h : QAt W rd own p s N x) : x.m < W.heap.size := h.lt _ (h.or _ h.om)
/-- what is read of a steer -/
theorem QAt.cell {W : World} {rd own : Nat → Prop} {p : Nat} {s : SS} {N : Nat} {x : PParts} (h : QAt W rd own p s N x) : W.cell? ⟨p, 33, none⟩ = some (.int .u32 s.salt) ∧ W.cell? ⟨p, 98, none⟩ = some (.map (some x.m)) ∧ (∀ c, c < 64 → W.cell? ⟨p, 34 + c, none⟩ = some (x.L c)) ∧ W.cell? ⟨p, 0, none⟩ = some (.int .i64 s.t.q) ∧ ∀ k, k < 16 → W.cell? ⟨p, 1 + 2 * k, none⟩ = some (.int .i64 (s.t.spAt k).1) ∧ W.cell? ⟨p, 1 + 2 * k + 1, none⟩ = some (.int .i64 (s.t.spAt k).2) :=
  ⟨(h.box.cell 33).trans (psC_salt _ _ _ _ _), (h.box.cell 98).trans (psC_map _ _ _ _ _), fun c hc => (h.box.cell (34 + c)).trans (psC_list _ _ _ _ _ hc), (h.box.cell 0).trans (psC_q _ _ _ _ _), fun k hk => ⟨(h.box.cell _).trans (psC_sp _ _ _ _ _ hk).1, (h.box.cell _).trans (psC_sp _ _ _ _ _ hk).2⟩⟩
end Go.Proofs.Ytaoaapbbadipfaa
end
/- The program's between, isPrio, isCpu, has, missing and hashOf of steers. Conditions: the steer lies where its pointer says. -/
section
namespace Go.Proofs.Ytaoaapbbadipfaa
set_option linter.unusedSimpArgs false
set_option linter.unusedVariables false
set_option maxRecDepth 100000
open Go.ChangeShapes Go.WideShapes Go.ChangeAt Go.RowKit Go.Maps

theorem btw_p (a b n : Int) (w : World) : Calls Try.prog 52 #[.int .i64 a, .int .i64 b, .int .i64 n] w fun e w' => e = .returned (.bool (decide (a ≤ n) && decide (n ≤ b))) ∧ w' = w := by
  by_cases h : a ≤ n
  · have t1 : decide (a ≤ n) = true := decide_eq_true h
    rw [t1, Bool.true_and]
    go_enter Try.func52, Try.ntmps52
    go_wp2
    go_ret
    exact ⟨rfl, rfl⟩
  · have t1 : decide (a ≤ n) = false := decide_eq_false h
    rw [t1, Bool.false_and]
    go_enter Try.func52, Try.ntmps52
    go_wp2
    go_ret
    exact ⟨rfl, rfl⟩
theorem btw_v (a b n : Int) (v : Bool) (hv : (decide (a ≤ n) && decide (n ≤ b)) = v) (w : World) : Calls Try.prog 52 #[.int .i64 a, .int .i64 b, .int .i64 n] w fun e w' => e = .returned (.bool v) ∧ w' = w := hv ▸ btw_p a b n w
def prioB (p : Int) : Bool := decide (0 ≤ p) && decide (p < 16)
def cpuB (c : Int) : Bool := decide (0 ≤ c) && decide (c < 64)
theorem cOk_eq (p c : Int) : cOk p c = (prioB p && cpuB c) := by simp [cOk, prioB, cpuB, Bool.and_assoc]
theorem isPrio_p (p : Int) (v : Bool) (hv : prioB p = v) (w : World) : Calls Try.prog 37 #[.int .i64 p] w fun e w' => e = .returned (.bool v) ∧ w' = w := by
  have k := btw_v 0 15 p v (by rw [← hv, prioB]; congr 1; exact decide_eq_decide.2 (by omega))
  clear hv
  go_enter Try.func37, Try.ntmps37
  go_wp2_with (go_at_call 52; refine (k _).mono ?_; rintro e w2 ⟨rfl, rfl⟩)
  go_ret
  exact ⟨rfl, rfl⟩
theorem isCpu_p (c : Int) (v : Bool) (hv : cpuB c = v) (w : World) : Calls Try.prog 38 #[.int .i64 c] w fun e w' => e = .returned (.bool v) ∧ w' = w := by
  have k := btw_v 0 63 c v (by rw [← hv, cpuB]; congr 1; exact decide_eq_decide.2 (by omega))
  clear hv
  go_enter Try.func38, Try.ntmps38
  go_wp2_with (go_at_call 52; refine (k _).mono ?_; rintro e w2 ⟨rfl, rfl⟩)
  go_ret
  exact ⟨rfl, rfl⟩
set_option maxHeartbeats 2000000 in
theorem hasS_p (q : Int) (x : Int × Int) (v : Bool) (hv : inS x q = v) (hx : 0 ≤ x.1 ∧ x.1 ≤ 64 ∧ 0 ≤ x.2 ∧ x.2 ≤ 64) (w : World) : Calls Try.prog 39 #[.agg #[.int .i64 x.1, .int .i64 x.2], .int .i64 q] w fun e w' => e = .returned (.bool v) ∧ Below w.heap.size w w' := by
  obtain ⟨a, c⟩ := x
  obtain ⟨h1, h2, h3, h4⟩ := hx
  simp only at h1 h2 h3 h4 ⊢
  have H := Mem.start w
  have k := btw_v a (a + c - 1) q v (by rw [← hv, inS]; congr 1; exact decide_eq_decide.2 (by simp only; omega))
  clear hv
  go_enter Try.func39, Try.ntmps39
  go_wp2_with (first
    | go_skip
    | ((with_reducible show wpList _ _ _ _ _ (World.alloc _ (.cells _ _))); refine mem_new H ?_; intro w2 H2; clear H; have H := H2; clear H2; simp only [List.cons_append, List.nil_append, List.set_cons_zero, List.set_cons_succ, List.setIfInBounds_toArray] at H)
    | ((with_reducible show wpList _ _ _ (⟨_, .load _ _, _, _, _, _⟩ :: _) _ _); refine mem_loadf (i := 0) H (by first | exact wanted_none rfl | exact wanted_some rfl rfl rfl rfl) (by exact rfl) (by exact rfl) (by exact rfl) (by first | exact Try.underlying3 | exact Try.underlying22 | exact Try.underlying29 | exact Try.underlying74) rfl (by exact rfl) ?_)
    | (go_at_call 52; refine (k _).mono ?_; rintro e w5 ⟨rfl, rfl⟩))
  go_ret
  exact ⟨rfl, H.below⟩
set_option maxHeartbeats 2000000 in
theorem miss_no (W : World) (rd own : Nat → Prop) (p : Nat) (s : SS) (N : Nat) (x : PParts) (h : QAt W rd own p s N x) : Calls Try.prog 33 #[.pointer (some ⟨p, 0, none⟩)] W fun e w' => e = .returned (.bool false) ∧ w' = W := by
  obtain ⟨_, c98, _⟩ := h.cell
  clear h
  generalize x.m = m at c98
  have he : ∀ w, (binOp .eql 74 (.map (some m)) (.map none)).run Try.prog w = .ok (.bool false) w := fun w => run_eql_map_nil w _ 22 84 (some m) Try.underlying74
  go_enter Try.func33, Try.ntmps33
  go_wp2
  refine bodyPost_ret (v := .bool false) (by simp [results, Try.results33, Sem.run_bind, Result.andThen]) rfl ?_
  exact ⟨rfl, rfl⟩
set_option maxHeartbeats 2000000 in
theorem miss_yes (W : World) : Calls Try.prog 33 #[.pointer none] W fun e w' => e = .returned (.bool true) ∧ w' = W := by
  go_enter Try.func33, Try.ntmps33
  go_wp2
  refine bodyPost_ret (v := .bool true) (by simp [results, Try.results33, Sem.run_bind, Result.andThen]) rfl ?_
  exact ⟨rfl, rfl⟩
set_option maxHeartbeats 2000000 in
theorem hashOf_p (W : World) (rd own : Nat → Prop) (p : Nat) (s : SS) (N : Nat) (x : PParts) (h : QAt W rd own p s N x) (d : Hs.FV) (hd : d.Fits) (hh : Int) (hhe : hashI d s.salt = hh) : Calls Try.prog 34 #[.pointer (some ⟨p, 0, none⟩), Hs.fv d] W fun e w' => e = .returned (.int .u32 hh) ∧ Below W.heap.size W w' := by
  have H := Mem.start W
  have hp := h.plt
  obtain ⟨c33, _⟩ := h.cell
  have ko := fun w => ofI_p d hd s.salt h.salt w
  rw [hhe] at ko
  obtain ⟨z, hz⟩ : ∃ z, s.salt = z := ⟨_, rfl⟩
  rw [hz] at c33 ko
  clear h hd hz hhe
  go_enter Try.func34, Try.ntmps34
  go_upto_region 1 with (first
    | ((with_reducible show wpList _ _ _ _ _ (World.alloc _ (.cells _ _))); refine mem_newb H ?_; intro b w3 hbk H2; try rw [← hbk]; clear hbk H; have H := H2; clear H2; simp only [List.cons_append, List.nil_append, List.set_cons_zero, List.set_cons_succ, List.setIfInBounds_toArray] at H))
  refine region_mem H 7 rfl (by kernel_rfl) (fun wr hS => ?_)
  clear H
  refine wpAnyR_take (i := 0) (v := (.agg #[.int .u32 d.a, .int .u32 d.b, .int .u16 d.sp, .int .u16 d.dp, .int .u8 d.q])) rfl rfl (by kernel_rfl) (by kernel_rfl) (by kernel_rfl) (fun _ _ _ h => h) (Nat.le_refl _) (yields_held (fun w h => h.at 0 rfl) (by exact rfl) (by exact rfl) (by exact rfl) Try.underlying40 rfl (by exact Hs.flowInfo)) hS ?_
  simp only [List.getElem_toArray, List.getElem_cons_zero, List.getElem_cons_succ, Act.put, List.setIfInBounds_toArray, List.set_cons_zero, List.set_cons_succ]
  refine wpAnyR_take (i := 1) (v := (.pointer (some ⟨p, 0, none⟩))) rfl rfl (by kernel_rfl) (by kernel_rfl) (by kernel_rfl) (fun _ _ _ h => h) (Nat.le_refl _) ⟨by rfl, fun w _ => (by go_simp; try (first | rfl | omega)), fun _ => rfl⟩ hS ?_
  simp only [List.getElem_toArray, List.getElem_cons_zero, List.getElem_cons_succ, Act.put, List.setIfInBounds_toArray, List.set_cons_zero, List.set_cons_succ]
  refine wpAnyR_take (i := 2) (v := (.pointer (some ⟨p, 0, none⟩))) rfl rfl (by kernel_rfl) (by kernel_rfl) (by kernel_rfl) (fun _ _ _ h => h) (Nat.le_refl _) ⟨by rfl, fun w _ => (by go_simp; try (first | rfl | omega)), fun _ => rfl⟩ hS ?_
  simp only [List.getElem_toArray, List.getElem_cons_zero, List.getElem_cons_succ, Act.put, List.setIfInBounds_toArray, List.set_cons_zero, List.set_cons_succ]
  refine wpAnyR_take (i := 3) (v := (.pointer (some ⟨p, 33, none⟩))) rfl rfl (by kernel_rfl) (by kernel_rfl) (by kernel_rfl) (fun _ _ _ h => h) (Nat.le_refl _) ⟨by rfl, fun w _ => (by go_simp; try (first | rfl | omega)), fun _ => rfl⟩ hS ?_
  simp only [List.getElem_toArray, List.getElem_cons_zero, List.getElem_cons_succ, Act.put, List.setIfInBounds_toArray, List.set_cons_zero, List.set_cons_succ]
  refine wpAnyR_take (i := 4) (v := (.int .u32 z)) rfl rfl (by kernel_rfl) (by kernel_rfl) (by kernel_rfl) (fun _ _ _ h => h) (Nat.le_refl _) (yields_old c33 hp (by exact rfl) (by exact rfl) (by exact rfl) Try.underlying22 rfl) hS ?_
  simp only [List.getElem_toArray, List.getElem_cons_zero, List.getElem_cons_succ, Act.put, List.setIfInBounds_toArray, List.set_cons_zero, List.set_cons_succ]
  refine wpAnyG_one (i := 5) (by kernel_rfl) rfl (fun K hK => ?_)
  go_simp
  refine ⟨trivial, (callsIn_wide.2 (ko _)).mono ?_⟩
  rintro e w5 ⟨rfl, hb⟩
  have hS5 := hS.call hb
  refine hK _ _ (.inr hS5) ?_
  clear hK K hS hb
  have hS := hS5
  clear hS5
  try simp only [List.getElem_toArray, List.getElem_cons_zero, List.getElem_cons_succ, Act.put, List.setIfInBounds_toArray, List.set_cons_zero, List.set_cons_succ]
  refine wpAnyG_one (i := 6) (by kernel_rfl) rfl (fun K hK => ?_)
  go_simp
  refine hK _ _ (.inr hS) ?_
  clear hK K
  refine wpAnyG_done (by kernel_rfl) ?_ _
  have H := hS
  clear hS
  go_wp2
  go_ret
  exact ⟨rfl, H.below⟩
end Go.Proofs.Ytaoaapbbadipfaa
end
/- The program's mayList. Conditions: the classes lie where the pointer says, the list where its slice says. -/
section
namespace Go.Proofs.Ytaoaapbbadipfaa
set_option linter.unusedSimpArgs false
set_option linter.unusedVariables false
set_option maxRecDepth 100000
open Go.ChangeShapes Go.WideShapes Go.ChangeAt Go.RowKit Go.Maps

/-- an array of 64 truths -/
def byB (f : Nat → Bool) : Array Value := ((List.range 64).map fun q => Value.bool (f q)).toArray
theorem byB_size (f : Nat → Bool) : (byB f).size = 64 := by simp [byB]
theorem byB_at (f : Nat → Bool) {j : Nat} (h : j < 64) : (byB f).toList[j]? = some (.bool (f j)) := by
  simp [byB, h]
theorem byB_set (f : Nat → Bool) (j : Nat) (v : Bool) : (byB f).setIfInBounds j (.bool v) = byB (fun q => if q = j then v else f q) := by
  apply Array.ext
  · simp [byB]
  · intro i h1 h2
    simp only [byB, List.setIfInBounds_toArray, List.getElem_toArray, List.getElem_set, List.getElem_map, List.getElem_range]
    by_cases e : j = i
    · rw [if_pos e, if_pos e.symm]
    · rw [if_neg e, if_neg (fun h => e h.symm)]
theorem byB_congr {f g : Nat → Bool} (h : ∀ q, q < 64 → f q = g q) : byB f = byB g := by
  unfold byB
  congr 1
  exact List.map_congr_left fun q hq => by rw [h q (List.mem_range.1 hq)]
theorem infoBool9 : (Try.prog.info? 4).map (·.size) = some 1 := by kernel_rfl
/-- a list without an equal pair, of numbers below n, is no longer than n -/
theorem nodup_len : ∀ (n : Nat) (l : List Int), l.Nodup → (∀ x, x ∈ l → 0 ≤ x ∧ x < n) → l.length ≤ n
  | 0, [], _, _ => Nat.le_refl _
  | 0, a :: l, _, h => by have := h a (List.mem_cons_self ..); omega
  | n + 1, l, hd, h => by
    by_cases hm : (n : Int) ∈ l
    · have ih := nodup_len n (l.erase n) (hd.erase _) (fun x hx => by
        have h1 := h x (List.mem_of_mem_erase hx)
        have h2 : x ≠ (n : Int) := fun e => by
          rw [e] at hx
          exact ((hd.mem_erase_iff).1 hx).1 rfl
        omega)
      have := List.length_erase_of_mem hm
      omega
    · have ih := nodup_len n l hd (fun x hx => by
        have h1 := h x hx
        have h2 : x ≠ (n : Int) := fun e => hm (e ▸ hx)
        omega)
      omega
theorem okTo_nodup {Q : Int} {l : List Int} : ∀ k, okTo Q l k = true → (l.take k).Nodup
  | 0, _ => by simp
  | k + 1, h => by
    by_cases hk : k < l.length
    · have h0 := List.all_eq_true.1 h k (List.mem_range.2 (by omega))
      have ih := okTo_nodup k (List.all_eq_true.2 fun i hi => List.all_eq_true.1 h i (List.mem_range.2 (by have := List.mem_range.1 hi; omega)))
      simp only [Bool.and_eq_true, Bool.not_eq_true', decide_eq_false_iff_not, List.getD_eq_getElem?_getD, List.getElem?_eq_getElem hk, Option.getD_some] at h0
      rw [List.take_add_one, List.getElem?_eq_getElem hk]
      refine List.nodup_append.2 ⟨ih, by simp, fun a ha b hb e => ?_⟩
      simp at hb
      exact h0.2 (by rw [← hb, ← e]; exact ha)
    · have ih := okTo_nodup k (List.all_eq_true.2 fun i hi => List.all_eq_true.1 h i (List.mem_range.2 (by have := List.mem_range.1 hi; omega)))
      rw [List.take_of_length_le (by omega)] at ih ⊢
      exact ih
/-- more than 64 queues can't be a list -/
theorem okTo_64 {Q : Int} (hQ : Q ≤ 64) {l : List Int} (h : okTo Q l l.length = true) : l.length ≤ 64 := by
  have hd := okTo_nodup _ h
  rw [List.take_length] at hd
  exact nodup_len 64 l hd (fun x hx => by have := okTo_all h x hx; omega)
abbrev listed (l : List Int) (k : Nat) : Nat → Bool := fun j => decide ((j : Int) ∈ l.take k)
theorem listed_next {l : List Int} {k Y : Nat} (h : l[k]? = some (Y : Int)) : byB (fun q => if q = Y then true else listed l k q) = byB (listed l (k + 1)) := byB_congr fun q _ => by
  unfold listed
  rw [List.take_add_one, h]
  by_cases e : q = Y
  · rw [if_pos e, e]
    simp
  · rw [if_neg e]
    refine decide_eq_decide.2 ?_
    simp only [List.mem_append, Option.toList_some, List.mem_singleton]
    refine ⟨Or.inl, fun h => ?_⟩
    rcases h with h | h
    · exact h
    · omega
set_option maxHeartbeats 2000000 in
theorem mayList_p (p : Nat) (Q : Int) (hQ : 1 ≤ Q ∧ Q ≤ 64) (A : Option Addr) (n cap : Nat) (l : List Int) (W : World) (c0 : W.cell? ⟨p, 0, none⟩ = some (.int .i64 Q)) (hp : p < W.heap.size) (hl : l.length = n) (hn : n ≤ 70) (hc : n ≤ cap) (hm : cap ≤ maxLen) (hA : RowI W.heap.size W A l) (hb : ∀ y, y ∈ l → I64 y) (v : Bool) (hv : okTo Q l l.length = v) :
    Calls Try.prog 42 #[.pointer (some ⟨p, 0, none⟩), .slice A n cap] W fun e w' => e = .returned (.bool v) ∧ Below W.heap.size W w' := by
  have H := Mem.start W
  have HA := Lib.hid hA
  have HL := Lib.hid hl
  have HB := Lib.hid hb
  have HV := Lib.hid hv
  unfold maxLen at hm
  clear hA hl hb hv
  go_enter Try.func42, Try.ntmps42
  go_upto_region 2 with (first
    | ((with_reducible show wpList _ _ _ _ _ (World.alloc _ (.cells _ _))); refine mem_newb H ?_; intro bl w3 hbk H2; try rw [← hbk]; clear hbk H; have H := H2; clear H2; simp only [List.cons_append, List.nil_append, List.set_cons_zero, List.set_cons_succ, List.setIfInBounds_toArray] at H))
  have e0 : byB (listed l 0) = #[.bool false, .bool false, .bool false, .bool false, .bool false, .bool false, .bool false, .bool false, .bool false, .bool false, .bool false, .bool false, .bool false, .bool false, .bool false, .bool false, .bool false, .bool false, .bool false, .bool false, .bool false, .bool false, .bool false, .bool false, .bool false, .bool false, .bool false, .bool false, .bool false, .bool false, .bool false, .bool false, .bool false, .bool false, .bool false, .bool false, .bool false, .bool false, .bool false, .bool false, .bool false, .bool false, .bool false, .bool false, .bool false, .bool false, .bool false, .bool false, .bool false, .bool false, .bool false, .bool false, .bool false, .bool false, .bool false, .bool false, .bool false, .bool false, .bool false, .bool false, .bool false, .bool false, .bool false, .bool false] := (byB_congr (g := fun _ => false) fun q _ => by simp [listed]).trans rfl
  rw [← e0] at H
  clear e0
  go_wp2
  go_loopw [10] (fun i wr => ∃ k : Nat, k ≤ n ∧ i = .int .i64 k ∧ Hid (okTo Q l k = true) ∧ Mem W wr [(bl, 105, byB (listed l k))]) (fun i _ => n - (intOf i).toNat)
  case atStart => exact ⟨0, Nat.zero_le _, rfl, Lib.hid rfl, H⟩
  case round =>
    clear H
    obtain ⟨k, hk, rfl, hok, H⟩ := hrel
    by_cases hlt : k < n
    · have hl : k < l.length := by have := HL.out; omega
      obtain ⟨y, hy⟩ : ∃ y, l[k]? = some y := ⟨l[k], List.getElem?_eq_getElem hl⟩
      obtain ⟨g, off, rfl, hg, h1⟩ := HA.out k y hy
      have g0 := (H.old (p := ⟨g, off + k, none⟩) hg).trans h1
      have q0 := (H.old (p := ⟨p, 0, none⟩) hp).trans c0
      have hyb := HB.out y (List.mem_of_getElem? hy)
      unfold I64 at hyb
      have hgd : l.getD k 0 = y := by rw [List.getD_eq_getElem?_getD, hy]; rfl
      have HK := Lib.hid (And.intro hy hl)
      clear hl hy h1
      by_cases hr : 0 ≤ y ∧ y < Q
      · obtain ⟨Y, rfl⟩ := Int.eq_ofNat_of_zero_le hr.1
        have kb := btw_v 0 (Q - 1) (Y : Int) true (by rw [decide_eq_true hr.1, decide_eq_true (show (Y : Int) ≤ Q - 1 by omega)]; rfl)
        have hYb : decide ((Y : Int) < 64) = true := decide_eq_true (by omega)
        have hY64 : Y < 64 := by omega
        have hcell := byB_at (listed l k) hY64
        obtain ⟨V, hV⟩ : ∃ V, listed l k Y = V := ⟨_, rfl⟩
        rw [hV] at hcell
        have HVV := Lib.hid (And.intro hV hgd)
        have HR := Lib.hid hr
        clear hV hgd hr
        cases V
        · go_wp2_with (first
    | (go_at_call 52; refine (kb _).mono ?_; rintro e w5 ⟨rfl, rfl⟩)
    | ((with_reducible show wpList _ _ _ (⟨_, .load 4 _, _, _, _, _⟩ :: _) _ _); refine mem_loadf (i := 0) H (by first | exact wanted_none rfl | exact wanted_some rfl rfl rfl rfl) (by exact rfl) (by exact rfl) (by exact rfl) Try.underlying4 rfl (by exact hcell) ?_)
    | ((with_reducible show wpList _ _ _ (⟨_, .store 4 _ _, _, _, _, _⟩ :: _) _ _); refine mem_storef (i := 0) H (by first | exact wanted_none rfl | exact wanted_some rfl rfl rfl rfl) (by exact rfl) (by exact rfl) (by exact rfl) (by exact rfl) infoBool9 (by rw [byB_size]; exact decide_eq_true hY64) (by exact rfl) ?_; intro w2 H2; clear H; have H := H2; clear H2; simp only [List.cons_append, List.nil_append, List.set_cons_zero, List.set_cons_succ, List.setIfInBounds_toArray] at H))
          have hnext : byB (fun q => if q = Y then true else listed l k q) = byB (listed l (k + 1)) := listed_next HK.out.1
          rw [byB_set, hnext] at H
          have hok2 : okTo Q l (k + 1) = true := by
            rw [okTo_next, hok.out, HVV.out.2, decide_eq_true HR.out.1, decide_eq_true HR.out.2]
            have := HVV.out.1
            unfold listed at this
            rw [this]
            rfl
          have HOK := Lib.hid hok2
          clear hnext hok2
          go_roundw
          case rel => exact ⟨k + 1, by omega, by go_num, HOK, H⟩
          case measure => simp [intOf]; omega
        · have hbad : v = false := by
            rw [← HV.out]
            refine okTo_bad HK.out.2 ?_
            have := HVV.out.1
            unfold listed at this
            rw [HVV.out.2, this]
            simp
          subst hbad
          go_wp2_with (first
    | (go_at_call 52; refine (kb _).mono ?_; rintro e w5 ⟨rfl, rfl⟩)
    | ((with_reducible show wpList _ _ _ (⟨_, .load 4 _, _, _, _, _⟩ :: _) _ _); refine mem_loadf (i := 0) H (by first | exact wanted_none rfl | exact wanted_some rfl rfl rfl rfl) (by exact rfl) (by exact rfl) (by exact rfl) Try.underlying4 rfl (by exact hcell) ?_)
    | ((with_reducible show wpList _ _ _ (⟨_, .store 4 _ _, _, _, _, _⟩ :: _) _ _); refine mem_storef (i := 0) H (by first | exact wanted_none rfl | exact wanted_some rfl rfl rfl rfl) (by exact rfl) (by exact rfl) (by exact rfl) (by exact rfl) infoBool9 (by rw [byB_size]; exact decide_eq_true hY64) (by exact rfl) ?_; intro w2 H2; clear H; have H := H2; clear H2; simp only [List.cons_append, List.nil_append, List.set_cons_zero, List.set_cons_succ, List.setIfInBounds_toArray] at H))
          go_ret
          exact ⟨rfl, H.below⟩
      · have hbad : v = false := by
          rw [← HV.out]
          refine okTo_bad HK.out.2 ?_
          rw [hgd]
          by_cases h0 : 0 ≤ y
          · rw [decide_eq_false (show ¬ y < Q by omega)]
            simp
          · rw [decide_eq_false h0]
            rfl
        have kb := btw_v 0 (Q - 1) y false (by
          by_cases h0 : 0 ≤ y
          · rw [decide_eq_false (show ¬ y ≤ Q - 1 by omega), Bool.and_false]
          · rw [decide_eq_false h0, Bool.false_and])
        subst hbad
        clear hgd hr
        go_wp2_with (first
    | (go_at_call 52; refine (kb _).mono ?_; rintro e w5 ⟨rfl, rfl⟩)
    | ((with_reducible show wpList _ _ _ (⟨_, .load 4 _, _, _, _, _⟩ :: _) _ _); refine mem_loadf (i := 0) H (by first | exact wanted_none rfl | exact wanted_some rfl rfl rfl rfl) (by exact rfl) (by exact rfl) (by exact rfl) Try.underlying4 rfl (by exact hcell) ?_)
    | ((with_reducible show wpList _ _ _ (⟨_, .store 4 _ _, _, _, _, _⟩ :: _) _ _); refine mem_storef (i := 0) H (by first | exact wanted_none rfl | exact wanted_some rfl rfl rfl rfl) (by exact rfl) (by exact rfl) (by exact rfl) (by exact rfl) infoBool9 (by rw [byB_size]; exact decide_eq_true hY64) (by exact rfl) ?_; intro w2 H2; clear H; have H := H2; clear H2; simp only [List.cons_append, List.nil_append, List.set_cons_zero, List.set_cons_succ, List.setIfInBounds_toArray] at H))
        go_ret
        exact ⟨rfl, H.below⟩
    · obtain rfl : k = n := by omega
      have hgood : v = true := by rw [← HV.out, HL.out]; exact hok.out
      subst hgood
      go_wp2
      go_ret
      exact ⟨rfl, H.below⟩
end Go.Proofs.Ytaoaapbbadipfaa
end
/- The program's below. Conditions: the list lies where its slice says. -/
section
namespace Go.Proofs.Ytaoaapbbadipfaa
set_option linter.unusedSimpArgs false
set_option linter.unusedVariables false
set_option maxRecDepth 100000
open Go.ChangeShapes Go.WideShapes Go.ChangeAt Go.RowKit Go.Maps

/-- an append to a slice that was cut to nothing: it is laid anew -/
theorem run_append_cut {P : Program} (w : World) (base : Nat) (t ty e : TypeId) (i : TypeInfo) (z : Value) (size bytes : Nat) (ht : P.underlying t = some (.slice e)) (hi : P.info? e = some i) (hz : i.zero = some z)
    (hsize : i.size = size) (hby : i.bytes = bytes) (hzs : z.cells.size = size) (b : Addr)
    (a : Addr) (m c : Nat) (news : List Value) (hm : 0 < m) (hl : news.length = m * size) (hnews : ∀ j u, news[j]? = some u → w.cell? (a.add j) = some u)
    (h63 : m ≤ maxLen) (hbytes : m * bytes ≤ 140737488355328) (hbase : base ≤ w.heap.size) :
    ∃ v' w', (Builtin.append_ #[t, t] ty #[.slice (some b) 0 0, .slice (some a) m c]).run P w = .ok v' w' ∧ w'.ownsRow base e size v' m news ∧ w.grownBy w' none := by
  subst hsize
  subst hby
  have hr := run_append_grow (P := P) w t ty e i z ht hi hz b 0 0 [] (by simp) (by simp) a m c news hl hnews (by omega) (by simp only [maxLen] at h63; omega) (growslice_fits (by omega) (by simpa using hbytes))
  simp only [Nat.zero_add, List.nil_append] at hr
  have hge := grownCap_ge w m 0 e
  have hcm : grownCap w m 0 e ≤ maxLen := grownCap_le_maxLen w m 0 e h63
  refine ⟨_, _, hr, ⟨hl, .inr ⟨w.heap.size, _, _, rfl, hbase, heap_alloc_new w.drew _, hge, hcm, ?_, ?_⟩⟩, ⟨rfl, rfl, rfl, by simp, fun k hk _ => heap_alloc_old w.drew _ k hk⟩⟩
  · simp only [Array.size_append, List.size_toArray, size_zeroCells, hzs, hl, List.length_nil, Nat.zero_add, ← Nat.add_mul]
    congr 1
    omega
  · simp only [Array.toList_append]
    rw [← hl]
    exact List.take_left
theorem wpList_append_cut {P : Program} (w : World) {ops : Array Oper} {rest : List Oper} {o : Oper} {a : Act} {Q : Exit → Act → World → Prop} (hgd : o.guard = none) (s x : Operand) (t : TypeId)
    (ho : o.op = .call { callee := .builtin .append, args := #[s, x], argTypes := #[t, t] })
    (base : Nat) (e : TypeId) (i : TypeInfo) (z : Value) (size bytes : Nat) (ht : P.underlying t = some (.slice e)) (hi : P.info? e = some i) (hz : i.zero = some z)
    (hsize : i.size = size) (hby : i.bytes = bytes) (hzs : z.cells.size = size) (b : Addr) (hs : a.eval s = .slice (some b) 0 0)
    (ad : Addr) (m c : Nat) (news : List Value) (hx : a.eval x = .slice (some ad) m c) (hm : 0 < m) (hl : news.length = m * size) (hnews : ∀ j u, news[j]? = some u → w.cell? (ad.add j) = some u)
    (h63 : m ≤ maxLen) (hbytes : m * bytes ≤ 140737488355328) (hbase : base ≤ w.heap.size)
    (h : ∀ v' w', w'.ownsRow base e size v' m news → w.grownBy w' none → wpList P ops Q rest (a.put o.dst v') w') : wpList P ops Q (o :: rest) a w := by
  refine wpList_plain hgd fun K hK => ?_
  obtain ⟨v', w', hr, h2, h3⟩ := run_append_cut (P := P) w base t o.type e i z size bytes ht hi hz hsize hby hzs b ad m c news hm hl hnews h63 hbytes hbase
  unfold Oper.wp execOp
  simp only [ho, resolve, invoke, builtin, Sem.run_bind, Sem.run_pure, Result.andThen_ok, List.map_toArray, List.map_cons, List.map_nil, hs, hx, hr]
  exact hK _ _ (h v' w' h2 h3)
theorem Mem.grown0 {w0 W W' : World} {l : List (Nat × TypeId × Array Value)} (h : Mem w0 W l) (hg : W.grownBy W' none) : Mem w0 W' l :=
  ⟨h.below.grown hg h.below.size (fun j ej => by cases ej), fun p hp => ⟨(h.held p hp).1, (hg.block p.1 (h.held p hp).2.lt (fun e => by cases e)).trans (h.held p hp).2⟩, h.inc⟩
/-- what is kept of a list -/
def fltQ (Q : Int) (l : List Int) : List Int := l.filter fun q => decide (q < Q)
/-- a list that is laid anew, or nothing -/
def GivesSlB (W : World) (l : List Int) (e : Ending) (w' : World) : Prop :=
  ∃ v, e = .returned v ∧ SlI w'.heap.size w' v l ∧ (l ≠ [] → ∀ i, blk v i → W.heap.size ≤ i ∧ i < w'.heap.size) ∧ Below W.heap.size W w'
theorem SlI.cut (B : Nat) (w : World) (A : Option Addr) : SlI B w (.slice A 0 0) [] := ⟨A, 0, rfl, Nat.le_refl _, Nat.zero_le _, fun k x h => by simp at h⟩
/-- what is kept, between two rounds -/
def Kept9 (B : Nat) (ad : Addr) (l : List Int) (v : Value) (w : World) : Prop := (l = [] ∧ v = .slice (some ad) 0 0) ∨ w.ownsRow B 3 1 v l.length (ints l)
set_option maxHeartbeats 2000000 in
theorem below_none (Q : Int) (cap : Nat) (A : Option Addr) (hm : cap ≤ maxLen) (W : World) : Calls Try.prog 43 #[.int .i64 Q, .slice A 0 cap] W (GivesSlB W []) := by
  have H := Mem.start W
  unfold maxLen at hm
  go_enter Try.func43, Try.ntmps43
  go_wp2
  go_ret
  exact ⟨_, rfl, SlI.nil _ _, (fun h => absurd rfl h), H.below⟩
set_option maxHeartbeats 2000000 in
theorem below_p (Q : Int) (A : Option Addr) (n cap : Nat) (l : List Int) (W : World) (hl : l.length = n) (hn : n ≤ 70) (hc : n ≤ cap) (hm : cap ≤ maxLen) (hA : RowI W.heap.size W A l) : Calls Try.prog 43 #[.int .i64 Q, .slice A n cap] W (GivesSlB W (fltQ Q l)) := by
  by_cases h0 : n = 0
  · subst h0
    rw [List.eq_nil_of_length_eq_zero hl]
    exact below_none Q cap A hm W
  have H := Mem.start W
  have HA := Lib.hid hA
  have HL := Lib.hid hl
  have hmm := hm
  unfold maxLen at hm
  have t0 : ((n : Int) == 0) = false := by simpa using (show (n : Int) ≠ 0 by omega)
  obtain ⟨y0, hy0⟩ : ∃ y, l[0]? = some y := ⟨l[0]'(by omega), List.getElem?_eq_getElem _⟩
  obtain ⟨g, off, rfl, hg, _⟩ := hA 0 y0 hy0
  obtain ⟨i0, hi, hz0, hz1, hz2⟩ := infoInt_parts
  clear hA hl hy0
  go_enter Try.func43, Try.ntmps43
  go_wp2
  go_loopw [5, 15] (fun v i wr => ∃ k : Nat, k ≤ n ∧ i = .int .i64 k ∧ Hid (Kept9 W.heap.size ⟨g, off, none⟩ (fltQ Q (l.take k)) v wr) ∧ Mem W wr []) (fun _ i _ => n - (intOf i).toNat)
  case atStart => exact ⟨0, Nat.zero_le _, rfl, Lib.hid (.inl ⟨by simp [fltQ], rfl⟩), H⟩
  case round =>
    clear H
    obtain ⟨k, hk, rfl, hK, H⟩ := hrel
    by_cases hlt : k < n
    · have hl : k < l.length := by have := HL.out; omega
      obtain ⟨y, hy⟩ : ∃ y, l[k]? = some y := ⟨l[k], List.getElem?_eq_getElem hl⟩
      obtain ⟨g', off', e', _, h1⟩ := HA.out k y hy
      cases e'
      have g0 := (H.old (p := ⟨g, off + k, none⟩) hg).trans h1
      have HN := Lib.hid (show fltQ Q (l.take (k + 1)) = fltQ Q (l.take k) ++ (if decide (y < Q) = true then [y] else []) from filter_take hy _)
      have hlen : (fltQ Q (l.take k)).length ≤ k := filter_len l _ k
      have hws := H.below.size
      clear hl hy h1
      by_cases hq : y < Q
      · have t1 : decide (y < Q) = true := decide_eq_true hq
        have HN2 := Lib.hid (HN.out.trans (by rw [if_pos t1]))
        clear hq HN
        rcases hK.out with ⟨hnil, rfl⟩ | hown
        · have HNil := Lib.hid hnil
          clear hnil hK hlen
          go_upto_region 9 with (first | (at_builtin; refine wpList_append_cut _ rfl _ _ 29 rfl W.heap.size 3 i0 (.int .i64 0) 1 8 Try.underlying29 hi hz0 hz1 hz2 rfl ⟨g, off, none⟩ rfl ⟨wr.heap.size, 0, none⟩ 1 1 [.int .i64 y] rfl (by omega) rfl (cell_one_new _ _ _) (by simp [maxLen]) (by omega) (by simp; omega) ?_; intro v' w1 hown' hgrow))
          have H4 : Mem W w1 [] := (H.skip _).grown0 hgrow
          have HK2 : Hid (Kept9 W.heap.size ⟨g, off, none⟩ (fltQ Q (l.take (k + 1))) v' w1) := Lib.hid (by
            rw [HN2.out, HNil.out]
            exact .inr hown')
          clear H hown' hgrow HN2 HNil
          go_wp2
          go_roundw
          case rel => exact ⟨k + 1, by omega, by go_num, HK2, H4⟩
          case measure => simp [intOf]; omega
        · clear hK
          obtain ⟨m, hm'⟩ : ∃ m, (fltQ Q (l.take k)).length = m := ⟨_, rfl⟩
          rw [hm'] at hown hlen
          obtain ⟨a0, c0, rfl⟩ := ownsRow_len hown
          have HM := Lib.hid hm'
          clear hm'
          go_upto_region 9 with (first | (at_builtin; refine wpList_append_own _ rfl _ _ 29 rfl W.heap.size 3 i0 (.int .i64 0) 1 8 Try.underlying29 hi hz0 hz1 hz2 rfl (by decide) _ _ _ rfl (hown.alloc _) ⟨wr.heap.size, 0, none⟩ 1 1 [.int .i64 y] rfl rfl (cell_one_new _ _ _) (by simp [Value.oneCell']) (by simp [maxLen]; omega) (by omega) (by simp; omega) ?_; intro v' w1 hown' hgrow _))
          have H4 : Mem W w1 [] := (H.skip _).grown (B := W.heap.size) hgrow (fun r hr => (hown.lt r hr).1) (fun p hp => by cases hp) (Nat.le_refl _)
          have HK2 : Hid (Kept9 W.heap.size ⟨g, off, none⟩ (fltQ Q (l.take (k + 1))) v' w1) := Lib.hid (by
            rw [HN2.out]
            refine .inr ?_
            rw [List.length_append, HM.out]
            simpa using hown')
          clear H hown hown' hgrow HN2 HM
          go_wp2
          go_roundw
          case rel => exact ⟨k + 1, by omega, by go_num, HK2, H4⟩
          case measure => simp [intOf]; omega
      · have t1 : decide (y < Q) = false := decide_eq_false hq
        have e2 : fltQ Q (l.take k) = fltQ Q (l.take (k + 1)) := by
          rw [HN.out, t1]
          simp
        rw [e2] at hK
        have HK2 := hK
        clear hq HN hK hlen e2
        go_wp2
        go_roundw
        case rel => exact ⟨k + 1, by omega, by go_num, HK2, H⟩
        case measure => simp [intOf]; omega
    · obtain rfl : k = n := by omega
      have hall : l.take k = l := List.take_of_length_le (by have := HL.out; omega)
      rw [hall] at hK
      go_wp2
      go_ret
      rcases hK.out with ⟨hnil, rfl⟩ | hown
      · rw [hnil]
        exact ⟨_, rfl, SlI.cut _ _ _, (fun h => absurd rfl h), H.below⟩
      · obtain ⟨h1, h2⟩ := sli_own hown
        exact ⟨_, rfl, h1, (fun _ => h2), H.below⟩
end Go.Proofs.Ytaoaapbbadipfaa
end
