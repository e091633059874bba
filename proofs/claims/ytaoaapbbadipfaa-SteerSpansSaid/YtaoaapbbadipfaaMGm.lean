/-
  Steers, their lists and flows. Mathematics alone. The document's steer in memory. Conditions: those that each theorem names. The document's has, in, at and Out of steers. Conditions: the steer lies where its pointer says. The document's Candidates. Conditions: the steer lies where its pointer says.
-/
import Derived.Test.YtaoaapbbadipfaaMGh
import Derived.Test.YtaoaapbbadipfaaMGl
import Derived.Test.YtaoaapbbadipfaaMGd
import Derived.Test.YtaoaapbbadipfaaMGa
/- Steers, their lists and flows. Mathematics alone. -/
section
namespace Go.Proofs.Ytaoaapbbadipfaa
set_option linter.unusedSimpArgs false
set_option linter.unusedVariables false
set_option maxRecDepth 100000

/-- a queue in a span -/
def inS (x : Int × Int) (q : Int) : Bool := decide (x.1 ≤ q) && decide (q < x.1 + x.2)
/-- all queues of a span -/
def allQ (x : Int × Int) : List Int := (List.range x.2.toNat).map fun i : Nat => x.1 + (i : Int)
/-- the candidates, by a list and a span -/
def candL (l : List Int) (x : Int × Int) : List Int := if (l.filter (inS x)).length = 0 then allQ x else l.filter (inS x)
/-- a flow that has been seen: its number, its queue, how many are out -/
structure SF where
  n : Int
  q : Int
  o : Int
/-- what a flow has -/
def flook (l : List SF) (n : Int) : Option (Int × Int) := (l.find? fun f => f.n == n).map fun f => (f.q, f.o)
/-- where a flow stands -/
def fat (l : List SF) (n : Int) : Nat := l.findIdx fun f => f.n == n
structure SS where
  t : TB
  salt : Int
  maps : Nat → List Int
  fl : Int → Option (Int × Int)
def SS.new (t : TB) (salt : Int) : SS := ⟨t, salt, fun _ => [], fun _ => none⟩
def cOk (p c : Int) : Bool := decide (0 ≤ p) && decide (p < 16) && decide (0 ≤ c) && decide (c < 64)
def SS.spn (s : SS) (p : Int) : Int × Int := s.t.spAt p.toNat
def SS.cand (s : SS) (p c : Int) : List Int := candL (s.maps c.toNat) (s.spn p)
def SS.candV (s : SS) (p c : Int) : List Int := bif cOk p c then s.cand p c else []
def SS.candE (p c : Int) : Int := bif cOk p c then 0 else 2
/-- may a list be a processor's: its first k -/
def okTo (Q : Int) (l : List Int) (k : Nat) : Bool := (List.range k).all fun i => decide (0 ≤ l.getD i 0) && decide (l.getD i 0 < Q) && !decide (l.getD i 0 ∈ l.take i)
def SS.mapOk (s : SS) (c : Int) (l : List Int) : Bool := decide (0 ≤ c) && decide (c < 64) && decide (l.length ≤ 64) && okTo s.t.q l l.length
def SS.mapped (s : SS) (c : Int) (l : List Int) : SS := { s with maps := fun k => if k = c.toNat then l else s.maps k }
def SS.map (s : SS) (c : Int) (l : List Int) : SS := bif s.mapOk c l then s.mapped c l else s
def SS.mapE (s : SS) (c : Int) (l : List Int) : Int := bif s.mapOk c l then 0 else 2
/-- .. its table changed, and the lists of the first c processors -/
def SS.tabTo (s : SS) (t : TB) (c : Nat) : SS := { s with t := t, maps := fun k => if k < c then (s.maps k).filter fun q => decide (q < t.q) else s.maps k }
def SS.tabled (s : SS) (t : TB) : SS := s.tabTo t 64
def SS.table (s : SS) (t : TB) : SS := bif t.right then s.tabled t else s
def tabE (t : TB) : Int := bif t.right then 0 else 80
/-- has a flow a queue that it keeps -/
def SS.stays (s : SS) (n p : Int) : Bool := match s.fl n with
  | some (q, o) => !(o == 0) && inS (s.spn p) q
  | none => false
def SS.outQ (s : SS) (n : Int) : Int := match s.fl n with
  | some (q, _) => q
  | none => -1
def SS.outN (s : SS) (n : Int) : Int := match s.fl n with
  | some (_, o) => o
  | none => 0
/-- the queue that is chosen; scl is what scales -/
def pickQ (l : List Int) (n : Int) : Int := l.getD (n * (l.length : Int) / 4294967296).toNat 0
def SS.queue (s : SS) (n p c : Int) : Int := bif s.stays n p then s.outQ n else pickQ (s.cand p c) n
def SS.set (s : SS) (n q o : Int) : SS := { s with fl := fun m => if m = n then some (q, o) else s.fl m }
def SS.choose (s : SS) (n p c : Int) : SS := bif cOk p c then s.set n (s.queue n p c) (s.outN n + 1) else s
def SS.chooseV (s : SS) (n p c : Int) : Int := bif cOk p c then s.queue n p c else 0
def SS.chooseE (p c : Int) : Int := SS.candE p c
def SS.done (s : SS) (n : Int) : SS := bif s.outN n == 0 then s else s.set n (s.outQ n) (s.outN n - 1)
def SS.doneE (s : SS) (n : Int) : Int := bif s.outN n == 0 then 90 else 0
/-- what stands at a place of a list of flows -/
theorem fat_le (l : List SF) (n : Int) : fat l n ≤ l.length := List.findIdx_le_length
theorem flook_at {l : List SF} {n : Int} {f : SF} (h : l[fat l n]? = some f) : f.n = n ∧ flook l n = some (f.q, f.o) := by
  unfold fat at h
  have hlt := (List.getElem?_eq_some_iff.1 h).1
  have hp : (f.n == n) = true := by
    have := List.findIdx_getElem (p := fun f : SF => f.n == n) (xs := l) (w := hlt)
    rw [(List.getElem?_eq_some_iff.1 h).2] at this
    exact this
  refine ⟨by simpa using hp, ?_⟩
  unfold flook
  rw [List.find?_eq_getElem?_findIdx, h]
  rfl
theorem flook_none {l : List SF} {n : Int} (h : fat l n = l.length) : flook l n = none := by
  unfold flook
  rw [List.find?_eq_getElem?_findIdx, show List.findIdx (fun f : SF => f.n == n) l = fat l n from rfl, h, List.getElem?_eq_none (Nat.le_refl _)]
  rfl
end Go.Proofs.Ytaoaapbbadipfaa
end
/- The document's steer in memory. Conditions: those that each theorem names. -/
section
namespace Go.Proofs.Ytaoaapbbadipfaa
set_option linter.unusedSimpArgs false
set_option linter.unusedVariables false
set_option maxRecDepth 100000
open Go.ChangeShapes Go.WideShapes Go.ChangeAt Go.RowKit

/-- a flow's number, as a whole number -/
def hashI (d : Hs.FV) (s : Int) : Int := Hs.u (Hs.wordsB (BitVec.ofInt 32 s) (Hs.l4 (BitVec.ofInt 32 d.a) (BitVec.ofInt 32 d.b) (BitVec.ofInt 32 (65536 * d.sp + d.dp)) (BitVec.ofInt 32 d.q)) 4)
theorem hashI_bd (d : Hs.FV) (s : Int) : 0 ≤ hashI d s ∧ hashI d s ≤ 4294967295 := Hs.u_bd _
theorem u_ofInt {a : Int} (h : 0 ≤ a ∧ a ≤ 4294967295) : Hs.u (BitVec.ofInt 32 a) = a := by
  unfold Hs.u
  simp only [BitVec.toNat_ofInt]
  omega
theorem ofI_r (d : Hs.FV) (hd : d.Fits) (s : Int) (hs : 0 ≤ s ∧ s ≤ 4294967295) (w : World) : Calls Try.prog 48 #[Hs.fv d, .int .u32 s] w fun e w' => e = .returned (.int .u32 (hashI d s)) ∧ Below w.heap.size w w' := by
  obtain ⟨h1, h2, h3, h4, h5⟩ := hd
  have h := Hs.of_r (BitVec.ofInt 32 d.a) (BitVec.ofInt 32 d.b) d.sp d.dp (BitVec.ofInt 32 d.q) (BitVec.ofInt 32 s) (BitVec.ofInt 32 (65536 * d.sp + d.dp)) h3 h4 (by rw [u_ofInt (by omega)]; omega) (by rw [u_ofInt (by omega)]) w
  unfold Hs.flowC at h
  rwa [u_ofInt h1, u_ofInt h2, u_ofInt (a := d.q) (by omega), u_ofInt hs] at h
theorem ofI_p (d : Hs.FV) (hd : d.Fits) (s : Int) (hs : 0 ≤ s ∧ s ≤ 4294967295) (w : World) : Calls Try.prog 50 #[Hs.fv d, .int .u32 s] w fun e w' => e = .returned (.int .u32 (hashI d s)) ∧ Below w.heap.size w w' := by
  obtain ⟨h1, h2, h3, h4, h5⟩ := hd
  have h := Hs.of_p (BitVec.ofInt 32 d.a) (BitVec.ofInt 32 d.b) d.sp d.dp (BitVec.ofInt 32 d.q) (BitVec.ofInt 32 s) (BitVec.ofInt 32 (65536 * d.sp + d.dp)) h3 h4 (by rw [u_ofInt (by omega)]; omega) (by rw [u_ofInt (by omega)]; omega) w
  unfold Hs.flowC at h
  rwa [u_ofInt h1, u_ofInt h2, u_ofInt (a := d.q) (by omega), u_ofInt hs] at h
/-- a packet -/
structure PK where
  id : Int
  len : Int
  prio : Int
  cpu : Int
  f : Hs.FV
structure PK.Fits (p : PK) : Prop where
  id : 0 ≤ p.id ∧ p.id ≤ 4294967295
  len : 0 ≤ p.len ∧ p.len ≤ 4294967295
  prio : I64 p.prio
  cpu : I64 p.cpu
  f : p.f.Fits
abbrev pk (p : PK) : Value := .agg #[.int .u32 p.id, .int .u32 p.len, .int .i64 p.prio, .int .i64 p.cpu, .int .u32 p.f.a, .int .u32 p.f.b, .int .u16 p.f.sp, .int .u16 p.f.dp, .int .u8 p.f.q]
/-- the cells of a steer: its table's, the salt, 64 lists, the flows -/
def stL (q : Int) (v1 v2 : Value) (salt : Int) (L : Nat → Value) (fv : Value) : List Value := [.int .i64 q, v1, v2, .int .u32 salt] ++ ((List.range 64).map L ++ [fv])
def stC (q : Int) (v1 v2 : Value) (salt : Int) (L : Nat → Value) (fv : Value) : Array Value := (stL q v1 v2 salt L fv).toArray
theorem stC_size (q : Int) (v1 v2 : Value) (salt : Int) (L : Nat → Value) (fv : Value) : (stC q v1 v2 salt L fv).size = 69 := by simp [stC, stL]
theorem stC_map (q : Int) (v1 v2 : Value) (salt : Int) (L : Nat → Value) (fv : Value) {c : Nat} (h : c < 64) : (stC q v1 v2 salt L fv)[4 + c]? = some (L c) := by
  simp only [stC, List.getElem?_toArray, stL]
  rw [List.getElem?_append_right (by simp)]
  simp only [List.length_cons, List.length_nil]
  rw [show 4 + c - (0 + 1 + 1 + 1 + 1) = c by omega, List.getElem?_append_left (by simpa using h)]
  simp [h]
theorem stC_fl (q : Int) (v1 v2 : Value) (salt : Int) (L : Nat → Value) (fv : Value) : (stC q v1 v2 salt L fv)[68]? = some fv := by
  simp only [stC, List.getElem?_toArray, stL]
  rw [List.getElem?_append_right (by simp), List.getElem?_append_right (by simp)]
  simp
theorem stC_set_map (q : Int) (v1 v2 : Value) (salt : Int) (L : Nat → Value) (fv v : Value) {c : Nat} (h : c < 64) : (stC q v1 v2 salt L fv).setIfInBounds (4 + c) v = stC q v1 v2 salt (fun k => if k = c then v else L k) fv := by
  simp only [stC, List.setIfInBounds_toArray, stL]
  congr 1
  rw [List.set_append_right _ _ (by simp), List.set_append_left _ _ (by simpa using (show 4 + c - 4 < 64 by omega))]
  congr 2
  apply List.ext_getElem
  · simp
  · intro i h1 h2
    simp only [List.length_cons, List.length_nil, List.getElem_set, List.getElem_map, List.getElem_range]
    by_cases e : i = c
    · simp only [if_pos e, if_pos (show 4 + c - (0 + 1 + 1 + 1 + 1) = i by omega)]
    · simp only [if_neg e, if_neg (show ¬ 4 + c - (0 + 1 + 1 + 1 + 1) = i by omega)]
theorem stC_set_fl (q : Int) (v1 v2 : Value) (salt : Int) (L : Nat → Value) (fv v : Value) : (stC q v1 v2 salt L fv).setIfInBounds 68 v = stC q v1 v2 salt L v := by
  simp only [stC, List.setIfInBounds_toArray, stL]
  congr 1
/-- a flow's cells -/
def sfC (f : SF) : List Value := [.int .u32 f.n, .int .i64 f.q, .int .i64 f.o]
def sfCs (l : List SF) : List Value := l.flatMap sfC
theorem sfCs_length (l : List SF) : (sfCs l).length = l.length * 3 := by
  induction l with
  | nil => rfl
  | cons a l ih => simp [sfCs, sfC] at ih ⊢; omega
theorem sfCs_append (a b : List SF) : sfCs (a ++ b) = sfCs a ++ sfCs b := by simp [sfCs]
theorem sfCs_get {l : List SF} {k : Nat} {f : SF} (h : l[k]? = some f) : (sfCs l)[k * 3]? = some (.int .u32 f.n) ∧ (sfCs l)[k * 3 + 1]? = some (.int .i64 f.q) ∧ (sfCs l)[k * 3 + 2]? = some (.int .i64 f.o) := by
  induction l generalizing k with
  | nil => cases h
  | cons a l ih =>
    cases k with
    | zero =>
      simp at h
      subst h
      exact ⟨rfl, rfl, rfl⟩
    | succ k =>
      obtain ⟨h1, h2, h3⟩ := ih (k := k) (by simpa using h)
      have e : sfCs (a :: l) = Value.int .u32 a.n :: Value.int .i64 a.q :: Value.int .i64 a.o :: sfCs l := rfl
      rw [e, show (k + 1) * 3 = k * 3 + 1 + 1 + 1 by omega]
      exact ⟨by simpa using h1, by simpa using h2, by simpa using h3⟩
/-- the blocks in which a table's slices lie -/
def tbS (A1 A2 : Option Addr) (i : Nat) : Prop := (∃ o m, A1 = some ⟨i, o, m⟩) ∨ ∃ o m, A2 = some ⟨i, o, m⟩
theorem RowI.on {B B' : Nat} {w w' : World} {A : Option Addr} {l : List Int} (h : RowI B w A l) (hs : ∀ i, (∃ o m, A = some ⟨i, o, m⟩) → w'.heap[i]? = w.heap[i]?) (hB : B ≤ B') : RowI B' w' A l := fun k x hx => by
  obtain ⟨b, o, e, hb, hc⟩ := h k x hx
  refine ⟨b, o, e, by omega, ?_⟩
  rw [← hc]
  unfold World.cell?
  rw [hs b ⟨o, none, e⟩]
theorem RowS.on {B B' : Nat} {w w' : World} {A : Option Addr} {l : List (Int × Int)} (h : RowS B w A l) (hs : ∀ i, (∃ o m, A = some ⟨i, o, m⟩) → w'.heap[i]? = w.heap[i]?) (hB : B ≤ B') : RowS B' w' A l := fun k x hx => by
  obtain ⟨b, o, e, hb, hc, hd⟩ := h k x hx
  refine ⟨b, o, e, by omega, ?_, ?_⟩
  · rw [← hc]
    unfold World.cell?
    rw [hs b ⟨o, none, e⟩]
  · rw [← hd]
    unfold World.cell?
    rw [hs b ⟨o, none, e⟩]
theorem TbAt.on {B B' : Nat} {w w' : World} {A1 A2 : Option Addr} {c1 c2 : Nat} {t : TB} (h : TbAt B w A1 A2 c1 c2 t) (hs : ∀ i, tbS A1 A2 i → w'.heap[i]? = w.heap[i]?) (hB : B ≤ B') : TbAt B' w' A1 A2 c1 c2 t :=
  ⟨h.cl.on (fun i hi => hs i (.inl hi)) hB, h.sp.on (fun i hi => hs i (.inr hi)) hB, h.l1, h.l2, h.m1, h.m2, h.fq, h.fc, h.fs⟩
/-- a list that is read through a slice's value -/
def SlI (B : Nat) (w : World) (v : Value) (l : List Int) : Prop := ∃ A c, v = .slice A l.length c ∧ l.length ≤ c ∧ c ≤ maxLen ∧ RowI B w A l
/-- the block of a slice's value -/
def blk (v : Value) (i : Nat) : Prop := ∃ o m n c, v = .slice (some ⟨i, o, m⟩) n c
theorem SlI.on {B B' : Nat} {w w' : World} {v : Value} {l : List Int} (h : SlI B w v l) (hs : ∀ i, blk v i → w'.heap[i]? = w.heap[i]?) (hB : B ≤ B') : SlI B' w' v l := by
  obtain ⟨A, c, rfl, h1, h2, h3⟩ := h
  exact ⟨A, c, rfl, h1, h2, h3.on (fun i ⟨o, m, e⟩ => hs i ⟨o, m, l.length, c, by rw [e]⟩) hB⟩
theorem SlI.nil (B : Nat) (w : World) : SlI B w (.slice none 0 0) [] := ⟨none, 0, rfl, Nat.le_refl _, Nat.zero_le _, fun k x h => by simp at h⟩
/-- the parts of the document's steer -/
structure RParts where
  A1 : Option Addr
  A2 : Option Addr
  c1 : Nat
  c2 : Nat
  L : Nat → Value
  fv : Value
  l : List SF
/-- the document's steer at block p -/
structure RAt (W : World) (rd own : Nat → Prop) (p : Nat) (s : SS) (N : Nat) (x : RParts) : Prop where
  box : Held W p 82 (stC s.t.q (.slice x.A1 s.t.cl.length x.c1) (.slice x.A2 s.t.sp.length x.c2) s.salt x.L x.fv)
  tab : TbAt W.heap.size W x.A1 x.A2 x.c1 x.c2 s.t
  lists : ∀ c, c < 64 → SlI W.heap.size W (x.L c) (s.maps c)
  row : W.ownsRow 0 89 3 x.fv x.l.length (sfCs x.l)
  fl : s.fl = flook x.l
  len : x.l.length ≤ N
  out : ∀ f, f ∈ x.l → 0 ≤ f.o ∧ f.o ≤ N ∧ I64 f.q ∧ 0 ≤ f.n ∧ f.n ≤ 4294967295
  salt : 0 ≤ s.salt ∧ s.salt ≤ 4294967295
  right : s.t.right = true
  m64 : ∀ c, c < 64 → (s.maps c).length ≤ 64 ∧ ∀ q, q ∈ s.maps c → 0 ≤ q ∧ q < 64
  op : own p
  of : ∀ i, x.fv.ownBlock = some i → own i ∧ i ≠ p
  rt : ∀ i, tbS x.A1 x.A2 i → rd i ∧ ¬ own i
  rl : ∀ c, c < 64 → ∀ i, blk (x.L c) i → rd i ∧ ¬ own i
  or : ∀ i, own i → rd i
  lt : ∀ i, rd i → i < W.heap.size
theorem row_same {w w' : World} {base : Nat} {ty : TypeId} {sz : Nat} {v : Value} {n : Nat} {xs : List Value} (h : w.ownsRow base ty sz v n xs) (hs : ∀ i, v.ownBlock = some i → w'.heap[i]? = w.heap[i]?) : w'.ownsRow base ty sz v n xs := by
  refine ⟨h.1, ?_⟩
  rcases h.2 with h1 | ⟨g, cap, cur, rfl, h1, h2, h3⟩
  · exact .inl h1
  · exact .inr ⟨g, cap, cur, rfl, h1, (hs g rfl).trans h2, h3⟩
/-- what changes nothing that the steer reads leaves it -/
theorem RAt.on {W W' : World} {rd own : Nat → Prop} {p : Nat} {s : SS} {N : Nat} {x : RParts} (h : RAt W rd own p s N x) (hs : ∀ i, rd i → W'.heap[i]? = W.heap[i]?) (hz : W.heap.size ≤ W'.heap.size) : RAt W' rd own p s N x :=
  { h with
    box := (hs p (h.or p h.op)).trans h.box
    tab := h.tab.on (fun i hi => hs i (h.rt i hi).1) hz
    lists := fun c hc => (h.lists c hc).on (fun i hi => hs i (h.rl c hc i hi).1) hz
    row := row_same h.row fun i hi => hs i (h.or i (h.of i hi).1)
    lt := fun i hi => Nat.lt_of_lt_of_le (h.lt i hi) hz }
theorem RAt.below {W W' : World} {rd own : Nat → Prop} {p : Nat} {s : SS} {N : Nat} {x : RParts} (h : RAt W rd own p s N x) (hb : Below W.heap.size W W') : RAt W' rd own p s N x := h.on (fun i hi => hb.block i (h.lt i hi)) hb.size
theorem RAt.plt {W : World} {rd own : Nat → Prop} {p : Nat} {s : SS} {N : Nat} {x : RParts} (h : RAt W rd own p s N x) : p < W.heap.size := h.box.lt
end Go.Proofs.Ytaoaapbbadipfaa
end
/- The document's has, in, at and Out of steers. Conditions: the steer lies where its pointer says. -/
section
namespace Go.Proofs.Ytaoaapbbadipfaa
set_option linter.unusedSimpArgs false
set_option linter.unusedVariables false
set_option maxRecDepth 100000
open Go.ChangeShapes Go.WideShapes Go.ChangeAt Go.RowKit

set_option maxHeartbeats 2000000 in
theorem has9_r (A : Option Addr) (n c : Nat) (xs : List Int) (x : Int) (w : World) (hl0 : xs.length = n) (hA : RowI w.heap.size w A xs) (hc : n ≤ c) (hm : c ≤ maxLen) :
    Calls Try.prog 45 #[.slice A n c, .int .i64 x] w fun e w' => e = .returned (.bool (decide (x ∈ xs))) ∧ Below w.heap.size w w' := by
  have HA := Lib.hid hA
  have HL := Lib.hid hl0
  unfold maxLen at hm
  clear hA hl0
  go_enter Try.func45, Try.ntmps45
  go_wp2
  go_loopw [5] (fun i wr => ∃ k : Nat, k ≤ n ∧ i = .int .i64 k ∧ (∀ y, y ∈ xs.take k → y ≠ x) ∧ wr = w) (fun i _ => n - (intOf i).toNat)
  case atStart => exact ⟨0, Nat.zero_le _, rfl, (fun y hy => by simp at hy), rfl⟩
  case round =>
    obtain ⟨k, hk, rfl, ha, rfl⟩ := hrel
    have HE := Lib.hid ha
    clear ha
    by_cases hlt : k < n
    · have hl : k < xs.length := by have := HL.out; omega
      obtain ⟨y, hy⟩ : ∃ y, xs[k]? = some y := ⟨xs[k], List.getElem?_eq_getElem hl⟩
      obtain ⟨g, o, rfl, _, h1⟩ := HA.out k y hy
      have HK := Lib.hid hy
      clear hl hy
      by_cases hx : y = x
      · have t1 : (y == x) = true := by simpa using hx
        have hm : decide (x ∈ xs) = true := decide_eq_true (by rw [← hx]; exact List.mem_of_getElem? HK.out)
        have HM := Lib.hid hm
        clear hm hx
        go_wp2
        go_ret
        exact ⟨by rw [HM.out]; rfl, Below.refl _ _⟩
      · have t1 : (y == x) = false := by simpa using hx
        have HX := Lib.hid hx
        clear hx
        go_wp2
        go_roundw
        case rel =>
          refine ⟨k + 1, by omega, by go_num, fun z hz => ?_, by first | rfl | trivial⟩
          rw [List.take_add_one, HK.out] at hz
          rcases List.mem_append.1 hz with h | h
          · exact HE.out z h
          · simp at h
            rw [h]
            exact HX.out
        case measure => simp [intOf]; omega
    · have hm : decide (x ∈ xs) = false := decide_eq_false (fun h => HE.out x (by rw [List.take_of_length_le (by have := HL.out; omega)]; exact h) rfl)
      have HM := Lib.hid hm
      clear hm
      go_wp2
      go_ret
      exact ⟨by rw [HM.out]; rfl, Below.refl _ _⟩
set_option maxHeartbeats 2000000 in
theorem in9_r (q : Int) (x : Int × Int) (hx : 0 ≤ x.1 ∧ x.1 ≤ 64 ∧ 0 ≤ x.2 ∧ x.2 ≤ 64) (w : World) : Calls Try.prog 46 #[.int .i64 q, .agg #[.int .i64 x.1, .int .i64 x.2]] w fun e w' => e = .returned (.bool (inS x q)) ∧ Below w.heap.size w w' := by
  obtain ⟨a, c⟩ := x
  obtain ⟨h1, h2, h3, h4⟩ := hx
  simp only at h1 h2 h3 h4 ⊢
  have H := Mem.start w
  by_cases hg : a ≤ q
  · have t1 : decide (a ≤ q) = true := decide_eq_true hg
    have hv : inS (a, c) q = decide (q < a + c) := by simp [inS, t1]
    rw [hv]
    clear hv
    go_enter Try.func46, Try.ntmps46
    go_upto_region 1 with (first
    | ((with_reducible show wpList _ _ _ _ _ (World.alloc _ (.cells _ _))); refine mem_newb H ?_; intro b w3 hbk H2; try rw [← hbk]; clear hbk H; have H := H2; clear H2; simp only [List.cons_append, List.nil_append, List.set_cons_zero, List.set_cons_succ, List.setIfInBounds_toArray] at H))
    go_wp2_with (first
      | ((with_reducible show wpList _ _ _ (⟨_, .load _ _, _, _, _, _⟩ :: _) _ _); refine mem_loadf (i := 0) H (by first | exact wanted_none rfl | exact wanted_some rfl rfl rfl rfl) (by exact rfl) (by exact rfl) (by exact rfl) (by first | exact Try.underlying3 | exact Try.underlying22 | exact Try.underlying29 | exact Try.underlying80) rfl (by exact rfl) ?_))
    go_ret
    exact ⟨rfl, H.below⟩
  · have t1 : decide (a ≤ q) = false := decide_eq_false hg
    have hv : inS (a, c) q = false := by simp [inS, t1]
    rw [hv]
    clear hv
    go_enter Try.func46, Try.ntmps46
    go_upto_region 1 with (first
    | ((with_reducible show wpList _ _ _ _ _ (World.alloc _ (.cells _ _))); refine mem_newb H ?_; intro b w3 hbk H2; try rw [← hbk]; clear hbk H; have H := H2; clear H2; simp only [List.cons_append, List.nil_append, List.set_cons_zero, List.set_cons_succ, List.setIfInBounds_toArray] at H))
    go_wp2_with (first
      | ((with_reducible show wpList _ _ _ (⟨_, .load _ _, _, _, _, _⟩ :: _) _ _); refine mem_loadf (i := 0) H (by first | exact wanted_none rfl | exact wanted_some rfl rfl rfl rfl) (by exact rfl) (by exact rfl) (by exact rfl) (by first | exact Try.underlying3 | exact Try.underlying22 | exact Try.underlying29 | exact Try.underlying80) rfl (by exact rfl) ?_))
    go_ret
    exact ⟨rfl, H.below⟩
theorem fat_hit {l : List SF} {n : Int} {k : Nat} {f : SF} (h : ∀ (j : Nat) (g : SF), j < k → l[j]? = some g → g.n ≠ n) (hk : l[k]? = some f) (hf : f.n = n) : fat l n = k := by
  obtain ⟨h1, h2⟩ := List.getElem?_eq_some_iff.1 hk
  unfold fat
  refine (List.findIdx_eq h1).2 ⟨by rw [h2, hf]; simp, fun j hj => ?_⟩
  have := h j _ hj (List.getElem?_eq_getElem (by omega))
  simpa using this
theorem fat_end {l : List SF} {n : Int} (h : ∀ (j : Nat) (g : SF), l[j]? = some g → g.n ≠ n) : fat l n = l.length := by
  unfold fat
  rw [List.findIdx_eq_length]
  intro f hf
  obtain ⟨j, hj⟩ := List.mem_iff_getElem?.1 hf
  simpa using h j f hj
/-- what is read of a steer -/
theorem RAt.cell {W : World} {rd own : Nat → Prop} {p : Nat} {s : SS} {N : Nat} {x : RParts} (h : RAt W rd own p s N x) : W.cell? ⟨p, 3, none⟩ = some (.int .u32 s.salt) ∧ W.cell? ⟨p, 68, none⟩ = some x.fv ∧ (∀ c, c < 64 → W.cell? ⟨p, 4 + c, none⟩ = some (x.L c)) ∧ W.cell? ⟨p, 0, none⟩ = some (.int .i64 s.t.q) ∧ W.cell? ⟨p, 1, none⟩ = some (.slice x.A1 s.t.cl.length x.c1) ∧ W.cell? ⟨p, 2, none⟩ = some (.slice x.A2 s.t.sp.length x.c2) :=
  ⟨(h.box.cell 3).trans rfl, (h.box.cell 68).trans (stC_fl _ _ _ _ _ _), fun c hc => (h.box.cell (4 + c)).trans (stC_map _ _ _ _ _ _ hc), (h.box.cell 0).trans rfl, (h.box.cell 1).trans rfl, (h.box.cell 2).trans rfl⟩
/-- the flows, read one by one -/
theorem RAt.flows {W : World} {rd own : Nat → Prop} {p : Nat} {s : SS} {N : Nat} {x : RParts} (h : RAt W rd own p s N x) : ∃ A cap, x.fv = .slice A x.l.length cap ∧ x.l.length ≤ cap ∧ cap ≤ maxLen ∧ ∀ k f, x.l[k]? = some f → ∃ g, A = some ⟨g, 0, none⟩ ∧ g < W.heap.size ∧ own g ∧ g ≠ p ∧ W.cell? ⟨g, k * 3, none⟩ = some (.int .u32 f.n) ∧ W.cell? ⟨g, k * 3 + 1, none⟩ = some (.int .i64 f.q) ∧ W.cell? ⟨g, k * 3 + 2, none⟩ = some (.int .i64 f.o) := by
  rcases h.row.2 with ⟨hv, h0⟩ | ⟨g, cap, cur, hv, hb, hh, h1, h2, h3⟩
  · refine ⟨none, 0, by rw [hv, h0], by omega, Nat.zero_le _, fun k f hk => ?_⟩
    have := (List.getElem?_eq_some_iff.1 hk).1
    omega
  · refine ⟨some ⟨g, 0, none⟩, cap, hv, h1, h2, fun k f hk => ⟨g, rfl, (Array.getElem?_eq_some_iff.1 hh).1, (h.of g (by rw [hv]; rfl)).1, (h.of g (by rw [hv]; rfl)).2, ?_⟩⟩
    have hr := h.row
    rw [hv] at hr
    have hk' := (List.getElem?_eq_some_iff.1 hk).1
    obtain ⟨e1, e2, e3⟩ := sfCs_get hk
    exact ⟨(World.ownsRow.cellAt hr _ (by omega)).trans e1, (World.ownsRow.cellAt hr _ (by omega)).trans e2, (World.ownsRow.cellAt hr _ (by omega)).trans e3⟩
theorem findex {l : List SF} {n : Int} {k : Nat} {f : SF} (hk : l[k]? = some f) (h : ∀ (j : Nat) (g : SF), j < k → l[j]? = some g → g.n ≠ n) (hf : f.n ≠ n) : ∀ (j : Nat) (g : SF), j < k + 1 → l[j]? = some g → g.n ≠ n := fun j g hj hg => by
  by_cases e : j = k
  · subst e
    rw [hk] at hg
    cases hg
    exact hf
  · exact h j g (by omega) hg
set_option maxHeartbeats 2000000 in
theorem at_r (W : World) (rd own : Nat → Prop) (p : Nat) (s : SS) (N : Nat) (x : RParts) (h : RAt W rd own p s N x) (hN : N ≤ 1000) (d : Hs.FV) (hd : d.Fits) : Calls Try.prog 35 #[.pointer (some ⟨p, 0, none⟩), Hs.fv d] W fun e w' => e = .returned (.int .i64 (fat x.l (hashI d s.salt) : Int)) ∧ Below W.heap.size W w' := by
  have H := Mem.start W
  have hp := h.plt
  obtain ⟨A, cap, hfv, hcap, hcm, hfl⟩ := h.flows
  have hlen := h.len
  obtain ⟨c3, c68, _⟩ := h.cell
  rw [hfv] at c68
  have ko := fun w => ofI_r d hd s.salt h.salt w
  have HF := Lib.hid hfl
  unfold maxLen at hcm
  obtain ⟨hh, hhe⟩ : ∃ v, hashI d s.salt = v := ⟨_, rfl⟩
  rw [hhe] at ko ⊢
  obtain ⟨n, hn⟩ : ∃ n, x.l.length = n := ⟨_, rfl⟩
  rw [hn] at c68 hcap hlen
  have HN := Lib.hid hn
  obtain ⟨z, hz⟩ : ∃ z, s.salt = z := ⟨_, rfl⟩
  rw [hz] at c3 ko
  clear h hd hfv hfl hn hhe hz
  go_enter Try.func35, Try.ntmps35
  go_upto_region 1 with (first
    | ((with_reducible show wpList _ _ _ _ _ (World.alloc _ (.cells _ _))); refine mem_newb H ?_; intro b w3 hbk H2; try rw [← hbk]; clear hbk H; have H := H2; clear H2; simp only [List.cons_append, List.nil_append, List.set_cons_zero, List.set_cons_succ, List.setIfInBounds_toArray] at H))
  refine region_mem H 7 rfl (by kernel_rfl) (fun wr hS => ?_)
  clear H
  refine wpAnyR_take (i := 0) (v := (.agg #[.int .u32 d.a, .int .u32 d.b, .int .u16 d.sp, .int .u16 d.dp, .int .u8 d.q])) rfl rfl (by kernel_rfl) (by kernel_rfl) (by kernel_rfl) (fun _ _ _ h => h) (Nat.le_refl _) (yields_held (fun w h => h.at 0 rfl) (by exact rfl) (by exact rfl) (by exact rfl) Try.underlying40 rfl (by exact Hs.flowInfo)) hS ?_
  simp only [List.getElem_toArray, List.getElem_cons_zero, List.getElem_cons_succ, Act.put, List.setIfInBounds_toArray, List.set_cons_zero, List.set_cons_succ]
  refine wpAnyR_take (i := 1) (v := (.pointer (some ⟨p, 0, none⟩))) rfl rfl (by kernel_rfl) (by kernel_rfl) (by kernel_rfl) (fun _ _ _ h => h) (Nat.le_refl _) ⟨by rfl, fun w _ => (by go_simp; try (first | rfl | omega)), fun _ => rfl⟩ hS ?_
  simp only [List.getElem_toArray, List.getElem_cons_zero, List.getElem_cons_succ, Act.put, List.setIfInBounds_toArray, List.set_cons_zero, List.set_cons_succ]
  refine wpAnyR_take (i := 2) (v := (.pointer (some ⟨p, 0, none⟩))) rfl rfl (by kernel_rfl) (by kernel_rfl) (by kernel_rfl) (fun _ _ _ h => h) (Nat.le_refl _) ⟨by rfl, fun w _ => (by go_simp; try (first | rfl | omega)), fun _ => rfl⟩ hS ?_
  simp only [List.getElem_toArray, List.getElem_cons_zero, List.getElem_cons_succ, Act.put, List.setIfInBounds_toArray, List.set_cons_zero, List.set_cons_succ]
  refine wpAnyR_take (i := 3) (v := (.pointer (some ⟨p, 3, none⟩))) rfl rfl (by kernel_rfl) (by kernel_rfl) (by kernel_rfl) (fun _ _ _ h => h) (Nat.le_refl _) ⟨by rfl, fun w _ => (by go_simp; try (first | rfl | omega)), fun _ => rfl⟩ hS ?_
  simp only [List.getElem_toArray, List.getElem_cons_zero, List.getElem_cons_succ, Act.put, List.setIfInBounds_toArray, List.set_cons_zero, List.set_cons_succ]
  refine wpAnyR_take (i := 4) (v := (.int .u32 z)) rfl rfl (by kernel_rfl) (by kernel_rfl) (by kernel_rfl) (fun _ _ _ h => h) (Nat.le_refl _) (yields_old c3 hp (by exact rfl) (by exact rfl) (by exact rfl) Try.underlying22 rfl) hS ?_
  simp only [List.getElem_toArray, List.getElem_cons_zero, List.getElem_cons_succ, Act.put, List.setIfInBounds_toArray, List.set_cons_zero, List.set_cons_succ]
  refine wpAnyG_one (i := 5) (by kernel_rfl) rfl (fun K hK => ?_)
  go_simp
  refine ⟨trivial, (callsIn_wide.2 (ko _)).mono ?_⟩
  rintro e w5 ⟨rfl, hb⟩
  have hS5 := hS.call hb
  refine hK _ _ (.inr hS5) ?_
  clear hK K hS hb
  have hS := hS5
  clear hS5
  try simp only [List.getElem_toArray, List.getElem_cons_zero, List.getElem_cons_succ, Act.put, List.setIfInBounds_toArray, List.set_cons_zero, List.set_cons_succ]
  refine wpAnyG_one (i := 6) (by kernel_rfl) rfl (fun K hK => ?_)
  go_simp
  refine hK _ _ (.inr hS) ?_
  clear hK K
  refine wpAnyG_done (by kernel_rfl) ?_ _
  have H := hS
  clear hS
  go_wp2
  go_loopw [6] (fun i wr => ∃ k : Nat, k ≤ n ∧ i = .int .i64 k ∧ Hid (∀ (j : Nat) (g : SF), j < k → x.l[j]? = some g → g.n ≠ hh) ∧ Mem W wr [(b, 40, #[.int .u32 d.a, .int .u32 d.b, .int .u16 d.sp, .int .u16 d.dp, .int .u8 d.q])]) (fun i _ => n - (intOf i).toNat)
  case atStart => exact ⟨0, Nat.zero_le _, rfl, Lib.hid (fun j g hj => by omega), H⟩
  case round =>
    clear H
    obtain ⟨k, hk, rfl, ha, H⟩ := hrel
    have q68 := (H.old (p := ⟨p, 68, none⟩) hp).trans c68
    by_cases hlt : k < n
    · obtain ⟨f, hf⟩ : ∃ f, x.l[k]? = some f := ⟨x.l[k]'(by have := HN.out; omega), List.getElem?_eq_getElem _⟩
      obtain ⟨g, rfl, hg, _, _, f0, _, _⟩ := HF.out k f hf
      have g0 := (H.old (p := ⟨g, k * 3, none⟩) hg).trans f0
      have HK := Lib.hid hf
      clear hf f0
      by_cases hx : f.n = hh
      · have t1 : (f.n == hh) = true := by simpa using hx
        have HE := Lib.hid (fat_hit ha.out HK.out hx)
        clear hx
        go_wp2
        go_ret
        exact ⟨by rw [HE.out]; rfl, H.below⟩
      · have t1 : (f.n == hh) = false := by simpa using hx
        have HE := Lib.hid (findex HK.out ha.out hx)
        clear hx
        go_wp2
        go_roundw
        case rel => exact ⟨k + 1, by omega, by go_num, HE, H⟩
        case measure => simp [intOf]; omega
    · obtain rfl : k = n := by omega
      have HE := Lib.hid (fat_end (l := x.l) (n := hh) fun j g hg => ha.out j g (by have := (List.getElem?_eq_some_iff.1 hg).1; have := HN.out; omega) hg)
      go_wp2
      go_ret
      exact ⟨by rw [HE.out, HN.out]; rfl, H.below⟩
end Go.Proofs.Ytaoaapbbadipfaa
end
/- The document's Candidates. Conditions: the steer lies where its pointer says. -/
section
namespace Go.Proofs.Ytaoaapbbadipfaa
set_option linter.unusedSimpArgs false
set_option linter.unusedVariables false
set_option maxRecDepth 100000
open Go.ChangeShapes Go.WideShapes Go.ChangeAt Go.RowKit

theorem filter_take {l : List Int} {k : Nat} {y : Int} (h : l[k]? = some y) (f : Int → Bool) : (l.take (k + 1)).filter f = (l.take k).filter f ++ (if f y = true then [y] else []) := by
  rw [List.take_add_one, h, List.filter_append]
  cases hf : f y <;> simp [hf]
theorem filter_len (l : List Int) (f : Int → Bool) (k : Nat) : ((l.take k).filter f).length ≤ k := by
  have := List.length_filter_le f (l.take k)
  have := List.length_take_le k l
  omega
/-- the first queues of a span -/
def allTo (X : Int) (j : Nat) : List Int := (List.range j).map fun i : Nat => X + (i : Int)
theorem allTo_next (X : Int) (j : Nat) : allTo X (j + 1) = allTo X j ++ [X + (j : Int)] := by simp [allTo, List.range_succ]
theorem allTo_len (X : Int) (j : Nat) : (allTo X j).length = j := by simp [allTo]
/-- the span of a priority that may be -/
theorem spn_ok {s : SS} (hr : s.t.right = true) {p : Int} (hp : 0 ≤ p ∧ p < 16) : s.t.spnV p = s.spn p ∧ s.t.clsE p = 0 ∧ ∃ X Y : Nat, s.spn p = ((X : Int), (Y : Int)) ∧ 1 ≤ Y ∧ (X : Int) + Y ≤ s.t.q ∧ s.t.q ≤ 64 := by
  have hk := (TB.right_iff s.t).1 hr
  obtain ⟨P, rfl⟩ := Int.eq_ofNat_of_zero_le hp.1
  obtain ⟨i, hx, hi, hs⟩ := hk.spanAt (k := P) (by omega)
  have hb := hk.s _ (List.mem_of_getElem? hs)
  have hq := hk.q
  obtain ⟨X, hX⟩ := Int.eq_ofNat_of_zero_le hb.1
  obtain ⟨Y, hY⟩ := Int.eq_ofNat_of_zero_le (show 0 ≤ (s.t.spAt P).2 by omega)
  refine ⟨?_, by rw [TB.clsE, if_pos hr, if_pos hp], X, Y, ?_, by omega, by omega, hq.2⟩
  · rw [TB.spnV, if_pos ⟨hr, hp⟩]
    rfl
  · rw [← hX, ← hY]
    rfl
set_option maxHeartbeats 2000000 in
theorem cand_no (W : World) (rd own : Nat → Prop) (p : Nat) (s : SS) (N : Nat) (x : RParts) (h : RAt W rd own p s N x) (pr c : Int) (hno : cOk pr c = false) : Calls Try.prog 26 #[.pointer (some ⟨p, 0, none⟩), .int .i64 pr, .int .i64 c] W (GivesInts W [] 2) := by
  have H := Mem.start W
  have hp := h.plt
  have T := Lib.hid h.tab
  obtain ⟨_, _, _, q0, q1, q2⟩ := h.cell
  have k1 := fun w h => spanOf_r x.A1 x.A2 x.c1 x.c2 s.t pr w h
  by_cases hpr : 0 ≤ pr ∧ pr < 16
  · obtain ⟨e1, e2, X, Y, e3, hY, hXY, hq⟩ := spn_ok h.right hpr
    rw [e1, e2, e3] at k1
    have hc : c < 0 ∨ 64 ≤ c := by
      simp only [cOk, Bool.and_eq_false_iff, decide_eq_false_iff_not] at hno
      omega
    clear h e1 e2 e3 hno hpr
    by_cases hc0 : c < 0
    · have t1 : decide (c < 0) = true := decide_eq_true hc0
      go_enter Try.func26, Try.ntmps26
      go_wp2_with (first
        | (go_at_call 24; with_reducible refine (k1 _ (T.out.mem H)).mono ?_; rintro e w2 ⟨rfl, hb⟩; have H2 := H.call hb; clear H hb; have H := H2; clear H2)
        | ((with_reducible show wpList _ _ _ _ _ (World.alloc _ (.cells _ _))); refine mem_new H ?_; intro w2 H2; clear H; have H := H2; clear H2; simp only [List.cons_append, List.nil_append, List.set_cons_zero, List.set_cons_succ, List.setIfInBounds_toArray] at H)
        | ((with_reducible show wpList _ _ _ (⟨_, .store 59 _ _, _, _, _, _⟩ :: _) _ _); refine mem_store (i := 0) H (by first | exact wanted_none rfl | exact wanted_some rfl rfl rfl rfl) (by exact rfl) (by exact rfl) (by exact rfl) (by exact rfl) (by exact spInfo) (by exact rfl) (by exact rfl) ?_; intro w2 H2; clear H; have H := H2; clear H2; simp only [List.cons_append, List.nil_append, List.set_cons_zero, List.set_cons_succ, List.setIfInBounds_toArray] at H))
      refine bodyPost_ret (results_two rfl _ _ _) rfl ?_
      exact ⟨_, rfl, World.ownsRow_nil _ _ _ _, H.below⟩
    · have t1 : decide (c < 0) = false := decide_eq_false hc0
      have t2 : decide (64 ≤ c) = true := decide_eq_true (by omega)
      go_enter Try.func26, Try.ntmps26
      go_wp2_with (first
        | (go_at_call 24; with_reducible refine (k1 _ (T.out.mem H)).mono ?_; rintro e w2 ⟨rfl, hb⟩; have H2 := H.call hb; clear H hb; have H := H2; clear H2)
        | ((with_reducible show wpList _ _ _ _ _ (World.alloc _ (.cells _ _))); refine mem_new H ?_; intro w2 H2; clear H; have H := H2; clear H2; simp only [List.cons_append, List.nil_append, List.set_cons_zero, List.set_cons_succ, List.setIfInBounds_toArray] at H)
        | ((with_reducible show wpList _ _ _ (⟨_, .store 59 _ _, _, _, _, _⟩ :: _) _ _); refine mem_store (i := 0) H (by first | exact wanted_none rfl | exact wanted_some rfl rfl rfl rfl) (by exact rfl) (by exact rfl) (by exact rfl) (by exact rfl) (by exact spInfo) (by exact rfl) (by exact rfl) ?_; intro w2 H2; clear H; have H := H2; clear H2; simp only [List.cons_append, List.nil_append, List.set_cons_zero, List.set_cons_succ, List.setIfInBounds_toArray] at H))
      refine bodyPost_ret (results_two rfl _ _ _) rfl ?_
      exact ⟨_, rfl, World.ownsRow_nil _ _ _ _, H.below⟩
  · have e1 : s.t.spnV pr = (0, 0) := if_neg (by omega)
    have e2 : s.t.clsE pr = 2 := by rw [TB.clsE, if_pos h.right, if_neg hpr]
    rw [e1, e2] at k1
    clear h e1 e2 hno hpr
    go_enter Try.func26, Try.ntmps26
    go_wp2_with (first
        | (go_at_call 24; with_reducible refine (k1 _ (T.out.mem H)).mono ?_; rintro e w2 ⟨rfl, hb⟩; have H2 := H.call hb; clear H hb; have H := H2; clear H2)
        | ((with_reducible show wpList _ _ _ _ _ (World.alloc _ (.cells _ _))); refine mem_new H ?_; intro w2 H2; clear H; have H := H2; clear H2; simp only [List.cons_append, List.nil_append, List.set_cons_zero, List.set_cons_succ, List.setIfInBounds_toArray] at H)
        | ((with_reducible show wpList _ _ _ (⟨_, .store 59 _ _, _, _, _, _⟩ :: _) _ _); refine mem_store (i := 0) H (by first | exact wanted_none rfl | exact wanted_some rfl rfl rfl rfl) (by exact rfl) (by exact rfl) (by exact rfl) (by exact rfl) (by exact spInfo) (by exact rfl) (by exact rfl) ?_; intro w2 H2; clear H; have H := H2; clear H2; simp only [List.cons_append, List.nil_append, List.set_cons_zero, List.set_cons_succ, List.setIfInBounds_toArray] at H))
    refine bodyPost_ret (results_two rfl _ _ _) rfl ?_
    exact ⟨_, rfl, World.ownsRow_nil _ _ _ _, H.below⟩
set_option maxHeartbeats 2000000 in
theorem cand_yes (W : World) (rd own : Nat → Prop) (p : Nat) (s : SS) (N : Nat) (x : RParts) (h : RAt W rd own p s N x) (pr : Int) (hpr : 0 ≤ pr ∧ pr < 16) (C : Nat) (hC : C < 64) : Calls Try.prog 26 #[.pointer (some ⟨p, 0, none⟩), .int .i64 pr, .int .i64 (C : Int)] W (GivesInts W (s.cand pr (C : Int)) 0) := by
  have H := Mem.start W
  have hp := h.plt
  have T := Lib.hid h.tab
  obtain ⟨_, _, hL, q0, q1, q2⟩ := h.cell
  have k1 := fun w h => spanOf_r x.A1 x.A2 x.c1 x.c2 s.t pr w h
  obtain ⟨e1, e2, X0, Y0, e3, hY, hXY, hq⟩ := spn_ok h.right hpr
  rw [e1, e2, e3] at k1
  have hce : s.cand pr (C : Int) = candL (s.maps C) ((X0 : Int), (Y0 : Int)) := by rw [SS.cand, e3, Int.toNat_natCast]
  rw [hce]
  obtain ⟨A, cap, hA, hcap, hcm, hrow⟩ := h.lists C hC
  have h64 := (h.m64 C hC).1
  have qL0 := hL C hC
  rw [hA] at qL0
  obtain ⟨l, hl⟩ : ∃ l, s.maps C = l := ⟨_, rfl⟩
  rw [hl] at qL0 hcap hrow h64 ⊢
  obtain ⟨n, hn⟩ : ∃ n, l.length = n := ⟨_, rfl⟩
  rw [hn] at qL0 hcap h64
  have HN := Lib.hid hn
  have HR := Lib.hid hrow
  unfold maxLen at hcm
  obtain ⟨i0, hi, hz0, hz1, hz2⟩ := infoInt_parts
  clear h e1 e2 e3 hce hL hA hl hn hrow hpr
  obtain ⟨X, hX⟩ : ∃ X : Int, (X0 : Int) = X := ⟨_, rfl⟩
  obtain ⟨Y, hYe⟩ : ∃ Y : Int, (Y0 : Int) = Y := ⟨_, rfl⟩
  have hb : 0 ≤ X ∧ X ≤ 64 ∧ 1 ≤ Y ∧ Y ≤ 64 ∧ X + Y ≤ 64 := by omega
  have HY := Lib.hid hYe
  rw [hX, hYe] at k1 ⊢
  clear hX hYe hY hXY hq
  have ki0 := fun (y : Int) w => in9_r y (X, Y) (by simp only; omega) w
  go_enter Try.func26, Try.ntmps26
  go_upto_region 4 with (first
    | (go_at_call 24; with_reducible refine (k1 _ (T.out.mem H)).mono ?_; rintro e w2 ⟨rfl, hb⟩; have H2 := H.call hb; clear H hb; have H := H2; clear H2)
    | ((with_reducible show wpList _ _ _ _ _ (World.alloc _ (.cells _ _))); refine mem_newb (l := []) H ?_; intro bs w3 hbk H2; try rw [← hbk]; clear hbk H; have H := H2; clear H2; simp only [List.cons_append, List.nil_append, List.set_cons_zero, List.set_cons_succ, List.setIfInBounds_toArray] at H)
    | ((with_reducible show wpList _ _ _ (⟨_, .store 59 _ _, _, _, _, _⟩ :: _) _ _); refine mem_store (i := 0) H (by first | exact wanted_none rfl | exact wanted_some rfl rfl rfl rfl) (by exact rfl) (by exact rfl) (by exact rfl) (by exact rfl) (by exact spInfo) (by exact rfl) (by exact rfl) ?_; intro w2 H2; clear H; have H := H2; clear H2; simp only [List.cons_append, List.nil_append, List.set_cons_zero, List.set_cons_succ, List.setIfInBounds_toArray] at H))
  go_wp2_with fail
  have hbs := (H.at 0 rfl).lt
  have hsz := H.below.size
  obtain ⟨B, hBq⟩ : ∃ B, w2.heap.size = B := ⟨_, rfl⟩
  have R : w2.ownsRow B 3 1 (.slice none 0 0) ((l.take 0).filter (inS (X, Y))).length (ints ((l.take 0).filter (inS (X, Y)))) := World.ownsRow_nil w2 B 3 1
  have hB2 : B ≤ w2.heap.size := by omega
  have hbB : bs < B ∧ W.heap.size ≤ B := by omega
  clear hBq hbs hsz k1 q0 q1 q2
  go_loopw [10, 11] (fun v i wr => ∃ k : Nat, k ≤ n ∧ i = .int .i64 k ∧ wr.ownsRow B 3 1 v ((l.take k).filter (inS (X, Y))).length (ints ((l.take k).filter (inS (X, Y)))) ∧ B ≤ wr.heap.size ∧ Mem W wr [(bs, 59, #[.int .i64 X, .int .i64 Y])]) (fun _ i _ => n - (intOf i).toNat)
  case atStart => exact ⟨0, Nat.zero_le _, rfl, R, hB2, H⟩
  case round =>
    clear H R hB2
    obtain ⟨k, hk, rfl, R, hB2, H⟩ := hrel
    have qL := (H.old (p := ⟨p, 4 + C, none⟩) hp).trans qL0
    by_cases hlt : k < n
    · have hLk := filter_len l (inS (X, Y)) k
      obtain ⟨y, hy⟩ : ∃ y, l[k]? = some y := ⟨l[k]'(by have := HN.out; omega), List.getElem?_eq_getElem _⟩
      obtain ⟨g, o, rfl, hg, qk0⟩ := HR.out k y hy
      have qk := (H.old (p := ⟨g, o + k, none⟩) hg).trans qk0
      have hpw : p < wr.heap.size := Nat.lt_of_lt_of_le hp H.below.size
      have hgw : g < wr.heap.size := Nat.lt_of_lt_of_le hg H.below.size
      have HFT := Lib.hid (filter_take hy (inS (X, Y)))
      have ki := fun w => ki0 y w
      clear hy qk0
      rcases hin : inS (X, Y) y with _ | _
      all_goals
        rw [hin] at ki HFT
        clear hin
      · go_wp2
        have HB := Lib.hid (H.at 0 rfl)
        have HH := Lib.hid H
        clear H
        have qL0 := qL
        have qd := qk
        refine region_mem (Mem.start wr) 11 rfl (by kernel_rfl) (fun wr2 hS => ?_)
        refine wpAnyR_take (i := 0) (v := (.pointer (some ⟨p, 0, none⟩))) rfl rfl (by kernel_rfl) (by kernel_rfl) (by kernel_rfl) (fun _ _ _ h => h) (Nat.le_refl _) ⟨by rfl, fun w _ => (by go_simp; try (first | rfl | omega)), fun _ => rfl⟩ hS ?_
        simp only [List.getElem_toArray, List.getElem_cons_zero, List.getElem_cons_succ, Act.put, List.setIfInBounds_toArray, List.set_cons_zero, List.set_cons_succ]
        refine wpAnyR_take (i := 1) (v := (.int .i64 (C : Int))) rfl rfl (by kernel_rfl) (by kernel_rfl) (by kernel_rfl) (fun _ _ _ h => h) (Nat.le_refl _) ⟨by rfl, fun w _ => (by go_simp; try (first | rfl | omega)), fun _ => rfl⟩ hS ?_
        simp only [List.getElem_toArray, List.getElem_cons_zero, List.getElem_cons_succ, Act.put, List.setIfInBounds_toArray, List.set_cons_zero, List.set_cons_succ]
        refine wpAnyR_take (i := 2) (v := (.pointer (some ⟨p, 0, none⟩))) rfl rfl (by kernel_rfl) (by kernel_rfl) (by kernel_rfl) (fun _ _ _ h => h) (Nat.le_refl _) ⟨by rfl, fun w _ => (by go_simp; try (first | rfl | omega)), fun _ => rfl⟩ hS ?_
        simp only [List.getElem_toArray, List.getElem_cons_zero, List.getElem_cons_succ, Act.put, List.setIfInBounds_toArray, List.set_cons_zero, List.set_cons_succ]
        refine wpAnyR_take (i := 3) (v := (.pointer (some ⟨p, 4, none⟩))) rfl rfl (by kernel_rfl) (by kernel_rfl) (by kernel_rfl) (fun _ _ _ h => h) (Nat.le_refl _) ⟨by rfl, fun w _ => (by go_simp; try (first | rfl | omega)), fun _ => rfl⟩ hS ?_
        simp only [List.getElem_toArray, List.getElem_cons_zero, List.getElem_cons_succ, Act.put, List.setIfInBounds_toArray, List.set_cons_zero, List.set_cons_succ]
        refine wpAnyR_take (i := 4) (v := (.pointer (some ⟨p, 4 + C, none⟩))) rfl rfl (by kernel_rfl) (by kernel_rfl) (by kernel_rfl) (fun _ _ _ h => h) (Nat.le_refl _) ⟨by rfl, fun w _ => (by go_simp; try (first | rfl | omega)), fun _ => rfl⟩ hS ?_
        simp only [List.getElem_toArray, List.getElem_cons_zero, List.getElem_cons_succ, Act.put, List.setIfInBounds_toArray, List.set_cons_zero, List.set_cons_succ]
        refine wpAnyR_take (i := 5) (v := (.slice (some ⟨g, o, none⟩) n cap)) rfl rfl (by kernel_rfl) (by kernel_rfl) (by kernel_rfl) (fun _ _ _ h => h) (Nat.le_refl _) (yields_old qL hpw (by exact rfl) (by exact rfl) (by exact rfl) Try.underlying29 rfl) hS ?_
        simp only [List.getElem_toArray, List.getElem_cons_zero, List.getElem_cons_succ, Act.put, List.setIfInBounds_toArray, List.set_cons_zero, List.set_cons_succ]
        refine wpAnyR_take (i := 6) (v := (.int .i64 (k : Int))) rfl rfl (by kernel_rfl) (by kernel_rfl) (by kernel_rfl) (fun _ _ _ h => h) (Nat.le_refl _) ⟨by rfl, fun w _ => (by go_simp; try (first | rfl | omega)), fun _ => rfl⟩ hS ?_
        simp only [List.getElem_toArray, List.getElem_cons_zero, List.getElem_cons_succ, Act.put, List.setIfInBounds_toArray, List.set_cons_zero, List.set_cons_succ]
        refine wpAnyR_take (i := 7) (v := (.pointer (some ⟨g, o + k, none⟩))) rfl rfl (by kernel_rfl) (by kernel_rfl) (by kernel_rfl) (fun _ _ _ h => h) (Nat.le_refl _) ⟨by rfl, fun w _ => (by go_simp; try (first | rfl | omega)), fun _ => rfl⟩ hS ?_
        simp only [List.getElem_toArray, List.getElem_cons_zero, List.getElem_cons_succ, Act.put, List.setIfInBounds_toArray, List.set_cons_zero, List.set_cons_succ]
        refine wpAnyR_take (i := 8) (v := (.int .i64 y)) rfl rfl (by kernel_rfl) (by kernel_rfl) (by kernel_rfl) (fun _ _ _ h => h) (Nat.le_refl _) (yields_old qk hgw (by exact rfl) (by exact rfl) (by exact rfl) Try.underlying3 rfl) hS ?_
        simp only [List.getElem_toArray, List.getElem_cons_zero, List.getElem_cons_succ, Act.put, List.setIfInBounds_toArray, List.set_cons_zero, List.set_cons_succ]
        refine wpAnyR_take (i := 9) (v := (.agg #[.int .i64 X, .int .i64 Y])) rfl rfl (by kernel_rfl) (by kernel_rfl) (by kernel_rfl) (fun _ _ _ h => h) (Nat.le_refl _) (yields_held (fun w h => (HB.out.below (Mem.below h) HB.out.lt)) (by exact rfl) (by exact rfl) (by exact rfl) Try.underlying59 rfl (by exact spInfo)) hS ?_
        simp only [List.getElem_toArray, List.getElem_cons_zero, List.getElem_cons_succ, Act.put, List.setIfInBounds_toArray, List.set_cons_zero, List.set_cons_succ]
        refine wpAnyG_one (i := 10) (by kernel_rfl) rfl (fun K hK => ?_)
        go_simp
        refine ⟨trivial, (callsIn_wide.2 (ki _)).mono ?_⟩
        rintro e w5 ⟨rfl, hb⟩
        have hS5 := hS.call hb
        refine hK _ _ (.inr hS5) ?_
        clear hK K hS hb
        have hS := hS5
        clear hS5
        refine wpAnyG_done (by kernel_rfl) ?_ _
        have H := HH.out.call hS.below
        have R2 := row_call R hS.below
        have hz5 := hS.below.size
        have qL1 : w5.cell? ⟨p, 4 + C, none⟩ = some (.slice (some ⟨g, o, none⟩) n cap) := (hS.below.cell (p := ⟨p, 4 + C, none⟩) hpw).trans qL
        have qk1 : w5.cell? ⟨g, o + k, none⟩ = some (.int .i64 y) := (hS.below.cell (p := ⟨g, o + k, none⟩) hgw).trans qk
        clear R hS HB qL qk qL0 qd
        have R := R2
        have qL := qL1
        have qk := qk1
        clear R2 qL1 qk1
        go_wp2
        go_roundw
        case rel => exact ⟨k + 1, by omega, by go_num, by rw [HFT.out]; simpa using R, by omega, H⟩
        case measure => simp [intOf]; omega
      · go_wp2
        have HB := Lib.hid (H.at 0 rfl)
        have HH := Lib.hid H
        clear H
        have qL0 := qL
        have qd := qk
        refine region_mem (Mem.start wr) 11 rfl (by kernel_rfl) (fun wr2 hS => ?_)
        refine wpAnyR_take (i := 0) (v := (.pointer (some ⟨p, 0, none⟩))) rfl rfl (by kernel_rfl) (by kernel_rfl) (by kernel_rfl) (fun _ _ _ h => h) (Nat.le_refl _) ⟨by rfl, fun w _ => (by go_simp; try (first | rfl | omega)), fun _ => rfl⟩ hS ?_
        simp only [List.getElem_toArray, List.getElem_cons_zero, List.getElem_cons_succ, Act.put, List.setIfInBounds_toArray, List.set_cons_zero, List.set_cons_succ]
        refine wpAnyR_take (i := 1) (v := (.int .i64 (C : Int))) rfl rfl (by kernel_rfl) (by kernel_rfl) (by kernel_rfl) (fun _ _ _ h => h) (Nat.le_refl _) ⟨by rfl, fun w _ => (by go_simp; try (first | rfl | omega)), fun _ => rfl⟩ hS ?_
        simp only [List.getElem_toArray, List.getElem_cons_zero, List.getElem_cons_succ, Act.put, List.setIfInBounds_toArray, List.set_cons_zero, List.set_cons_succ]
        refine wpAnyR_take (i := 2) (v := (.pointer (some ⟨p, 0, none⟩))) rfl rfl (by kernel_rfl) (by kernel_rfl) (by kernel_rfl) (fun _ _ _ h => h) (Nat.le_refl _) ⟨by rfl, fun w _ => (by go_simp; try (first | rfl | omega)), fun _ => rfl⟩ hS ?_
        simp only [List.getElem_toArray, List.getElem_cons_zero, List.getElem_cons_succ, Act.put, List.setIfInBounds_toArray, List.set_cons_zero, List.set_cons_succ]
        refine wpAnyR_take (i := 3) (v := (.pointer (some ⟨p, 4, none⟩))) rfl rfl (by kernel_rfl) (by kernel_rfl) (by kernel_rfl) (fun _ _ _ h => h) (Nat.le_refl _) ⟨by rfl, fun w _ => (by go_simp; try (first | rfl | omega)), fun _ => rfl⟩ hS ?_
        simp only [List.getElem_toArray, List.getElem_cons_zero, List.getElem_cons_succ, Act.put, List.setIfInBounds_toArray, List.set_cons_zero, List.set_cons_succ]
        refine wpAnyR_take (i := 4) (v := (.pointer (some ⟨p, 4 + C, none⟩))) rfl rfl (by kernel_rfl) (by kernel_rfl) (by kernel_rfl) (fun _ _ _ h => h) (Nat.le_refl _) ⟨by rfl, fun w _ => (by go_simp; try (first | rfl | omega)), fun _ => rfl⟩ hS ?_
        simp only [List.getElem_toArray, List.getElem_cons_zero, List.getElem_cons_succ, Act.put, List.setIfInBounds_toArray, List.set_cons_zero, List.set_cons_succ]
        refine wpAnyR_take (i := 5) (v := (.slice (some ⟨g, o, none⟩) n cap)) rfl rfl (by kernel_rfl) (by kernel_rfl) (by kernel_rfl) (fun _ _ _ h => h) (Nat.le_refl _) (yields_old qL hpw (by exact rfl) (by exact rfl) (by exact rfl) Try.underlying29 rfl) hS ?_
        simp only [List.getElem_toArray, List.getElem_cons_zero, List.getElem_cons_succ, Act.put, List.setIfInBounds_toArray, List.set_cons_zero, List.set_cons_succ]
        refine wpAnyR_take (i := 6) (v := (.int .i64 (k : Int))) rfl rfl (by kernel_rfl) (by kernel_rfl) (by kernel_rfl) (fun _ _ _ h => h) (Nat.le_refl _) ⟨by rfl, fun w _ => (by go_simp; try (first | rfl | omega)), fun _ => rfl⟩ hS ?_
        simp only [List.getElem_toArray, List.getElem_cons_zero, List.getElem_cons_succ, Act.put, List.setIfInBounds_toArray, List.set_cons_zero, List.set_cons_succ]
        refine wpAnyR_take (i := 7) (v := (.pointer (some ⟨g, o + k, none⟩))) rfl rfl (by kernel_rfl) (by kernel_rfl) (by kernel_rfl) (fun _ _ _ h => h) (Nat.le_refl _) ⟨by rfl, fun w _ => (by go_simp; try (first | rfl | omega)), fun _ => rfl⟩ hS ?_
        simp only [List.getElem_toArray, List.getElem_cons_zero, List.getElem_cons_succ, Act.put, List.setIfInBounds_toArray, List.set_cons_zero, List.set_cons_succ]
        refine wpAnyR_take (i := 8) (v := (.int .i64 y)) rfl rfl (by kernel_rfl) (by kernel_rfl) (by kernel_rfl) (fun _ _ _ h => h) (Nat.le_refl _) (yields_old qk hgw (by exact rfl) (by exact rfl) (by exact rfl) Try.underlying3 rfl) hS ?_
        simp only [List.getElem_toArray, List.getElem_cons_zero, List.getElem_cons_succ, Act.put, List.setIfInBounds_toArray, List.set_cons_zero, List.set_cons_succ]
        refine wpAnyR_take (i := 9) (v := (.agg #[.int .i64 X, .int .i64 Y])) rfl rfl (by kernel_rfl) (by kernel_rfl) (by kernel_rfl) (fun _ _ _ h => h) (Nat.le_refl _) (yields_held (fun w h => (HB.out.below (Mem.below h) HB.out.lt)) (by exact rfl) (by exact rfl) (by exact rfl) Try.underlying59 rfl (by exact spInfo)) hS ?_
        simp only [List.getElem_toArray, List.getElem_cons_zero, List.getElem_cons_succ, Act.put, List.setIfInBounds_toArray, List.set_cons_zero, List.set_cons_succ]
        refine wpAnyG_one (i := 10) (by kernel_rfl) rfl (fun K hK => ?_)
        go_simp
        refine ⟨trivial, (callsIn_wide.2 (ki _)).mono ?_⟩
        rintro e w5 ⟨rfl, hb⟩
        have hS5 := hS.call hb
        refine hK _ _ (.inr hS5) ?_
        clear hK K hS hb
        have hS := hS5
        clear hS5
        refine wpAnyG_done (by kernel_rfl) ?_ _
        have H := HH.out.call hS.below
        have R2 := row_call R hS.below
        have hz5 := hS.below.size
        have qL1 : w5.cell? ⟨p, 4 + C, none⟩ = some (.slice (some ⟨g, o, none⟩) n cap) := (hS.below.cell (p := ⟨p, 4 + C, none⟩) hpw).trans qL
        have qk1 : w5.cell? ⟨g, o + k, none⟩ = some (.int .i64 y) := (hS.below.cell (p := ⟨g, o + k, none⟩) hgw).trans qk
        clear R hS HB qL qk qL0 qd
        have R := R2
        have qL := qL1
        have qk := qk1
        clear R2 qL1 qk1
        go_wp2_with (first
          | ((with_reducible show wpList _ _ _ (⟨_, .load _ _, _, _, _, _⟩ :: _) _ _); refine mem_loadf (i := 0) H (by first | exact wanted_none rfl | exact wanted_some rfl rfl rfl rfl) (by exact rfl) (by exact rfl) (by exact rfl) Try.underlying3 rfl (by exact rfl) ?_)
          | (at_builtin; refine wpList_append_own _ rfl _ _ 29 rfl B 3 i0 (.int .i64 0) 1 8 Try.underlying29 hi hz0 hz1 hz2 rfl (by decide) _ _ _ rfl (R.alloc _) ⟨w5.heap.size, 0, none⟩ 1 1 [.int .i64 y] rfl rfl (cell_one_new _ _ _) (by simp [Value.oneCell']) (by simp [maxLen]; omega) (by omega) (by simp; omega) ?_; intro v' w1 hown' hgrow _))
        have hrl := row_lt R
        have H4 : Mem W w1 _ := (H.skip _).grown hgrow (fun r hr => (hrl r hr).1) (fun p hp => by rw [List.mem_singleton.1 hp]; exact hbB.1) hbB.2
        have hB3 : B ≤ w1.heap.size := by have := hgrow.size; simp at this; omega
        go_roundw
        case rel => exact ⟨k + 1, by omega, by go_num, by rw [HFT.out, if_pos trivial, List.length_append]; simpa [ints] using hown', hB3, H4⟩
        case measure => simp [intOf]; omega
    · obtain rfl : k = n := by omega
      have hfl : (l.take k).filter (inS (X, Y)) = l.filter (inS (X, Y)) := by rw [List.take_of_length_le (by have := HN.out; omega)]
      have h70 : (l.filter (inS (X, Y))).length ≤ 64 := by
        have := filter_len l (inS (X, Y)) k
        rw [hfl] at this
        omega
      rw [hfl] at R
      clear hfl
      obtain ⟨m, hm⟩ : ∃ m, (l.filter (inS (X, Y))).length = m := ⟨_, rfl⟩
      obtain ⟨fl, hfl⟩ : ∃ fl, l.filter (inS (X, Y)) = fl := ⟨_, rfl⟩
      have HCL := Lib.hid (show candL l (X, Y) = if fl.length = 0 then allQ (X, Y) else fl by rw [candL, hfl])
      rw [hfl] at hm R
      rw [hm] at R
      obtain ⟨a0, c0, rfl⟩ := ownsRow_len R
      have hcl : candL l (X, Y) = if m = 0 then allQ (X, Y) else fl := by rw [HCL.out, hm]
      rw [hfl, hm] at h70
      have HM := Lib.hid hm
      clear hfl hm HCL
      by_cases hm0 : m = 0
      · subst hm0
        rw [if_pos rfl] at hcl
        have HC := Lib.hid hcl
        have R0 : wr.ownsRow B 3 1 (.slice a0 0 c0) (allTo X 0).length (ints (allTo X 0)) := by
          have e : fl = [] := List.eq_nil_of_length_eq_zero HM.out
          rw [e] at R
          exact R
        clear R hcl
        have R := R0
        clear R0
        go_wp2_with (first
          | ((with_reducible show wpList _ _ _ (⟨_, .load _ _, _, _, _, _⟩ :: _) _ _); refine mem_loadf (i := 0) H (by first | exact wanted_none rfl | exact wanted_some rfl rfl rfl rfl) (by exact rfl) (by exact rfl) (by exact rfl) (by first | exact Try.underlying3 | exact Try.underlying22 | exact Try.underlying29 | exact Try.underlying80) rfl (by exact rfl) ?_))
        go_loopw [10, 12] (fun v i wr => ∃ j : Nat, (j : Int) ≤ Y ∧ i = .int .i64 (X + j) ∧ wr.ownsRow B 3 1 v (allTo X j).length (ints (allTo X j)) ∧ B ≤ wr.heap.size ∧ Mem W wr [(bs, 59, #[.int .i64 X, .int .i64 Y])]) (fun _ i _ => (X + Y).toNat - (intOf i).toNat)
        case atStart => exact ⟨0, by omega, by simp, R, hB2, H⟩
        case round =>
          clear H R hB2
          obtain ⟨j, hj, rfl, R, hB2, H⟩ := hrel
          have hLk := allTo_len X j
          by_cases hlj : (j : Int) < Y
          · have t1 : decide (X + (j : Int) < X + Y) = true := decide_eq_true (by omega)
            go_wp2_with (first
              | ((with_reducible show wpList _ _ _ (⟨_, .load _ _, _, _, _, _⟩ :: _) _ _); refine mem_loadf (i := 0) H (by first | exact wanted_none rfl | exact wanted_some rfl rfl rfl rfl) (by exact rfl) (by exact rfl) (by exact rfl) (by first | exact Try.underlying3 | exact Try.underlying22 | exact Try.underlying29 | exact Try.underlying80) rfl (by exact rfl) ?_)
              | ((with_reducible show wpList _ _ _ (⟨_, .load _ _, _, _, _, _⟩ :: _) _ _); refine mem_loadf (i := 0) H (by first | exact wanted_none rfl | exact wanted_some rfl rfl rfl rfl) (by exact rfl) (by exact rfl) (by exact rfl) Try.underlying3 rfl (by exact rfl) ?_)
              | (at_builtin; refine wpList_append_own _ rfl _ _ 29 rfl B 3 i0 (.int .i64 0) 1 8 Try.underlying29 hi hz0 hz1 hz2 rfl (by decide) _ _ _ rfl (R.alloc _) ⟨wr.heap.size, 0, none⟩ 1 1 [.int .i64 (X + (j : Int))] rfl rfl (cell_one_new _ _ _) (by simp [Value.oneCell']) (by simp [maxLen]; omega) (by omega) (by simp; omega) ?_; intro v' w1 hown' hgrow _))
            have hrl := row_lt R
            have H4 : Mem W w1 _ := (H.skip _).grown hgrow (fun r hr => (hrl r hr).1) (fun p hp => by rw [List.mem_singleton.1 hp]; exact hbB.1) hbB.2
            have hB3 : B ≤ w1.heap.size := by have := hgrow.size; simp at this; omega
            go_roundw
            case rel => exact ⟨j + 1, by omega, by go_num, by rw [allTo_next, List.length_append]; simpa [ints] using hown', hB3, H4⟩
            case measure => simp [intOf]; omega
          · have t1 : decide (X + (j : Int) < X + Y) = false := decide_eq_false (by omega)
            have e : candL l (X, Y) = allTo X j := by
              rw [HC.out, allQ, allTo]
              simp only
              rw [show Y.toNat = j by omega]
            have HE := Lib.hid e
            clear e
            go_wp2_with (first
              | ((with_reducible show wpList _ _ _ (⟨_, .load _ _, _, _, _, _⟩ :: _) _ _); refine mem_loadf (i := 0) H (by first | exact wanted_none rfl | exact wanted_some rfl rfl rfl rfl) (by exact rfl) (by exact rfl) (by exact rfl) (by first | exact Try.underlying3 | exact Try.underlying22 | exact Try.underlying29 | exact Try.underlying80) rfl (by exact rfl) ?_))
            refine bodyPost_ret (results_two rfl _ _ _) rfl ?_
            exact ⟨_, rfl, by rw [HE.out]; exact row_base R hbB.2, H.below⟩
      · rw [if_neg hm0] at hcl
        have HC := Lib.hid hcl
        have t1 : decide (0 < (m : Int)) = true := decide_eq_true (by omega)
        clear hcl
        go_wp2
        refine bodyPost_ret (results_two rfl _ _ _) rfl ?_
        exact ⟨_, rfl, by rw [HC.out, HM.out]; exact row_base R hbB.2, H.below⟩
theorem cand_r (W : World) (rd own : Nat → Prop) (p : Nat) (s : SS) (N : Nat) (x : RParts) (h : RAt W rd own p s N x) (pr c : Int) : Calls Try.prog 26 #[.pointer (some ⟨p, 0, none⟩), .int .i64 pr, .int .i64 c] W (GivesInts W (s.candV pr c) (SS.candE pr c)) := by
  rcases hc : cOk pr c with _ | _
  · rw [SS.candV, SS.candE, hc]
    exact cand_no W rd own p s N x h pr c hc
  · rw [SS.candV, SS.candE, hc]
    simp only [cOk, Bool.and_eq_true, decide_eq_true_eq] at hc
    obtain ⟨C, rfl⟩ := Int.eq_ofNat_of_zero_le hc.1.2
    exact cand_yes W rd own p s N x h pr hc.1.1 C (by omega)
end Go.Proofs.Ytaoaapbbadipfaa
end
