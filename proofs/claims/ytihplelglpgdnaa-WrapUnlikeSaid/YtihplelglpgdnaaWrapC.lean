/-
  The contract of the iterator that wrap.around hands back: it gives the index and the slot of each of the ring's places, one round, until a round says 'no more'. Conditions: the boxes that it reads hold a size and an index, and each round leaves them as they are.
-/
import Derived.RangeFuncNested
import Derived.RangeFuncBound
import Derived.RangeFuncCalls
import Derived.RangeFuncLeaves
import Derived.Shelf.Abstract
import Derived.Shelf.RegionOpen
import Derived.OwnWalkIn
import Derived.TacticsInMore
import Derived.LoopNIn
import Derived.LoopIn
import Derived.Maps.AppendAt
import Derived.WalkMore
import Derived.Test.YtihplelglpgdnaaWrapA
namespace Go.Proofs.Ytihplelglpgdnaa
open Go.ChangeShapes Go.WideShapes Go.ChangeAt Go.RowKit Go.Shelf
attribute [local go_sem] Oper.semAt_some

/-- what a round keeps: every block below n but block b lies as it lay -/
def KeepsBut (n b : Nat) (W W' : World) : Prop := ∀ k, k < n → k ≠ b → W'.heap[k]? = W.heap[k]?
theorem KeepsBut.refl (n b : Nat) (W : World) : KeepsBut n b W W := fun _ _ _ => rfl
theorem KeepsBut.trans {n b : Nat} {A B C : World} (h : KeepsBut n b A B) (k : KeepsBut n b B C) : KeepsBut n b A C := fun i hi hb => (k i hi hb).trans (h i hi hb)
theorem KeepsBut.put {n b : Nat} {w : World} (hn : n ≤ w.heap.size) (W : World) (l : Nat) (o o' : Obj) (hl : w.heap.size ≤ l) (_ : W.heap[l]? = some o) (_ : o.isCells = false) (_ : o.isWalk = false) : KeepsBut n b W (W.putObj l o') :=
  fun k hk _ => World.putObj_heap_other (by omega)
theorem KeepsBut.boxed {n b : Nat} {A B : World} (h : KeepsBut n b A B) {i : Nat} {t : TypeId} {v : Value} (hx : Boxed A i t v) (hi : i < n) (hb : i ≠ b) : Boxed B i t v := (h i hi hb).trans hx

/-- the k-th index and slot from f on -/
def elt (f s : Int) (k : Nat) : Int × Int := ((f + k) % 4294967296, ((f + k) % 4294967296) % s)
def elts (f s : Int) (k : Nat) : List (Int × Int) := (List.range k).map (elt f s)
theorem elts_succ (f s : Int) (k : Nat) : elts f s (k + 1) = elts f s k ++ [elt f s k] := by simp [elts, List.range_succ]
theorem elts_length (f s : Int) (k : Nat) : (elts f s k).length = k := by simp [elts]
abbrev encs (p : Int × Int) : Array Value := #[.int .u32 p.1, .int .i64 p.2]

set_option maxRecDepth 100000 in
set_option maxHeartbeats 1000000 in
theorem around1_in (n : Nat) (hn : 2 ≤ n) (l Bs Bf n₁ b : Nat) (f : Int) (s : Nat) (hs1 : 1 ≤ s) (hs2 : s ≤ 4096) (hsn : Bs < n₁) (hfn : Bf < n₁) (hsb : Bs ≠ b) (hfb : Bf ≠ b)
    (J Jx : List (Int × Int) → World → Prop)
    (hY : ∀ pre x W, J pre W → pre.length < s → YieldAt Fence.wide (n - 1) Try.prog l (encs x) W fun e W' =>
      (e = .returned (.bool true) ∧ J (pre ++ [x]) W' ∧ KeepsBut n₁ b W W') ∨ (e = .returned (.bool false) ∧ Jx (pre ++ [x]) W'))
    (W : World) (bs : Boxed W Bs 3 (.int .i64 s)) (bf : Boxed W Bf 22 (.int .u32 f)) (h0 : J [] W) :
    CallsIn Fence.wide n Try.prog 30 #[.func (.yield l) #[] #[], .pointer (some ⟨Bs, 0, none⟩), .pointer (some ⟨Bf, 0, none⟩)] W fun e W' => (∃ v, e = .returned v) ∧
      ((∃ ys, ys = elts f s s ∧ J ys W') ∨ (∃ pre, (∃ k, k < s ∧ pre = elts f s (k + 1)) ∧ Jx pre W')) := by
  refine callsIn_of_wp Try.func30 rfl trivial ?_ rfl
  simp only [Try.ntmps30, List.size_toArray, List.length_cons, List.length_nil, Nat.reduceAdd, Nat.reduceSub, Array.replicate_succ, Array.replicate_zero, List.push_toArray, List.append_toArray, List.nil_append, List.cons_append]
  have hc0 := bs.cell
  gi_wp2
  gi_loopw [7] (fun i wr => ∃ k : Nat, k ≤ s ∧ i = .int .i64 k ∧ Boxed wr Bs 3 (.int .i64 s) ∧ Boxed wr Bf 22 (.int .u32 f) ∧ J (elts f s k) wr)
    (fun i _ => s - (intOf i).toNat)
  case atStart => exact ⟨0, Nat.zero_le _, rfl, bs, bf, h0⟩
  case round =>
    obtain ⟨k, hk, rfl, bs', bf', hJ⟩ := hrel
    clear hc0 bs bf
    by_cases hlt : k < s
    · have hcs := bs'.cell
      have hcf := bf'.cell
      obtain ⟨fn, tmps, assign, body, hy, hR⟩ := hY (elts f s k) (elt f s k) wr hJ (by rw [elts_length]; exact hlt)
      dsimp only [encs, elt] at hy
      have hm := Int.emod_nonneg (f + k) (b := 4294967296) (by omega)
      have hm' := Int.emod_lt_of_pos (f + k) (b := 4294967296) (by omega)
      gi_wp2_with (refine ⟨trivial, fun _ => by omega, ?_⟩; gi_at_call 27; refine (callsIn_wide.2 (place_p _ _ _ (by omega) (by omega) (by omega) (by omega))).mono ?_; rintro e w' ⟨rfl, rfl⟩)
      refine ⟨fun _ => by omega, hR.mono ?_⟩
      rintro e W3 (⟨rfl, hJ3, hk3⟩ | ⟨rfl, hJx3⟩)
      · have bs3 := hk3.boxed bs' hsn hsb
        have bf3 := hk3.boxed bf' hfn hfb
        gi_wp2
        go_roundw
        case rel => exact ⟨k + 1, by omega, by go_num, bs3, bf3, by rw [elts_succ]; exact hJ3⟩
        case measure => simp [intOf]; omega
      · gi_wp2
        refine bodyPost_ret (results_none rfl _ _ _) rfl ?_
        exact ⟨⟨_, rfl⟩, .inr ⟨_, ⟨k, hlt, (elts_succ f s k).symm⟩, hJx3⟩⟩
    · gi_wp2
      go_end0
      exact ⟨⟨_, rfl⟩, .inl ⟨_, by rw [show s = k by omega], hJ⟩⟩

/-- around hands back the closure over its two boxes -/
theorem around_p (f s : Int) (w : World) : Calls Try.prog 28 #[.int .u32 f, .int .i64 s] w fun e w' =>
    e = .returned (.func (.func 30) #[] #[.pointer (some ⟨w.heap.size + 1, 0, none⟩), .pointer (some ⟨w.heap.size, 0, none⟩)]) ∧ (w.alloc (.cells #[.int .u32 f] 22)).alloc (.cells #[.int .i64 s] 3) = w' := by
  go_enter Try.func28, Try.ntmps28
  go_wp2
  go_ret
  exact ⟨rfl, rfl⟩

theorem around_stops (n : Nat) (hn : 2 ≤ n) (Bs Bf n₁ b : Nat) (f : Int) (s : Nat) (hs1 : 1 ≤ s) (hs2 : s ≤ 4096) (hsn : Bs < n₁) (hfn : Bf < n₁) (hsb : Bs ≠ b) (hfb : Bf ≠ b)
    (w : World) (hw : n₁ ≤ w.heap.size) (bs : Boxed w Bs 3 (.int .i64 s)) (bf : Boxed w Bf 22 (.int .u32 f)) :
    SeqStopsK Fence.wide n Try.prog 30 #[.pointer (some ⟨Bs, 0, none⟩), .pointer (some ⟨Bf, 0, none⟩)] encs (KeepsBut n₁ b) (fun ys => ys = elts f s s) (fun pre => ∃ k, k < s ∧ pre = elts f s (k + 1)) s w := fun l J Jx W hW _ _ hY h0 =>
  around1_in n hn l Bs Bf n₁ b f s hs1 hs2 hsn hfn hsb hfb J Jx hY W ((hW.block Bs (by omega)).trans bs) ((hW.block Bf (by omega)).trans bf) h0

/-- 'out = append(out, x)' in a round, the box ahead of the row -/
theorem box_appended {W w1 : World} {n₀ n₁ b : Nat} {t e : TypeId} {size : Nat} {v v' : Value} {k m : Nat} {xs ys : List Value} {tmp : Obj}
    (hv : Boxed W b t v) (hb : b < n₁) (hn : n₁ ≤ W.heap.size) (h0 : n₀ ≤ b) (hrow : W.ownsRow n₁ e size v k xs)
    (hown' : w1.ownsRow n₁ e size v' m ys) (hgrow : (W.alloc tmp).grownBy w1 v.ownBlock) :
    Boxed w1 b t v ∧ Boxed (w1.setCell ⟨b, 0, none⟩ v') b t v' ∧ (w1.setCell ⟨b, 0, none⟩ v').ownsRow n₁ e size v' m ys ∧ KeepsOthers W (w1.setCell ⟨b, 0, none⟩ v') ∧
      KeepsBut n₁ b W (w1.setCell ⟨b, 0, none⟩ v') ∧ Below n₀ W (w1.setCell ⟨b, 0, none⟩ v') := by
  have hlt : ∀ j, v.ownBlock = some j → n₁ ≤ j := fun j hj => (hrow.lt j hj).1
  have hlt' : ∀ j, v'.ownBlock = some j → n₁ ≤ j := fun j hj => (hown'.lt j hj).1
  have hv1 : Boxed w1 b t v := (hv.alloc tmp).kept hgrow (fun h => by have := hlt b h.symm; omega)
  refine ⟨hv1, hv1.set v', hown'.kept (grownBy_setCell' w1 b v') (.inr (fun h => by have := hlt' b h; omega)), ?_, ?_, ?_⟩
  · refine ((KeepsOthers.alloc W tmp).trans (KeepsOthers.of_grownBy hgrow fun j o ej hj => ?_)).trans (KeepsOthers.setCell _ _ _)
    rcases (hrow.alloc tmp).2 with ⟨rfl, _⟩ | ⟨g, cap, cur, rfl, _, hgb, _⟩
    · simp [Value.ownBlock] at ej
    · obtain rfl : g = j := by simpa [Value.ownBlock] using ej
      rw [hgb] at hj; cases hj; rfl
  · intro i hi hne
    rw [Below.heap_setCell _ _ _ _ hne, hgrow.block i (by simp; omega) (fun h => by have := hlt i h.symm; omega)]
    exact Below.heap_alloc _ _ _ (by omega)
  · exact (((Below.refl n₀ W).alloc (by omega) tmp).grown hgrow (by simp; omega) (fun j ej => by have := hlt j ej; omega)).setCell (p := ⟨b, 0, none⟩) h0 v'

theorem scope_in {n : Nat} {P : Program} {c : Code} {Q : Exit → Act → World → Prop} {a : Act} {w : World} (h : c.wpIn Fence.wide n P (Exit.noGoto Q) a w) : (Code.scope c).wpIn Fence.wide n P Q a w :=
  wpIn_wide.2 (wp_scope_straight (wpIn_wide.1 h))

theorem infoInt : (Try.prog.info? 3).map (fun i => (i.zero, i.size, i.bytes)) = some (some (.int .i64 0), 1, 8) := by kernel_rfl

/-- the slots of pairs, as cells -/
def slotsOf (l : List (Int × Int)) : List Value := l.map fun p => .int .i64 p.2

def RangeGives (a : Int) (s d : Nat) (w : World) (e : Ending) (w' : World) : Prop :=
  ∃ v, e = .returned (.tuple #[v, .int .i64 0]) ∧ w'.ownsRow w.heap.size 3 1 v d (slotsOf (elts a s d)) ∧ Below w.heap.size w w'

/-- between two rounds: what has come is not b, and the box holds the slots of what has come -/
def RangeI (b : Int) (w W0 : World) (pre : List (Int × Int)) (W : World) : Prop :=
  (∀ p ∈ pre, p.1 ≠ b) ∧ Boxed W w.heap.size 22 (.int .u32 b) ∧ (∃ v, Boxed W (w.heap.size + 1 + 1) 32 v ∧ W.ownsRow W0.heap.size 3 1 v pre.length (slotsOf pre) ∧ True) ∧ Below w.heap.size w W ∧ W0.heap.size ≤ W.heap.size
/-- a round has left: the last that came is b, and the box holds the slots of what came ahead of it -/
def RangeX (b : Int) (w W0 : World) (c : Code) (pre : List (Int × Int)) (W : World) : Prop :=
  c = .exit 0 ∧ ∃ q x, pre = q ++ [x] ∧ x.1 = b ∧ (∀ p ∈ q, p.1 ≠ b) ∧ (∃ v, Boxed W (w.heap.size + 1 + 1) 32 v ∧ W.ownsRow W0.heap.size 3 1 v q.length (slotsOf q) ∧ True) ∧ Below w.heap.size w W
theorem rangeI_own (b : Int) (w W0 : World) (hle : w.heap.size ≤ W0.heap.size) : OwnFrom W0.heap.size (RangeI b w W0) :=
  fun s A B row hs hg hr => ⟨hs.1, boxed_own w.heap.size 22 (fun _ : Unit => .int .u32 b) () A B row hs.2.1 hg (fun r e => (hr r e).2),
    holdsRow_own W0.heap.size (w.heap.size + 1 + 1) 32 3 1 (fun pre : List (Int × Int) => pre.length) slotsOf (fun _ _ => True) s A B row hs.2.2.1 hg (fun r e => (hr r e).2),
    ownFrom_below (β := Unit) (Nat.le_refl _) hle () A B row hs.2.2.2.1 hg hr, Nat.le_trans hs.2.2.2.2 hg.size⟩
theorem rangeX_own (b : Int) (w W0 : World) (hle : w.heap.size ≤ W0.heap.size) (c : Code) : OwnFrom W0.heap.size (RangeX b w W0 c) := by
  rintro s A B row ⟨hc, q, x, h1, h2, h3, h4, h5⟩ hg hr
  exact ⟨hc, q, x, h1, h2, h3, holdsRow_own W0.heap.size (w.heap.size + 1 + 1) 32 3 1 (fun pre : List (Int × Int) => pre.length) slotsOf (fun _ _ => True) q A B row h4 hg (fun r e => (hr r e).2),
    ownFrom_below (β := Unit) (Nat.le_refl _) hle () A B row h5 hg hr⟩

theorem rangeD_stop (a b : Int) {s : Int} (k d : Nat) (hk : k ≤ 4096) (hd : d ≤ 4096) (hb : b = (a + d) % 4294967296) (hx : (elt a s k).1 = b) : k = d := by
  simp only [elt] at hx
  omega
theorem rangeD_done (a b : Int) (s d : Nat) (hds : d ≤ s) (hb : b = (a + d) % 4294967296) (h : ∀ p ∈ elts a s s, p.1 ≠ b) : s = d := by
  rcases Nat.lt_or_ge d s with hlt | hge
  · exact absurd hb.symm (h (elt a s d) (List.mem_map.2 ⟨d, List.mem_range.2 hlt, rfl⟩))
  · omega
theorem row_from {W : World} {base base' : Nat} {e : TypeId} {size : Nat} {v : Value} {k : Nat} {xs : List Value} (hb : base' ≤ base) (h : W.ownsRow base e size v k xs) : W.ownsRow base' e size v k xs := by
  rcases h with ⟨h1, h2 | ⟨g, cap, cur, h2, h3, h4⟩⟩
  · exact ⟨h1, .inl h2⟩
  · exact ⟨h1, .inr ⟨g, cap, cur, h2, by omega, h4⟩⟩

set_option maxRecDepth 100000 in
set_option maxHeartbeats 2000000 in
theorem range_ok (a b : Int) (s d : Nat) (hs : isSizeB s = true) (hd : Hid (far a b = d)) (hds : d ≤ s) (hb : Hid (b = (a + d) % 4294967296)) (w : World) :
    Calls Try.prog 23 #[.int .u32 a, .int .u32 b, .int .i64 s] w (RangeGives a s d w) := by
  obtain ⟨hs1, hs2⟩ := isSize_bd hs
  obtain ⟨i0, hi, hz0, hz1, hz2⟩ := info_parts infoInt
  have hf : decide ((s : Int) < far a b) = false := by rw [hd.out]; simpa using hds
  refine (callsIn_wide (n := 6)).1 ?_
  refine callsIn_of_wp_marks Try.func23 rfl trivial ?_ rfl
  simp only [Try.ntmps23, List.size_toArray, List.length_cons, List.length_nil, Nat.reduceAdd, Nat.reduceSub, Array.replicate_succ, Array.replicate_zero, List.push_toArray, List.append_toArray, List.nil_append, List.cons_append]
  gi_wp2
  refine scope_in ?_
  gi_wp2_with (first
    | (refine ⟨trivial, ?_⟩; gi_at_call 26; refine (callsIn_wide.2 (sizes_p s _ _ (by simp [go_sem]))).mono ?_; rintro e w' ⟨rfl, rfl⟩)
    | (refine ⟨trivial, ?_⟩; gi_at_call 11; refine (callsIn_wide.2 (far_p _ _ _)).mono ?_; rintro e w' ⟨rfl, rfl⟩)
    | (refine ⟨trivial, ?_⟩; gi_at_call 28; refine (callsIn_wide.2 (around_p _ _ _)).mono ?_; rintro e w' ⟨rfl, rfl⟩))
  refine wpIn_label ?_
  gi_wp2_with (refine ⟨trivial, ?_⟩; gi_at_call 28; refine (callsIn_wide.2 (around_p _ _ _)).mono ?_; rintro e w' ⟨rfl, rfl⟩)
  obtain ⟨W0, hW0⟩ : ∃ W0, (((((w.alloc (.cells #[.int .u32 b] 22)).alloc (.cells #[.int .i64 s] 3)).alloc (.cells #[.slice none 0 0] 32)).alloc (.cells #[.int .u32 a] 22)).alloc (.cells #[.int .i64 s] 3)) = W0 := ⟨_, rfl⟩
  have hsz : W0.heap.size = w.heap.size + 1 + 1 + 1 + 1 + 1 := by rw [← hW0]; simp
  have bT : Boxed W0 w.heap.size 22 (.int .u32 b) := by rw [← hW0]; exact ((((Boxed.new w _ _).alloc _).alloc _).alloc _).alloc _
  have bO : Boxed W0 (w.heap.size + 1 + 1) 32 (.slice none 0 0) := by
    rw [← hW0]
    have h := Boxed.new ((w.alloc (.cells #[.int .u32 b] 22)).alloc (.cells #[.int .i64 s] 3)) 32 (.slice none 0 0)
    rw [World.size_alloc, World.size_alloc] at h
    exact (h.alloc _).alloc _
  have bF : Boxed W0 (w.heap.size + 1 + 1 + 1) 22 (.int .u32 a) := by
    rw [← hW0]
    have h := Boxed.new (((w.alloc (.cells #[.int .u32 b] 22)).alloc (.cells #[.int .i64 s] 3)).alloc (.cells #[.slice none 0 0] 32)) 22 (.int .u32 a)
    rw [World.size_alloc, World.size_alloc, World.size_alloc] at h
    exact h.alloc _
  have bS : Boxed W0 (w.heap.size + 1 + 1 + 1 + 1) 3 (.int .i64 s) := by
    rw [← hW0]
    have h := Boxed.new ((((w.alloc (.cells #[.int .u32 b] 22)).alloc (.cells #[.int .i64 s] 3)).alloc (.cells #[.slice none 0 0] 32)).alloc (.cells #[.int .u32 a] 22)) 3 (.int .i64 s)
    rw [World.size_alloc, World.size_alloc, World.size_alloc, World.size_alloc] at h
    exact h
  have hB0 : Below w.heap.size w W0 := by rw [← hW0]; go_grown
  rw [hW0]
  clear hW0
  refine wpIn_rangeFunc_ownG (n := 6) (F := Fence.wide) rfl (by omega) (gf := 30) (lb := #[.pointer (some ⟨w.heap.size + 1 + 1 + 1 + 1, 0, none⟩), .pointer (some ⟨w.heap.size + 1 + 1 + 1, 0, none⟩)]) rfl trivial (enters_of Try.func30 (by kernel_rfl) rfl)
    (around_stops 5 (by omega) (w.heap.size + 1 + 1 + 1 + 1) (w.heap.size + 1 + 1 + 1) W0.heap.size (w.heap.size + 1 + 1) a s (by omega) (by omega) (by omega) (by omega) (by omega) (by omega) W0 (Nat.le_refl _) bS bF)
    (fun h k => h.trans k) (KeepsBut.put (Nat.le_refl _)) (Below.refl _ _) (fun _ => rfl)
    (RangeI b w W0) (RangeX b w W0) (rangeI_own b w W0 (by omega)) (rangeX_own b w W0 (by omega))
    ⟨by simp, bT, ⟨_, bO, World.ownsRow_nil _ _ _ _, trivial⟩, hB0, Nat.le_refl _⟩
    (fun x => { tmps := #[.int .u32 a, .int .u32 b, .int .i64 s, undef, .pointer (some ⟨w.heap.size, 0, none⟩), undef, .slice none 0 0, .int .i64 0, .pointer (some ⟨w.heap.size + 1 + 1, 0, none⟩), .int .u32 x.1, .int .i64 x.2, .int .i64 s,
          .slice (some ⟨w.heap.size + 1, 0, none⟩) 1 1, .bool true, .bool false, .int .u32 a, .int .u32 b, .int .u32 (far a b), .int .i64 s, .int .u32 s, .bool false, .int .u32 a, .int .i64 s,
          .func (.func 30) #[] #[.pointer (some ⟨w.heap.size + 1 + 1 + 1 + 1, 0, none⟩), .pointer (some ⟨w.heap.size + 1 + 1 + 1, 0, none⟩)],
          .int .u32 x.1, .int .i64 x.2, undef, undef, undef, undef, undef, undef, undef, undef], defers := [] }) ?assign ?body ?done ?stop
  case assign =>
    intro l x W K hK
    gi_wp2
    exact hK
  case body =>
    rintro l pre x W ⟨hpre, bT', ⟨v, bv, hrow, _⟩, hB, hsW⟩ hlt
    have hcT := bT'.cell
    have hcv := bv.cell
    by_cases hx : x.1 = b
    · have hx' : (x.1 == b) = true := by simpa using hx
      gi_wp2
      exact ⟨KeepsFrom.refl _ _, rfl, pre, x, rfl, hx, hpre, ⟨v, bv, hrow, trivial⟩, hB⟩
    · have hx' : (x.1 == b) = false := by simpa using hx
      gi_wp2_with (gi_at_builtin; refine wpListIn_append_own _ rfl _ _ 32 rfl W0.heap.size 3 i0 (.int .i64 0) 1 8 Try.underlying32 hi hz0 hz1 hz2 rfl (by decide) _ _ _ rfl (hrow.alloc _) ⟨W.heap.size, 0, none⟩ 1 1 [.int .i64 x.2] rfl rfl (cell_one_new _ _ _) (by simp [Value.oneCell']) (by simp [maxLen]; omega) (by omega) (by simp; omega) ?_; intro v' w1 hown' hgrow _; obtain ⟨g', cap', rfl⟩ := ownsRow_succ hown'; obtain ⟨hv1, hv2, hr2, hk2, hp2, hb2⟩ := box_appended (n₀ := w.heap.size) bv (by omega) hsW (by omega) hrow hown' hgrow; have hc1 := hv1.cell; have hf1 := hv1.frozen)
      refine ⟨hk2.from _, hp2, ?_, hp2.boxed bT' (by omega) (by omega), ⟨_, hv2, by simpa [slotsOf] using hr2, trivial⟩, hB.trans hb2, Nat.le_trans hsW hb2.size⟩
      intro p hp
      rcases List.mem_append.1 hp with h | h
      · exact hpre p h
      · simp at h; subst h; exact hx
  case done =>
    rintro D ys W hD rfl ⟨hpre, bT', ⟨v, bv, hrow, _⟩, hB, hsW⟩ hK
    have hcv := bv.cell
    obtain rfl : s = d := rangeD_done a b s d hds hb.out hpre
    gi_wp2
    refine ⟨by simp, .inl ⟨_, _, rfl, run_takeDeferred hK, ?_⟩⟩
    refine ⟨_, results_tmp2 rfl _ _ _, v, rfl, row_from (base := W0.heap.size) (by omega) (ownsRow_putObj (by rw [elts_length] at hrow; exact hrow) _ hK rfl), hB.trans (belowK_b (w := w) (Nat.le_refl _) W D _ _ (by omega) hK rfl rfl)⟩
  case stop =>
    rintro D c pre W hD ⟨k, hk, rfl⟩ ⟨rfl, q, x, hq, hx, hpre, ⟨v, bv, hrow, _⟩, hB⟩ hK
    have hcv := bv.cell
    rw [elts_succ] at hq
    obtain ⟨rfl, hx2⟩ := List.append_inj' hq rfl
    simp at hx2
    subst hx2
    obtain rfl : k = d := rangeD_stop a b k d (by omega) (by omega) hb.out hx
    gi_wp2
    refine ⟨by simp, .inl ⟨_, _, rfl, run_takeDeferred hK, ?_⟩⟩
    refine ⟨_, results_tmp2 rfl _ _ _, v, rfl, row_from (base := W0.heap.size) (by omega) (ownsRow_putObj (by rw [elts_length] at hrow; exact hrow) _ hK rfl), hB.trans (belowK_b (w := w) (Nat.le_refl _) W D _ _ (by omega) hK rfl rfl)⟩

/-- what is no size, or too far, is refused -/
theorem range_no (a b s : Int) (h : isSizeB s = false ∨ s < far a b) (w : World) :
    Calls Try.prog 23 #[.int .u32 a, .int .u32 b, .int .i64 s] w fun e w' => e = .returned (.tuple #[.slice none 0 0, .int .i64 (roomE b a s)]) ∧ Below w.heap.size w w' := by
  rcases hs : isSizeB s
  · go_enter Try.func23, Try.ntmps23
    go_wp2
    go_step3
    go_wp2_with (go_at_call 26; refine (sizes_p s _ _ (by simp [go_sem])).mono ?_; rintro e w' ⟨rfl, rfl⟩)
    rw [Exit.noGoto_ret]
    go_ret2
    exact ⟨by simp [roomE, hs], by go_grown⟩
  · have hf : s < far a b := by simpa [hs] using h
    obtain ⟨hs1, hs2⟩ := isSize_bd hs
    go_enter Try.func23, Try.ntmps23
    go_wp2
    go_step3
    go_wp2_with (first | (go_at_call 26; refine (sizes_p s _ _ (by simp [go_sem])).mono ?_; rintro e w' ⟨rfl, rfl⟩) | (go_at_call 11; refine (far_p _ _ _).mono ?_; rintro e w' ⟨rfl, rfl⟩))
    rw [Exit.noGoto_ret]
    go_ret2
    exact ⟨by simp [roomE, hs, show ¬ far a b ≤ s by omega], by go_grown⟩
end Go.Proofs.Ytihplelglpgdnaa
