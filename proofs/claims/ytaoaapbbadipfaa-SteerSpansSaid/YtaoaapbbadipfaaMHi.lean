/-
  What came in, opened: packets, acts, numbers. Conditions: the types' shapes. SteerCounts, walked. Conditions: as the interface says.
-/
import Derived.Test.YtaoaapbbadipfaaMGm
import Derived.Test.YtaoaapbbadipfaaMGh
import Derived.Test.YtaoaapbbadipfaaMHe
import Derived.Test.YtaoaapbbadipfaaMHg
/- What came in, opened: packets, acts, numbers. Conditions: the types' shapes. -/
section
namespace Go.Proofs.Ytaoaapbbadipfaa
set_option linter.unusedSimpArgs false
set_option linter.unusedVariables false
set_option maxRecDepth 100000
open Go.Joins Go.Deep Go.ChangeShapes Go.WideShapes Go.ChangeAt Go.RowKit

section
variable {H : Type} {enc : TypeId × Value → H} {P : Program} {w : World} {base : Nat} {spare : Nat → Bool} {held : Bool}
/-- a slice inside of something; nil has no room -/
theorem open_sliceN {α : Type} [Inhabited α] {t e : TypeId} {m fuel : Nat} {cs : List Value} {x : DataW H × List MemPlace} (cells : α → List Value) (Fit : α → Prop) (ht : P.underlying t = some (.slice e)) (ce : P.cellsOf e = m) (hlen : ∀ y, (cells y).length = m) (hm0 : 0 < m)
    (he : ∀ fuel cs x, DataW.trod enc P w base spare held fuel e cs = some x → ∃ y : α, cs = cells y ∧ Fit y)
    (hf : DataW.trod enc P w base spare held fuel t cs = some x) :
    ∃ (A : Option Addr) (len cap : Nat) (xs : Nat → α), cs = [.slice A len cap] ∧ len ≤ cap ∧ cap ≤ maxLen ∧ SliceAt w A len m cells Fit xs ∧ (A = none → cap = 0) := by
  rcases open_slice ht hf with ⟨hcs, _⟩ | ⟨a, len, cap, m', n, D, Pl, hcs, hb, hl, hm, hmm, _, hi⟩
  · exact ⟨none, 0, 0, fun _ => default, hcs, Nat.le_refl _, Nat.zero_le _, fun k hk => absurd hk (by omega), fun _ => rfl⟩
  · have hle : len ≤ m' := by rw [hmm]; split <;> omega
    have hex : ∀ k, k < len → ∃ y : α, Fit y ∧ a.block < w.heap.size ∧ ∀ j u, (cells y)[j]? = some u → w.cell? (a.add (k * m + j)) = some u := fun k hk => by
      obtain ⟨cs', hc, ht'⟩ := hi k (by omega)
      rw [ce] at hc
      obtain ⟨y, rfl, hy⟩ := he _ _ _ ht'
      obtain ⟨_, _, hat⟩ := World.cells?_some hc
      have hcell : ∀ j u, (cells y)[j]? = some u → w.cell? (a.add (k * m + j)) = some u := fun j u hj => by
        have hjl : j < m := by
          have := (List.getElem?_eq_some_iff.1 hj).1
          rwa [hlen] at this
        rw [← Go.Deep.add_add, hat j hjl, hj]
      refine ⟨y, hy, ?_, hcell⟩
      have hl0 : 0 < (cells y).length := by rw [hlen]; exact hm0
      have h2 := World.block_lt_of_cell? w _ (hcell 0 _ (List.getElem?_eq_getElem hl0))
      have hbk : (a.add (k * m + 0)).block = a.block := by unfold Addr.add; split <;> rfl
      rw [hbk] at h2
      exact h2
    obtain ⟨xs, hxs⟩ := choose_lt hex
    exact ⟨some a, len, cap, xs, hcs, hl, hm, fun k hk => ⟨(hxs k hk).1, a, rfl, (hxs k hk).2⟩, fun e => by cases e⟩
theorem el_flow (fuel : Nat) (cs : List Value) (x : DataW H × List MemPlace) (h : DataW.trod enc Try.prog w base spare held fuel 40 cs = some x) : ∃ d : Hs.FV, cs = [.int .u32 d.a, .int .u32 d.b, .int .u16 d.sp, .int .u16 d.dp, .int .u8 d.q] ∧ d.Fits := by
  obtain ⟨xs, m, _, _, hlen, hxl, hg⟩ := DataW.trod_struct Try.underlying40 h
  rw [show Try.prog.cellsOf 40 = 5 by kernel_rfl] at hlen
  match cs, hlen with
  | [c0, c1, c2, c3, c4], _ =>
    match xs, hxl with
    | [y0, y1, y2, y3, y4], _ =>
      obtain ⟨n0, e0, _, w0⟩ := DataW.trod_int Try.underlying22 (show DataW.trod enc Try.prog w base spare held m 22 [c0] = some y0 from hg 0 _ rfl)
      obtain ⟨n1, e1, _, w1⟩ := DataW.trod_int Try.underlying22 (show DataW.trod enc Try.prog w base spare held m 22 [c1] = some y1 from hg 1 _ rfl)
      obtain ⟨n2, e2, _, w2⟩ := DataW.trod_int Try.underlying38 (show DataW.trod enc Try.prog w base spare held m 38 [c2] = some y2 from hg 2 _ rfl)
      obtain ⟨n3, e3, _, w3⟩ := DataW.trod_int Try.underlying38 (show DataW.trod enc Try.prog w base spare held m 38 [c3] = some y3 from hg 3 _ rfl)
      obtain ⟨n4, e4, _, w4⟩ := DataW.trod_int Try.underlying5 (show DataW.trod enc Try.prog w base spare held m 5 [c4] = some y4 from hg 4 _ rfl)
      simp at e0 e1 e2 e3 e4
      subst e0 e1 e2 e3 e4
      exact ⟨⟨n0, n1, n2, n3, n4⟩, rfl, ⟨bd_u32 w0, bd_u32 w1, Hs.bd_u16 w2, Hs.bd_u16 w3, bd_u8 w4⟩⟩
abbrev pkCs (p : PK) : List Value := [.int .u32 p.id, .int .u32 p.len, .int .i64 p.prio, .int .i64 p.cpu, .int .u32 p.f.a, .int .u32 p.f.b, .int .u16 p.f.sp, .int .u16 p.f.dp, .int .u8 p.f.q]
theorem el_packet (fuel : Nat) (cs : List Value) (x : DataW H × List MemPlace) (h : DataW.trod enc Try.prog w base spare held fuel 42 cs = some x) : ∃ q : PK, cs = pkCs q ∧ q.Fits := by
  obtain ⟨xs, m, _, _, hlen, hxl, hg⟩ := DataW.trod_struct Try.underlying42 h
  rw [show Try.prog.cellsOf 42 = 9 by kernel_rfl] at hlen
  match cs, hlen with
  | [c0, c1, c2, c3, c4, c5, c6, c7, c8], _ =>
    match xs, hxl with
    | [y0, y1, y2, y3, y4], _ =>
      obtain ⟨n0, e0, _, w0⟩ := DataW.trod_int Try.underlying22 (show DataW.trod enc Try.prog w base spare held m 22 [c0] = some y0 from hg 0 _ rfl)
      obtain ⟨n1, e1, _, w1⟩ := DataW.trod_int Try.underlying22 (show DataW.trod enc Try.prog w base spare held m 22 [c1] = some y1 from hg 1 _ rfl)
      obtain ⟨n2, e2, _, w2⟩ := DataW.trod_int Try.underlying3 (show DataW.trod enc Try.prog w base spare held m 3 [c2] = some y2 from hg 2 _ rfl)
      obtain ⟨n3, e3, _, w3⟩ := DataW.trod_int Try.underlying3 (show DataW.trod enc Try.prog w base spare held m 3 [c3] = some y3 from hg 3 _ rfl)
      obtain ⟨d, e4, hd⟩ := el_flow m [c4, c5, c6, c7, c8] y4 (hg 4 _ rfl)
      simp at e0 e1 e2 e3
      subst e0 e1 e2 e3
      injection e4 with f0 e4
      injection e4 with f1 e4
      injection e4 with f2 e4
      injection e4 with f3 e4
      injection e4 with f4 e4
      subst f0 f1 f2 f3 f4
      exact ⟨⟨n0, n1, n2, n3, d⟩, rfl, ⟨bd_u32 w0, bd_u32 w1, bd_i64 w2, bd_i64 w3, hd⟩⟩
theorem open_packet {r : Reach} {b0 : Nat} {v : Value} {x : DataW H} {p : List MemPlace} (hv : Value.okWide Try.prog w r b0 42 v) (h : DataW.Trod enc Try.prog w base spare held 42 v x p) : ∃ q : PK, v = pk q ∧ q.Fits := by
  obtain ⟨cs, rfl, hsz⟩ := okWide_struct Try.underlying42 hv
  obtain ⟨l⟩ := cs
  obtain ⟨fuel, hf⟩ := h
  obtain ⟨q, e, hq⟩ := el_packet fuel l _ (by simpa [Value.cells] using hf)
  exact ⟨q, by rw [e], hq⟩
/-- an act -/
structure AV where
  d : Int
  q : PK
  A : Option Addr
  cap : Nat
  l : List Int
  n : Int
  m : Int
def avC (x : AV) : List Value := .int .i64 x.d :: (pkCs x.q ++ [.slice x.A x.l.length x.cap, .int .i64 x.n, .int .i64 x.m])
structure AV.Fits (w : World) (x : AV) : Prop where
  d : I64 x.d
  q : x.q.Fits
  row : RowI w.heap.size w x.A x.l
  hl : x.l.length ≤ x.cap
  hc : x.cap ≤ maxLen
  hi : ∀ y, y ∈ x.l → I64 y
  n : I64 x.n
  m : I64 x.m
  hnil : x.A = none → x.cap = 0
instance : Inhabited AV := ⟨⟨0, ⟨0, 0, 0, 0, ⟨0, 0, 0, 0, 0⟩⟩, none, 0, [], 0, 0⟩⟩
theorem avC_len (x : AV) : (avC x).length = 13 := rfl
theorem el_ints (fuel : Nat) (c : Value) (x : DataW H × List MemPlace) (h : DataW.trod enc Try.prog w base spare held fuel 29 [c] = some x) : ∃ A cap l, c = .slice A l.length cap ∧ RowI w.heap.size w A l ∧ l.length ≤ cap ∧ cap ≤ maxLen ∧ (∀ y, y ∈ l → I64 y) ∧ (A = none → cap = 0) := by
  obtain ⟨A, n1, c1, f1, e1, hl1, hc1, s1, hn1⟩ := open_sliceN (m := 1) i64C i64F Try.underlying29 (by kernel_rfl) (fun _ => rfl) (by decide) (open_num Try.underlying3) h
  simp at e1
  subst e1
  refine ⟨A, c1, (List.range n1).map f1, by simp, rowI_of s1, by simpa using hl1, hc1, fun z hz => ?_, hn1⟩
  obtain ⟨k, hk, rfl⟩ := List.mem_map.1 hz
  exact bd_i64 (s1 k (List.mem_range.1 hk)).1
theorem el_act (fuel : Nat) (cs : List Value) (x : DataW H × List MemPlace) (h : DataW.trod enc Try.prog w base spare held fuel 44 cs = some x) : ∃ y : AV, cs = avC y ∧ y.Fits w := by
  obtain ⟨xs, m, _, _, hlen, hxl, hg⟩ := DataW.trod_struct Try.underlying44 h
  rw [show Try.prog.cellsOf 44 = 13 by kernel_rfl] at hlen
  match cs, hlen with
  | [c0, c1, c2, c3, c4, c5, c6, c7, c8, c9, c10, c11, c12], _ =>
    match xs, hxl with
    | [y0, y1, y2, y3, y4], _ =>
      obtain ⟨n0, e0, _, w0⟩ := DataW.trod_int Try.underlying3 (show DataW.trod enc Try.prog w base spare held m 3 [c0] = some y0 from hg 0 _ rfl)
      obtain ⟨q, e1, hq⟩ := el_packet m [c1, c2, c3, c4, c5, c6, c7, c8, c9] y1 (hg 1 _ rfl)
      obtain ⟨A, cap, l, e2, h1, h2, h3, h4, h5⟩ := el_ints m c10 y2 (hg 2 _ rfl)
      obtain ⟨n3, e3, _, w3⟩ := DataW.trod_int Try.underlying3 (show DataW.trod enc Try.prog w base spare held m 3 [c11] = some y3 from hg 3 _ rfl)
      obtain ⟨n4, e4, _, w4⟩ := DataW.trod_int Try.underlying3 (show DataW.trod enc Try.prog w base spare held m 3 [c12] = some y4 from hg 4 _ rfl)
      simp at e0 e3 e4
      subst e0 e2 e3 e4
      refine ⟨⟨n0, q, A, cap, l, n3, n4⟩, ?_, ⟨bd_i64 w0, hq, h1, h2, h3, h4, bd_i64 w3, bd_i64 w4, h5⟩⟩
      show _ :: ([c1, c2, c3, c4, c5, c6, c7, c8, c9] ++ _) = _
      rw [e1]
      rfl
theorem open_ints9 {r : Reach} {b0 : Nat} {v : Value} {x : DataW H} {p : List MemPlace} (hv : Value.okWide Try.prog w r b0 29 v) (h : DataW.Trod enc Try.prog w base spare held 29 v x p) : ∃ A cap l, v = .slice A l.length cap ∧ RowI w.heap.size w A l ∧ l.length ≤ cap ∧ cap ≤ maxLen ∧ (∀ y, y ∈ l → I64 y) ∧ (A = none → cap = 0) := by
  obtain ⟨A, len, cap, rfl⟩ := okWide_slice Try.underlying29 hv
  obtain ⟨fuel, hf⟩ := h
  exact el_ints fuel _ _ (by simpa [Value.cells] using hf)
/-- the acts of a slice -/
def ActsA (w : World) (A : Option Addr) (n : Nat) (xs : Nat → AV) : Prop := SliceAt w A n 13 avC (AV.Fits w) xs
theorem open_acts9 {r : Reach} {b0 : Nat} {v : Value} {x : DataW H} {p : List MemPlace} (hv : Value.okWide Try.prog w r b0 23 v) (h : DataW.Trod enc Try.prog w base spare held 23 v x p) : ∃ A len cap xs, v = .slice A len cap ∧ len ≤ cap ∧ cap ≤ maxLen ∧ ActsA w A len xs :=
  open_sliceOf (m := 13) avC (AV.Fits w) Try.underlying23 (by kernel_rfl) avC_len (by decide) el_act hv h
end
end Go.Proofs.Ytaoaapbbadipfaa
end
/- SteerCounts, walked. Conditions: as the interface says. -/
section
namespace Go.Proofs.Ytaoaapbbadipfaa
set_option linter.unusedSimpArgs false
set_option linter.unusedVariables false
set_option maxRecDepth 100000
open Go.ChangeShapes Go.WideShapes Go.ChangeAt Go.RowKit

/-- the flow of the acts -/
def f7 : Hs.FV := ⟨7, 0, 0, 0, 0⟩
theorem f7_fits : f7.Fits := by constructor <;> simp [f7]
/-- what is known of a steer: its salt, and how many of the flow are out -/
def CntS (z : Int) (c : Nat) (s : SS) : Prop := s.salt = 3 ∧ s.outN z = (c : Int) ∧ hashI f7 3 = z
theorem set_outN (s : SS) (n q o : Int) : (s.set n q o).outN n = o := by rw [SS.outN, set_fl]
theorem cnt_choose {z : Int} {c : Nat} {s : SS} (h : CntS z c s) {p : Int} (hp : 0 ≤ p ∧ p < 16) : CntS z (c + 1) (s.choose z p 0) ∧ SS.chooseE p 0 = 0 := by
  have hc : cOk p 0 = true := by simp [cOk]; omega
  refine ⟨⟨?_, ?_, h.2.2⟩, by rw [SS.chooseE, SS.candE, hc]; rfl⟩
  · rw [SS.choose, hc]
    exact h.1
  · rw [SS.choose, hc]
    show (s.set z _ _).outN z = _
    rw [set_outN, h.2.1]
    rfl
theorem cnt_done {z : Int} {c : Nat} {s : SS} (h : CntS z c s) : CntS z (c - 1) (s.done z) ∧ s.doneE z = if 0 < c then 0 else 90 := by
  by_cases h0 : 0 < c
  · have e : (s.outN z == 0) = false := by rw [h.2.1]; simp; omega
    rw [if_pos h0]
    refine ⟨⟨?_, ?_, h.2.2⟩, by rw [SS.doneE, e]; rfl⟩
    · rw [SS.done, e]
      exact h.1
    · rw [SS.done, e]
      show (s.set z _ _).outN z = _
      rw [set_outN, h.2.1]
      omega
  · obtain rfl : c = 0 := by omega
    have e : (s.outN z == 0) = true := by rw [h.2.1]; rfl
    rw [if_neg h0]
    refine ⟨?_, by rw [SS.doneE, e]; rfl⟩
    rw [SS.done, e]
    exact h
theorem and_one (x : Int) : 0 ≤ bits .and .i64 x 1 ∧ bits .and .i64 x 1 < 16 := by
  have h : ∀ n : Nat, n < 2 → 0 ≤ IntKind.i64.wrap (n : Int) ∧ IntKind.i64.wrap (n : Int) < 16 := fun n hn => by
    obtain rfl | rfl : n = 0 ∨ n = 1 := by omega
    · decide
    · decide
  have e : bits .and .i64 x 1 = IntKind.i64.wrap (((BitVec.ofInt 64 x &&& BitVec.ofInt 64 1).toNat : Nat) : Int) := rfl
  rw [e]
  refine h _ ?_
  rw [BitVec.toNat_and]
  have : (BitVec.ofInt 64 1).toNat = 1 := by decide
  rw [this, Nat.and_one_is_mod]
  exact Nat.mod_lt _ (by decide)
/-- where the law's steer lies, between two acts -/
def CntJ (P : PT) (w : World) (T : Nat → Prop) (K : World → Prop) (p : Nat) (z : Int) (c k : Nat) (V : World) : Prop := ∃ s N, CntS z c s ∧ N ≤ k ∧ St P NoT w V T K p s N 0 ss0 0
section
variable {P : PT} {w W : World} {T : Nat → Prop} {K : World → Prop} {p c k : Nat} {z : Int}
theorem CntJ.on (hP : PSteer P) (hk : Kept T K) (h : CntJ P w T K p z c k W) {V : World} (hb : Below W.heap.size W V) : CntJ P w T K p z c k V := by
  obtain ⟨s, N, h1, h2, h3⟩ := h
  exact ⟨s, N, h1, h2, h3.on hP.pt NoT.pt hk hb⟩
theorem CntJ.bel (h : CntJ P w T K p z c k W) : Below w.heap.size w W := by
  obtain ⟨s, N, h1, h2, h3⟩ := h
  exact h3.bel
theorem CntJ.kp (h : CntJ P w T K p z c k W) : K W := by
  obtain ⟨s, N, h1, h2, h3⟩ := h
  exact h3.kp
theorem CntJ.noth (hP : PSteer P) (h : CntJ P w T K p z c k W) : CntJ P w (fun _ => False) (fun _ => True) p z c k W := by
  obtain ⟨s, N, h1, h2, h3⟩ := h
  exact ⟨s, N, h1, h2, h3.none hP.pt NoT.pt⟩
theorem CntJ.pack (hP : PSteer P) (hk : Kept T K) (h : CntJ P w T K p z c k W) {V : World} {b : Nat} {t : TypeId} {cs : Array Value} (H : Mem W V [(b, t, cs)]) : ∃ T' K', Kept T' K' ∧ (∀ X, K' X → Held X b t cs) ∧ CntJ P w T' K' p z c k V := by
  obtain ⟨s, N, h1, h2, h3⟩ := h
  obtain ⟨T1, K1, a1, a2, a3⟩ := pack_box hP.pt NoT.pt hk h3 H
  exact ⟨T1, K1, a1, fun X h => (a2 X h).2, s, N, h1, h2, a3⟩
theorem CntJ.choose (hP : PSteer P) (hk0 : Kept T K) (h : CntJ P w T K p z c k W) (hk : k ≤ 100) {pr : Int} (hp : 0 ≤ pr ∧ pr < 16) : Calls Try.prog 19 #[.pointer (some ⟨p, 0, none⟩), pk ⟨0, 0, pr, 0, f7⟩] W fun e w' => (∃ q, e = .returned (.tuple #[.int .i64 q, .int .i64 0])) ∧ CntJ P w T K p z (c + 1) (k + 1) w' := by
  obtain ⟨s, N, h1, h2, h3⟩ := h
  refine (h3.chooseP hP NoT.pt hk0 (by omega) ⟨0, 0, pr, 0, f7⟩ ⟨by simp, by simp, by simp only [I64]; omega, by simp only [I64]; omega, f7_fits⟩).mono ?_
  rintro e w' ⟨rfl, O⟩
  obtain ⟨e1, e2⟩ := cnt_choose h1 hp
  simp only [h1.1, h1.2.2] at O ⊢
  rw [e2]
  exact ⟨⟨_, rfl⟩, _, _, e1, by omega, O⟩
theorem CntJ.done (hP : PSteer P) (hk0 : Kept T K) (h : CntJ P w T K p z c k W) (hk : k ≤ 100) : Calls Try.prog 22 #[.pointer (some ⟨p, 0, none⟩), Hs.fv f7] W fun e w' => e = .returned (.int .i64 (if 0 < c then 0 else 90)) ∧ CntJ P w T K p z (c - 1) (k + 1) w' := by
  obtain ⟨s, N, h1, h2, h3⟩ := h
  refine (h3.doneP hP NoT.pt hk0 (by omega) f7 f7_fits).mono ?_
  rintro e w' ⟨rfl, O⟩
  obtain ⟨e1, e2⟩ := cnt_done h1
  simp only [h1.1, h1.2.2] at O ⊢
  rw [e2]
  exact ⟨rfl, _, _, e1, by omega, O⟩
theorem CntJ.out (hP : PSteer P) (hk0 : Kept T K) (h : CntJ P w T K p z c k W) (hk : k ≤ 101) : Calls Try.prog 16 #[.pointer (some ⟨p, 0, none⟩), Hs.fv f7] W fun e w' => (∃ q, e = .returned (.tuple #[.int .i64 q, .int .i64 (c : Int)])) ∧ CntJ P w T K p z c k w' := by
  obtain ⟨s, N, h1, h2, h3⟩ := h
  refine (h3.outP hP NoT.pt hk0 (by omega) f7 f7_fits).mono ?_
  rintro e w' ⟨rfl, O⟩
  simp only [h1.1, h1.2.2, h1.2.1]
  exact ⟨⟨_, rfl⟩, s, N, h1, h2, O⟩
set_option maxHeartbeats 1000000 in
theorem counts_w (hP : PSteer P) (A : Option Addr) (len cap : Nat) (xs : Nat → AV) (hl : len ≤ cap) (hc : cap ≤ maxLen) (w : World) (hA : ActsA w A len xs) : Calls Try.prog 8 #[.slice A len cap] w fun e w' => e = .returned (.bool true) ∧ Below w.heap.size w w' := by
  have H := Mem.start w
  have HK := Lib.hid (Kept.no (fun _ : Nat => False))
  have O := Lib.hid ((St.start w ss0).none NoT.pt NoT.pt)
  have HA := Lib.hid hA
  unfold maxLen at hc
  clear hA
  go_enter Try.func8, Try.ntmps8
  go_upto_region 5 with (first
    | go_skip
    | (go_at_call 11; with_reducible refine (shown9 hP _).mono ?_; rintro e w2 ⟨rfl, hb⟩; have H2 := H.call hb; clear H hb; have H := H2; clear H2)
    | (go_at_call 13; refine ((O.out.on NoT.pt NoT.pt HK.out H.below).even NoT.pt NoT.pt HK.out 8 2).mono ?_; rintro e w2 ⟨A1, A2, c1', c2', rfl, O2⟩; clear O H; have O := Lib.hid O2; clear O2; have H := Mem.start w2)
    | (go_at_call 12; refine (((O.out.on NoT.pt NoT.pt (HK.out.tb A1 A2 c1' c2' (evT 8 2)) H.below).newP hP NoT.pt (HK.out.tb A1 A2 c1' c2' (evT 8 2)) A1 A2 c1' c2' (evT 8 2) 3 (by omega) (O.out.on NoT.pt NoT.pt (HK.out.tb A1 A2 c1' c2' (evT 8 2)) H.below).kp.2 (evT_right 8 2) (fun i hi => .inr hi))).mono ?_; rintro e w2 ⟨p, rfl, O2⟩; clear O H; have O := Lib.hid (O2.none hP.pt NoT.pt); clear O2; have H := Mem.start w2))
  obtain ⟨z, hz⟩ : ∃ z, hashI f7 3 = z := ⟨_, rfl⟩
  have J0 : CntJ P w (fun _ => False) (fun _ => True) p z 0 0 w2 := ⟨_, 0, ⟨rfl, rfl, hz⟩, Nat.le_refl _, O.out.on hP.pt NoT.pt (Kept.no _) H.below⟩
  have HJ := Lib.hid J0
  clear J0 O H hz HK
  go_loopw [6, 7] (fun nv iv wr => ∃ k c : Nat, k ≤ len ∧ k ≤ 60 ∧ iv = .int .i64 k ∧ nv = .int .i64 c ∧ c ≤ k ∧ Hid (CntJ P w (fun _ => False) (fun _ => True) p z c k wr)) (fun _ iv _ => len - (intOf iv).toNat)
  case atStart => exact ⟨0, 0, Nat.zero_le _, Nat.zero_le _, rfl, rfl, Nat.le_refl _, HJ⟩
  case round =>
    clear HJ
    obtain ⟨k, c, hk, hk60, rfl, rfl, hck, HJ⟩ := hrel
    have H := Mem.start wr
    by_cases hlt : k < len ∧ k < 60
    · obtain ⟨b, off, hA, hb, hx⟩ := HA.out.plain avC_len (by decide) (by omega)
      obtain ⟨hfit, hcells⟩ := hx k hlt.1
      have t1 : decide ((k : Int) < (len : Int)) = true := decide_eq_true (by omega)
      have t2 : decide ((k : Int) < 60) = true := decide_eq_true (by omega)
      have hbw : b < wr.heap.size := Nat.lt_of_lt_of_le hb HJ.out.bel.size
      have old : ∀ j v, (avC (xs k))[j]? = some v → wr.cell? ⟨b, off + k * 13 + j, none⟩ = some v := fun j v hj => by
        have h := hcells j v hj
        rw [← h]
        unfold World.cell?
        rw [HJ.out.bel.block b hb]
      have cd := old 0 _ rfl
      have cn := old 11 _ rfl
      obtain ⟨xd, hxd⟩ : ∃ d, (xs k).d = d := ⟨_, rfl⟩
      obtain ⟨xn, hxn⟩ : ∃ d, (xs k).n = d := ⟨_, rfl⟩
      rw [hxd] at cd
      rw [hxn] at cn
      rw [Nat.add_zero] at cd
      have hfd := hfit.d
      have hfn := hfit.n
      rw [hxd] at hfd
      rw [hxn] at hfn
      subst hA
      clear hfit hcells old hxd hxn hx
      go_upto_region 8 with (first
        | go_skip
        | ((with_reducible show wpList _ _ _ (⟨_, .load 3 _, _, _, _, _⟩ :: _) _ _); refine mem_loado H cn hbw (by first | exact wanted_none rfl | exact wanted_some rfl rfl rfl rfl) (by exact rfl) (by exact rfl) Try.underlying3 rfl ?_)
        | ((with_reducible show wpList _ _ _ _ _ (World.alloc _ (.cells _ _))); refine mem_newb H ?_; intro bp w3 hbk H2; try rw [← hbk]; clear hbk H; have H := H2; clear H2; simp only [List.cons_append, List.nil_append, List.set_cons_zero, List.set_cons_succ, List.setIfInBounds_toArray] at H)
        | ((with_reducible show wpList _ _ _ (⟨_, .store 42 _ _, _, _, _, _⟩ :: _) _ _); refine mem_store (i := 0) H (by first | exact wanted_none rfl | exact wanted_some rfl rfl rfl rfl) (by exact rfl) (by exact rfl) (by exact rfl) (by exact rfl) (by exact pkInfo) (by exact rfl) (by exact rfl) ?_; intro w2 H2; clear H; have H := H2; clear H2; simp only [List.cons_append, List.nil_append, List.set_cons_zero, List.set_cons_succ, List.setIfInBounds_toArray] at H))
      have hpr := and_one xn
      generalize bits .and .i64 xn 1 = pr at hpr H ⊢
      obtain ⟨T1, K1, hk1, hK1, J1⟩ := HJ.out.pack hP (Kept.no _) H
      have HK := Lib.hid hk1
      have HF := Lib.hid hK1
      have cd2 := (H.old (p := ⟨b, off + k * 13, none⟩) hbw).trans cd
      have hbw2 : b < w2.heap.size := Nat.lt_of_lt_of_le hbw H.below.size
      clear HJ H cn cd hk1 hK1
      have J := Lib.hid J1
      clear J1
      have H := Mem.start w2
      by_cases hodd : xd.tmod 2 = 0
      · have t3 : (xd.tmod 2 == 0) = true := by simpa using hodd
        clear hodd
        go_upto_region 17 with (first
        | go_skip
        | ((with_reducible show wpList _ _ _ (⟨_, .load 3 _, _, _, _, _⟩ :: _) _ _); refine mem_loado H cd2 hbw2 (by first | exact wanted_none rfl | exact wanted_some rfl rfl rfl rfl) (by exact rfl) (by exact rfl) Try.underlying3 rfl ?_)
        | ((with_reducible show wpList _ _ _ (⟨_, .load 42 _, _, _, _, _⟩ :: _) _ _); refine load_held ((HF.out _ J.out.kp).below H.below (HF.out _ J.out.kp).lt) (by first | exact wanted_none rfl | exact wanted_some rfl rfl rfl rfl) (by exact rfl) (by exact rfl) Try.underlying42 rfl (by exact pkInfo) ?_)
        | (go_at_call 19; refine ((J.out.on hP HK.out H.below).choose hP HK.out (by omega) hpr).mono ?_; rintro e w2 ⟨⟨q, rfl⟩, J2⟩; clear J H; have J := Lib.hid J2; clear J2; have H := Mem.start w2))
        go_wp2_with (first
        | go_skip
        | ((with_reducible show wpList _ _ _ (⟨_, .load 40 _, _, _, _, _⟩ :: _) _ _); refine wpList_load_mid rfl _ _ rfl bp 4 rfl _ _ (pkt_range (d := f7) ((HF.out _ J.out.kp).below H.below (HF.out _ J.out.kp).lt)) Try.underlying40 rfl Hs.flowInfo ?_)
        | (go_at_call 16; refine ((J.out.on hP HK.out H.below).out hP HK.out (by omega)).mono ?_; rintro e w2 ⟨⟨q2, rfl⟩, J2⟩; clear J H; have J := Lib.hid J2; clear J2; have H := Mem.start w2))
        go_roundw
        case rel => exact ⟨k + 1, c + 1, by omega, by omega, by go_num, by go_num, by omega, Lib.hid ((J.out.on hP HK.out H.below).noth hP)⟩
        case measure => simp [intOf]; omega
      · have t3 : (xd.tmod 2 == 0) = false := by simpa using hodd
        clear hodd
        by_cases hc0 : 0 < c
        · have t4 : decide ((0 : Int) < (c : Int)) = true := decide_eq_true (by omega)
          have kD := fun W h => CntJ.done (P := P) (w := w) (W := W) (T := T1) (K := K1) (p := p) (c := c) (k := k) (z := z) hP HK.out h (by omega)
          rw [if_pos hc0] at kD
          obtain ⟨c1, hc1⟩ : ∃ c1, c - 1 = c1 := ⟨_, rfl⟩
          rw [hc1] at kD
          obtain rfl : c = c1 + 1 := by omega
          have t5 : max ((c1 : Int) + 1 - 1) 0 = (c1 : Int) := by omega
          go_upto_region 17 with (first
          | go_skip
          | ((with_reducible show wpList _ _ _ (⟨_, .load 3 _, _, _, _, _⟩ :: _) _ _); refine mem_loado H cd2 hbw2 (by first | exact wanted_none rfl | exact wanted_some rfl rfl rfl rfl) (by exact rfl) (by exact rfl) Try.underlying3 rfl ?_)
          | ((with_reducible show wpList _ _ _ (⟨_, .load 40 _, _, _, _, _⟩ :: _) _ _); refine wpList_load_mid rfl _ _ rfl bp 4 rfl _ _ (pkt_range (d := f7) ((HF.out _ J.out.kp).below H.below (HF.out _ J.out.kp).lt)) Try.underlying40 rfl Hs.flowInfo ?_)
          | (go_at_call 22; refine (kD _ (J.out.on hP HK.out H.below)).mono ?_; rintro e w2 ⟨rfl, J2⟩; clear J H; have J := Lib.hid J2; clear J2; have H := Mem.start w2))
          go_wp2_with (first
        | go_skip
        | ((with_reducible show wpList _ _ _ (⟨_, .load 40 _, _, _, _, _⟩ :: _) _ _); refine wpList_load_mid rfl _ _ rfl bp 4 rfl _ _ (pkt_range (d := f7) ((HF.out _ J.out.kp).below H.below (HF.out _ J.out.kp).lt)) Try.underlying40 rfl Hs.flowInfo ?_)
        | (go_at_call 16; refine ((J.out.on hP HK.out H.below).out hP HK.out (by omega)).mono ?_; rintro e w2 ⟨⟨q2, rfl⟩, J2⟩; clear J H; have J := Lib.hid J2; clear J2; have H := Mem.start w2))
          go_roundw
          case rel => exact ⟨k + 1, c1, by omega, by omega, by go_num, by go_num, by omega, Lib.hid ((J.out.on hP HK.out H.below).noth hP)⟩
          case measure => simp [intOf]; omega
        · obtain rfl : c = 0 := by omega
          have t4 : decide ((0 : Int) < ((0 : Nat) : Int)) = false := rfl
          have kD := fun W h => CntJ.done (P := P) (w := w) (W := W) (T := T1) (K := K1) (p := p) (c := 0) (k := k) (z := z) hP HK.out h (by omega)
          rw [if_neg (by omega)] at kD
          rw [show ((0 : Nat) : Int) = 0 from rfl]
          go_upto_region 17 with (first
          | go_skip
          | ((with_reducible show wpList _ _ _ (⟨_, .load 3 _, _, _, _, _⟩ :: _) _ _); refine mem_loado H cd2 hbw2 (by first | exact wanted_none rfl | exact wanted_some rfl rfl rfl rfl) (by exact rfl) (by exact rfl) Try.underlying3 rfl ?_)
          | ((with_reducible show wpList _ _ _ (⟨_, .load 40 _, _, _, _, _⟩ :: _) _ _); refine wpList_load_mid rfl _ _ rfl bp 4 rfl _ _ (pkt_range (d := f7) ((HF.out _ J.out.kp).below H.below (HF.out _ J.out.kp).lt)) Try.underlying40 rfl Hs.flowInfo ?_)
          | (go_at_call 22; refine (kD _ (J.out.on hP HK.out H.below)).mono ?_; rintro e w2 ⟨rfl, J2⟩; clear J H; have J := Lib.hid J2; clear J2; have H := Mem.start w2))
          go_wp2_with (first
        | go_skip
        | ((with_reducible show wpList _ _ _ (⟨_, .load 40 _, _, _, _, _⟩ :: _) _ _); refine wpList_load_mid rfl _ _ rfl bp 4 rfl _ _ (pkt_range (d := f7) ((HF.out _ J.out.kp).below H.below (HF.out _ J.out.kp).lt)) Try.underlying40 rfl Hs.flowInfo ?_)
        | (go_at_call 16; refine ((J.out.on hP HK.out H.below).out hP HK.out (by omega)).mono ?_; rintro e w2 ⟨⟨q2, rfl⟩, J2⟩; clear J H; have J := Lib.hid J2; clear J2; have H := Mem.start w2))
          go_roundw
          case rel => exact ⟨k + 1, 0, by omega, by omega, by go_num, by go_num, by omega, Lib.hid ((J.out.on hP HK.out H.below).noth hP)⟩
          case measure => simp [intOf]; omega
    · by_cases hl2 : k < len
      · have t1 : decide ((k : Int) < (len : Int)) = true := decide_eq_true (by omega)
        have t2 : decide ((k : Int) < 60) = false := decide_eq_false (by omega)
        go_wp2
        go_ret
        exact ⟨rfl, HJ.out.bel⟩
      · have t1 : decide ((k : Int) < (len : Int)) = false := decide_eq_false (by omega)
        go_wp2
        go_ret
        exact ⟨rfl, HJ.out.bel⟩
end
end Go.Proofs.Ytaoaapbbadipfaa
end
