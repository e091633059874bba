/-
  A fifo, as mathematics; a row of packets wherever it lies, and an append to it. Conditions: those that each theorem names. What the document's fifo asks: limits, a packet's length, how many bytes, are two lists the same. Conditions: the lists lie where their slices say. Two packets as values: are they the same; two lists. Conditions: the lists lie where their slices say. An append to a row of packets, wherever it begins; the document's fifo in memory. Conditions: those that each theorem names. What putting, first and last, does to the document's fifo in memory. Conditions: the fifo lies where its pointer says, two thousand packets at most.
-/
import Derived.Test.YtlnlkodpndjimaaMGa
import Derived.ArgAppend
import Derived.Test.YtlnlkodpndjimaaRows
import Derived.Lib.Hide
import Derived.BigQuiet
import Derived.Deep.DeepCutAuto
import Derived.WalkKit
import Derived.ProofKit
import Derived.Deep.MidRow
import Derived.Maps.AppendAt
import Derived.Deep.Upon
/- A fifo, as mathematics; a row of packets wherever it lies, and an append to it. Conditions: those that each theorem names. -/
section
namespace Go.Proofs.Ytlnlkodpndjimaa.Fi
set_option linter.unusedSimpArgs false
set_option linter.unusedVariables false
set_option maxRecDepth 100000
open Go.ChangeShapes Go.WideShapes Go.ChangeAt Go.RowKit

/-- a packet -/
structure PV where
  id : Int
  len : Int
  prio : Int
  cpu : Int
  a : Int
  b : Int
  sp : Int
  dp : Int
  q : Int
deriving DecidableEq
instance : Inhabited PV := ⟨⟨0, 0, 0, 0, 0, 0, 0, 0, 0⟩⟩
structure PV.Fits (p : PV) : Prop where
  id : 0 ≤ p.id ∧ p.id ≤ 4294967295
  len : 0 ≤ p.len ∧ p.len ≤ 4294967295
  prio : -9223372036854775808 ≤ p.prio ∧ p.prio ≤ 9223372036854775807
  cpu : -9223372036854775808 ≤ p.cpu ∧ p.cpu ≤ 9223372036854775807
  a : 0 ≤ p.a ∧ p.a ≤ 4294967295
  b : 0 ≤ p.b ∧ p.b ≤ 4294967295
  sp : 0 ≤ p.sp ∧ p.sp ≤ 65535
  dp : 0 ≤ p.dp ∧ p.dp ≤ 65535
  q : 0 ≤ p.q ∧ p.q ≤ 255
abbrev pvCs (p : PV) : List Value := [.int .u32 p.id, .int .u32 p.len, .int .i64 p.prio, .int .i64 p.cpu, .int .u32 p.a, .int .u32 p.b, .int .u16 p.sp, .int .u16 p.dp, .int .u8 p.q]
abbrev pv (p : PV) : Value := .agg #[.int .u32 p.id, .int .u32 p.len, .int .i64 p.prio, .int .i64 p.cpu, .int .u32 p.a, .int .u32 p.b, .int .u16 p.sp, .int .u16 p.dp, .int .u8 p.q]
def pv0 : PV := ⟨0, 0, 0, 0, 0, 0, 0, 0, 0⟩
/-- the cells of packets -/
def pvs (l : List PV) : List Value := l.flatMap pvCs
theorem pvs_len (l : List PV) : (pvs l).length = l.length * 9 := by
  induction l with
  | nil => rfl
  | cons a l ih => simp [pvs] at ih ⊢; omega
theorem pvs_append (x y : List PV) : pvs (x ++ y) = pvs x ++ pvs y := by simp [pvs]
theorem pvs_one (p : PV) : pvs [p] = pvCs p := by simp [pvs]
theorem pvs_cons (p : PV) (l : List PV) : pvs (p :: l) = pvCs p ++ pvs l := by simp [pvs]
theorem pvs_get {l : List PV} {k : Nat} {p : PV} (h : l[k]? = some p) {j : Nat} (hj : j < 9) : (pvs l)[k * 9 + j]? = (pvCs p)[j]? := by
  induction l generalizing k with
  | nil => cases h
  | cons a l ih =>
    rw [pvs_cons]
    cases k with
    | zero =>
      simp at h
      subst h
      rw [Nat.zero_mul, Nat.zero_add, List.getElem?_append_left hj]
    | succ k =>
      rw [List.getElem?_append_right (by simp; omega), show (k + 1) * 9 + j - (pvCs a).length = k * 9 + j by simp; omega]
      exact ih (by simpa using h)
theorem pvs_oneCell (l : List PV) : ∀ u ∈ pvs l, u.oneCell' = true := by
  intro u hu
  obtain ⟨p, _, hp⟩ := List.mem_flatMap.1 hu
  simp at hp
  rcases hp with rfl | rfl | rfl | rfl | rfl | rfl | rfl | rfl | rfl <;> rfl
/-- how many bytes -/
def bytes (l : List PV) : Int := (l.map PV.len).sum
theorem bytes_nil : bytes [] = 0 := rfl
theorem bytes_cons (p : PV) (l : List PV) : bytes (p :: l) = p.len + bytes l := by simp [bytes]
theorem bytes_append (x y : List PV) : bytes (x ++ y) = bytes x + bytes y := by simp [bytes]
theorem bytes_take {l : List PV} {k : Nat} {p : PV} (h : l[k]? = some p) : bytes (l.take (k + 1)) = bytes (l.take k) + p.len := by
  rw [List.take_add_one, h, bytes_append]
  simp [bytes]
def Sz (l : List PV) : Prop := ∀ p, p ∈ l → 1 ≤ p.len ∧ p.len ≤ 65535
theorem Sz.bytes {l : List PV} (h : Sz l) : (l.length : Int) ≤ bytes l ∧ bytes l ≤ 65535 * l.length := by
  induction l with
  | nil => simp [Fi.bytes]
  | cons p l ih =>
    have h1 := h p (by simp)
    have h2 := ih fun q hq => h q (by simp [hq])
    rw [bytes_cons, List.length_cons]
    omega
theorem bytes_bd {l : List PV} (h : ∀ p, p ∈ l → p.Fits) {k n : Nat} (hk : k ≤ n) (hn : n ≤ 5000) : -1 ≤ bytes (l.take k) ∧ bytes (l.take k) ≤ 5000 * 4294967295 := by
  have key : ∀ x : List PV, (∀ p, p ∈ x → p.Fits) → 0 ≤ bytes x ∧ bytes x ≤ 4294967295 * x.length := by
    intro x hx
    induction x with
    | nil => simp [bytes]
    | cons p x ih =>
      have h1 := (hx p (by simp)).len
      have h2 := ih fun q hq => hx q (by simp [hq])
      rw [bytes_cons, List.length_cons]
      omega
  have := key (l.take k) fun p hp => h p (List.mem_of_mem_take hp)
  rw [List.length_take] at this
  omega
/-- a fifo: its packets, its maxima -/
structure FF where
  l : List PV
  n : Int
  b : Int
def okN (n b : Int) : Bool := decide (1 ≤ n) && decide (n ≤ 1000) && decide (1 ≤ b) && decide (b ≤ 1073741824)
def okP (p : PV) : Bool := decide (1 ≤ p.len) && decide (p.len ≤ 65535)
/-- putting: the error, the fifo -/
def putE (s : FF) (p : PV) : Int := if okP p = false then 2 else if s.n ≤ s.l.length then 100 else if s.b < bytes s.l + p.len then 101 else 0
def putS (s : FF) (p : PV) : FF := if putE s p = 0 then { s with l := s.l ++ [p] } else s
def backE (p : PV) : Int := if okP p = false then 2 else 0
def backS (s : FF) (p : PV) : FF := if backE p = 0 then { s with l := p :: s.l } else s
def firstV (s : FF) : PV := s.l.headD pv0
def firstE (s : FF) : Int := if s.l = [] then 31 else 0
def takeS (s : FF) : FF := { s with l := s.l.tail }
/-- how many are kept -/
def kp (l : List PV) (n b : Int) : Nat → Nat
  | 0 => 0
  | k + 1 => if n < (k + 1 : Nat) ∨ b < bytes (l.take (k + 1)) then kp l n b k else k + 1
def limE (n b : Int) : Int := if okN n b = true then 0 else 2
def limV (s : FF) (n b : Int) : List PV := if okN n b = true then (s.l.drop (kp s.l n b s.l.length)).reverse else []
def limS (s : FF) (n b : Int) : FF := if okN n b = true then ⟨s.l.take (kp s.l n b s.l.length), n, b⟩ else s
def drainS (s : FF) : FF := { s with l := [] }
theorem kp_le (l : List PV) (n b : Int) : ∀ k, kp l n b k ≤ k
  | 0 => Nat.le_refl _
  | k + 1 => by
    unfold kp
    split
    · exact Nat.le_succ_of_le (kp_le l n b k)
    · exact Nat.le_refl _
theorem kp_fits (l : List PV) (n b : Int) (hn : 0 ≤ n) (hb : 0 ≤ b) : ∀ k, (kp l n b k : Int) ≤ n ∧ bytes (l.take (kp l n b k)) ≤ b
  | 0 => ⟨by simpa [kp] using hn, by simpa [kp, bytes] using hb⟩
  | k + 1 => by
    unfold kp
    split
    · exact kp_fits l n b hn hb k
    · rename_i h
      exact ⟨by omega, by omega⟩
theorem kp_most (l : List PV) (n b : Int) : ∀ k, kp l n b k < k → n < (kp l n b k + 1 : Nat) ∨ b < bytes (l.take (kp l n b k + 1))
  | 0, h => absurd h (by omega)
  | k + 1, h => by
    unfold kp at h ⊢
    by_cases hc : n < (k + 1 : Nat) ∨ b < bytes (l.take (k + 1))
    · rw [if_pos hc] at h ⊢
      by_cases e : kp l n b k < k
      · exact kp_most l n b k e
      · have := kp_le l n b k
        have e2 : kp l n b k = k := by omega
        rw [e2]
        exact hc
    · rw [if_neg hc] at h
      omega
theorem kp_step {l : List PV} {n b : Int} {k : Nat} (h : n < (k + 1 : Nat) ∨ b < bytes (l.take (k + 1))) : kp l n b (k + 1) = kp l n b k := by
  rw [kp, if_pos h]
theorem kp_stop {l : List PV} {n b : Int} {k : Nat} (h : ¬ (n < (k : Nat) ∨ b < bytes (l.take k))) : kp l n b k = k := by
  cases k with
  | zero => rfl
  | succ k => rw [kp, if_neg h]
/-- a row of packets -/
def Que (W : World) (v : Value) (l : List PV) : Prop := (v = .slice none 0 0 ∧ l = []) ∨
  ∃ g off cap cs, v = .slice (some ⟨g, off, none⟩) l.length cap ∧ Held W g 37 cs ∧ l.length ≤ cap ∧ cap ≤ maxLen ∧ off + cap * 9 ≤ cs.size ∧ ∀ j u, (pvs l)[j]? = some u → cs[off + j]? = some u
/-- its block -/
def qb (v : Value) (i : Nat) : Prop := ∃ o m n c, v = .slice (some ⟨i, o, m⟩) n c
theorem Que.nil (W : World) : Que W (.slice none 0 0) [] := .inl ⟨rfl, rfl⟩
theorem Que.on {W W' : World} {v : Value} {l : List PV} (h : Que W v l) (hs : ∀ i, qb v i → W'.heap[i]? = W.heap[i]?) : Que W' v l := by
  rcases h with h | ⟨g, off, cap, cs, rfl, h1, h2⟩
  · exact .inl h
  · exact .inr ⟨g, off, cap, cs, rfl, (hs g ⟨_, _, _, _, rfl⟩).trans h1, h2⟩
theorem Que.lt {W : World} {v : Value} {l : List PV} (h : Que W v l) {i : Nat} (hi : qb v i) : i < W.heap.size := by
  rcases h with ⟨rfl, _⟩ | ⟨g, off, cap, cs, rfl, h1, h2⟩
  · obtain ⟨_, _, _, _, e⟩ := hi
    cases e
  · obtain ⟨_, _, _, _, e⟩ := hi
    cases e
    exact h1.lt
theorem Que.shape {W : World} {v : Value} {l : List PV} (h : Que W v l) : ∃ A c, v = .slice A l.length c ∧ l.length ≤ c ∧ c ≤ maxLen := by
  rcases h with ⟨rfl, rfl⟩ | ⟨g, off, cap, cs, rfl, h1, h2, h3, _⟩
  · exact ⟨none, 0, rfl, Nat.le_refl _, Nat.zero_le _⟩
  · exact ⟨_, cap, rfl, h2, h3⟩
/-- where element k lies -/
theorem Que.at {W : World} {A : Option Addr} {n c : Nat} {l : List PV} (h : Que W (.slice A n c) l) {k : Nat} {p : PV} (hk : l[k]? = some p) : ∃ g off, A = some ⟨g, off, none⟩ ∧ g < W.heap.size ∧ ∀ j, j < 9 → W.cell? ⟨g, off + k * 9 + j, none⟩ = (pvCs p)[j]? := by
  rcases h with ⟨_, rfl⟩ | ⟨g, off, cap, cs, e, h1, h2, h3, h4, h5⟩
  · cases hk
  · cases e
    refine ⟨g, off, rfl, h1.lt, fun j hj => ?_⟩
    have e9 : (pvCs p)[j]? = some ((pvCs p)[j]'(by simpa using hj)) := List.getElem?_eq_getElem _
    rw [h1.cell, Nat.add_assoc, e9]
    exact h5 _ _ ((pvs_get hk hj).trans e9)
/-- cut at the end -/
theorem Que.take {W : World} {A : Option Addr} {n c : Nat} {l : List PV} (h : Que W (.slice A n c) l) {k : Nat} (hk : k ≤ l.length) : Que W (.slice A k c) (l.take k) := by
  rcases h with ⟨e, rfl⟩ | ⟨g, off, cap, cs, e, h1, h2, h3, h4, h5⟩
  · cases e
    obtain rfl : k = 0 := by simpa using hk
    exact .inl ⟨rfl, rfl⟩
  · cases e
    have hl : (l.take k).length = k := by rw [List.length_take]; omega
    refine .inr ⟨g, off, c, cs, by rw [hl], h1, by omega, h3, h4, fun j u hj => h5 j u ?_⟩
    rw [← List.take_append_drop k l, pvs_append, List.getElem?_append_left (List.getElem?_eq_some_iff.1 hj).1]
    exact hj
/-- cut at the beginning -/
theorem Que.tail {W : World} {g off n c : Nat} {p : PV} {l : List PV} (h : Que W (.slice (some ⟨g, off, none⟩) n c) (p :: l)) : Que W (.slice (some ⟨g, off + 9, none⟩) (n - 1) (c - 1)) l ∧ (c = 1 → Que W (.slice (some ⟨g, off, none⟩) 0 0) l) := by
  rcases h with ⟨e, _⟩ | ⟨g', off', cap, cs, e, h1, h2, h3, h4, h5⟩
  · cases e
  · cases e
    rw [List.length_cons] at h2
    constructor
    · refine .inr ⟨g, off + 9, c - 1, cs, by simp, h1, by omega, by omega, by omega, fun j u hj => ?_⟩
      have := h5 (9 + j) u (by rw [pvs_cons, List.getElem?_append_right (by simp)]; simpa using hj)
      rwa [← Nat.add_assoc] at this
    · intro hc
      subst hc
      obtain rfl : l = [] := List.eq_nil_of_length_eq_zero (by omega)
      exact .inr ⟨g, off, 0, cs, rfl, h1, by simp, by omega, by omega, fun j u hj => by simp [pvs] at hj⟩
end Go.Proofs.Ytlnlkodpndjimaa.Fi
end
/- What the document's fifo asks: limits, a packet's length, how many bytes, are two lists the same. Conditions: the lists lie where their slices say. -/
section
namespace Go.Proofs.Ytlnlkodpndjimaa.Fi
set_option linter.unusedSimpArgs false
set_option linter.unusedVariables false
set_option maxRecDepth 100000
open Go.ChangeShapes Go.WideShapes Go.ChangeAt Go.RowKit

theorem may_r (n b : Int) (w : World) : Calls Try.prog 26 #[.int .i64 n, .int .i64 b] w fun e w' => e = .returned (.bool (okN n b)) ∧ Below w.heap.size w w' := by
  have H := Mem.start w
  unfold okN
  go_enter Try.func26, Try.ntmps26
  by_cases h1 : 1 ≤ n
  · by_cases h2 : n ≤ 1000
    · by_cases h3 : 1 ≤ b
      · go_wp2
        go_ret
        exact ⟨by simp [h1, h2, h3] <;> omega, H.below⟩
      · go_wp2
        go_ret
        exact ⟨by simp [h1, h2, h3] <;> omega, H.below⟩
    · go_wp2
      go_ret
      exact ⟨by simp [h1, h2] <;> omega, H.below⟩
  · go_wp2
    go_ret
    exact ⟨by simp [h1] <;> omega, H.below⟩
theorem sized_r (p : PV) (w : World) : Calls Try.prog 43 #[pv p] w fun e w' => e = .returned (.bool (okP p)) ∧ Below w.heap.size w w' := by
  have H := Mem.start w
  unfold okP
  by_cases h1 : 1 ≤ p.len
  · have t1 : decide (p.len ≥ 1) = true := decide_eq_true h1
    go_enter Try.func43, Try.ntmps43
    go_wp2_with (first
    | go_skip
    | ((with_reducible show wpList _ _ _ _ _ (World.alloc _ (.cells _ _))); refine mem_new H ?_; intro w2 H2; clear H; have H := H2; clear H2; simp only [List.cons_append, List.nil_append, List.set_cons_zero, List.set_cons_succ, List.setIfInBounds_toArray] at H)
    | ((with_reducible show wpList _ _ _ (⟨_, .load _ _, _, _, _, _⟩ :: _) _ _); refine mem_loadf (i := 0) H (by first | exact wanted_none rfl | exact wanted_some rfl rfl rfl rfl) (by exact rfl) (by exact rfl) (by exact rfl) (by first | exact Try.underlying32 | exact Try.underlying3 | exact Try.underlying41) rfl (by exact rfl) ?_))
    go_ret
    exact ⟨by simp [h1] <;> omega, H.below⟩
  · have t1 : decide (p.len ≥ 1) = false := decide_eq_false h1
    go_enter Try.func43, Try.ntmps43
    go_wp2_with (first
    | go_skip
    | ((with_reducible show wpList _ _ _ _ _ (World.alloc _ (.cells _ _))); refine mem_new H ?_; intro w2 H2; clear H; have H := H2; clear H2; simp only [List.cons_append, List.nil_append, List.set_cons_zero, List.set_cons_succ, List.setIfInBounds_toArray] at H)
    | ((with_reducible show wpList _ _ _ (⟨_, .load _ _, _, _, _, _⟩ :: _) _ _); refine mem_loadf (i := 0) H (by first | exact wanted_none rfl | exact wanted_some rfl rfl rfl rfl) (by exact rfl) (by exact rfl) (by exact rfl) (by first | exact Try.underlying32 | exact Try.underlying3 | exact Try.underlying41) rfl (by exact rfl) ?_))
    go_ret
    exact ⟨by simp [h1] <;> omega, H.below⟩
set_option maxHeartbeats 2000000 in
theorem bytes_r (A : Option Addr) (n c : Nat) (l : List PV) (W : World) (hQ : Que W (.slice A n c) l) (hn : l.length = n) (h5 : n ≤ 5000) (hf : ∀ p, p ∈ l → p.Fits) : Calls Try.prog 17 #[.slice A n c] W fun e w' => e = .returned (.int .i64 (bytes l)) ∧ Below W.heap.size W w' := by
  have H := Mem.start W
  have HQ := Lib.hid hQ
  have HN := Lib.hid hn
  have HF := Lib.hid hf
  clear hQ hn hf
  go_enter Try.func17, Try.ntmps17
  go_wp2
  go_loopw [3, 4] (fun s i wr => ∃ k : Nat, k ≤ n ∧ i = .int .i64 k ∧ s = .int .i64 (bytes (l.take k)) ∧ Mem W wr []) (fun _ i _ => n - (intOf i).toNat)
  case atStart => exact ⟨0, Nat.zero_le _, rfl, rfl, H⟩
  case round =>
    clear H
    obtain ⟨k, hk, rfl, rfl, H⟩ := hrel
    by_cases hlt : k < n
    · obtain ⟨y, hy⟩ : ∃ y, l[k]? = some y := ⟨l[k]'(by have := HN.out; omega), List.getElem?_eq_getElem _⟩
      obtain ⟨g, off, hA, hg, hc⟩ := HQ.out.at hy
      have g0 : wr.cell? ⟨g, off + k * 9 + 1, none⟩ = some (.int .u32 y.len) := (H.old (p := ⟨g, off + k * 9 + 1, none⟩) hg).trans (hc 1 (by omega))
      have HB := Lib.hid (bytes_take hy)
      have hb1 : -1 ≤ bytes (l.take k) ∧ bytes (l.take k) ≤ 5000 * 4294967295 := bytes_bd HF.out hk h5
      have hy2 := (HF.out y (List.mem_of_getElem? hy)).len
      obtain ⟨S, hS⟩ : ∃ S, bytes (l.take k) = S := ⟨_, rfl⟩
      rw [hS] at hb1
      have HB2 := Lib.hid (HB.out.trans (by rw [hS]))
      have HS := Lib.hid hS
      rw [hS]
      subst hA
      clear hS HB hy hc
      go_wp2
      go_roundw
      case rel => exact ⟨k + 1, by omega, by go_num, by rw [HB2.out], H⟩
      case measure => simp [intOf]; omega
    · obtain rfl : k = n := by omega
      go_wp2
      go_ret
      exact ⟨by rw [List.take_of_length_le (by have := HN.out; omega)]; rfl, H.below⟩
end Go.Proofs.Ytlnlkodpndjimaa.Fi
end
/- Two packets as values: are they the same; two lists. Conditions: the lists lie where their slices say. -/
section
namespace Go.Proofs.Ytlnlkodpndjimaa.Fi
set_option linter.unusedSimpArgs false
set_option linter.unusedVariables false
set_option maxRecDepth 100000
open Go.ChangeShapes Go.WideShapes Go.ChangeAt Go.RowKit

theorem pv_same (p q : PV) : ((p.id == q.id) && ((p.len == q.len) && ((p.prio == q.prio) && ((p.cpu == q.cpu) && (((p.a == q.a) && ((p.b == q.b) && ((p.sp == q.sp) && ((p.dp == q.dp) && (p.q == q.q)))))))))) = decide (p = q) := by
  obtain ⟨a1, a2, a3, a4, a5, a6, a7, a8, a9⟩ := p
  obtain ⟨b1, b2, b3, b4, b5, b6, b7, b8, b9⟩ := q
  rw [Bool.eq_iff_iff]
  simp
theorem eq_pv (p q : PV) (w : World) : (Op.equalIn 10000 37 (pv p) (pv q)).run Try.prog w = .ok (decide (p = q)) w := by
  rw [← pv_same]
  have key : ∀ (a b : Int) (d : Bool), (if a = b then Result.ok d w else Result.ok false w : Result Bool) = Result.ok ((a == b) && d) w := by
    intro a b d
    by_cases h : a = b <;> simp [h]
  have k1 : ∀ (a b : Int), (if a = b then Result.ok true w else Result.ok false w : Result Bool) = Result.ok (a == b) w := by
    intro a b
    by_cases h : a = b <;> simp [h]
  go_simp
theorem pkInfo : (Try.prog.info? 37).map (·.size) = some 9 := by kernel_rfl
theorem range9 {w : World} {g o : Nat} {p : PV} (h : ∀ j, j < 9 → w.cell? ⟨g, o + j, none⟩ = (pvCs p)[j]?) : w.rangeAt g o (pvCs p) := fun j v hv => (h j (by simpa using (List.getElem?_eq_some_iff.1 hv).1)).trans hv
theorem yields_neq {ops : Array Oper} {o : Oper} {a : Act} {R : World → Prop} {x y : Operand} {t : TypeId} {p q : PV} (hw : Region.wanted o (yielded ops a.tmps) = true) (ho : o.op = .binOp .neq 37 x y t) (hx : opnd a x = some (pv p)) (hy : opnd a y = some (pv q)) : YieldsG Try.prog ops R o (.bool (!decide (p = q))) a := by
  refine ⟨hw, fun w _ => ?_, fun w => ?_⟩
  · unfold execOp
    simp only [ho, opnd_eval hx, opnd_eval hy, Sem.run_bind, Sem.run_pure, Result.andThen_ok]
    rw [run_eqGuard_agg _ _ _ _ _ _ _ (by kernel_rfl)]
    simp only [Result.andThen_ok]
    rw [run_neq_struct, eq_pv]
    rfl
  · unfold Oper.about
    rw [ho]
theorem yields_eql {ops : Array Oper} {o : Oper} {a : Act} {R : World → Prop} {x y : Operand} {t : TypeId} {p q : PV} (hw : Region.wanted o (yielded ops a.tmps) = true) (ho : o.op = .binOp .eql 37 x y t) (hx : opnd a x = some (pv p)) (hy : opnd a y = some (pv q)) : YieldsG Try.prog ops R o (.bool (decide (p = q))) a := by
  refine ⟨hw, fun w _ => ?_, fun w => ?_⟩
  · unfold execOp
    simp only [ho, opnd_eval hx, opnd_eval hy, Sem.run_bind, Sem.run_pure, Result.andThen_ok]
    rw [run_eqGuard_agg _ _ _ _ _ _ _ (by kernel_rfl)]
    simp only [Result.andThen_ok]
    rw [run_eql_struct, eq_pv]
    rfl
  · unfold Oper.about
    rw [ho]
theorem yields_oldpv {ops : Array Oper} {o : Oper} {a : Act} {w0 : World} {l : List (Nat × TypeId × Array Value)} {b j : Nat} {x : Operand} {p : PV} (hc : w0.rangeAt b j (pvCs p)) (hp : b < w0.heap.size) (hw : Region.wanted o (yielded ops a.tmps) = true) (ho : o.op = .load 37 x) (hx : opnd a x = some (.pointer (some ⟨b, j, none⟩))) : YieldsG Try.prog ops (fun wx => Mem w0 wx l) o (pv p) a := by
  refine ⟨hw, fun w H => ?_, fun w => ?_⟩
  · have hc' : w.rangeAt b j (pvCs p) := fun k v hk => (H.old (p := ⟨b, j + k, none⟩) hp).trans (hc k v hk)
    unfold execOp
    simp only [ho, opnd_eval hx, Instr.loadAt, Instr.sureAddr, Sem.run_bind, Sem.run_pure, Result.andThen_ok, run_loadVar_mid w b j _ (pvCs p) _ hc' Try.underlying37 rfl pkInfo]
  · unfold Oper.about
    rw [ho]
set_option maxHeartbeats 2000000 in
theorem same_r (A A2 : Option Addr) (n c n2 c2 : Nat) (l l2 : List PV) (W : World) (hQ : Que W (.slice A n c) l) (hQ2 : Que W (.slice A2 n2 c2) l2) (hn : l.length = n) (hn2 : l2.length = n2) (h5 : n ≤ 5000) (h52 : n2 ≤ 5000) : Calls Try.prog 14 #[.slice A n c, .slice A2 n2 c2] W fun e w' => e = .returned (.bool (decide (l = l2))) ∧ Below W.heap.size W w' := by
  have H := Mem.start W
  have HN := Lib.hid hn
  have HN2 := Lib.hid hn2
  clear hn hn2
  by_cases hnn : n = n2
  · subst hnn
    have HQ := Lib.hid hQ
    have HQ2 := Lib.hid hQ2
    clear hQ hQ2
    go_enter Try.func14, Try.ntmps14
    go_wp2
    go_loopw [5] (fun i wr => ∃ k : Nat, k ≤ n ∧ i = .int .i64 k ∧ Hid (l.take k = l2.take k) ∧ Mem W wr []) (fun i _ => n - (intOf i).toNat)
    case atStart => exact ⟨0, Nat.zero_le _, rfl, Lib.hid rfl, H⟩
    case round =>
      clear H
      obtain ⟨k, hk, rfl, HE, H⟩ := hrel
      by_cases hlt : k < n
      · obtain ⟨y, hy⟩ : ∃ y, l[k]? = some y := ⟨l[k]'(by have := HN.out; omega), List.getElem?_eq_getElem _⟩
        obtain ⟨z, hz⟩ : ∃ z, l2[k]? = some z := ⟨l2[k]'(by have := HN2.out; omega), List.getElem?_eq_getElem _⟩
        obtain ⟨g, off, hA, hg, hc⟩ := HQ.out.at hy
        obtain ⟨g2, off2, hA2, hg2, hc2⟩ := HQ2.out.at hz
        have r1 := range9 hc
        have r2 := range9 hc2
        have HY := Lib.hid hy
        have HZ := Lib.hid hz
        subst hA hA2
        clear hy hz hc hc2
        go_upto_region 6 with (fail)
        refine region_mem H 9 rfl (by kernel_rfl) (fun wr hS => ?_)
        clear H
        refine wpAnyR_take (i := 0) (v := .slice (some ⟨g, off, none⟩) n c) rfl rfl (by kernel_rfl) (by kernel_rfl) (by kernel_rfl) (fun _ _ _ h => h) (Nat.le_refl _) ⟨by rfl, fun w _ => (by go_simp; try (first | (simp only [IntKind.wrap_u32]; done) | rfl)), fun _ => rfl⟩ hS ?_
        simp only [List.getElem_toArray, List.getElem_cons_zero, List.getElem_cons_succ, Act.put, List.setIfInBounds_toArray, List.set_cons_zero, List.set_cons_succ]
        refine wpAnyR_take (i := 1) (v := .int .i64 k) rfl rfl (by kernel_rfl) (by kernel_rfl) (by kernel_rfl) (fun _ _ _ h => h) (Nat.le_refl _) ⟨by rfl, fun w _ => (by go_simp; try (first | (simp only [IntKind.wrap_u32]; done) | rfl)), fun _ => rfl⟩ hS ?_
        simp only [List.getElem_toArray, List.getElem_cons_zero, List.getElem_cons_succ, Act.put, List.setIfInBounds_toArray, List.set_cons_zero, List.set_cons_succ]
        refine wpAnyR_take (i := 2) (v := .pointer (some ⟨g, off + k * 9, none⟩)) rfl rfl (by kernel_rfl) (by kernel_rfl) (by kernel_rfl) (fun _ _ _ h => h) (Nat.le_refl _) ⟨by rfl, fun w _ => (by go_simp; try (first | (simp only [IntKind.wrap_u32]; done) | rfl)), fun _ => rfl⟩ hS ?_
        simp only [List.getElem_toArray, List.getElem_cons_zero, List.getElem_cons_succ, Act.put, List.setIfInBounds_toArray, List.set_cons_zero, List.set_cons_succ]
        refine wpAnyR_take (i := 3) (v := pv y) rfl rfl (by kernel_rfl) (by kernel_rfl) (by kernel_rfl) (fun _ _ _ h => h) (Nat.le_refl _) (yields_oldpv r1 hg (by exact rfl) (by exact rfl) (by exact rfl)) hS ?_
        simp only [List.getElem_toArray, List.getElem_cons_zero, List.getElem_cons_succ, Act.put, List.setIfInBounds_toArray, List.set_cons_zero, List.set_cons_succ]
        refine wpAnyR_take (i := 4) (v := .slice (some ⟨g2, off2, none⟩) n c2) rfl rfl (by kernel_rfl) (by kernel_rfl) (by kernel_rfl) (fun _ _ _ h => h) (Nat.le_refl _) ⟨by rfl, fun w _ => (by go_simp; try (first | (simp only [IntKind.wrap_u32]; done) | rfl)), fun _ => rfl⟩ hS ?_
        simp only [List.getElem_toArray, List.getElem_cons_zero, List.getElem_cons_succ, Act.put, List.setIfInBounds_toArray, List.set_cons_zero, List.set_cons_succ]
        refine wpAnyR_take (i := 5) (v := .int .i64 k) rfl rfl (by kernel_rfl) (by kernel_rfl) (by kernel_rfl) (fun _ _ _ h => h) (Nat.le_refl _) ⟨by rfl, fun w _ => (by go_simp; try (first | (simp only [IntKind.wrap_u32]; done) | rfl)), fun _ => rfl⟩ hS ?_
        simp only [List.getElem_toArray, List.getElem_cons_zero, List.getElem_cons_succ, Act.put, List.setIfInBounds_toArray, List.set_cons_zero, List.set_cons_succ]
        refine wpAnyR_take (i := 6) (v := .pointer (some ⟨g2, off2 + k * 9, none⟩)) rfl rfl (by kernel_rfl) (by kernel_rfl) (by kernel_rfl) (fun _ _ _ h => h) (Nat.le_refl _) ⟨by rfl, fun w _ => (by go_simp; try (first | (simp only [IntKind.wrap_u32]; done) | rfl)), fun _ => rfl⟩ hS ?_
        simp only [List.getElem_toArray, List.getElem_cons_zero, List.getElem_cons_succ, Act.put, List.setIfInBounds_toArray, List.set_cons_zero, List.set_cons_succ]
        refine wpAnyR_take (i := 7) (v := pv z) rfl rfl (by kernel_rfl) (by kernel_rfl) (by kernel_rfl) (fun _ _ _ h => h) (Nat.le_refl _) (yields_oldpv r2 hg2 (by exact rfl) (by exact rfl) (by exact rfl)) hS ?_
        simp only [List.getElem_toArray, List.getElem_cons_zero, List.getElem_cons_succ, Act.put, List.setIfInBounds_toArray, List.set_cons_zero, List.set_cons_succ]
        refine wpAnyR_take (i := 8) (v := .bool (!decide (y = z))) rfl rfl (by kernel_rfl) (by kernel_rfl) (by kernel_rfl) (fun _ _ _ h => h) (Nat.le_refl _) (yields_neq (by exact rfl) (by exact rfl) (by exact rfl) (by exact rfl)) hS ?_
        simp only [List.getElem_toArray, List.getElem_cons_zero, List.getElem_cons_succ, Act.put, List.setIfInBounds_toArray, List.set_cons_zero, List.set_cons_succ]
        refine wpAnyG_done (by kernel_rfl) ?_ _
        have H := hS
        clear hS
        by_cases e : y = z
        · have HE2 := Lib.hid (show l.take (k + 1) = l2.take (k + 1) by rw [List.take_add_one, List.take_add_one, HE.out, HY.out, HZ.out, e])
          simp only [decide_eq_true e, Bool.not_true]
          clear e HE
          go_wp2
          go_roundw
          case rel => exact ⟨k + 1, by omega, by go_num, HE2, H⟩
          case measure => simp [intOf]; omega
        · have hne : decide (l = l2) = false := decide_eq_false (fun h => e (by
            have h1 := HY.out
            rw [h, HZ.out] at h1
            injection h1 with h1
            exact h1.symm))
          have HNE := Lib.hid hne
          clear hne
          simp only [decide_eq_false e, Bool.not_false]
          clear e HE
          go_wp2
          go_ret
          exact ⟨by rw [HNE.out]; rfl, H.below⟩
      · obtain rfl : k = n := by omega
        have he : decide (l = l2) = true := decide_eq_true (by
          have h1 := HE.out
          rwa [List.take_of_length_le (by have := HN.out; omega), List.take_of_length_le (by have := HN2.out; omega)] at h1)
        have HE3 := Lib.hid he
        clear he
        go_wp2
        go_ret
        exact ⟨by rw [HE3.out]; rfl, H.below⟩
  · go_enter Try.func14, Try.ntmps14
    have t1 : ((n : Int) != (n2 : Int)) = true := by simpa using (show (n : Int) ≠ n2 by omega)
    go_wp2
    go_ret
    exact ⟨by
      rw [decide_eq_false (fun e => hnn (by rw [← HN.out, e, HN2.out]))]
      rfl, H.below⟩
end Go.Proofs.Ytlnlkodpndjimaa.Fi
end
/- An append to a row of packets, wherever it begins; the document's fifo in memory. Conditions: those that each theorem names. -/
section
namespace Go.Proofs.Ytlnlkodpndjimaa.Fi
set_option linter.unusedSimpArgs false
set_option linter.unusedVariables false
set_option maxRecDepth 100000
open Go.ChangeShapes Go.WideShapes Go.ChangeAt Go.RowKit

theorem block_set (w : World) (g j i : Nat) (u : Value) (h : i ≠ g) : (w.setCell ⟨g, j, none⟩ u).heap[i]? = w.heap[i]? := Below.heap_setCell _ _ _ _ (fun e => h e)
theorem infoPk : (Try.prog.info? 37).map (fun i => (i.zero, i.size, i.bytes)) = some (some (pv pv0), 9, 40) := by kernel_rfl
theorem infoPk_parts : ∃ i, Try.prog.info? 37 = some i ∧ i.zero = some (pv pv0) ∧ i.size = 9 ∧ i.bytes = 40 := by
  have h := infoPk
  rcases hi : Try.prog.info? 37 with _ | i
  · rw [hi] at h; cases h
  · rw [hi] at h
    simp at h
    exact ⟨i, rfl, h.1, h.2.1, h.2.2⟩
theorem held_setCells {b : Nat} {t : TypeId} : ∀ (vs : List Value) (o : Nat) {W : World} {cs : Array Value}, Held W b t cs → ∃ cs', Held (W.setCells b o vs) b t cs' ∧ cs'.size = cs.size
  | [], _, _, cs, h => ⟨cs, h, rfl⟩
  | v :: vs, o, W, cs, h => by
    obtain ⟨cs', h1, h2⟩ := held_setCells vs (o + 1) (h.set o v)
    exact ⟨cs', h1, h2.trans (by simp)⟩
theorem foot_setCells (b : Nat) : ∀ (vs : List Value) (o : Nat) (W : World), Foot (· = b) W (W.setCells b o vs)
  | [], _, W => Foot.refl _ W
  | v :: vs, o, W => (Foot.cell W ⟨b, o, none⟩ v).trans' (foot_setCells b vs (o + 1) _)
/-- a row of the call's own is such a row -/
theorem Que.of_owns {w : World} {base n : Nat} {v : Value} {l : List PV} (h : w.ownsRow base 37 9 v n (pvs l)) (hn : l.length = n) : Que w v l ∧ ∀ i, qb v i → base ≤ i := by
  have h0 := h
  rcases h.2 with ⟨rfl, h1⟩ | ⟨g, cap, cur, rfl, h1, h2, h3, h4, h5, h6⟩
  · obtain rfl : l = [] := List.eq_nil_of_length_eq_zero (by omega)
    refine ⟨.inl ⟨rfl, rfl⟩, ?_⟩
    rintro i ⟨_, _, _, _, e⟩
    cases e
  · refine ⟨.inr ⟨g, 0, cap, cur, by rw [hn], h2, by omega, h4, by omega, fun j u hj => ?_⟩, ?_⟩
    · have hj2 := hj
      rw [← h6, List.getElem?_take] at hj2
      split at hj2
      · rw [Nat.zero_add, ← Array.getElem?_toList]
        exact hj2
      · cases hj2
    · rintro i ⟨_, _, _, _, e⟩
      cases e
      exact h1
theorem foot_grown {B : Nat → Prop} {w w' : World} {row : Option Nat} (hg : w.grownBy w' row) (hr : ∀ k, row = some k → B k) : Foot B w w' :=
  (Foot.refl B w).grown hg fun k e _ => hr k e
/-- elements more -/
theorem run_append_que (w : World) (v : Value) (l l2 : List PV) (ad : Addr) (m c : Nat) (hq : Que w v l) (hm : l2.length = m) (hnews : ∀ j u, (pvs l2)[j]? = some u → w.cell? (ad.add j) = some u) (h5 : l.length + m ≤ 100000) :
    ∃ v' w', (Builtin.append_ #[41, 41] 41 #[v, .slice (some ad) m c]).run Try.prog w = .ok v' w' ∧ Que w' v' (l ++ l2) ∧ Foot (qb v) w w' ∧ ∀ i, qb v' i → qb v i ∨ w.heap.size ≤ i := by
  obtain ⟨i0, hi, hz0, hz1, hz2⟩ := infoPk_parts
  have hl2 : (pvs l2).length = m * 9 := by rw [pvs_len, hm]
  have hmx : l.length + m ≤ maxLen := by simp only [maxLen]; omega
  rcases hq with ⟨rfl, rfl⟩ | ⟨g, off, cap, cs, rfl, h1, h2, h3, h4, h6⟩
  · obtain ⟨v', w', hr, hown, hg, _⟩ := run_append_own (P := Try.prog) w w.heap.size 41 41 37 i0 (pv pv0) 9 40 Try.underlying41 hi hz0 hz1 hz2 rfl (by decide) (.slice none 0 0) 0 [] ⟨rfl, .inl ⟨rfl, rfl⟩⟩ ad m c (pvs l2) hl2 hnews (pvs_oneCell l2) (by simpa using hmx) (by simp at h5; omega) (Nat.le_refl _)
    have ho := Que.of_owns (l := l2) (n := 0 + m) (by simpa using hown) (by omega)
    exact ⟨v', w', hr, ho.1, foot_grown hg (fun k e => by cases e), fun i hi => .inr (ho.2 i hi)⟩
  · have h1c := h1
    by_cases hroom : l.length + m ≤ cap
    · have hin : off + l.length * 9 + m * 9 ≤ cs.size := by
        have : (l.length + m) * 9 ≤ cap * 9 := Nat.mul_le_mul_right _ hroom
        omega
      have hsome : ∀ j, j < (pvs l2).length → (w.cell? ⟨g, off + l.length * 9 + j, none⟩).isSome = true := fun j hj => by
        rw [h1.cell, Array.getElem?_eq_getElem (by omega)]
        rfl
      have hr := run_append_room_cells (P := Try.prog) w 41 41 37 i0 Try.underlying41 hi g off l.length cap ad m c (pvs l2) (by rw [hl2, hz1]) hnews (pvs_oneCell l2) hroom (by rw [hz1]; exact hsome) (fun j _ => h1.frozen _)
      rw [hz1] at hr
      obtain ⟨cs', hc1, hc2⟩ := held_setCells (pvs l2) (off + l.length * 9) h1
      refine ⟨_, _, hr, .inr ⟨g, off, cap, cs', by rw [List.length_append, hm], hc1, by rw [List.length_append]; omega, h3, by omega, fun j u hj => ?_⟩, ?_, fun i hi => ?_⟩
      · rw [← hc1.cell]
        rw [pvs_append] at hj
        by_cases hjl : j < (pvs l).length
        · rw [List.getElem?_append_left hjl] at hj
          rw [World.cell?_setCells_out g _ _ _ _ (fun _ _ => Or.inl (by show off + j < _; rw [pvs_len] at hjl; omega)), h1.cell]
          exact h6 j u hj
        · rw [List.getElem?_append_right (by omega)] at hj
          have hj3 := (List.getElem?_eq_some_iff.1 hj).1
          have := World.cell?_setCells_in g (pvs l2) (off + l.length * 9) w hsome (j - (pvs l).length) hj3
          rw [← List.getElem?_eq_getElem hj3, hj] at this
          have hpl := pvs_len l
          rw [show off + l.length * 9 + (j - (pvs l).length) = off + j by omega] at this
          exact this
      · exact (foot_setCells g _ _ w).mono fun i _ e => ⟨off, none, l.length, cap, by rw [e]⟩
      · obtain ⟨o, m', n', c', e⟩ := hi
        cases e
        exact .inl ⟨off, none, l.length, cap, rfl⟩
    · obtain ⟨v', w', hr, hown, hg⟩ := run_append_arg_grows (P := Try.prog) w 41 41 37 i0 (pv pv0) 9 40 Try.underlying41 hi hz0 hz1 hz2 rfl (by decide) ⟨g, off, none⟩ l.length cap (pvs l) (pvs_len l) (fun j u hj => by rw [Addr.add_mid, h1.cell]; exact h6 j u hj) ad m c (pvs l2) hl2 hnews (by omega) hmx (by omega)
      rw [← pvs_append] at hown
      have ho := Que.of_owns hown (by rw [List.length_append, hm])
      exact ⟨v', w', hr, ho.1, foot_grown hg (fun k e => by cases e), fun i hi => .inr (ho.2 i hi)⟩
section
variable {F : Fence} {n : Nat} {o : Oper} {a : Act} {w : World} {Q : Exit → Act → World → Prop} {K : Act → World → Prop}
/-- .. as an operation alone -/
theorem wpIn_append_que (s x : Operand) (hop : o.op = Op.call { callee := Callee.builtin Builtin.append, args := #[s, x], argTypes := #[41, 41] }) (hty : o.type = 41) (v : Value) (l l2 : List PV) (ad : Addr) (m c : Nat) (hs : opnd a s = some v) (hx : opnd a x = some (.slice (some ad) m c)) (hq : Que w v l) (hm : l2.length = m) (hnews : ∀ j u, (pvs l2)[j]? = some u → w.cell? (ad.add j) = some u) (h5 : l.length + m ≤ 100000)
    (hK : ∀ v' w', Que w' v' (l ++ l2) → Foot (qb v) w w' → (∀ i, qb v' i → qb v i ∨ w.heap.size ≤ i) → K (a.put o.dst v') w') : o.wpIn F n Try.prog a w K Q := by
  obtain ⟨v', w', hrun, r1, r2, r3⟩ := run_append_que w v l l2 ad m c hq hm hnews h5
  have hs' := opnd_eval hs
  have hx' := opnd_eval hx
  unfold Oper.wpIn
  refine ⟨?_, ?_⟩
  · simp [Oper.about, hop, resolve, Target.leads, Sem.run_pure]
  · rw [Oper.semAt_plain F _ _ (by rw [hop]; intro c hc'; cases hc')]
    simp [execOp, hop, hty, resolve, invoke, builtin, hs', hx', hrun, Result.andThen]
    exact hK v' w' r1 r2 r3
end
/-- the document's fifo at block p -/
structure DAt (W : World) (own : Nat → Prop) (p : Nat) (s : FF) (N : Nat) (v : Value) : Prop where
  box : Held W p 44 #[v, .int .i64 s.n, .int .i64 s.b]
  row : Que W v s.l
  op : own p
  oq : ∀ i, qb v i → own i ∧ i ≠ p
  lt : ∀ i, own i → i < W.heap.size
  len : s.l.length ≤ N
  ok : okN s.n s.b = true
  fits : ∀ q, q ∈ s.l → q.Fits
  sz : Sz s.l
theorem DAt.on {W W' : World} {own : Nat → Prop} {p : Nat} {s : FF} {N : Nat} {v : Value} (h : DAt W own p s N v) (hs : ∀ i, own i → W'.heap[i]? = W.heap[i]?) (hz : W.heap.size ≤ W'.heap.size) : DAt W' own p s N v :=
  { h with
    box := (hs p h.op).trans h.box
    row := h.row.on fun i hi => hs i (h.oq i hi).1
    lt := fun i hi => Nat.lt_of_lt_of_le (h.lt i hi) hz }
theorem DAt.below {W W' : World} {own : Nat → Prop} {p : Nat} {s : FF} {N : Nat} {v : Value} (h : DAt W own p s N v) (hb : Below W.heap.size W W') : DAt W' own p s N v := h.on (fun i hi => hb.block i (h.lt i hi)) hb.size
theorem DAt.mono {W : World} {own : Nat → Prop} {p : Nat} {s : FF} {N M : Nat} {v : Value} (h : DAt W own p s N v) (hM : N ≤ M) : DAt W own p s M v := { h with len := Nat.le_trans h.len hM }
/-- its row is another -/
theorem DAt.upd {W W2 : World} {own : Nat → Prop} {p : Nat} {s : FF} {N M : Nat} {v v2 : Value} {l2 : List PV} (h : DAt W own p s N v) (hF : Foot (qb v) W W2) (hq : Que W2 v2 l2) (hb : ∀ i, qb v2 i → qb v i ∨ W.heap.size ≤ i) (hlen : l2.length ≤ M) (hf : ∀ q, q ∈ l2 → q.Fits) (hz : Sz l2) :
    DAt (W2.setCell ⟨p, 0, none⟩ v2) (fun i => own i ∨ qb v2 i) p ⟨l2, s.n, s.b⟩ M v2 ∧ Foot own W (W2.setCell ⟨p, 0, none⟩ v2) := by
  have hzs : (W2.setCell ⟨p, 0, none⟩ v2).heap.size = W2.heap.size := by simp [World.setCell]
  have hp := h.box.lt
  have hnp : ¬ qb v p := fun e => (h.oq p e).2 rfl
  have hvp : ∀ i, qb v2 i → i ≠ p := fun i hi e => by
    subst e
    rcases hb i hi with h1 | h1
    · exact hnp h1
    · omega
  have hbx : Held W2 p _ _ := (hF.block p hp hnp).trans h.box
  refine ⟨⟨?_, ?_, .inl h.op, fun i hi => ⟨.inr hi, hvp i hi⟩, ?_, hlen, h.ok, hf, hz⟩, ?_⟩
  · have := hbx.set 0 v2
    simpa using this
  · exact hq.on fun i hi => block_set _ _ _ _ _ (hvp i hi)
  · rintro i (hi | hi)
    · rw [hzs]
      exact Nat.lt_of_lt_of_le (h.lt i hi) hF.size
    · rw [hzs]
      exact hq.lt hi
  · exact (hF.mono fun i _ hi => (h.oq i hi).1).setCell (fun _ => h.op) v2
end Go.Proofs.Ytlnlkodpndjimaa.Fi
end
/- What putting, first and last, does to the document's fifo in memory. Conditions: the fifo lies where its pointer says, two thousand packets at most. -/
section
namespace Go.Proofs.Ytlnlkodpndjimaa.Fi
set_option linter.unusedSimpArgs false
set_option linter.unusedVariables false
set_option maxRecDepth 100000
open Go.ChangeShapes Go.WideShapes Go.ChangeAt Go.RowKit

abbrev PT := World → (Nat → Prop) → Nat → FF → Nat → Prop
def DocAt : PT := fun W own p s N => ∃ v, DAt W own p s N v
/-- what a method that changes a fifo does -/
def DidF (PAt : PT) (W : World) (own : Nat → Prop) (p : Nat) (s' : FF) (N : Nat) (v : Value) (e : Ending) (w' : World) : Prop :=
  e = .returned v ∧ (∃ own', PAt w' own' p s' N ∧ ∀ i, own' i → own i ∨ W.heap.size ≤ i) ∧ Foot own W w'
/-- what New gives -/
def NewF (PAt : PT) (W : World) (s : FF) (e : Ending) (w' : World) : Prop :=
  ∃ p own, e = .returned (.tuple #[.pointer (some ⟨p, 0, none⟩), .int .i64 0]) ∧ PAt w' own p s 0 ∧ Below W.heap.size W w' ∧ ∀ i, own i → W.heap.size ≤ i
theorem results_two {fn : Func} {p q : Tmp} (h : fn.results = #[.tmp p, .tmp q]) (tmps : Array Value) (P : Program) (w : World) : (results fn tmps).run P w = .ok (.tuple #[tmps.getD p undef, tmps.getD q undef]) w := by
  simp [results, h, go_sem]
theorem pslInfo : (Try.prog.info? 41).map (·.size) = some 1 := by kernel_rfl
section
variable {F : Fence} {n : Nat} {P : Program} {o : Oper} {a : Act} {w : World} {Q : Exit → Act → World → Prop}
/-- a cell that was there is written, as an operation alone -/
theorem wpIn_store_old {b j : Nat} {ty : TypeId} {x y : Operand} {v v0 : Value} {K : Act → World → Prop} (hc : w.cell? ⟨b, j, none⟩ = some v0) (hf : w.frozen? ⟨b, j, none⟩ = false) (ho : o.op = .store ty x y) (hx : opnd a x = some (.pointer (some ⟨b, j, none⟩))) (hy : opnd a y = some v)
    (hi : (P.info? ty).map (·.size) = some 1) (h1 : v.oneCell' = true) (h : K (a.put o.dst undef) (w.setCell ⟨b, j, none⟩ v)) : o.wpIn F n P a w K Q := by
  refine ⟨by simp [Oper.about, ho], ?_⟩
  rw [Oper.semAt_plain F _ _ (by rw [ho]; intro c hc'; cases hc')]
  have hcs : v.cells = #[v] := by cases v <;> first | rfl | cases h1
  have hst : (storeVar ty ⟨b, j, none⟩ v).run P w = .ok () (w.setCell ⟨b, j, none⟩ v) := by
    cases hq : P.info? ty with
    | none => simp [hq] at hi
    | some i =>
      have hs : i.size = 1 := by simpa [hq] using hi
      simp [storeVar, sizeOf, typeInfo, hq, hcs, hs, storeCells, Addr.add_mid, run_store P w _ v _ h1, hc, hf]
  unfold execOp
  simp only [ho, opnd_eval hx, opnd_eval hy, Instr.storeAt, Instr.sureAddr, Sem.run_bind, Sem.run_pure, Result.andThen_ok, hst]
  exact h
end
theorem new_no (n b : Int) (h : okN n b = false) (W : World) : Calls Try.prog 12 #[.int .i64 n, .int .i64 b] W fun e w' => e = .returned (.tuple #[.pointer none, .int .i64 2]) ∧ Below W.heap.size W w' := by
  have H := Mem.start W
  have k1 := fun w => may_r n b w
  rw [h] at k1
  clear h
  go_enter Try.func12, Try.ntmps12
  go_wp2_with (first
    | go_skip
    | (go_at_call 26; refine (k1 _).mono ?_; rintro e w2 ⟨rfl, hb⟩; have H2 := H.call hb; clear H hb; have H := H2; clear H2))
  refine bodyPost_ret (results_two rfl _ _ _) rfl ?_
  exact ⟨rfl, H.below⟩
theorem new_yes (n b : Int) (h : okN n b = true) (W : World) : Calls Try.prog 12 #[.int .i64 n, .int .i64 b] W (NewF DocAt W ⟨[], n, b⟩) := by
  have H := Mem.start W
  have HO := Lib.hid h
  have k1 := fun w => may_r n b w
  rw [h] at k1
  clear h
  go_enter Try.func12, Try.ntmps12
  go_wp2_with (first
    | go_skip
    | (go_at_call 26; refine (k1 _).mono ?_; rintro e w2 ⟨rfl, hb⟩; have H2 := H.call hb; clear H hb; have H := H2; clear H2))
  refine bodyPost_ret (results_two rfl _ _ _) rfl ?_
  have HA := H.alloc 44 #[.slice none 0 0, .int .i64 n, .int .i64 b]
  have hh := HA.held _ List.mem_cons_self
  have hb := HA.below
  exact ⟨w2.heap.size, fun i => i = w2.heap.size, rfl, ⟨.slice none 0 0, ⟨hh.2, .inl ⟨rfl, rfl⟩, rfl, (fun i hi => by obtain ⟨_, _, _, _, e⟩ := hi; cases e), (fun i e => by rw [e]; exact hh.2.lt), Nat.le_refl _, HO.out, (fun q hq => by cases hq), (fun q hq => by cases hq)⟩⟩, hb, fun i e => by rw [e]; exact hh.1⟩
theorem wrap_id {x : Int} (h1 : -9223372036854775808 ≤ x) (h2 : x ≤ 9223372036854775807) : IntKind.i64.wrap x = x := by
  simp [IntKind.wrap, IntKind.bits, IntKind.signed]
  omega
theorem sum_bd {l : List PV} (h : Sz l) {N : Nat} (hl : l.length ≤ N) (hN : N ≤ 5000) : 0 ≤ bytes l ∧ bytes l ≤ 5000 * 65535 := by
  have := h.bytes
  omega
set_option maxHeartbeats 2000000 in
theorem put_arg (W : World) (own : Nat → Prop) (p : Nat) (s : FF) (N : Nat) (v : Value) (h : DAt W own p s N v) (q : PV) (hz : okP q = false) : Calls Try.prog 27 #[.pointer (some ⟨p, 0, none⟩), pv q] W fun e w' => e = .returned (.int .i64 2) ∧ Below W.heap.size W w' := by
  have H := Mem.start W
  have kz := fun w => sized_r q w
  rw [hz] at kz
  clear hz h
  go_enter Try.func27, Try.ntmps27
  go_wp2_with (first
    | go_skip
    | ((with_reducible show wpList _ _ _ _ _ (World.alloc _ (.cells _ _))); refine mem_new H ?_; intro w2 H2; clear H; have H := H2; clear H2; simp only [List.cons_append, List.nil_append, List.set_cons_zero, List.set_cons_succ, List.setIfInBounds_toArray] at H)
    | ((with_reducible show wpList _ _ _ (⟨_, .load 37 _, _, _, _, _⟩ :: _) _ _); refine mem_load (i := 0) H (by first | exact wanted_none rfl | exact wanted_some rfl rfl rfl rfl) (by exact rfl) (by exact rfl) (by exact rfl) Try.underlying37 rfl (by exact pkInfo) ?_)
    | (go_at_call 43; refine (kz _).mono ?_; rintro e w2 ⟨rfl, hb⟩; have H2 := H.call hb; clear H hb; have H := H2; clear H2))
  go_ret
  exact ⟨rfl, H.below⟩
set_option maxHeartbeats 2000000 in
theorem put_many (W : World) (own : Nat → Prop) (p : Nat) (s : FF) (N : Nat) (v : Value) (h : DAt W own p s N v) (hN : N ≤ 2000) (q : PV) (hq : q.Fits) (hz : okP q = true) (hf : s.n ≤ s.l.length) : Calls Try.prog 27 #[.pointer (some ⟨p, 0, none⟩), pv q] W fun e w' => e = .returned (.int .i64 100) ∧ Below W.heap.size W w' := by
  have H := Mem.start W
  have HD := Lib.hid h
  have hp := h.box.lt
  obtain ⟨A, c, hv, hlc, hcm⟩ := h.row.shape
  have c0 : W.cell? ⟨p, 0, none⟩ = some v := h.box.cell 0
  have c1 : W.cell? ⟨p, 1, none⟩ = some (.int .i64 s.n) := h.box.cell 1
  have c2 : W.cell? ⟨p, 2, none⟩ = some (.int .i64 s.b) := h.box.cell 2
  obtain ⟨n, hn⟩ : ∃ n, s.l.length = n := ⟨_, rfl⟩
  rw [hn] at hv hlc
  rw [hv] at c0
  have HV := Lib.hid hv
  have HN := Lib.hid hn
  have hqb := hq.len
  have hl5 : n ≤ 2000 := by have := h.len; omega
  have kz := fun w => sized_r q w
  rw [hn] at hf
  have t1 : decide ((n : Int) ≥ s.n) = true := decide_eq_true hf
  rw [hz] at kz
  clear hz h hv hn hq hf
  go_enter Try.func27, Try.ntmps27
  go_upto_region 4 with (first
    | go_skip
    | ((with_reducible show wpList _ _ _ _ _ (World.alloc _ (.cells _ _))); refine mem_newb H ?_; intro bq w3 hbk H2; try rw [← hbk]; clear hbk H; have H := H2; clear H2; simp only [List.cons_append, List.nil_append, List.set_cons_zero, List.set_cons_succ, List.setIfInBounds_toArray] at H)
    | ((with_reducible show wpList _ _ _ (⟨_, .load 37 _, _, _, _, _⟩ :: _) _ _); refine mem_load (i := 0) H (by first | exact wanted_none rfl | exact wanted_some rfl rfl rfl rfl) (by exact rfl) (by exact rfl) (by exact rfl) Try.underlying37 rfl (by exact pkInfo) ?_)
    | (go_at_call 43; refine (kz _).mono ?_; rintro e w2 ⟨rfl, hb⟩; have H2 := H.call hb; clear H hb; have H := H2; clear H2))
  refine region_mem H 10 rfl (by kernel_rfl) (fun wr hS => ?_)
  clear H
  refine wpAnyR_take (i := 0) (v := .pointer (some ⟨p, 0, none⟩)) rfl rfl (by kernel_rfl) (by kernel_rfl) (by kernel_rfl) (fun _ _ _ h => h) (Nat.le_refl _) ⟨by rfl, fun w _ => (by go_simp; try (first | (simp only [IntKind.wrap_u32]; done) | rfl)), fun _ => rfl⟩ hS ?_
  simp only [List.getElem_toArray, List.getElem_cons_zero, List.getElem_cons_succ, Act.put, List.setIfInBounds_toArray, List.set_cons_zero, List.set_cons_succ]
  refine wpAnyR_take (i := 1) (v := .pointer (some ⟨p, 0, none⟩)) rfl rfl (by kernel_rfl) (by kernel_rfl) (by kernel_rfl) (fun _ _ _ h => h) (Nat.le_refl _) ⟨by rfl, fun w _ => (by go_simp; try (first | (simp only [IntKind.wrap_u32]; done) | rfl)), fun _ => rfl⟩ hS ?_
  simp only [List.getElem_toArray, List.getElem_cons_zero, List.getElem_cons_succ, Act.put, List.setIfInBounds_toArray, List.set_cons_zero, List.set_cons_succ]
  refine wpAnyR_take (i := 2) (v := .pointer (some ⟨p, 0, none⟩)) rfl rfl (by kernel_rfl) (by kernel_rfl) (by kernel_rfl) (fun _ _ _ h => h) (Nat.le_refl _) ⟨by rfl, fun w _ => (by go_simp; try (first | (simp only [IntKind.wrap_u32]; done) | rfl)), fun _ => rfl⟩ hS ?_
  simp only [List.getElem_toArray, List.getElem_cons_zero, List.getElem_cons_succ, Act.put, List.setIfInBounds_toArray, List.set_cons_zero, List.set_cons_succ]
  refine wpAnyR_take (i := 3) (v := .slice A n c) rfl rfl (by kernel_rfl) (by kernel_rfl) (by kernel_rfl) (fun _ _ _ h => h) (Nat.le_refl _) (yields_old c0 hp (by exact rfl) (by exact rfl) (by exact rfl) (by first | exact Try.underlying32 | exact Try.underlying3 | exact Try.underlying41) rfl) hS ?_
  simp only [List.getElem_toArray, List.getElem_cons_zero, List.getElem_cons_succ, Act.put, List.setIfInBounds_toArray, List.set_cons_zero, List.set_cons_succ]
  refine wpAnyR_take (i := 4) (v := .int .i64 n) rfl rfl (by kernel_rfl) (by kernel_rfl) (by kernel_rfl) (fun _ _ _ h => h) (Nat.le_refl _) ⟨by rfl, fun w _ => (by go_simp; try (first | (simp only [IntKind.wrap_u32]; done) | rfl)), fun _ => rfl⟩ hS ?_
  simp only [List.getElem_toArray, List.getElem_cons_zero, List.getElem_cons_succ, Act.put, List.setIfInBounds_toArray, List.set_cons_zero, List.set_cons_succ]
  refine wpAnyR_take (i := 5) (v := .pointer (some ⟨p, 0, none⟩)) rfl rfl (by kernel_rfl) (by kernel_rfl) (by kernel_rfl) (fun _ _ _ h => h) (Nat.le_refl _) ⟨by rfl, fun w _ => (by go_simp; try (first | (simp only [IntKind.wrap_u32]; done) | rfl)), fun _ => rfl⟩ hS ?_
  simp only [List.getElem_toArray, List.getElem_cons_zero, List.getElem_cons_succ, Act.put, List.setIfInBounds_toArray, List.set_cons_zero, List.set_cons_succ]
  refine wpAnyR_take (i := 6) (v := .pointer (some ⟨p, 0, none⟩)) rfl rfl (by kernel_rfl) (by kernel_rfl) (by kernel_rfl) (fun _ _ _ h => h) (Nat.le_refl _) ⟨by rfl, fun w _ => (by go_simp; try (first | (simp only [IntKind.wrap_u32]; done) | rfl)), fun _ => rfl⟩ hS ?_
  simp only [List.getElem_toArray, List.getElem_cons_zero, List.getElem_cons_succ, Act.put, List.setIfInBounds_toArray, List.set_cons_zero, List.set_cons_succ]
  refine wpAnyR_take (i := 7) (v := .pointer (some ⟨p, 1, none⟩)) rfl rfl (by kernel_rfl) (by kernel_rfl) (by kernel_rfl) (fun _ _ _ h => h) (Nat.le_refl _) ⟨by rfl, fun w _ => (by go_simp; try (first | (simp only [IntKind.wrap_u32]; done) | rfl)), fun _ => rfl⟩ hS ?_
  simp only [List.getElem_toArray, List.getElem_cons_zero, List.getElem_cons_succ, Act.put, List.setIfInBounds_toArray, List.set_cons_zero, List.set_cons_succ]
  refine wpAnyR_take (i := 8) (v := .int .i64 s.n) rfl rfl (by kernel_rfl) (by kernel_rfl) (by kernel_rfl) (fun _ _ _ h => h) (Nat.le_refl _) (yields_old c1 hp (by exact rfl) (by exact rfl) (by exact rfl) (by first | exact Try.underlying32 | exact Try.underlying3 | exact Try.underlying41) rfl) hS ?_
  simp only [List.getElem_toArray, List.getElem_cons_zero, List.getElem_cons_succ, Act.put, List.setIfInBounds_toArray, List.set_cons_zero, List.set_cons_succ]
  refine wpAnyR_take (i := 9) (v := .bool true) rfl rfl (by kernel_rfl) (by kernel_rfl) (by kernel_rfl) (fun _ _ _ h => h) (Nat.le_refl _) ⟨by rfl, fun w _ => (by go_simp; try (first | (simp only [IntKind.wrap_u32]; done) | rfl)), fun _ => rfl⟩ hS ?_
  simp only [List.getElem_toArray, List.getElem_cons_zero, List.getElem_cons_succ, Act.put, List.setIfInBounds_toArray, List.set_cons_zero, List.set_cons_succ]
  refine wpAnyG_done (by kernel_rfl) ?_ _
  have H := hS
  clear hS
  go_wp2
  go_ret
  exact ⟨rfl, H.below⟩
set_option maxHeartbeats 2000000 in
theorem put_bytes (W : World) (own : Nat → Prop) (p : Nat) (s : FF) (N : Nat) (v : Value) (h : DAt W own p s N v) (hN : N ≤ 2000) (q : PV) (hq : q.Fits) (hz : okP q = true) (hf : ¬ s.n ≤ s.l.length) (hf2 : s.b < bytes s.l + q.len) : Calls Try.prog 27 #[.pointer (some ⟨p, 0, none⟩), pv q] W fun e w' => e = .returned (.int .i64 101) ∧ Below W.heap.size W w' := by
  have H := Mem.start W
  have HD := Lib.hid h
  have hp := h.box.lt
  obtain ⟨A, c, hv, hlc, hcm⟩ := h.row.shape
  have c0 : W.cell? ⟨p, 0, none⟩ = some v := h.box.cell 0
  have c1 : W.cell? ⟨p, 1, none⟩ = some (.int .i64 s.n) := h.box.cell 1
  have c2 : W.cell? ⟨p, 2, none⟩ = some (.int .i64 s.b) := h.box.cell 2
  obtain ⟨n, hn⟩ : ∃ n, s.l.length = n := ⟨_, rfl⟩
  rw [hn] at hv hlc
  rw [hv] at c0
  have HV := Lib.hid hv
  have HN := Lib.hid hn
  have hqb := hq.len
  have hl5 : n ≤ 2000 := by have := h.len; omega
  have kz := fun w => sized_r q w
  rw [hn] at hf
  have t1 : decide ((n : Int) ≥ s.n) = false := decide_eq_false hf
  have hbd := sum_bd h.sz h.len (by omega)
  obtain ⟨S, hS1⟩ : ∃ S, bytes s.l = S := ⟨_, rfl⟩
  rw [hS1] at hbd hf2
  have w1 : IntKind.i64.wrap q.len = q.len := wrap_id (by omega) (by omega)
  have w2 : IntKind.i64.wrap (S + q.len) = S + q.len := wrap_id (by omega) (by omega)
  have w1 : IntKind.i64.wrap q.len = q.len := wrap_id (by omega) (by omega)
  have w2 : IntKind.i64.wrap (S + q.len) = S + q.len := wrap_id (by omega) (by omega)
  have t2 : decide (S + q.len > s.b) = true := decide_eq_true hf2
  have kb := fun w (hb : Below W.heap.size W w) => bytes_r A n c s.l w (by rw [← HV.out]; exact (h.below hb).row) hn (by omega) h.fits
  rw [hS1] at kb
  rw [hz] at kz
  clear hz h hv hn hq hf hS1 hf2
  go_enter Try.func27, Try.ntmps27
  go_upto_region 4 with (first
    | go_skip
    | ((with_reducible show wpList _ _ _ _ _ (World.alloc _ (.cells _ _))); refine mem_newb H ?_; intro bq w3 hbk H2; try rw [← hbk]; clear hbk H; have H := H2; clear H2; simp only [List.cons_append, List.nil_append, List.set_cons_zero, List.set_cons_succ, List.setIfInBounds_toArray] at H)
    | ((with_reducible show wpList _ _ _ (⟨_, .load 37 _, _, _, _, _⟩ :: _) _ _); refine mem_load (i := 0) H (by first | exact wanted_none rfl | exact wanted_some rfl rfl rfl rfl) (by exact rfl) (by exact rfl) (by exact rfl) Try.underlying37 rfl (by exact pkInfo) ?_)
    | (go_at_call 43; refine (kz _).mono ?_; rintro e w2 ⟨rfl, hb⟩; have H2 := H.call hb; clear H hb; have H := H2; clear H2))
  refine region_mem H 10 rfl (by kernel_rfl) (fun wr hS => ?_)
  clear H
  refine wpAnyR_take (i := 0) (v := .pointer (some ⟨p, 0, none⟩)) rfl rfl (by kernel_rfl) (by kernel_rfl) (by kernel_rfl) (fun _ _ _ h => h) (Nat.le_refl _) ⟨by rfl, fun w _ => (by go_simp; try (first | (simp only [IntKind.wrap_u32]; done) | rfl)), fun _ => rfl⟩ hS ?_
  simp only [List.getElem_toArray, List.getElem_cons_zero, List.getElem_cons_succ, Act.put, List.setIfInBounds_toArray, List.set_cons_zero, List.set_cons_succ]
  refine wpAnyR_take (i := 1) (v := .pointer (some ⟨p, 0, none⟩)) rfl rfl (by kernel_rfl) (by kernel_rfl) (by kernel_rfl) (fun _ _ _ h => h) (Nat.le_refl _) ⟨by rfl, fun w _ => (by go_simp; try (first | (simp only [IntKind.wrap_u32]; done) | rfl)), fun _ => rfl⟩ hS ?_
  simp only [List.getElem_toArray, List.getElem_cons_zero, List.getElem_cons_succ, Act.put, List.setIfInBounds_toArray, List.set_cons_zero, List.set_cons_succ]
  refine wpAnyR_take (i := 2) (v := .pointer (some ⟨p, 0, none⟩)) rfl rfl (by kernel_rfl) (by kernel_rfl) (by kernel_rfl) (fun _ _ _ h => h) (Nat.le_refl _) ⟨by rfl, fun w _ => (by go_simp; try (first | (simp only [IntKind.wrap_u32]; done) | rfl)), fun _ => rfl⟩ hS ?_
  simp only [List.getElem_toArray, List.getElem_cons_zero, List.getElem_cons_succ, Act.put, List.setIfInBounds_toArray, List.set_cons_zero, List.set_cons_succ]
  refine wpAnyR_take (i := 3) (v := .slice A n c) rfl rfl (by kernel_rfl) (by kernel_rfl) (by kernel_rfl) (fun _ _ _ h => h) (Nat.le_refl _) (yields_old c0 hp (by exact rfl) (by exact rfl) (by exact rfl) (by first | exact Try.underlying32 | exact Try.underlying3 | exact Try.underlying41) rfl) hS ?_
  simp only [List.getElem_toArray, List.getElem_cons_zero, List.getElem_cons_succ, Act.put, List.setIfInBounds_toArray, List.set_cons_zero, List.set_cons_succ]
  refine wpAnyR_take (i := 4) (v := .int .i64 n) rfl rfl (by kernel_rfl) (by kernel_rfl) (by kernel_rfl) (fun _ _ _ h => h) (Nat.le_refl _) ⟨by rfl, fun w _ => (by go_simp; try (first | (simp only [IntKind.wrap_u32]; done) | rfl)), fun _ => rfl⟩ hS ?_
  simp only [List.getElem_toArray, List.getElem_cons_zero, List.getElem_cons_succ, Act.put, List.setIfInBounds_toArray, List.set_cons_zero, List.set_cons_succ]
  refine wpAnyR_take (i := 5) (v := .pointer (some ⟨p, 0, none⟩)) rfl rfl (by kernel_rfl) (by kernel_rfl) (by kernel_rfl) (fun _ _ _ h => h) (Nat.le_refl _) ⟨by rfl, fun w _ => (by go_simp; try (first | (simp only [IntKind.wrap_u32]; done) | rfl)), fun _ => rfl⟩ hS ?_
  simp only [List.getElem_toArray, List.getElem_cons_zero, List.getElem_cons_succ, Act.put, List.setIfInBounds_toArray, List.set_cons_zero, List.set_cons_succ]
  refine wpAnyR_take (i := 6) (v := .pointer (some ⟨p, 0, none⟩)) rfl rfl (by kernel_rfl) (by kernel_rfl) (by kernel_rfl) (fun _ _ _ h => h) (Nat.le_refl _) ⟨by rfl, fun w _ => (by go_simp; try (first | (simp only [IntKind.wrap_u32]; done) | rfl)), fun _ => rfl⟩ hS ?_
  simp only [List.getElem_toArray, List.getElem_cons_zero, List.getElem_cons_succ, Act.put, List.setIfInBounds_toArray, List.set_cons_zero, List.set_cons_succ]
  refine wpAnyR_take (i := 7) (v := .pointer (some ⟨p, 1, none⟩)) rfl rfl (by kernel_rfl) (by kernel_rfl) (by kernel_rfl) (fun _ _ _ h => h) (Nat.le_refl _) ⟨by rfl, fun w _ => (by go_simp; try (first | (simp only [IntKind.wrap_u32]; done) | rfl)), fun _ => rfl⟩ hS ?_
  simp only [List.getElem_toArray, List.getElem_cons_zero, List.getElem_cons_succ, Act.put, List.setIfInBounds_toArray, List.set_cons_zero, List.set_cons_succ]
  refine wpAnyR_take (i := 8) (v := .int .i64 s.n) rfl rfl (by kernel_rfl) (by kernel_rfl) (by kernel_rfl) (fun _ _ _ h => h) (Nat.le_refl _) (yields_old c1 hp (by exact rfl) (by exact rfl) (by exact rfl) (by first | exact Try.underlying32 | exact Try.underlying3 | exact Try.underlying41) rfl) hS ?_
  simp only [List.getElem_toArray, List.getElem_cons_zero, List.getElem_cons_succ, Act.put, List.setIfInBounds_toArray, List.set_cons_zero, List.set_cons_succ]
  refine wpAnyR_take (i := 9) (v := .bool false) rfl rfl (by kernel_rfl) (by kernel_rfl) (by kernel_rfl) (fun _ _ _ h => h) (Nat.le_refl _) ⟨by rfl, fun w _ => (by go_simp; try (first | (simp only [IntKind.wrap_u32]; done) | rfl)), fun _ => rfl⟩ hS ?_
  simp only [List.getElem_toArray, List.getElem_cons_zero, List.getElem_cons_succ, Act.put, List.setIfInBounds_toArray, List.set_cons_zero, List.set_cons_succ]
  refine wpAnyG_done (by kernel_rfl) ?_ _
  have H := hS
  clear hS
  clear kz
  go_upto_region 6 with (fail)
  refine region_mem H 14 rfl (by kernel_rfl) (fun wr hS => ?_)
  clear H
  refine wpAnyR_take (i := 0) (v := .pointer (some ⟨p, 0, none⟩)) rfl rfl (by kernel_rfl) (by kernel_rfl) (by kernel_rfl) (fun _ _ _ h => h) (Nat.le_refl _) ⟨by rfl, fun w _ => (by go_simp; try (first | (simp only [IntKind.wrap_u32]; done) | rfl)), fun _ => rfl⟩ hS ?_
  simp only [List.getElem_toArray, List.getElem_cons_zero, List.getElem_cons_succ, Act.put, List.setIfInBounds_toArray, List.set_cons_zero, List.set_cons_succ]
  refine wpAnyR_take (i := 1) (v := .pointer (some ⟨p, 0, none⟩)) rfl rfl (by kernel_rfl) (by kernel_rfl) (by kernel_rfl) (fun _ _ _ h => h) (Nat.le_refl _) ⟨by rfl, fun w _ => (by go_simp; try (first | (simp only [IntKind.wrap_u32]; done) | rfl)), fun _ => rfl⟩ hS ?_
  simp only [List.getElem_toArray, List.getElem_cons_zero, List.getElem_cons_succ, Act.put, List.setIfInBounds_toArray, List.set_cons_zero, List.set_cons_succ]
  refine wpAnyR_take (i := 2) (v := .pointer (some ⟨p, 0, none⟩)) rfl rfl (by kernel_rfl) (by kernel_rfl) (by kernel_rfl) (fun _ _ _ h => h) (Nat.le_refl _) ⟨by rfl, fun w _ => (by go_simp; try (first | (simp only [IntKind.wrap_u32]; done) | rfl)), fun _ => rfl⟩ hS ?_
  simp only [List.getElem_toArray, List.getElem_cons_zero, List.getElem_cons_succ, Act.put, List.setIfInBounds_toArray, List.set_cons_zero, List.set_cons_succ]
  refine wpAnyR_take (i := 3) (v := .slice A n c) rfl rfl (by kernel_rfl) (by kernel_rfl) (by kernel_rfl) (fun _ _ _ h => h) (Nat.le_refl _) (yields_old c0 hp (by exact rfl) (by exact rfl) (by exact rfl) (by first | exact Try.underlying32 | exact Try.underlying3 | exact Try.underlying41) rfl) hS ?_
  simp only [List.getElem_toArray, List.getElem_cons_zero, List.getElem_cons_succ, Act.put, List.setIfInBounds_toArray, List.set_cons_zero, List.set_cons_succ]
  refine wpAnyR_take (i := 5) (v := .pointer (some ⟨bq, 1, none⟩)) rfl rfl (by kernel_rfl) (by kernel_rfl) (by kernel_rfl) (fun _ _ _ h => h) (Nat.le_refl _) ⟨by rfl, fun w _ => (by go_simp; try (first | (simp only [IntKind.wrap_u32]; done) | rfl)), fun _ => rfl⟩ hS ?_
  simp only [List.getElem_toArray, List.getElem_cons_zero, List.getElem_cons_succ, Act.put, List.setIfInBounds_toArray, List.set_cons_zero, List.set_cons_succ]
  refine wpAnyR_take (i := 6) (v := .int .u32 q.len) rfl rfl (by kernel_rfl) (by kernel_rfl) (by kernel_rfl) (fun _ _ _ h => h) (Nat.le_refl _) (yields_fld (fun w h => h.at 0 rfl) (by exact rfl) (by exact rfl) (by exact rfl) (by first | exact Try.underlying32 | exact Try.underlying3 | exact Try.underlying41) rfl (by exact rfl)) hS ?_
  simp only [List.getElem_toArray, List.getElem_cons_zero, List.getElem_cons_succ, Act.put, List.setIfInBounds_toArray, List.set_cons_zero, List.set_cons_succ]
  refine wpAnyR_take (i := 7) (v := .int .i64 q.len) rfl rfl (by kernel_rfl) (by kernel_rfl) (by kernel_rfl) (fun _ _ _ h => h) (Nat.le_refl _) ⟨by rfl, fun w _ => (by go_simp; try (first | (simp only [IntKind.wrap_u32]; done) | rfl | exact w1)), fun _ => rfl⟩ hS ?_
  simp only [List.getElem_toArray, List.getElem_cons_zero, List.getElem_cons_succ, Act.put, List.setIfInBounds_toArray, List.set_cons_zero, List.set_cons_succ]
  refine wpAnyR_take (i := 9) (v := .pointer (some ⟨p, 0, none⟩)) rfl rfl (by kernel_rfl) (by kernel_rfl) (by kernel_rfl) (fun _ _ _ h => h) (Nat.le_refl _) ⟨by rfl, fun w _ => (by go_simp; try (first | (simp only [IntKind.wrap_u32]; done) | rfl)), fun _ => rfl⟩ hS ?_
  simp only [List.getElem_toArray, List.getElem_cons_zero, List.getElem_cons_succ, Act.put, List.setIfInBounds_toArray, List.set_cons_zero, List.set_cons_succ]
  refine wpAnyR_take (i := 10) (v := .pointer (some ⟨p, 0, none⟩)) rfl rfl (by kernel_rfl) (by kernel_rfl) (by kernel_rfl) (fun _ _ _ h => h) (Nat.le_refl _) ⟨by rfl, fun w _ => (by go_simp; try (first | (simp only [IntKind.wrap_u32]; done) | rfl)), fun _ => rfl⟩ hS ?_
  simp only [List.getElem_toArray, List.getElem_cons_zero, List.getElem_cons_succ, Act.put, List.setIfInBounds_toArray, List.set_cons_zero, List.set_cons_succ]
  refine wpAnyR_take (i := 11) (v := .pointer (some ⟨p, 2, none⟩)) rfl rfl (by kernel_rfl) (by kernel_rfl) (by kernel_rfl) (fun _ _ _ h => h) (Nat.le_refl _) ⟨by rfl, fun w _ => (by go_simp; try (first | (simp only [IntKind.wrap_u32]; done) | rfl)), fun _ => rfl⟩ hS ?_
  simp only [List.getElem_toArray, List.getElem_cons_zero, List.getElem_cons_succ, Act.put, List.setIfInBounds_toArray, List.set_cons_zero, List.set_cons_succ]
  refine wpAnyR_take (i := 12) (v := .int .i64 s.b) rfl rfl (by kernel_rfl) (by kernel_rfl) (by kernel_rfl) (fun _ _ _ h => h) (Nat.le_refl _) (yields_old c2 hp (by exact rfl) (by exact rfl) (by exact rfl) (by first | exact Try.underlying32 | exact Try.underlying3 | exact Try.underlying41) rfl) hS ?_
  simp only [List.getElem_toArray, List.getElem_cons_zero, List.getElem_cons_succ, Act.put, List.setIfInBounds_toArray, List.set_cons_zero, List.set_cons_succ]
  refine wpAnyG_one (i := 4) (by kernel_rfl) rfl (fun K hK => ?_)
  go_simp
  refine ⟨trivial, (callsIn_wide.2 (kb _ hS.below)).mono ?_⟩
  rintro e w5 ⟨rfl, hb⟩
  have hS5 := hS.call hb
  clear hb hS
  have hS := hS5
  clear hS5
  refine hK _ _ (.inr hS) ?_
  clear hK K
  refine wpAnyR_take (i := 8) (v := .int .i64 (S + q.len)) rfl rfl (by kernel_rfl) (by kernel_rfl) (by kernel_rfl) (fun _ _ _ h => h) (Nat.le_refl _) ⟨by rfl, fun w _ => (by go_simp; try (first | (simp only [IntKind.wrap_u32]; done) | rfl | exact w2)), fun _ => rfl⟩ hS ?_
  simp only [List.getElem_toArray, List.getElem_cons_zero, List.getElem_cons_succ, Act.put, List.setIfInBounds_toArray, List.set_cons_zero, List.set_cons_succ]
  refine wpAnyR_take (i := 13) (v := .bool true) rfl rfl (by kernel_rfl) (by kernel_rfl) (by kernel_rfl) (fun _ _ _ h => h) (Nat.le_refl _) ⟨by rfl, fun w _ => (by go_simp; try (first | (simp only [IntKind.wrap_u32]; done) | rfl)), fun _ => rfl⟩ hS ?_
  simp only [List.getElem_toArray, List.getElem_cons_zero, List.getElem_cons_succ, Act.put, List.setIfInBounds_toArray, List.set_cons_zero, List.set_cons_succ]
  refine wpAnyG_done (by kernel_rfl) ?_ _
  have H := hS
  clear hS
  go_wp2
  go_ret
  exact ⟨rfl, H.below⟩
set_option maxHeartbeats 2000000 in
theorem put_yes (W : World) (own : Nat → Prop) (p : Nat) (s : FF) (N : Nat) (v : Value) (h : DAt W own p s N v) (hN : N ≤ 2000) (q : PV) (hq : q.Fits) (hz : okP q = true) (hf : ¬ s.n ≤ s.l.length) (hf2 : ¬ s.b < bytes s.l + q.len) : Calls Try.prog 27 #[.pointer (some ⟨p, 0, none⟩), pv q] W (DidF DocAt W own p ⟨s.l ++ [q], s.n, s.b⟩ (N + 1) (.int .i64 0)) := by
  have H := Mem.start W
  have HD := Lib.hid h
  have hp := h.box.lt
  obtain ⟨A, c, hv, hlc, hcm⟩ := h.row.shape
  have c0 : W.cell? ⟨p, 0, none⟩ = some v := h.box.cell 0
  have c1 : W.cell? ⟨p, 1, none⟩ = some (.int .i64 s.n) := h.box.cell 1
  have c2 : W.cell? ⟨p, 2, none⟩ = some (.int .i64 s.b) := h.box.cell 2
  obtain ⟨n, hn⟩ : ∃ n, s.l.length = n := ⟨_, rfl⟩
  rw [hn] at hv hlc
  rw [hv] at c0
  have HV := Lib.hid hv
  have HN := Lib.hid hn
  have hqb := hq.len
  have hl5 : n ≤ 2000 := by have := h.len; omega
  have kz := fun w => sized_r q w
  rw [hn] at hf
  have t1 : decide ((n : Int) ≥ s.n) = false := decide_eq_false hf
  have hbd := sum_bd h.sz h.len (by omega)
  obtain ⟨S, hS1⟩ : ∃ S, bytes s.l = S := ⟨_, rfl⟩
  rw [hS1] at hbd hf2
  have w1 : IntKind.i64.wrap q.len = q.len := wrap_id (by omega) (by omega)
  have w2 : IntKind.i64.wrap (S + q.len) = S + q.len := wrap_id (by omega) (by omega)
  have t2 : decide (S + q.len > s.b) = false := decide_eq_false hf2
  have kb := fun w (hb : Below W.heap.size W w) => bytes_r A n c s.l w (by rw [← HV.out]; exact (h.below hb).row) hn (by omega) h.fits
  rw [hS1] at kb
  have HZ := Lib.hid hz
  have HQ := Lib.hid hq
  rw [hz] at kz
  clear hz h hv hn hq hf hS1 hf2
  go_enter Try.func27, Try.ntmps27
  go_upto_region 4 with (first
    | go_skip
    | ((with_reducible show wpList _ _ _ _ _ (World.alloc _ (.cells _ _))); refine mem_newb H ?_; intro bq w3 hbk H2; try rw [← hbk]; clear hbk H; have H := H2; clear H2; simp only [List.cons_append, List.nil_append, List.set_cons_zero, List.set_cons_succ, List.setIfInBounds_toArray] at H)
    | ((with_reducible show wpList _ _ _ (⟨_, .load 37 _, _, _, _, _⟩ :: _) _ _); refine mem_load (i := 0) H (by first | exact wanted_none rfl | exact wanted_some rfl rfl rfl rfl) (by exact rfl) (by exact rfl) (by exact rfl) Try.underlying37 rfl (by exact pkInfo) ?_)
    | (go_at_call 43; refine (kz _).mono ?_; rintro e w2 ⟨rfl, hb⟩; have H2 := H.call hb; clear H hb; have H := H2; clear H2))
  refine region_mem H 10 rfl (by kernel_rfl) (fun wr hS => ?_)
  clear H
  refine wpAnyR_take (i := 0) (v := .pointer (some ⟨p, 0, none⟩)) rfl rfl (by kernel_rfl) (by kernel_rfl) (by kernel_rfl) (fun _ _ _ h => h) (Nat.le_refl _) ⟨by rfl, fun w _ => (by go_simp; try (first | (simp only [IntKind.wrap_u32]; done) | rfl)), fun _ => rfl⟩ hS ?_
  simp only [List.getElem_toArray, List.getElem_cons_zero, List.getElem_cons_succ, Act.put, List.setIfInBounds_toArray, List.set_cons_zero, List.set_cons_succ]
  refine wpAnyR_take (i := 1) (v := .pointer (some ⟨p, 0, none⟩)) rfl rfl (by kernel_rfl) (by kernel_rfl) (by kernel_rfl) (fun _ _ _ h => h) (Nat.le_refl _) ⟨by rfl, fun w _ => (by go_simp; try (first | (simp only [IntKind.wrap_u32]; done) | rfl)), fun _ => rfl⟩ hS ?_
  simp only [List.getElem_toArray, List.getElem_cons_zero, List.getElem_cons_succ, Act.put, List.setIfInBounds_toArray, List.set_cons_zero, List.set_cons_succ]
  refine wpAnyR_take (i := 2) (v := .pointer (some ⟨p, 0, none⟩)) rfl rfl (by kernel_rfl) (by kernel_rfl) (by kernel_rfl) (fun _ _ _ h => h) (Nat.le_refl _) ⟨by rfl, fun w _ => (by go_simp; try (first | (simp only [IntKind.wrap_u32]; done) | rfl)), fun _ => rfl⟩ hS ?_
  simp only [List.getElem_toArray, List.getElem_cons_zero, List.getElem_cons_succ, Act.put, List.setIfInBounds_toArray, List.set_cons_zero, List.set_cons_succ]
  refine wpAnyR_take (i := 3) (v := .slice A n c) rfl rfl (by kernel_rfl) (by kernel_rfl) (by kernel_rfl) (fun _ _ _ h => h) (Nat.le_refl _) (yields_old c0 hp (by exact rfl) (by exact rfl) (by exact rfl) (by first | exact Try.underlying32 | exact Try.underlying3 | exact Try.underlying41) rfl) hS ?_
  simp only [List.getElem_toArray, List.getElem_cons_zero, List.getElem_cons_succ, Act.put, List.setIfInBounds_toArray, List.set_cons_zero, List.set_cons_succ]
  refine wpAnyR_take (i := 4) (v := .int .i64 n) rfl rfl (by kernel_rfl) (by kernel_rfl) (by kernel_rfl) (fun _ _ _ h => h) (Nat.le_refl _) ⟨by rfl, fun w _ => (by go_simp; try (first | (simp only [IntKind.wrap_u32]; done) | rfl)), fun _ => rfl⟩ hS ?_
  simp only [List.getElem_toArray, List.getElem_cons_zero, List.getElem_cons_succ, Act.put, List.setIfInBounds_toArray, List.set_cons_zero, List.set_cons_succ]
  refine wpAnyR_take (i := 5) (v := .pointer (some ⟨p, 0, none⟩)) rfl rfl (by kernel_rfl) (by kernel_rfl) (by kernel_rfl) (fun _ _ _ h => h) (Nat.le_refl _) ⟨by rfl, fun w _ => (by go_simp; try (first | (simp only [IntKind.wrap_u32]; done) | rfl)), fun _ => rfl⟩ hS ?_
  simp only [List.getElem_toArray, List.getElem_cons_zero, List.getElem_cons_succ, Act.put, List.setIfInBounds_toArray, List.set_cons_zero, List.set_cons_succ]
  refine wpAnyR_take (i := 6) (v := .pointer (some ⟨p, 0, none⟩)) rfl rfl (by kernel_rfl) (by kernel_rfl) (by kernel_rfl) (fun _ _ _ h => h) (Nat.le_refl _) ⟨by rfl, fun w _ => (by go_simp; try (first | (simp only [IntKind.wrap_u32]; done) | rfl)), fun _ => rfl⟩ hS ?_
  simp only [List.getElem_toArray, List.getElem_cons_zero, List.getElem_cons_succ, Act.put, List.setIfInBounds_toArray, List.set_cons_zero, List.set_cons_succ]
  refine wpAnyR_take (i := 7) (v := .pointer (some ⟨p, 1, none⟩)) rfl rfl (by kernel_rfl) (by kernel_rfl) (by kernel_rfl) (fun _ _ _ h => h) (Nat.le_refl _) ⟨by rfl, fun w _ => (by go_simp; try (first | (simp only [IntKind.wrap_u32]; done) | rfl)), fun _ => rfl⟩ hS ?_
  simp only [List.getElem_toArray, List.getElem_cons_zero, List.getElem_cons_succ, Act.put, List.setIfInBounds_toArray, List.set_cons_zero, List.set_cons_succ]
  refine wpAnyR_take (i := 8) (v := .int .i64 s.n) rfl rfl (by kernel_rfl) (by kernel_rfl) (by kernel_rfl) (fun _ _ _ h => h) (Nat.le_refl _) (yields_old c1 hp (by exact rfl) (by exact rfl) (by exact rfl) (by first | exact Try.underlying32 | exact Try.underlying3 | exact Try.underlying41) rfl) hS ?_
  simp only [List.getElem_toArray, List.getElem_cons_zero, List.getElem_cons_succ, Act.put, List.setIfInBounds_toArray, List.set_cons_zero, List.set_cons_succ]
  refine wpAnyR_take (i := 9) (v := .bool false) rfl rfl (by kernel_rfl) (by kernel_rfl) (by kernel_rfl) (fun _ _ _ h => h) (Nat.le_refl _) ⟨by rfl, fun w _ => (by go_simp; try (first | (simp only [IntKind.wrap_u32]; done) | rfl)), fun _ => rfl⟩ hS ?_
  simp only [List.getElem_toArray, List.getElem_cons_zero, List.getElem_cons_succ, Act.put, List.setIfInBounds_toArray, List.set_cons_zero, List.set_cons_succ]
  refine wpAnyG_done (by kernel_rfl) ?_ _
  have H := hS
  clear hS
  clear kz
  go_upto_region 6 with (fail)
  refine region_mem H 14 rfl (by kernel_rfl) (fun wr hS => ?_)
  clear H
  refine wpAnyR_take (i := 0) (v := .pointer (some ⟨p, 0, none⟩)) rfl rfl (by kernel_rfl) (by kernel_rfl) (by kernel_rfl) (fun _ _ _ h => h) (Nat.le_refl _) ⟨by rfl, fun w _ => (by go_simp; try (first | (simp only [IntKind.wrap_u32]; done) | rfl)), fun _ => rfl⟩ hS ?_
  simp only [List.getElem_toArray, List.getElem_cons_zero, List.getElem_cons_succ, Act.put, List.setIfInBounds_toArray, List.set_cons_zero, List.set_cons_succ]
  refine wpAnyR_take (i := 1) (v := .pointer (some ⟨p, 0, none⟩)) rfl rfl (by kernel_rfl) (by kernel_rfl) (by kernel_rfl) (fun _ _ _ h => h) (Nat.le_refl _) ⟨by rfl, fun w _ => (by go_simp; try (first | (simp only [IntKind.wrap_u32]; done) | rfl)), fun _ => rfl⟩ hS ?_
  simp only [List.getElem_toArray, List.getElem_cons_zero, List.getElem_cons_succ, Act.put, List.setIfInBounds_toArray, List.set_cons_zero, List.set_cons_succ]
  refine wpAnyR_take (i := 2) (v := .pointer (some ⟨p, 0, none⟩)) rfl rfl (by kernel_rfl) (by kernel_rfl) (by kernel_rfl) (fun _ _ _ h => h) (Nat.le_refl _) ⟨by rfl, fun w _ => (by go_simp; try (first | (simp only [IntKind.wrap_u32]; done) | rfl)), fun _ => rfl⟩ hS ?_
  simp only [List.getElem_toArray, List.getElem_cons_zero, List.getElem_cons_succ, Act.put, List.setIfInBounds_toArray, List.set_cons_zero, List.set_cons_succ]
  refine wpAnyR_take (i := 3) (v := .slice A n c) rfl rfl (by kernel_rfl) (by kernel_rfl) (by kernel_rfl) (fun _ _ _ h => h) (Nat.le_refl _) (yields_old c0 hp (by exact rfl) (by exact rfl) (by exact rfl) (by first | exact Try.underlying32 | exact Try.underlying3 | exact Try.underlying41) rfl) hS ?_
  simp only [List.getElem_toArray, List.getElem_cons_zero, List.getElem_cons_succ, Act.put, List.setIfInBounds_toArray, List.set_cons_zero, List.set_cons_succ]
  refine wpAnyR_take (i := 5) (v := .pointer (some ⟨bq, 1, none⟩)) rfl rfl (by kernel_rfl) (by kernel_rfl) (by kernel_rfl) (fun _ _ _ h => h) (Nat.le_refl _) ⟨by rfl, fun w _ => (by go_simp; try (first | (simp only [IntKind.wrap_u32]; done) | rfl)), fun _ => rfl⟩ hS ?_
  simp only [List.getElem_toArray, List.getElem_cons_zero, List.getElem_cons_succ, Act.put, List.setIfInBounds_toArray, List.set_cons_zero, List.set_cons_succ]
  refine wpAnyR_take (i := 6) (v := .int .u32 q.len) rfl rfl (by kernel_rfl) (by kernel_rfl) (by kernel_rfl) (fun _ _ _ h => h) (Nat.le_refl _) (yields_fld (fun w h => h.at 0 rfl) (by exact rfl) (by exact rfl) (by exact rfl) (by first | exact Try.underlying32 | exact Try.underlying3 | exact Try.underlying41) rfl (by exact rfl)) hS ?_
  simp only [List.getElem_toArray, List.getElem_cons_zero, List.getElem_cons_succ, Act.put, List.setIfInBounds_toArray, List.set_cons_zero, List.set_cons_succ]
  refine wpAnyR_take (i := 7) (v := .int .i64 q.len) rfl rfl (by kernel_rfl) (by kernel_rfl) (by kernel_rfl) (fun _ _ _ h => h) (Nat.le_refl _) ⟨by rfl, fun w _ => (by go_simp; try (first | (simp only [IntKind.wrap_u32]; done) | rfl | exact w1)), fun _ => rfl⟩ hS ?_
  simp only [List.getElem_toArray, List.getElem_cons_zero, List.getElem_cons_succ, Act.put, List.setIfInBounds_toArray, List.set_cons_zero, List.set_cons_succ]
  refine wpAnyR_take (i := 9) (v := .pointer (some ⟨p, 0, none⟩)) rfl rfl (by kernel_rfl) (by kernel_rfl) (by kernel_rfl) (fun _ _ _ h => h) (Nat.le_refl _) ⟨by rfl, fun w _ => (by go_simp; try (first | (simp only [IntKind.wrap_u32]; done) | rfl)), fun _ => rfl⟩ hS ?_
  simp only [List.getElem_toArray, List.getElem_cons_zero, List.getElem_cons_succ, Act.put, List.setIfInBounds_toArray, List.set_cons_zero, List.set_cons_succ]
  refine wpAnyR_take (i := 10) (v := .pointer (some ⟨p, 0, none⟩)) rfl rfl (by kernel_rfl) (by kernel_rfl) (by kernel_rfl) (fun _ _ _ h => h) (Nat.le_refl _) ⟨by rfl, fun w _ => (by go_simp; try (first | (simp only [IntKind.wrap_u32]; done) | rfl)), fun _ => rfl⟩ hS ?_
  simp only [List.getElem_toArray, List.getElem_cons_zero, List.getElem_cons_succ, Act.put, List.setIfInBounds_toArray, List.set_cons_zero, List.set_cons_succ]
  refine wpAnyR_take (i := 11) (v := .pointer (some ⟨p, 2, none⟩)) rfl rfl (by kernel_rfl) (by kernel_rfl) (by kernel_rfl) (fun _ _ _ h => h) (Nat.le_refl _) ⟨by rfl, fun w _ => (by go_simp; try (first | (simp only [IntKind.wrap_u32]; done) | rfl)), fun _ => rfl⟩ hS ?_
  simp only [List.getElem_toArray, List.getElem_cons_zero, List.getElem_cons_succ, Act.put, List.setIfInBounds_toArray, List.set_cons_zero, List.set_cons_succ]
  refine wpAnyR_take (i := 12) (v := .int .i64 s.b) rfl rfl (by kernel_rfl) (by kernel_rfl) (by kernel_rfl) (fun _ _ _ h => h) (Nat.le_refl _) (yields_old c2 hp (by exact rfl) (by exact rfl) (by exact rfl) (by first | exact Try.underlying32 | exact Try.underlying3 | exact Try.underlying41) rfl) hS ?_
  simp only [List.getElem_toArray, List.getElem_cons_zero, List.getElem_cons_succ, Act.put, List.setIfInBounds_toArray, List.set_cons_zero, List.set_cons_succ]
  refine wpAnyG_one (i := 4) (by kernel_rfl) rfl (fun K hK => ?_)
  go_simp
  refine ⟨trivial, (callsIn_wide.2 (kb _ hS.below)).mono ?_⟩
  rintro e w5 ⟨rfl, hb⟩
  have hS5 := hS.call hb
  clear hb hS
  have hS := hS5
  clear hS5
  refine hK _ _ (.inr hS) ?_
  clear hK K
  refine wpAnyR_take (i := 8) (v := .int .i64 (S + q.len)) rfl rfl (by kernel_rfl) (by kernel_rfl) (by kernel_rfl) (fun _ _ _ h => h) (Nat.le_refl _) ⟨by rfl, fun w _ => (by go_simp; try (first | (simp only [IntKind.wrap_u32]; done) | rfl | exact w2)), fun _ => rfl⟩ hS ?_
  simp only [List.getElem_toArray, List.getElem_cons_zero, List.getElem_cons_succ, Act.put, List.setIfInBounds_toArray, List.set_cons_zero, List.set_cons_succ]
  refine wpAnyR_take (i := 13) (v := .bool false) rfl rfl (by kernel_rfl) (by kernel_rfl) (by kernel_rfl) (fun _ _ _ h => h) (Nat.le_refl _) ⟨by rfl, fun w _ => (by go_simp; try (first | (simp only [IntKind.wrap_u32]; done) | rfl)), fun _ => rfl⟩ hS ?_
  simp only [List.getElem_toArray, List.getElem_cons_zero, List.getElem_cons_succ, Act.put, List.setIfInBounds_toArray, List.set_cons_zero, List.set_cons_succ]
  refine wpAnyG_done (by kernel_rfl) ?_ _
  have H := hS
  clear hS
  clear kb
  go_upto_region 8 with (fail)
  refine region_memk H 7 11 rfl (by kernel_rfl) (fun wr0 hcl hS => ?_)
  clear H
  refine wpAnyG_pure (i := 0) (v := .pointer (some ⟨p, 0, none⟩)) rfl rfl (by kernel_rfl) (by kernel_rfl) (by kernel_rfl) (fun _ _ _ h => h) (by decide) ⟨by rfl, fun w _ => (by go_simp; try (first | (simp only [IntKind.wrap_u32]; done) | rfl)), fun _ => rfl⟩ (.inr hS) ?_
  have hc1 := hcl.step (i := 0) (by kernel_rfl)
  clear hcl; have hcl := hc1; clear hc1; simp only [List.getElem_toArray, List.getElem_cons_zero, List.getElem_cons_succ, Act.put, List.setIfInBounds_toArray, List.set_cons_zero, List.set_cons_succ]
  refine wpAnyG_pure (i := 1) (v := .pointer (some ⟨p, 0, none⟩)) rfl rfl (by kernel_rfl) (by kernel_rfl) (by kernel_rfl) (fun _ _ _ h => h) (by decide) ⟨by rfl, fun w _ => (by go_simp; try (first | (simp only [IntKind.wrap_u32]; done) | rfl)), fun _ => rfl⟩ (.inr hS) ?_
  have hc1 := hcl.step (i := 1) (by kernel_rfl)
  clear hcl; have hcl := hc1; clear hc1; simp only [List.getElem_toArray, List.getElem_cons_zero, List.getElem_cons_succ, Act.put, List.setIfInBounds_toArray, List.set_cons_zero, List.set_cons_succ]
  refine wpAnyG_pure (i := 2) (v := .pointer (some ⟨p, 0, none⟩)) rfl rfl (by kernel_rfl) (by kernel_rfl) (by kernel_rfl) (fun _ _ _ h => h) (by decide) ⟨by rfl, fun w _ => (by go_simp; try (first | (simp only [IntKind.wrap_u32]; done) | rfl)), fun _ => rfl⟩ (.inr hS) ?_
  have hc1 := hcl.step (i := 2) (by kernel_rfl)
  clear hcl; have hcl := hc1; clear hc1; simp only [List.getElem_toArray, List.getElem_cons_zero, List.getElem_cons_succ, Act.put, List.setIfInBounds_toArray, List.set_cons_zero, List.set_cons_succ]
  refine wpAnyG_pure (i := 3) (v := .pointer (some ⟨p, 0, none⟩)) rfl rfl (by kernel_rfl) (by kernel_rfl) (by kernel_rfl) (fun _ _ _ h => h) (by decide) ⟨by rfl, fun w _ => (by go_simp; try (first | (simp only [IntKind.wrap_u32]; done) | rfl)), fun _ => rfl⟩ (.inr hS) ?_
  have hc1 := hcl.step (i := 3) (by kernel_rfl)
  clear hcl; have hcl := hc1; clear hc1; simp only [List.getElem_toArray, List.getElem_cons_zero, List.getElem_cons_succ, Act.put, List.setIfInBounds_toArray, List.set_cons_zero, List.set_cons_succ]
  refine wpAnyG_take (i := 4) 6 (v := .slice A n c) rfl rfl (by kernel_rfl) (by kernel_rfl) (by kernel_rfl) (fun _ _ _ h => h) (by kernel_rfl) (by decide) hcl (yields_old c0 hp (by exact rfl) (by exact rfl) (by exact rfl) (by first | exact Try.underlying32 | exact Try.underlying3 | exact Try.underlying41) rfl) hS (fun hc1 => ?_)
  clear hcl; have hcl := hc1; clear hc1; simp only [List.getElem_toArray, List.getElem_cons_zero, List.getElem_cons_succ, Act.put, List.setIfInBounds_toArray, List.set_cons_zero, List.set_cons_succ]
  refine wpAnyG_take (i := 5) 6 (v := pv q) rfl rfl (by kernel_rfl) (by kernel_rfl) (by kernel_rfl) (fun _ _ _ h => h) (by kernel_rfl) (by decide) hcl (yields_held (fun w h => h.at 0 rfl) (by exact rfl) (by exact rfl) (by exact rfl) Try.underlying37 rfl pkInfo) hS (fun hc1 => ?_)
  clear hcl; have hcl := hc1; clear hc1; simp only [List.getElem_toArray, List.getElem_cons_zero, List.getElem_cons_succ, Act.put, List.setIfInBounds_toArray, List.set_cons_zero, List.set_cons_succ]
  have hsz8 := hS.below.size
  refine wpAnyG_one (i := 6) (by kernel_rfl) rfl (fun K hK => ?_)
  go_simp
  refine hK _ _ (.inr (hS.skip _)) ?_
  clear hK K
  have hc1 := hcl.step (i := 6) (by kernel_rfl)
  clear hcl; have hcl := hc1; clear hc1
  refine wpAnyG_one (i := 7) (by kernel_rfl) rfl (fun K hK => ?_)
  have D8 := HD.out.below (hS.skip (.cells #[.int .u32 q.id, .int .u32 q.len, .int .i64 q.prio, .int .i64 q.cpu, .int .u32 q.a, .int .u32 q.b, .int .u16 q.sp, .int .u16 q.dp, .int .u8 q.q] 37)).below
  refine wpIn_append_que (.tmp 38) (.tmp 40) rfl rfl (.slice A n c) s.l [q] ⟨wr0.heap.size, 0, none⟩ 1 1 (by exact rfl) (by exact rfl) (by rw [← HV.out]; exact D8.row) rfl (fun j u hj => by rw [Addr.add_mid, Nat.zero_add]; rw [pvs_one] at hj; exact ((Held.new wr0 37 #[.int .u32 q.id, .int .u32 q.len, .int .i64 q.prio, .int .i64 q.cpu, .int .u32 q.a, .int .u32 q.b, .int .u16 q.sp, .int .u16 q.dp, .int .u8 q.q]).cell j).trans (by simpa using hj)) (by rw [HN.out]; omega) ?_
  intro v' w7 hq7 hF7 hb7
  refine hK _ _ (.inl (by kernel_rfl)) ?_
  clear hK K
  have hnp : ¬ qb (.slice A n c) p := fun e => (D8.oq p (by rw [HV.out]; exact e)).2 rfl
  have b7 : Held w7 p 44 #[.slice A n c, .int .i64 s.n, .int .i64 s.b] := (hF7.block p D8.box.lt hnp).trans (by have := D8.box; rw [HV.out] at this; exact this)
  have hB7 := (hS.skip (.cells #[.int .u32 q.id, .int .u32 q.len, .int .i64 q.prio, .int .i64 q.cpu, .int .u32 q.a, .int .u32 q.b, .int .u16 q.sp, .int .u16 q.dp, .int .u8 q.q] 37)).below
  clear hS
  generalize hwA : wr0.alloc (.cells #[.int .u32 q.id, .int .u32 q.len, .int .i64 q.prio, .int .i64 q.cpu, .int .u32 q.a, .int .u32 q.b, .int .u16 q.sp, .int .u16 q.dp, .int .u8 q.q] 37) = wA at hF7 hb7 D8 hB7
  clear hwA
  have hX := D8.upd (M := N + 1) (by rw [HV.out]; exact hF7) hq7 (by rw [HV.out]; exact hb7) (by have := D8.len; rw [List.length_append]; simp; omega) (fun y hy => by
    rcases List.mem_append.1 hy with hy | hy
    · exact D8.fits y hy
    · rw [List.mem_singleton.1 hy]; exact HQ.out) (fun y hy => by
    rcases List.mem_append.1 hy with hy | hy
    · exact D8.sz y hy
    · rw [List.mem_singleton.1 hy]
      have := HZ.out
      simpa [okP] using this)
  obtain ⟨X, hX⟩ := hX
  obtain ⟨A', c', hve, _, _⟩ := hq7.shape
  have hone : v'.oneCell' = true := by rw [hve]; rfl
  have HOW := Lib.hid (fun i (h1 : qb v' i) => (hb7 i h1).elim (fun h2 => Or.inl (D8.oq i (by rw [HV.out]; exact h2)).1) (fun h2 => Or.inr (Nat.le_trans hB7.size h2)) : ∀ i, qb v' i → own i ∨ W.heap.size ≤ i)
  have HX := Lib.hid X
  have HFX := Lib.hid ((Foot.of_below (B := own) hB7).trans' hX)
  clear X hX hve hb7 hF7 hq7 D8 hB7
  refine wpAnyG_one (i := 8) (by kernel_rfl) rfl (fun K hK => ?_)
  go_simp
  refine hK _ _ (.inl (by kernel_rfl)) ?_
  clear hK K
  refine wpAnyG_one (i := 9) (by kernel_rfl) rfl (fun K hK => ?_)
  go_simp
  refine hK _ _ (.inl (by kernel_rfl)) ?_
  clear hK K
  refine wpAnyG_one (i := 10) (by kernel_rfl) rfl (fun K hK => ?_)
  refine wpIn_store_old (b := p) (j := 0) (v := v') (v0 := .slice A n c) (b7.cell 0) (b7.frozen 0) rfl (by exact rfl) (by exact rfl) (by exact pslInfo) hone ?_
  refine hK _ _ (.inl (by kernel_rfl)) ?_
  clear hK K
  refine wpAnyG_done (by kernel_rfl) ?_ _
  clear b7
  go_wp2
  go_ret
  exact ⟨rfl, ⟨_, ⟨_, HX.out⟩, fun i hi => hi.elim (fun h1 => .inl h1) (fun h1 => HOW.out i h1)⟩, HFX.out⟩
end Go.Proofs.Ytlnlkodpndjimaa.Fi
end
