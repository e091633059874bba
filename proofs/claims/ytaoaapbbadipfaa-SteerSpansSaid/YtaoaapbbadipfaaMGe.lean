/-
  Tables: which are valid, owners of queues. Mathematics alone. Tables in memory; the document's in and owner. Conditions: the spans are small numbers, the table lies where its value says. The document's Right. Conditions: the table lies where its value says, and has at most twenty spans and priorities.
-/
import Derived.Test.YtaoaapbbadipfaaRows
import Derived.Test.YtaoaapbbadipfaaMGa
import Derived.Lib.Hide
import Derived.BigQuiet
import Derived.Deep.DeepCutAuto
import Derived.WalkKit
import Derived.ProofKit
/- Tables: which are valid, owners of queues. Mathematics alone. -/
section
namespace Go.Proofs.Ytaoaapbbadipfaa
set_option linter.unusedSimpArgs false
set_option linter.unusedVariables false
set_option maxRecDepth 100000

/-- a table -/
structure TB where
  q : Int
  cl : List Int
  sp : List (Int × Int)
/-- is a queue in a span -/
def inB (q : Int) (s : Int × Int) : Bool := decide (s.1 ≤ q) && decide (q - s.1 < s.2)
/-- the class of a queue, from a class on -/
def ownAt (l : List (Int × Int)) (q : Int) (i : Nat) : Int :=
  if h : i < l.length then (if inB q l[i] then (i : Int) else ownAt l q (i + 1)) else -1
termination_by l.length - i
theorem ownAt_hit {l : List (Int × Int)} {q : Int} {i : Nat} {s : Int × Int} (h : l[i]? = some s) (hi : inB q s = true) : ownAt l q i = i := by
  obtain ⟨hl, hs⟩ := List.getElem?_eq_some_iff.1 h
  rw [ownAt, dif_pos hl, hs, if_pos hi]
theorem ownAt_miss {l : List (Int × Int)} {q : Int} {i : Nat} {s : Int × Int} (h : l[i]? = some s) (hi : inB q s = false) : ownAt l q i = ownAt l q (i + 1) := by
  obtain ⟨hl, hs⟩ := List.getElem?_eq_some_iff.1 h
  conv => lhs; rw [ownAt]
  rw [dif_pos hl, hs, if_neg (by simp [hi])]
theorem ownAt_end {l : List (Int × Int)} {q : Int} {i : Nat} (h : l.length ≤ i) : ownAt l q i = -1 := by
  rw [ownAt, dif_neg (by omega)]
/-- what an owner is: the first one from i on that has it, or none has it -/
theorem ownAt_spec (l : List (Int × Int)) (q : Int) (i : Nat) : (∃ k s, i ≤ k ∧ l[k]? = some s ∧ inB q s = true ∧ ownAt l q i = k ∧ ∀ j s', i ≤ j → j < k → l[j]? = some s' → inB q s' = false) ∨
    (ownAt l q i = -1 ∧ ∀ j s', i ≤ j → l[j]? = some s' → inB q s' = false) := by
  by_cases h : i < l.length
  · obtain ⟨s, hs⟩ : ∃ s, l[i]? = some s := ⟨l[i], List.getElem?_eq_getElem h⟩
    rcases hb : inB q s with _ | _
    · rw [ownAt_miss hs hb]
      rcases ownAt_spec l q (i + 1) with ⟨k, s', hk, hs', hb', he, hn⟩ | ⟨he, hn⟩
      · refine .inl ⟨k, s', by omega, hs', hb', he, fun j t hj hjk ht => ?_⟩
        by_cases e : j = i
        · subst e
          rw [hs] at ht
          cases ht
          exact hb
        · exact hn j t (by omega) hjk ht
      · refine .inr ⟨he, fun j t hj ht => ?_⟩
        by_cases e : j = i
        · subst e
          rw [hs] at ht
          cases ht
          exact hb
        · exact hn j t (by omega) ht
    · exact .inl ⟨i, s, Nat.le_refl _, hs, hb, ownAt_hit hs hb, fun j t hj hjk _ => absurd hjk (by omega)⟩
  · exact .inr ⟨ownAt_end (by omega), fun j t hj ht => absurd (List.getElem?_eq_some_iff.1 ht).1 (by omega)⟩
termination_by l.length - i
/-- may a span be -/
def spanOk (q : Int) (s : Int × Int) : Bool := decide (0 ≤ s.1) && decide (1 ≤ s.2) && decide (s.1 ≤ q) && decide (s.2 ≤ q - s.1)
/-- has a queue one class at most -/
def onceB (l : List (Int × Int)) (k : Int) : Bool := !(decide (0 ≤ ownAt l k 0) && decide (0 ≤ ownAt l k ((ownAt l k 0).toNat + 1)))
def classOk (n : Nat) (x : Int) : Bool := decide (0 ≤ x) && decide (x < n)
def TB.ok0 (t : TB) : Bool := decide (1 ≤ t.q) && decide (t.q ≤ 64) && decide (1 ≤ t.sp.length) && decide (t.sp.length ≤ 16) && decide (t.cl.length = 16)
def TB.ok1 (t : TB) : Bool := t.sp.all (spanOk t.q)
def TB.ok2 (t : TB) : Bool := (List.range t.q.toNat).all fun k => onceB t.sp k
def TB.ok3 (t : TB) : Bool := t.cl.all (classOk t.sp.length)
/-- may a table be -/
def TB.right (t : TB) : Bool := t.ok0 && t.ok1 && t.ok2 && t.ok3
/-- some beginning of a list, and the next one -/
theorem all_take {α : Type} {l : List α} {f : α → Bool} {k : Nat} {x : α} (h : l[k]? = some x) : (l.take (k + 1)).all f = ((l.take k).all f && f x) := by
  rw [List.take_add_one, h]
  simp
theorem all_no {α : Type} {l : List α} {f : α → Bool} {k : Nat} {x : α} (h : l[k]? = some x) (hx : f x = false) : l.all f = false := by
  rw [List.all_eq_false]
  exact ⟨x, List.mem_of_getElem? h, by simp [hx]⟩
theorem range_get {n k : Nat} (h : k < n) : (List.range n)[k]? = some k := by simp [h]
end Go.Proofs.Ytaoaapbbadipfaa
end
/- Tables in memory; the document's in and owner. Conditions: the spans are small numbers, the table lies where its value says. -/
section
namespace Go.Proofs.Ytaoaapbbadipfaa
set_option linter.unusedSimpArgs false
set_option linter.unusedVariables false
set_option maxRecDepth 100000
open Go.ChangeShapes Go.WideShapes Go.ChangeAt Go.RowKit

/-- numbers of a slice, in blocks below B -/
def RowI (B : Nat) (w : World) (A : Option Addr) (l : List Int) : Prop :=
  ∀ k x, l[k]? = some x → ∃ b o, A = some ⟨b, o, none⟩ ∧ b < B ∧ w.cell? ⟨b, o + k, none⟩ = some (.int .i64 x)
/-- spans of a slice -/
def RowS (B : Nat) (w : World) (A : Option Addr) (l : List (Int × Int)) : Prop :=
  ∀ k s, l[k]? = some s → ∃ b o, A = some ⟨b, o, none⟩ ∧ b < B ∧ w.cell? ⟨b, o + k * 2, none⟩ = some (.int .i64 s.1) ∧ w.cell? ⟨b, o + k * 2 + 1, none⟩ = some (.int .i64 s.2)
theorem cell_same {B b o : Nat} {w w' : World} (hb : ∀ k, k < B → w'.heap[k]? = w.heap[k]?) (h : b < B) : w'.cell? ⟨b, o, none⟩ = w.cell? ⟨b, o, none⟩ := by
  unfold World.cell?
  rw [hb b h]
theorem RowI.same {B : Nat} {w w' : World} {A : Option Addr} {l : List Int} (h : RowI B w A l) (hb : ∀ k, k < B → w'.heap[k]? = w.heap[k]?) : RowI B w' A l := fun k x hx => by
  obtain ⟨b, o, e, hB, hc⟩ := h k x hx
  exact ⟨b, o, e, hB, (cell_same hb hB).trans hc⟩
theorem RowS.same {B : Nat} {w w' : World} {A : Option Addr} {l : List (Int × Int)} (h : RowS B w A l) (hb : ∀ k, k < B → w'.heap[k]? = w.heap[k]?) : RowS B w' A l := fun k x hx => by
  obtain ⟨b, o, e, hB, hc, hd⟩ := h k x hx
  exact ⟨b, o, e, hB, (cell_same hb hB).trans hc, (cell_same hb hB).trans hd⟩
theorem RowI.mono {B B' : Nat} {w : World} {A : Option Addr} {l : List Int} (h : RowI B w A l) (hb : B ≤ B') : RowI B' w A l := fun k x hx => by
  obtain ⟨b, o, e, hB, hc⟩ := h k x hx
  exact ⟨b, o, e, by omega, hc⟩
theorem RowS.mono {B B' : Nat} {w : World} {A : Option Addr} {l : List (Int × Int)} (h : RowS B w A l) (hb : B ≤ B') : RowS B' w A l := fun k x hx => by
  obtain ⟨b, o, e, hB, hc, hd⟩ := h k x hx
  exact ⟨b, o, e, by omega, hc, hd⟩
def I64 (x : Int) : Prop := -9223372036854775808 ≤ x ∧ x ≤ 9223372036854775807
/-- a table's value: its slices lie in blocks below B -/
structure TbAt (B : Nat) (w : World) (A1 A2 : Option Addr) (c1 c2 : Nat) (t : TB) : Prop where
  cl : RowI B w A1 t.cl
  sp : RowS B w A2 t.sp
  l1 : t.cl.length ≤ c1
  l2 : t.sp.length ≤ c2
  m1 : c1 ≤ maxLen
  m2 : c2 ≤ maxLen
  fq : I64 t.q
  fc : ∀ x, x ∈ t.cl → I64 x
  fs : ∀ s, s ∈ t.sp → I64 s.1 ∧ I64 s.2
theorem TbAt.same {B : Nat} {w w' : World} {A1 A2 : Option Addr} {c1 c2 : Nat} {t : TB} (h : TbAt B w A1 A2 c1 c2 t) (hb : ∀ k, k < B → w'.heap[k]? = w.heap[k]?) : TbAt B w' A1 A2 c1 c2 t := ⟨h.cl.same hb, h.sp.same hb, h.l1, h.l2, h.m1, h.m2, h.fq, h.fc, h.fs⟩
theorem TbAt.mono {B B' : Nat} {w : World} {A1 A2 : Option Addr} {c1 c2 : Nat} {t : TB} (h : TbAt B w A1 A2 c1 c2 t) (hb : B ≤ B') : TbAt B' w A1 A2 c1 c2 t := ⟨h.cl.mono hb, h.sp.mono hb, h.l1, h.l2, h.m1, h.m2, h.fq, h.fc, h.fs⟩
/-- .. after calls that leave what was there -/
theorem TbAt.below {w w' : World} {B : Nat} {A1 A2 : Option Addr} {c1 c2 : Nat} {t : TB} (h : TbAt B w A1 A2 c1 c2 t) (hb : Below B w w') : TbAt B w' A1 A2 c1 c2 t := h.same hb.block
theorem TbAt.mem {w w' : World} {A1 A2 : Option Addr} {c1 c2 : Nat} {t : TB} {l : List (Nat × TypeId × Array Value)} (h : TbAt w.heap.size w A1 A2 c1 c2 t) (H : Mem w w' l) : TbAt w'.heap.size w' A1 A2 c1 c2 t := (h.below H.below).mono H.below.size
abbrev tbC (A1 A2 : Option Addr) (c1 c2 : Nat) (t : TB) : Array Value := #[.int .i64 t.q, .slice A1 t.cl.length c1, .slice A2 t.sp.length c2]
theorem tbInfo : (Try.prog.info? 32).map (·.size) = some 3 := by kernel_rfl
theorem spInfo : (Try.prog.info? 59).map (·.size) = some 2 := by kernel_rfl
/-- small numbers -/
def Small (s : Int × Int) : Prop := 0 ≤ s.1 ∧ s.1 ≤ 64 ∧ 1 ≤ s.2 ∧ s.2 ≤ 64
theorem in_r (q : Int) (s : Int × Int) (hq : 0 ≤ q ∧ q ≤ 64) (hs : Small s) (w : World) : Calls Try.prog 51 #[.int .i64 q, .agg #[.int .i64 s.1, .int .i64 s.2]] w fun e w' => e = .returned (.bool (inB q s)) ∧ Below w.heap.size w w' := by
  obtain ⟨a, c⟩ := s
  obtain ⟨h1, h2, h3, h4⟩ := hs
  simp only at h1 h2 h3 h4 ⊢
  have H := Mem.start w
  by_cases hg : a ≤ q
  · have t1 : decide (a ≤ q) = true := decide_eq_true hg
    have hv : inB q (a, c) = decide (q - a < c) := by simp [inB, t1]
    rw [hv]
    clear hv
    go_enter Try.func51, Try.ntmps51
    go_wp2_with (first
    | go_skip
    | ((with_reducible show wpList _ _ _ _ _ (World.alloc _ (.cells _ _))); refine mem_new H ?_; intro w2 H2; clear H; have H := H2; clear H2; simp only [List.cons_append, List.nil_append, List.set_cons_zero, List.set_cons_succ, List.setIfInBounds_toArray] at H)
    | ((with_reducible show wpList _ _ _ (⟨_, .load _ _, _, _, _, _⟩ :: _) _ _); refine mem_loadf (i := 0) H (by first | exact wanted_none rfl | exact wanted_some rfl rfl rfl rfl) (by exact rfl) (by exact rfl) (by exact rfl) (by first | exact Try.underlying3 | exact Try.underlying29 | exact Try.underlying30) rfl (by exact rfl) ?_))
    go_ret
    exact ⟨rfl, H.below⟩
  · have t1 : decide (a ≤ q) = false := decide_eq_false hg
    have hv : inB q (a, c) = false := by simp [inB, t1]
    rw [hv]
    clear hv
    go_enter Try.func51, Try.ntmps51
    go_wp2_with (first
    | go_skip
    | ((with_reducible show wpList _ _ _ _ _ (World.alloc _ (.cells _ _))); refine mem_new H ?_; intro w2 H2; clear H; have H := H2; clear H2; simp only [List.cons_append, List.nil_append, List.set_cons_zero, List.set_cons_succ, List.setIfInBounds_toArray] at H)
    | ((with_reducible show wpList _ _ _ (⟨_, .load _ _, _, _, _, _⟩ :: _) _ _); refine mem_loadf (i := 0) H (by first | exact wanted_none rfl | exact wanted_some rfl rfl rfl rfl) (by exact rfl) (by exact rfl) (by exact rfl) (by first | exact Try.underlying3 | exact Try.underlying29 | exact Try.underlying30) rfl (by exact rfl) ?_))
    go_ret
    exact ⟨rfl, H.below⟩
set_option maxRecDepth 100000 in
set_option maxHeartbeats 1000000 in
theorem owner_r (A1 A2 : Option Addr) (c1 c2 : Nat) (t : TB) (q : Int) (i : Nat) (hq : 0 ≤ q ∧ q ≤ 64) (hi : i ≤ 100) (w : World) (ht : TbAt w.heap.size w A1 A2 c1 c2 t) (hs : ∀ s, s ∈ t.sp → Small s) (h20 : t.sp.length ≤ 20) :
    Calls Try.prog 36 #[.agg (tbC A1 A2 c1 c2 t), .int .i64 q, .int .i64 i] w fun e w' => e = .returned (.int .i64 (ownAt t.sp q i)) ∧ Below w.heap.size w w' := by
  have H := Mem.start w
  have T := Lib.hid ht
  have HS := Lib.hid hs
  have l2 := ht.l2
  clear ht hs
  obtain ⟨n, hn⟩ : ∃ n, t.sp.length = n := ⟨_, rfl⟩
  rw [hn] at l2 h20
  unfold tbC
  rw [hn]
  have HN := Lib.hid hn
  clear hn
  go_enter Try.func36, Try.ntmps36
  go_upto_region 1 with (first
    | ((with_reducible show wpList _ _ _ _ _ (World.alloc _ (.cells _ _))); refine mem_newb H ?_; intro b w3 hbk H2; try rw [← hbk]; clear hbk H; have H := H2; clear H2; simp only [List.cons_append, List.nil_append, List.set_cons_zero, List.set_cons_succ, List.setIfInBounds_toArray] at H))
  go_wp2_with fail
  go_loopw [7] (fun j wr => ∃ k : Nat, k ≤ 100 ∧ j = .int .i64 k ∧ ownAt t.sp q k = ownAt t.sp q i ∧ Mem w wr [(b, 32, #[.int .i64 t.q, .slice A1 t.cl.length c1, .slice A2 n c2])]) (fun j _ => 100 - (intOf j).toNat)
  case atStart => exact ⟨i, hi, rfl, rfl, H⟩
  case round =>
    clear H
    obtain ⟨k, hk, rfl, hv, H⟩ := hrel
    have HV := Lib.hid hv
    clear hv
    have hn := HN.out
    by_cases hlt : k < n
    · obtain ⟨s, hsk⟩ : ∃ s, t.sp[k]? = some s := ⟨t.sp[k]'(by omega), List.getElem?_eq_getElem _⟩
      obtain ⟨b2, o2, rfl, hB, ca, cb⟩ := (T.out.mem H).sp k s hsk
      have hsm := HS.out s (List.mem_of_getElem? hsk)
      have HK := Lib.hid hsk
      clear hsk hn
      have ci := fun w => in_r q s hq hsm w
      rcases hib : inB q s with _ | _
      all_goals
        rw [hib] at ci
        have HB := Lib.hid hib
        clear hib
      · go_wp2_with (first
          | ((with_reducible show wpList _ _ _ (⟨_, .load _ _, _, _, _, _⟩ :: _) _ _); refine mem_loadf (i := 0) H (by first | exact wanted_none rfl | exact wanted_some rfl rfl rfl rfl) (by exact rfl) (by exact rfl) (by exact rfl) (by first | exact Try.underlying3 | exact Try.underlying29 | exact Try.underlying30) rfl (by exact rfl) ?_)
          | (go_at_call 51; with_reducible refine (ci _).mono ?_; rintro e w2 ⟨rfl, hb⟩; have H2 := H.call hb; clear H hb; have H := H2; clear H2))
        go_roundw
        case rel => exact ⟨k + 1, by omega, by go_num, by rw [← HV.out, ownAt_miss HK.out HB.out], H⟩
        case measure => simp [intOf]; omega
      · go_wp2_with (first
          | ((with_reducible show wpList _ _ _ (⟨_, .load _ _, _, _, _, _⟩ :: _) _ _); refine mem_loadf (i := 0) H (by first | exact wanted_none rfl | exact wanted_some rfl rfl rfl rfl) (by exact rfl) (by exact rfl) (by exact rfl) (by first | exact Try.underlying3 | exact Try.underlying29 | exact Try.underlying30) rfl (by exact rfl) ?_)
          | (go_at_call 51; with_reducible refine (ci _).mono ?_; rintro e w2 ⟨rfl, hb⟩; have H2 := H.call hb; clear H hb; have H := H2; clear H2))
        go_ret
        exact ⟨by rw [← HV.out, ownAt_hit HK.out HB.out]; rfl, H.below⟩
    · have hve := ownAt_end (l := t.sp) (q := q) (i := k) (by omega)
      have HE := Lib.hid hve
      clear hve hn
      go_wp2_with (first
        | ((with_reducible show wpList _ _ _ (⟨_, .load _ _, _, _, _, _⟩ :: _) _ _); refine mem_loadf (i := 0) H (by first | exact wanted_none rfl | exact wanted_some rfl rfl rfl rfl) (by exact rfl) (by exact rfl) (by exact rfl) (by first | exact Try.underlying3 | exact Try.underlying29 | exact Try.underlying30) rfl (by exact rfl) ?_))
      go_ret
      exact ⟨by rw [← HV.out, HE.out]; rfl, H.below⟩
end Go.Proofs.Ytaoaapbbadipfaa
end
/- The document's Right. Conditions: the table lies where its value says, and has at most twenty spans and priorities. -/
section
namespace Go.Proofs.Ytaoaapbbadipfaa
set_option linter.unusedSimpArgs false
set_option linter.unusedVariables false
set_option maxRecDepth 100000
open Go.ChangeShapes Go.WideShapes Go.ChangeAt Go.RowKit

abbrev RightR (A1 A2 : Option Addr) (c1 c2 : Nat) (t : TB) (w : World) (v : Bool) : Prop := Calls Try.prog 18 #[.agg (tbC A1 A2 c1 c2 t)] w fun e w' => e = .returned (.bool v) ∧ Below w.heap.size w w'
theorem right_no0 (A1 A2 : Option Addr) (c1 c2 : Nat) (q : Int) (cl : List Int) (sp : List (Int × Int))  (h0 : q < 1) (w : World) : RightR A1 A2 c1 c2 ⟨q, cl, sp⟩ w false := by
  have H := Mem.start w
  obtain ⟨m, hm⟩ : ∃ m, cl.length = m := ⟨_, rfl⟩
  obtain ⟨n, hn⟩ : ∃ n, sp.length = n := ⟨_, rfl⟩
  unfold RightR tbC
  simp only [hm, hn] at *
  clear hm hn
  have t0 : decide (q < 1) = true := decide_eq_true (by omega)
  go_enter Try.func18, Try.ntmps18
  go_upto_region 1 with (first
    | ((with_reducible show wpList _ _ _ _ _ (World.alloc _ (.cells _ _))); refine mem_newb H ?_; intro b w3 hbk H2; try rw [← hbk]; clear hbk H; have H := H2; clear H2; simp only [List.cons_append, List.nil_append, List.set_cons_zero, List.set_cons_succ, List.setIfInBounds_toArray] at H))
  go_wp2_with (first
    | go_skip
    | ((with_reducible show wpList _ _ _ (⟨_, .load _ _, _, _, _, _⟩ :: _) _ _); refine mem_loadf (i := 0) H (by first | exact wanted_none rfl | exact wanted_some rfl rfl rfl rfl) (by exact rfl) (by exact rfl) (by exact rfl) (by first | exact Try.underlying3 | exact Try.underlying29 | exact Try.underlying30) rfl (by exact rfl) ?_))
  go_ret
  exact ⟨rfl, H.below⟩
theorem right_no1 (A1 A2 : Option Addr) (c1 c2 : Nat) (q : Int) (cl : List Int) (sp : List (Int × Int)) (h0 : ¬ q < 1) (h1 : 64 < q) (w : World) : RightR A1 A2 c1 c2 ⟨q, cl, sp⟩ w false := by
  have H := Mem.start w
  obtain ⟨m, hm⟩ : ∃ m, cl.length = m := ⟨_, rfl⟩
  obtain ⟨n, hn⟩ : ∃ n, sp.length = n := ⟨_, rfl⟩
  unfold RightR tbC
  simp only [hm, hn] at *
  clear hm hn
  have t0 : decide (q < 1) = false := decide_eq_false (by omega)
  have t1 : decide (64 < q) = true := decide_eq_true (by omega)
  go_enter Try.func18, Try.ntmps18
  go_upto_region 1 with (first
    | ((with_reducible show wpList _ _ _ _ _ (World.alloc _ (.cells _ _))); refine mem_newb H ?_; intro b w3 hbk H2; try rw [← hbk]; clear hbk H; have H := H2; clear H2; simp only [List.cons_append, List.nil_append, List.set_cons_zero, List.set_cons_succ, List.setIfInBounds_toArray] at H))
  go_wp2_with (first
    | go_skip
    | ((with_reducible show wpList _ _ _ (⟨_, .load _ _, _, _, _, _⟩ :: _) _ _); refine mem_loadf (i := 0) H (by first | exact wanted_none rfl | exact wanted_some rfl rfl rfl rfl) (by exact rfl) (by exact rfl) (by exact rfl) (by first | exact Try.underlying3 | exact Try.underlying29 | exact Try.underlying30) rfl (by exact rfl) ?_))
  go_ret
  exact ⟨rfl, H.below⟩
theorem right_no2 (A1 A2 : Option Addr) (c1 c2 : Nat) (q : Int) (cl : List Int) (sp : List (Int × Int)) (h0 : ¬ q < 1) (h1 : ¬ 64 < q) (h2 : sp.length < 1) (w : World) : RightR A1 A2 c1 c2 ⟨q, cl, sp⟩ w false := by
  have H := Mem.start w
  obtain ⟨m, hm⟩ : ∃ m, cl.length = m := ⟨_, rfl⟩
  obtain ⟨n, hn⟩ : ∃ n, sp.length = n := ⟨_, rfl⟩
  unfold RightR tbC
  simp only [hm, hn] at *
  clear hm hn
  have t0 : decide (q < 1) = false := decide_eq_false (by omega)
  have t1 : decide (64 < q) = false := decide_eq_false (by omega)
  have t2 : decide ((n : Int) < 1) = true := decide_eq_true (by omega)
  go_enter Try.func18, Try.ntmps18
  go_upto_region 1 with (first
    | ((with_reducible show wpList _ _ _ _ _ (World.alloc _ (.cells _ _))); refine mem_newb H ?_; intro b w3 hbk H2; try rw [← hbk]; clear hbk H; have H := H2; clear H2; simp only [List.cons_append, List.nil_append, List.set_cons_zero, List.set_cons_succ, List.setIfInBounds_toArray] at H))
  go_wp2_with (first
    | go_skip
    | ((with_reducible show wpList _ _ _ (⟨_, .load _ _, _, _, _, _⟩ :: _) _ _); refine mem_loadf (i := 0) H (by first | exact wanted_none rfl | exact wanted_some rfl rfl rfl rfl) (by exact rfl) (by exact rfl) (by exact rfl) (by first | exact Try.underlying3 | exact Try.underlying29 | exact Try.underlying30) rfl (by exact rfl) ?_))
  go_ret
  exact ⟨rfl, H.below⟩
theorem right_no3 (A1 A2 : Option Addr) (c1 c2 : Nat) (q : Int) (cl : List Int) (sp : List (Int × Int)) (h0 : ¬ q < 1) (h1 : ¬ 64 < q) (h2 : ¬ sp.length < 1) (h3 : 16 < sp.length) (w : World) : RightR A1 A2 c1 c2 ⟨q, cl, sp⟩ w false := by
  have H := Mem.start w
  obtain ⟨m, hm⟩ : ∃ m, cl.length = m := ⟨_, rfl⟩
  obtain ⟨n, hn⟩ : ∃ n, sp.length = n := ⟨_, rfl⟩
  unfold RightR tbC
  simp only [hm, hn] at *
  clear hm hn
  have t0 : decide (q < 1) = false := decide_eq_false (by omega)
  have t1 : decide (64 < q) = false := decide_eq_false (by omega)
  have t2 : decide ((n : Int) < 1) = false := decide_eq_false (by omega)
  have t3 : decide (16 < (n : Int)) = true := decide_eq_true (by omega)
  go_enter Try.func18, Try.ntmps18
  go_upto_region 1 with (first
    | ((with_reducible show wpList _ _ _ _ _ (World.alloc _ (.cells _ _))); refine mem_newb H ?_; intro b w3 hbk H2; try rw [← hbk]; clear hbk H; have H := H2; clear H2; simp only [List.cons_append, List.nil_append, List.set_cons_zero, List.set_cons_succ, List.setIfInBounds_toArray] at H))
  go_wp2_with (first
    | go_skip
    | ((with_reducible show wpList _ _ _ (⟨_, .load _ _, _, _, _, _⟩ :: _) _ _); refine mem_loadf (i := 0) H (by first | exact wanted_none rfl | exact wanted_some rfl rfl rfl rfl) (by exact rfl) (by exact rfl) (by exact rfl) (by first | exact Try.underlying3 | exact Try.underlying29 | exact Try.underlying30) rfl (by exact rfl) ?_))
  go_ret
  exact ⟨rfl, H.below⟩
theorem right_no4 (A1 A2 : Option Addr) (c1 c2 : Nat) (q : Int) (cl : List Int) (sp : List (Int × Int)) (h0 : ¬ q < 1) (h1 : ¬ 64 < q) (h2 : ¬ sp.length < 1) (h3 : ¬ 16 < sp.length) (h4 : cl.length ≠ 16) (w : World) : RightR A1 A2 c1 c2 ⟨q, cl, sp⟩ w false := by
  have H := Mem.start w
  obtain ⟨m, hm⟩ : ∃ m, cl.length = m := ⟨_, rfl⟩
  obtain ⟨n, hn⟩ : ∃ n, sp.length = n := ⟨_, rfl⟩
  unfold RightR tbC
  simp only [hm, hn] at *
  clear hm hn
  have t0 : decide (q < 1) = false := decide_eq_false (by omega)
  have t1 : decide (64 < q) = false := decide_eq_false (by omega)
  have t2 : decide ((n : Int) < 1) = false := decide_eq_false (by omega)
  have t3 : decide (16 < (n : Int)) = false := decide_eq_false (by omega)
  have t4 : ((m : Int) == 16) = false := by rw [beq_eq_false_iff_ne]; omega
  go_enter Try.func18, Try.ntmps18
  go_upto_region 1 with (first
    | ((with_reducible show wpList _ _ _ _ _ (World.alloc _ (.cells _ _))); refine mem_newb H ?_; intro b w3 hbk H2; try rw [← hbk]; clear hbk H; have H := H2; clear H2; simp only [List.cons_append, List.nil_append, List.set_cons_zero, List.set_cons_succ, List.setIfInBounds_toArray] at H))
  go_wp2_with (first
    | go_skip
    | ((with_reducible show wpList _ _ _ (⟨_, .load _ _, _, _, _, _⟩ :: _) _ _); refine mem_loadf (i := 0) H (by first | exact wanted_none rfl | exact wanted_some rfl rfl rfl rfl) (by exact rfl) (by exact rfl) (by exact rfl) (by first | exact Try.underlying3 | exact Try.underlying29 | exact Try.underlying30) rfl (by exact rfl) ?_))
  go_ret
  exact ⟨rfl, H.below⟩
end Go.Proofs.Ytaoaapbbadipfaa
end
