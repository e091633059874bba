/-
  Tables in memory; the document's in and owner. Conditions: the spans are small numbers, the table lies where its value says.
-/
import Derived.Test.YtoofmklknffhpaaRows
import Derived.Test.YtoofmklknffhpaaTableM
import Derived.Test.YtoofmklknffhpaaMemP
import Derived.Lib.Hide
import Derived.BigQuiet
import Derived.Deep.DeepCutAuto
import Derived.WalkKit
import Derived.ProofKit
namespace Go.Proofs.Ytoofmklknffhpaa
set_option linter.unusedSimpArgs false
set_option linter.unusedVariables false
open Go.ChangeShapes Go.WideShapes Go.ChangeAt Go.RowKit

/-- numbers of a slice, in blocks below B -/
def RowI (B : Nat) (w : World) (A : Option Addr) (l : List Int) : Prop :=
  ∀ k x, l[k]? = some x → ∃ b o, A = some ⟨b, o, none⟩ ∧ b < B ∧ w.cell? ⟨b, o + k, none⟩ = some (.int .i64 x)
/-- spans of a slice -/
def RowS (B : Nat) (w : World) (A : Option Addr) (l : List (Int × Int)) : Prop :=
  ∀ k s, l[k]? = some s → ∃ b o, A = some ⟨b, o, none⟩ ∧ b < B ∧ w.cell? ⟨b, o + k * 2, none⟩ = some (.int .i64 s.1) ∧ w.cell? ⟨b, o + k * 2 + 1, none⟩ = some (.int .i64 s.2)
theorem cell_same {B b o : Nat} {w w' : World} (hb : ∀ k, k < B → w'.heap[k]? = w.heap[k]?) (h : b < B) : w'.cell? ⟨b, o, none⟩ = w.cell? ⟨b, o, none⟩ := by
  unfold World.cell?
  rw [hb b h]
theorem RowI.same {B : Nat} {w w' : World} {A : Option Addr} {l : List Int} (h : RowI B w A l) (hb : ∀ k, k < B → w'.heap[k]? = w.heap[k]?) : RowI B w' A l := fun k x hx => by
  obtain ⟨b, o, e, hB, hc⟩ := h k x hx
  exact ⟨b, o, e, hB, (cell_same hb hB).trans hc⟩
theorem RowS.same {B : Nat} {w w' : World} {A : Option Addr} {l : List (Int × Int)} (h : RowS B w A l) (hb : ∀ k, k < B → w'.heap[k]? = w.heap[k]?) : RowS B w' A l := fun k x hx => by
  obtain ⟨b, o, e, hB, hc, hd⟩ := h k x hx
  exact ⟨b, o, e, hB, (cell_same hb hB).trans hc, (cell_same hb hB).trans hd⟩
theorem RowI.mono {B B' : Nat} {w : World} {A : Option Addr} {l : List Int} (h : RowI B w A l) (hb : B ≤ B') : RowI B' w A l := fun k x hx => by
  obtain ⟨b, o, e, hB, hc⟩ := h k x hx
  exact ⟨b, o, e, by omega, hc⟩
theorem RowS.mono {B B' : Nat} {w : World} {A : Option Addr} {l : List (Int × Int)} (h : RowS B w A l) (hb : B ≤ B') : RowS B' w A l := fun k x hx => by
  obtain ⟨b, o, e, hB, hc, hd⟩ := h k x hx
  exact ⟨b, o, e, by omega, hc, hd⟩
def I64 (x : Int) : Prop := -9223372036854775808 ≤ x ∧ x ≤ 9223372036854775807
/-- a table's value: its slices lie in blocks below B -/
structure TbAt (B : Nat) (w : World) (A1 A2 : Option Addr) (c1 c2 : Nat) (t : TB) : Prop where
  cl : RowI B w A1 t.cl
  sp : RowS B w A2 t.sp
  l1 : t.cl.length ≤ c1
  l2 : t.sp.length ≤ c2
  m1 : c1 ≤ maxLen
  m2 : c2 ≤ maxLen
  fq : I64 t.q
  fc : ∀ x, x ∈ t.cl → I64 x
  fs : ∀ s, s ∈ t.sp → I64 s.1 ∧ I64 s.2
theorem TbAt.same {B : Nat} {w w' : World} {A1 A2 : Option Addr} {c1 c2 : Nat} {t : TB} (h : TbAt B w A1 A2 c1 c2 t) (hb : ∀ k, k < B → w'.heap[k]? = w.heap[k]?) : TbAt B w' A1 A2 c1 c2 t := ⟨h.cl.same hb, h.sp.same hb, h.l1, h.l2, h.m1, h.m2, h.fq, h.fc, h.fs⟩
theorem TbAt.mono {B B' : Nat} {w : World} {A1 A2 : Option Addr} {c1 c2 : Nat} {t : TB} (h : TbAt B w A1 A2 c1 c2 t) (hb : B ≤ B') : TbAt B' w A1 A2 c1 c2 t := ⟨h.cl.mono hb, h.sp.mono hb, h.l1, h.l2, h.m1, h.m2, h.fq, h.fc, h.fs⟩
/-- .. after calls that leave what was there -/
theorem TbAt.below {w w' : World} {B : Nat} {A1 A2 : Option Addr} {c1 c2 : Nat} {t : TB} (h : TbAt B w A1 A2 c1 c2 t) (hb : Below B w w') : TbAt B w' A1 A2 c1 c2 t := h.same hb.block
theorem TbAt.mem {w w' : World} {A1 A2 : Option Addr} {c1 c2 : Nat} {t : TB} {l : List (Nat × TypeId × Array Value)} (h : TbAt w.heap.size w A1 A2 c1 c2 t) (H : Mem w w' l) : TbAt w'.heap.size w' A1 A2 c1 c2 t := (h.below H.below).mono H.below.size
abbrev tbC (A1 A2 : Option Addr) (c1 c2 : Nat) (t : TB) : Array Value := #[.int .i64 t.q, .slice A1 t.cl.length c1, .slice A2 t.sp.length c2]
theorem tbInfo : (Try.prog.info? 25).map (·.size) = some 3 := by kernel_rfl
theorem spInfo : (Try.prog.info? 36).map (·.size) = some 2 := by kernel_rfl
/-- small numbers -/
def Small (s : Int × Int) : Prop := 0 ≤ s.1 ∧ s.1 ≤ 64 ∧ 1 ≤ s.2 ∧ s.2 ≤ 64
theorem in_r (q : Int) (s : Int × Int) (hq : 0 ≤ q ∧ q ≤ 64) (hs : Small s) (w : World) : Calls Try.prog 39 #[.int .i64 q, .agg #[.int .i64 s.1, .int .i64 s.2]] w fun e w' => e = .returned (.bool (inB q s)) ∧ Below w.heap.size w w' := by
  obtain ⟨a, c⟩ := s
  obtain ⟨h1, h2, h3, h4⟩ := hs
  simp only at h1 h2 h3 h4 ⊢
  have H := Mem.start w
  by_cases hg : a ≤ q
  · have t1 : decide (a ≤ q) = true := decide_eq_true hg
    have hv : inB q (a, c) = decide (q - a < c) := by simp [inB, t1]
    rw [hv]
    clear hv
    go_enter Try.func39, Try.ntmps39
    go_wp2_with (first
    | go_skip
    | ((with_reducible show wpList _ _ _ _ _ (World.alloc _ (.cells _ _))); refine mem_new H ?_; intro w2 H2; clear H; have H := H2; clear H2; simp only [List.cons_append, List.nil_append, List.set_cons_zero, List.set_cons_succ, List.setIfInBounds_toArray] at H)
    | ((with_reducible show wpList _ _ _ (⟨_, .load _ _, _, _, _, _⟩ :: _) _ _); refine mem_loadf (i := 0) H (by first | exact wanted_none rfl | exact wanted_some rfl rfl rfl rfl) (by exact rfl) (by exact rfl) (by exact rfl) (by first | exact Try.underlying3 | exact Try.underlying22 | exact Try.underlying23) rfl (by exact rfl) ?_))
    go_ret
    exact ⟨rfl, H.below⟩
  · have t1 : decide (a ≤ q) = false := decide_eq_false hg
    have hv : inB q (a, c) = false := by simp [inB, t1]
    rw [hv]
    clear hv
    go_enter Try.func39, Try.ntmps39
    go_wp2_with (first
    | go_skip
    | ((with_reducible show wpList _ _ _ _ _ (World.alloc _ (.cells _ _))); refine mem_new H ?_; intro w2 H2; clear H; have H := H2; clear H2; simp only [List.cons_append, List.nil_append, List.set_cons_zero, List.set_cons_succ, List.setIfInBounds_toArray] at H)
    | ((with_reducible show wpList _ _ _ (⟨_, .load _ _, _, _, _, _⟩ :: _) _ _); refine mem_loadf (i := 0) H (by first | exact wanted_none rfl | exact wanted_some rfl rfl rfl rfl) (by exact rfl) (by exact rfl) (by exact rfl) (by first | exact Try.underlying3 | exact Try.underlying22 | exact Try.underlying23) rfl (by exact rfl) ?_))
    go_ret
    exact ⟨rfl, H.below⟩
set_option maxRecDepth 100000 in
set_option maxHeartbeats 1000000 in
theorem owner_r (A1 A2 : Option Addr) (c1 c2 : Nat) (t : TB) (q : Int) (i : Nat) (hq : 0 ≤ q ∧ q ≤ 64) (hi : i ≤ 100) (w : World) (ht : TbAt w.heap.size w A1 A2 c1 c2 t) (hs : ∀ s, s ∈ t.sp → Small s) (h20 : t.sp.length ≤ 20) :
    Calls Try.prog 31 #[.agg (tbC A1 A2 c1 c2 t), .int .i64 q, .int .i64 i] w fun e w' => e = .returned (.int .i64 (ownAt t.sp q i)) ∧ Below w.heap.size w w' := by
  have H := Mem.start w
  have T := Lib.hid ht
  have HS := Lib.hid hs
  have l2 := ht.l2
  clear ht hs
  obtain ⟨n, hn⟩ : ∃ n, t.sp.length = n := ⟨_, rfl⟩
  rw [hn] at l2 h20
  unfold tbC
  rw [hn]
  have HN := Lib.hid hn
  clear hn
  go_enter Try.func31, Try.ntmps31
  go_upto_region 1 with (first
    | ((with_reducible show wpList _ _ _ _ _ (World.alloc _ (.cells _ _))); refine mem_newb H ?_; intro b w3 hbk H2; try rw [← hbk]; clear hbk H; have H := H2; clear H2; simp only [List.cons_append, List.nil_append, List.set_cons_zero, List.set_cons_succ, List.setIfInBounds_toArray] at H))
  go_wp2_with fail
  go_loopw [7] (fun j wr => ∃ k : Nat, k ≤ 100 ∧ j = .int .i64 k ∧ ownAt t.sp q k = ownAt t.sp q i ∧ Mem w wr [(b, 25, #[.int .i64 t.q, .slice A1 t.cl.length c1, .slice A2 n c2])]) (fun j _ => 100 - (intOf j).toNat)
  case atStart => exact ⟨i, hi, rfl, rfl, H⟩
  case round =>
    clear H
    obtain ⟨k, hk, rfl, hv, H⟩ := hrel
    have HV := Lib.hid hv
    clear hv
    have hn := HN.out
    by_cases hlt : k < n
    · obtain ⟨s, hsk⟩ : ∃ s, t.sp[k]? = some s := ⟨t.sp[k]'(by omega), List.getElem?_eq_getElem _⟩
      obtain ⟨b2, o2, rfl, hB, ca, cb⟩ := (T.out.mem H).sp k s hsk
      have hsm := HS.out s (List.mem_of_getElem? hsk)
      have HK := Lib.hid hsk
      clear hsk hn
      have ci := fun w => in_r q s hq hsm w
      rcases hib : inB q s with _ | _
      all_goals
        rw [hib] at ci
        have HB := Lib.hid hib
        clear hib
      · go_wp2_with (first
          | ((with_reducible show wpList _ _ _ (⟨_, .load _ _, _, _, _, _⟩ :: _) _ _); refine mem_loadf (i := 0) H (by first | exact wanted_none rfl | exact wanted_some rfl rfl rfl rfl) (by exact rfl) (by exact rfl) (by exact rfl) (by first | exact Try.underlying3 | exact Try.underlying22 | exact Try.underlying23) rfl (by exact rfl) ?_)
          | (go_at_call 39; with_reducible refine (ci _).mono ?_; rintro e w2 ⟨rfl, hb⟩; have H2 := H.call hb; clear H hb; have H := H2; clear H2))
        go_roundw
        case rel => exact ⟨k + 1, by omega, by go_num, by rw [← HV.out, ownAt_miss HK.out HB.out], H⟩
        case measure => simp [intOf]; omega
      · go_wp2_with (first
          | ((with_reducible show wpList _ _ _ (⟨_, .load _ _, _, _, _, _⟩ :: _) _ _); refine mem_loadf (i := 0) H (by first | exact wanted_none rfl | exact wanted_some rfl rfl rfl rfl) (by exact rfl) (by exact rfl) (by exact rfl) (by first | exact Try.underlying3 | exact Try.underlying22 | exact Try.underlying23) rfl (by exact rfl) ?_)
          | (go_at_call 39; with_reducible refine (ci _).mono ?_; rintro e w2 ⟨rfl, hb⟩; have H2 := H.call hb; clear H hb; have H := H2; clear H2))
        go_ret
        exact ⟨by rw [← HV.out, ownAt_hit HK.out HB.out]; rfl, H.below⟩
    · have hve := ownAt_end (l := t.sp) (q := q) (i := k) (by omega)
      have HE := Lib.hid hve
      clear hve hn
      go_wp2_with (first
        | ((with_reducible show wpList _ _ _ (⟨_, .load _ _, _, _, _, _⟩ :: _) _ _); refine mem_loadf (i := 0) H (by first | exact wanted_none rfl | exact wanted_some rfl rfl rfl rfl) (by exact rfl) (by exact rfl) (by exact rfl) (by first | exact Try.underlying3 | exact Try.underlying22 | exact Try.underlying23) rfl (by exact rfl) ?_))
      go_ret
      exact ⟨by rw [← HV.out, HE.out]; rfl, H.below⟩
end Go.Proofs.Ytoofmklknffhpaa
