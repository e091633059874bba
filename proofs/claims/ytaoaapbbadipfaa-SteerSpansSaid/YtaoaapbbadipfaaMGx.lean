/-
  The program's candidates, visited one by one. Conditions: the boxes hold the list and the span; the list lies where its slice says. The program's candidates. Conditions: the steer lies where its pointer says.
-/
import Derived.Test.YtaoaapbbadipfaaMGv
import Derived.Test.YtaoaapbbadipfaaMGn
import Derived.Test.YtaoaapbbadipfaaMGa
import Derived.Test.YtaoaapbbadipfaaMGj
/- The program's candidates, visited one by one. Conditions: the boxes hold the list and the span; the list lies where its slice says. -/
section
namespace Go.Proofs.Ytaoaapbbadipfaa
set_option linter.unusedSimpArgs false
set_option linter.unusedVariables false
set_option maxRecDepth 100000
attribute [local go_sem] Oper.semAt_some
open Go.ChangeShapes Go.WideShapes Go.ChangeAt Go.RowKit Go.Maps Go.Shelf

/-- what a round keeps: all that lay there ahead of the call, and the iterator's boxes -/
def KeepsTwo (n₁ b1 b2 : Nat) (W W' : World) : Prop := ∀ k, k < n₁ ∨ k = b1 ∨ k = b2 → W'.heap[k]? = W.heap[k]?
theorem KeepsTwo.trans {n₁ b1 b2 : Nat} {A B C : World} (h : KeepsTwo n₁ b1 b2 A B) (k : KeepsTwo n₁ b1 b2 B C) : KeepsTwo n₁ b1 b2 A C := fun i hi => (k i hi).trans (h i hi)
theorem KeepsTwo.below {n₁ b1 b2 B : Nat} {X Y : World} (h : Below B X Y) (h1 : n₁ ≤ B) (h2 : b1 < B) (h3 : b2 < B) : KeepsTwo n₁ b1 b2 X Y := fun k hk => h.block k (by rcases hk with h | h | h <;> omega)
theorem KeepsTwo.foot {n₁ b1 b2 : Nat} {B : Nat → Prop} {X Y : World} (h : Foot B X Y) (h0 : ∀ i, B i → n₁ ≤ i ∧ i ≠ b1 ∧ i ≠ b2) (h3 : n₁ ≤ X.heap.size) (h4 : b1 < X.heap.size) (h5 : b2 < X.heap.size) : KeepsTwo n₁ b1 b2 X Y := fun k hk => h.block k (by rcases hk with h | h | h <;> omega) (fun hb => by have := h0 k hb; omega)
/-- the k-th -/
def qAt (L : List Int) (k : Nat) : Int := L.getD k 0
abbrev encQ (L : List Int) (k : Nat) : Array Value := #[.int .i64 (k : Int), .int .i64 (qAt L k)]
def AnsweredQ (n₁ b1 b2 n₂ : Nat) (J Jx : Nat → World → Prop) (k : Nat) (V : World) (y : Bool) (V' : World) : Prop := (y = true → J (k + 1) V' ∧ KeepsTwo n₁ b1 b2 V V' ∧ n₂ ≤ V'.heap.size) ∧ (y = false → Jx k V')
theorem answeredQ (n₁ b1 b2 n₂ : Nat) (J Jx : Nat → World → Prop) (k : Nat) (V : World) : ∀ (e : Ending) (V' : World), ((e = .returned (.bool true) ∧ J (k + 1) V' ∧ KeepsTwo n₁ b1 b2 V V' ∧ n₂ ≤ V'.heap.size) ∨ (e = .returned (.bool false) ∧ Jx k V')) → ∃ y, e = .returned (.bool y) ∧ AnsweredQ n₁ b1 b2 n₂ J Jx k V y V' := by
  rintro e V' (⟨rfl, h1, h2⟩ | ⟨rfl, h1⟩)
  · exact ⟨true, rfl, fun _ => ⟨h1, h2⟩, (fun h => by cases h)⟩
  · exact ⟨false, rfl, (fun h => by cases h), fun _ => h1⟩
/-- how many of the first k are in the span -/
def cntQ (x : Int × Int) (l : List Int) (k : Nat) : Nat := ((l.take k).filter (inS x)).length
theorem cntQ_zero (x : Int × Int) (l : List Int) : cntQ x l 0 = 0 := rfl
theorem cntQ_yes {x : Int × Int} {l : List Int} {k : Nat} {y : Int} (h : l[k]? = some y) (hi : inS x y = true) : cntQ x l (k + 1) = cntQ x l k + 1 := by
  unfold cntQ
  rw [filter_take h, if_pos hi, List.length_append]
  rfl
theorem cntQ_no {x : Int × Int} {l : List Int} {k : Nat} {y : Int} (h : l[k]? = some y) (hi : inS x y = false) : cntQ x l (k + 1) = cntQ x l k := by
  unfold cntQ
  rw [filter_take h, hi]
  simp
theorem cntQ_le (x : Int × Int) (l : List Int) (k : Nat) : cntQ x l k ≤ k := filter_len l _ k
/-- the candidate that comes up -/
theorem cand_at {x : Int × Int} {l : List Int} {k : Nat} {y : Int} (h : l[k]? = some y) (hi : inS x y = true) : cntQ x l k < (candL l x).length ∧ qAt (candL l x) (cntQ x l k) = y := by
  unfold qAt
  have e : l.filter (inS x) = (l.take k).filter (inS x) ++ y :: (l.drop (k + 1)).filter (inS x) := by
    have hd : l.drop k = y :: l.drop (k + 1) := by
      obtain ⟨h1, h2⟩ := List.getElem?_eq_some_iff.1 h
      rw [List.drop_eq_getElem_cons h1, h2]
    rw [← List.take_append_drop k l, List.filter_append, List.take_append_drop, hd, List.filter_cons, if_pos hi]
  have hc : candL l x = l.filter (inS x) := if_neg (by rw [e]; simp)
  rw [hc, e]
  unfold cntQ
  refine ⟨by simp, ?_⟩
  rw [List.getD_eq_getElem?_getD, List.getElem?_append_right (Nat.le_refl _), Nat.sub_self]
  rfl
theorem cand_some {x : Int × Int} {l : List Int} (h : 0 < cntQ x l l.length) : (candL l x).length = cntQ x l l.length := by
  unfold cntQ at *
  rw [List.take_length] at *
  rw [candL, if_neg (by omega)]
theorem cand_all {x : Int × Int} {l : List Int} (h : cntQ x l l.length = 0) : candL l x = allQ x := by
  unfold cntQ at h
  rw [List.take_length] at h
  rw [candL, if_pos h]
theorem allQ_at {X Y j : Nat} (h : j < Y) : qAt (allQ ((X : Int), (Y : Int))) j = (X : Int) + (j : Int) := by
  rw [qAt, allQ, List.getD_eq_getElem?_getD, List.getElem?_map, List.getElem?_range (by simpa using h)]
  rfl
theorem allQ_lenN (X Y : Nat) : (allQ ((X : Int), (Y : Int))).length = Y := by simp [allQ]
set_option maxHeartbeats 2000000 in
theorem cands_num (n : Nat) (hn : 2 ≤ n) (bs bl n₁ : Nat) (A : Option Addr) (m cap : Nat) (l : List Int) (X Y : Nat) (w : World) (hn₁ : n₁ ≤ w.heap.size) (gs : Held w bs 59 #[.int .i64 (X : Int), .int .i64 (Y : Int)]) (gl : Held w bl 29 #[.slice A m cap]) (hl : l.length = m) (hm : m ≤ 64) (hc : m ≤ cap) (hcm : cap ≤ maxLen) (hA : RowI n₁ w A l) (hXY : 1 ≤ Y ∧ X + Y ≤ 64) (hv : ∀ y, y ∈ l → 0 ≤ y ∧ y < 64) :
    SeqGrow Fence.wide n Try.prog 54 #[.pointer (some ⟨bl, 0, none⟩), .pointer (some ⟨bs, 0, none⟩)] (encQ (candL l ((X : Int), (Y : Int)))) (KeepsTwo n₁ bs bl) (candL l ((X : Int), (Y : Int))).length w := by
  intro L J Jx W hW hJ hJx hY h0
  have G1 : Held W bs 59 #[.int .i64 (X : Int), .int .i64 (Y : Int)] := gs.below hW gs.lt
  have G2 : Held W bl 29 #[.slice A m cap] := gl.below hW gl.lt
  have R0 : RowI n₁ W A l := hA.same (fun k hk => hW.block k (by omega))
  have hbs : bs < W.heap.size := G1.lt
  have hbl : bl < W.heap.size := G2.lt
  have hn₂ : n₁ ≤ W.heap.size := Nat.le_trans hn₁ hW.size
  unfold maxLen at hcm
  have HY := Lib.hid hY
  have HJ := Lib.hid hJ
  have HL := Lib.hid hl
  have HV := Lib.hid hv
  have cx : W.cell? ⟨bl, 0, none⟩ = some (.slice A m cap) := G2.cell 0
  have HG := Lib.hid (And.intro G1 (And.intro G2 R0))
  clear gs gl hW hY hJ hJx hn₁ G1 G2 R0 hA hl hv
  obtain ⟨C, hC⟩ : ∃ C, candL l ((X : Int), (Y : Int)) = C := ⟨_, rfl⟩
  rw [hC] at HY ⊢
  have HC := Lib.hid hC
  clear hC
  obtain ⟨cn, hcn⟩ : ∃ cn, cntQ ((X : Int), (Y : Int)) l = cn := ⟨_, rfl⟩
  have HN := Lib.hid hcn
  have cn0 : cn 0 = 0 := by rw [← hcn]; rfl
  have h00 : J (cn 0) W := by rw [cn0]; exact h0
  have HN0 := Lib.hid cn0
  clear hcn cn0 h0
  have ca0 : Value.int IntKind.i64 0 = .int .i64 ((cn 0 : Nat) : Int) := by rw [HN0.out]; rfl
  have HA0 := Lib.hid ca0
  clear ca0
  refine callsIn_of_wp Try.func54 rfl trivial ?_ rfl
  simp only [Try.ntmps54, List.size_toArray, List.length_cons, List.length_nil, Nat.reduceAdd, Nat.reduceSub, Array.replicate_succ, Array.replicate_zero, List.push_toArray, List.append_toArray, List.nil_append, List.cons_append]
  gi_wp2
  gi_loopw [4, 10] (fun x i wr => ∃ k : Nat, k ≤ m ∧ i = .int .i64 k ∧ x = .int .i64 ((cn k : Nat) : Int) ∧ Hid (Held wr bs 59 #[.int .i64 (X : Int), .int .i64 (Y : Int)] ∧ Held wr bl 29 #[.slice A m cap] ∧ RowI n₁ wr A l) ∧ W.heap.size ≤ wr.heap.size ∧ Hid (J (cn k) wr))
    (fun _ i _ => m - (intOf i).toNat)
  case atStart => exact ⟨0, Nat.zero_le _, rfl, HA0.out, HG, Nat.le_refl _, Lib.hid h00⟩
  case round =>
    obtain ⟨k, hk, rfl, rfl, hG, hsz, hJ⟩ := hrel
    clear cx h00 HG HA0
    by_cases hlt : k < m
    · obtain ⟨y, hy⟩ : ∃ y, l[k]? = some y := ⟨l[k]'(by have := HL.out; omega), List.getElem?_eq_getElem _⟩
      obtain ⟨g, off, rfl, hg, g0⟩ := hG.out.2.2 k y hy
      have gs := hG.out.1
      have hyb := HV.out y (List.mem_of_getElem? hy)
      have HK := Lib.hid hy
      clear hy
      rcases hin : inS ((X : Int), (Y : Int)) y with _ | _
      · have kh := fun w => hasS_p y ((X : Int), (Y : Int)) false hin (by simp only; omega) w
        have HI := Lib.hid hin
        clear hin
        gi_wp2_with (first | ((with_reducible show wpListIn _ _ _ _ _ (⟨_, .load 59 _, _, _, _, _⟩ :: _) _ _); refine load_heldI gs (by first | exact wanted_none rfl | exact wanted_some rfl rfl rfl rfl) (by exact rfl) (by exact rfl) Try.underlying59 rfl (by exact spInfo) ?_))
        refine ⟨trivial, fun _ => by omega, (callsIn_wide.2 (kh _)).mono ?_⟩
        rintro e w2 ⟨rfl, hb⟩
        have e2 : cn (k + 1) = cn k := by rw [← HN.out]; exact cntQ_no HK.out HI.out
        have hG2 := Lib.hid (show Held w2 bs 59 _ ∧ Held w2 bl 29 _ ∧ RowI n₁ w2 _ _ from ⟨hG.out.1.below hb hG.out.1.lt, hG.out.2.1.below hb hG.out.2.1.lt, hG.out.2.2.same (fun i hi => hb.block i (by omega))⟩)
        have hJ2 := Lib.hid (show J (cn (k + 1)) w2 from by rw [e2]; exact HJ.out _ _ _ hJ.out hb)
        have hsz2 : W.heap.size ≤ w2.heap.size := Nat.le_trans hsz hb.size
        have HE2 := Lib.hid e2
        clear hG hJ hb gs g0 kh hsz e2
        gi_wp2
        go_roundw
        case rel => exact ⟨k + 1, by omega, by go_num, by rw [HE2.out], hG2, hsz2, hJ2⟩
        case measure => simp [intOf]; omega
      · have kh := fun w => hasS_p y ((X : Int), (Y : Int)) true hin (by simp only; omega) w
        have HI := Lib.hid hin
        clear hin
        gi_wp2_with (first | ((with_reducible show wpListIn _ _ _ _ _ (⟨_, .load 59 _, _, _, _, _⟩ :: _) _ _); refine load_heldI gs (by first | exact wanted_none rfl | exact wanted_some rfl rfl rfl rfl) (by exact rfl) (by exact rfl) Try.underlying59 rfl (by exact spInfo) ?_))
        refine ⟨trivial, fun _ => by omega, (callsIn_wide.2 (kh _)).mono ?_⟩
        rintro e w2 ⟨rfl, hb⟩
        have hca := cand_at HK.out HI.out
        rw [HC.out, HN.out] at hca
        have hYk := HY.out (cn k) w2 hca.1 (HJ.out _ _ _ hJ.out hb) (by have := hb.size; omega)
        have eenc : encQ C (cn k) = #[.int .i64 ((cn k : Nat) : Int), .int .i64 y] := by
          unfold encQ
          rw [hca.2]
        rw [eenc] at hYk
        have hG2 := Lib.hid (show Held w2 bs 59 _ ∧ Held w2 bl 29 _ ∧ RowI n₁ w2 _ _ from ⟨hG.out.1.below hb hG.out.1.lt, hG.out.2.1.below hb hG.out.2.1.lt, hG.out.2.2.same (fun i hi => hb.block i (by omega))⟩)
        obtain ⟨fn, tmps, assign, body, hyy, hR0⟩ := hYk
        have hR := hR0.mono (answeredQ n₁ bs bl W.heap.size J Jx (cn k) _)
        have hbk : cn k ≤ k := by rw [← HN.out]; exact cntQ_le _ _ _
        have e2 : cn (k + 1) = cn k + 1 := by rw [← HN.out]; exact cntQ_yes HK.out HI.out
        have HE2 := Lib.hid (And.intro e2 (And.intro hca.1 hb))
        clear hG hJ hb gs g0 kh hR0 e2 hca eenc
        gi_wp2
        refine ⟨fun _ => by omega, hR.mono ?_⟩
        rintro e W3 ⟨v, rfl, hA⟩
        cases v
        · have hJx3 := hA.2 rfl
          gi_wp2
          refine bodyPost_ret (results_none rfl _ _ _) rfl ?_
          exact ⟨⟨_, rfl⟩, .inr ⟨cn k, HE2.out.2.1, hJx3⟩⟩
        · obtain ⟨hJ3, hk3, hs3⟩ := hA.1 rfl
          have hG3 := Lib.hid (show Held W3 bs 59 _ ∧ Held W3 bl 29 _ ∧ RowI n₁ W3 _ _ from ⟨(hk3 bs (.inr (.inl rfl))).trans hG2.out.1, (hk3 bl (.inr (.inr rfl))).trans hG2.out.2.1, hG2.out.2.2.same (fun i hi => hk3 i (.inl hi))⟩)
          have hJ4 := Lib.hid (show J (cn (k + 1)) W3 from by rw [HE2.out.1]; exact hJ3)
          clear hG2 hJ3 hk3 hA
          gi_wp2
          go_roundw
          case rel => exact ⟨k + 1, by omega, by go_num, by rw [HE2.out.1]; go_num, hG3, hs3, hJ4⟩
          case measure => simp [intOf]; omega
    · obtain rfl : k = m := by omega
      have eL : l.length = k := HL.out
      obtain ⟨N, hN⟩ : ∃ N, cn k = N := ⟨_, rfl⟩
      rw [hN] at hJ ⊢
      have hNk : N ≤ k := by rw [← hN, ← HN.out]; exact cntQ_le _ _ _
      by_cases hpos : 0 < N
      · have t1 : decide ((0 : Int) < (N : Int)) = true := decide_eq_true (by omega)
        have hfin : C.length = N := by
          rw [← HC.out, ← hN, ← HN.out, ← eL]
          exact cand_some (by rw [HN.out, eL, hN]; exact hpos)
        have HF := Lib.hid (show J C.length wr from by rw [hfin]; exact hJ.out)
        clear hfin hJ hN
        gi_wp2
        refine bodyPost_ret (results_none rfl _ _ _) rfl ?_
        exact ⟨⟨_, rfl⟩, .inl HF.out⟩
      · obtain rfl : N = 0 := by omega
        rw [show ((0 : Nat) : Int) = 0 from rfl]
        have hall : C = allQ ((X : Int), (Y : Int)) := by
          rw [← HC.out]
          exact cand_all (by rw [HN.out, eL, hN])
        have HALL := Lib.hid hall
        have cs1 : wr.cell? ⟨bs, 1, none⟩ = some (.int .i64 (Y : Int)) := hG.out.1.cell 1
        clear hall hN eL
        gi_wp2
        clear cs1
        gi_loopw [30] (fun i wr => ∃ j : Nat, j ≤ Y ∧ i = .int .i64 j ∧ Hid (Held wr bs 59 #[.int .i64 (X : Int), .int .i64 (Y : Int)] ∧ Held wr bl 29 #[.slice A k cap]) ∧ W.heap.size ≤ wr.heap.size ∧ Hid (J j wr))
          (fun i _ => Y - (intOf i).toNat)
        case atStart => exact ⟨0, Nat.zero_le _, rfl, Lib.hid ⟨hG.out.1, hG.out.2.1⟩, hsz, hJ⟩
        case round =>
          clear hG hsz hJ
          rename_i wr0
          clear wr0
          obtain ⟨j, hj, rfl, hG, hsz, hJ⟩ := hrel
          by_cases hlt2 : j < Y
          · have cs0 : wr.cell? ⟨bs, 0, none⟩ = some (.int .i64 (X : Int)) := hG.out.1.cell 0
            have hjl : j < C.length := by rw [HALL.out, allQ_lenN]; exact hlt2
            have hYk := HY.out j wr hjl hJ.out hsz
            have eenc : encQ C j = #[.int .i64 (j : Int), .int .i64 ((X : Int) + (j : Int))] := by
              unfold encQ
              rw [HALL.out, allQ_at hlt2]
            rw [eenc] at hYk
            obtain ⟨fn, tmps, assign, body, hyy, hR0⟩ := hYk
            have hR := hR0.mono (answeredQ n₁ bs bl W.heap.size J Jx j _)
            have HJL := Lib.hid hjl
            clear hR0 eenc hJ hjl
            gi_wp2
            refine ⟨fun _ => by omega, hR.mono ?_⟩
            rintro e W3 ⟨v, rfl, hA⟩
            cases v
            · have hJx3 := hA.2 rfl
              gi_wp2
              refine bodyPost_ret (results_none rfl _ _ _) rfl ?_
              exact ⟨⟨_, rfl⟩, .inr ⟨j, HJL.out, hJx3⟩⟩
            · obtain ⟨hJ3, hk3, hs3⟩ := hA.1 rfl
              have hG3 := Lib.hid (show Held W3 bs 59 _ ∧ Held W3 bl 29 _ from ⟨(hk3 bs (.inr (.inl rfl))).trans hG.out.1, (hk3 bl (.inr (.inr rfl))).trans hG.out.2⟩)
              have hJ4 := Lib.hid hJ3
              clear hG hJ3 hk3 hA
              gi_wp2
              go_roundw
              case rel => exact ⟨j + 1, by omega, by go_num, hG3, hs3, hJ4⟩
              case measure => simp [intOf]; omega
          · obtain rfl : j = Y := by omega
            have HF := Lib.hid (show J C.length wr from by rw [HALL.out, allQ_lenN]; exact hJ.out)
            clear hJ
            gi_wp2
            go_end0
            exact ⟨⟨_, rfl⟩, .inl HF.out⟩
end Go.Proofs.Ytaoaapbbadipfaa
end
/- The program's candidates. Conditions: the steer lies where its pointer says. -/
section
namespace Go.Proofs.Ytaoaapbbadipfaa
set_option linter.unusedSimpArgs false
set_option linter.unusedVariables false
set_option maxRecDepth 100000
open Go.ChangeShapes Go.WideShapes Go.ChangeAt Go.RowKit Go.Maps Go.Shelf

/-- a struct is loaded from the middle of an old block, in a drawn region -/
theorem yields_mid {P : Program} {ops : Array Oper} {o : Oper} {a : Act} {w0 : World} {l : List (Nat × TypeId × Array Value)} {b j : Nat} {ty : TypeId} {x : Operand} {d : TypeDesc} {cs : List Value} (hc : w0.rangeAt b j cs) (hp : b < w0.heap.size) (hw : Region.wanted o (yielded ops a.tmps) = true) (ho : o.op = .load ty x) (hx : opnd a x = some (.pointer (some ⟨b, j, none⟩)))
    (hu : P.underlying ty = some d) (hd : d.isRow = true) (hi : (P.info? ty).map (·.size) = some cs.length) : YieldsG P ops (fun wx => Mem w0 wx l) o (.agg cs.toArray) a := by
  refine ⟨hw, fun w H => ?_, fun w => ?_⟩
  · have hc' : w.rangeAt b j cs := fun k v hk => (H.old (p := ⟨b, j + k, none⟩) hp).trans (hc k v hk)
    unfold execOp
    simp only [ho, opnd_eval hx, Instr.loadAt, Instr.sureAddr, Sem.run_bind, Sem.run_pure, Result.andThen_ok, run_loadVar_mid w b j ty cs d hc' hu hd hi]
  · unfold Oper.about
    rw [ho]
theorem pslInfo : (Try.prog.info? 29).map (·.size) = some 1 := by kernel_rfl
/-- what candidates gives -/
def CandG (W : World) (X Y : Int) (v : Value) (e : Ending) (w' : World) : Prop :=
  ∃ bs bl, e = .returned (.func (.func 54) #[] #[.pointer (some ⟨bl, 0, none⟩), .pointer (some ⟨bs, 0, none⟩)]) ∧ bs ≠ bl ∧ W.heap.size ≤ bs ∧ W.heap.size ≤ bl ∧ Held w' bs 59 #[.int .i64 X, .int .i64 Y] ∧ Held w' bl 29 #[v] ∧ Below W.heap.size W w'
set_option maxHeartbeats 2000000 in
theorem candF_p (W : World) (rd own : Nat → Prop) (p : Nat) (s : SS) (N : Nat) (x : PParts) (h : QAt W rd own p s N x) (pr C : Nat) (hpr : pr < 16) (hC : C < 64) (X Y : Int) (hX : s.t.spAt pr = (X, Y)) :
    Calls Try.prog 41 #[.pointer (some ⟨p, 0, none⟩), .int .i64 (pr : Int), .int .i64 (C : Int)] W (CandG W X Y (x.L C)) := by
  have H := Mem.start W
  have hp := h.plt
  obtain ⟨_, _, hL, _, hsp⟩ := h.cell
  have cl := hL C hC
  obtain ⟨k1, k2⟩ := hsp pr hpr
  rw [hX] at k1 k2
  have hrg : W.rangeAt p (1 + pr * 2) [.int .i64 X, .int .i64 Y] := fun j v hv => by
    rw [show 1 + 2 * pr = 1 + pr * 2 by omega] at k1 k2
    match j, hv with
    | 0, hv => cases hv; exact k1
    | 1, hv => cases hv; exact k2
  obtain ⟨LC, hLC⟩ : ∃ v, x.L C = v := ⟨_, rfl⟩
  rw [hLC] at cl ⊢
  have hone : LC.oneCell' = true := by
    rw [← hLC]
    obtain ⟨A, c, e, _⟩ := h.lists C hC
    rw [e]
    rfl
  have t1 : decide ((pr : Int) < 16) = true := decide_eq_true (by omega)
  have t2 : decide ((C : Int) < 64) = true := decide_eq_true (by omega)
  have HR := Lib.hid hrg
  clear h hL hsp k1 k2 hX hLC hrg
  go_enter Try.func41, Try.ntmps41
  go_upto_region 1 with fail
  refine region_mem H 17 rfl (by kernel_rfl) (fun wr hS => ?_)
  clear H
  refine wpAnyR_take (i := 0) (v := (.pointer (some ⟨p, 0, none⟩))) rfl rfl (by kernel_rfl) (by kernel_rfl) (by kernel_rfl) (fun _ _ _ h => h) (Nat.le_refl _) ⟨by rfl, fun w _ => (by go_simp; try (first | rfl | omega)), fun _ => rfl⟩ hS ?_
  simp only [List.getElem_toArray, List.getElem_cons_zero, List.getElem_cons_succ, Act.put, List.setIfInBounds_toArray, List.set_cons_zero, List.set_cons_succ]
  refine wpAnyR_take (i := 1) (v := (.int .i64 (pr : Int))) rfl rfl (by kernel_rfl) (by kernel_rfl) (by kernel_rfl) (fun _ _ _ h => h) (Nat.le_refl _) ⟨by rfl, fun w _ => (by go_simp; try (first | rfl | omega)), fun _ => rfl⟩ hS ?_
  simp only [List.getElem_toArray, List.getElem_cons_zero, List.getElem_cons_succ, Act.put, List.setIfInBounds_toArray, List.set_cons_zero, List.set_cons_succ]
  refine wpAnyR_take (i := 2) (v := (.pointer (some ⟨p, 0, none⟩))) rfl rfl (by kernel_rfl) (by kernel_rfl) (by kernel_rfl) (fun _ _ _ h => h) (Nat.le_refl _) ⟨by rfl, fun w _ => (by go_simp; try (first | rfl | omega)), fun _ => rfl⟩ hS ?_
  simp only [List.getElem_toArray, List.getElem_cons_zero, List.getElem_cons_succ, Act.put, List.setIfInBounds_toArray, List.set_cons_zero, List.set_cons_succ]
  refine wpAnyR_take (i := 3) (v := (.pointer (some ⟨p, 0, none⟩))) rfl rfl (by kernel_rfl) (by kernel_rfl) (by kernel_rfl) (fun _ _ _ h => h) (Nat.le_refl _) ⟨by rfl, fun w _ => (by go_simp; try (first | rfl | omega)), fun _ => rfl⟩ hS ?_
  simp only [List.getElem_toArray, List.getElem_cons_zero, List.getElem_cons_succ, Act.put, List.setIfInBounds_toArray, List.set_cons_zero, List.set_cons_succ]
  refine wpAnyR_take (i := 4) (v := (.pointer (some ⟨p, 1, none⟩))) rfl rfl (by kernel_rfl) (by kernel_rfl) (by kernel_rfl) (fun _ _ _ h => h) (Nat.le_refl _) ⟨by rfl, fun w _ => (by go_simp; try (first | rfl | omega)), fun _ => rfl⟩ hS ?_
  simp only [List.getElem_toArray, List.getElem_cons_zero, List.getElem_cons_succ, Act.put, List.setIfInBounds_toArray, List.set_cons_zero, List.set_cons_succ]
  refine wpAnyR_take (i := 5) (v := (.pointer (some ⟨p, 1 + pr * 2, none⟩))) rfl rfl (by kernel_rfl) (by kernel_rfl) (by kernel_rfl) (fun _ _ _ h => h) (Nat.le_refl _) ⟨by rfl, fun w _ => (by go_simp; try (first | rfl | omega)), fun _ => rfl⟩ hS ?_
  simp only [List.getElem_toArray, List.getElem_cons_zero, List.getElem_cons_succ, Act.put, List.setIfInBounds_toArray, List.set_cons_zero, List.set_cons_succ]
  refine wpAnyR_take (i := 6) (v := (.agg #[.int .i64 X, .int .i64 Y])) rfl rfl (by kernel_rfl) (by kernel_rfl) (by kernel_rfl) (fun _ _ _ h => h) (Nat.le_refl _) (yields_mid HR.out hp (by exact rfl) (by exact rfl) (by exact rfl) Try.underlying59 rfl (by exact spInfo)) hS ?_
  simp only [List.getElem_toArray, List.getElem_cons_zero, List.getElem_cons_succ, Act.put, List.setIfInBounds_toArray, List.set_cons_zero, List.set_cons_succ]
  refine wpAnyR_take (i := 7) (v := (.pointer (some ⟨p, 0, none⟩))) rfl rfl (by kernel_rfl) (by kernel_rfl) (by kernel_rfl) (fun _ _ _ h => h) (Nat.le_refl _) ⟨by rfl, fun w _ => (by go_simp; try (first | rfl | omega)), fun _ => rfl⟩ hS ?_
  simp only [List.getElem_toArray, List.getElem_cons_zero, List.getElem_cons_succ, Act.put, List.setIfInBounds_toArray, List.set_cons_zero, List.set_cons_succ]
  refine wpAnyR_take (i := 8) (v := (.int .i64 (C : Int))) rfl rfl (by kernel_rfl) (by kernel_rfl) (by kernel_rfl) (fun _ _ _ h => h) (Nat.le_refl _) ⟨by rfl, fun w _ => (by go_simp; try (first | rfl | omega)), fun _ => rfl⟩ hS ?_
  simp only [List.getElem_toArray, List.getElem_cons_zero, List.getElem_cons_succ, Act.put, List.setIfInBounds_toArray, List.set_cons_zero, List.set_cons_succ]
  refine wpAnyR_take (i := 9) (v := (.pointer (some ⟨p, 0, none⟩))) rfl rfl (by kernel_rfl) (by kernel_rfl) (by kernel_rfl) (fun _ _ _ h => h) (Nat.le_refl _) ⟨by rfl, fun w _ => (by go_simp; try (first | rfl | omega)), fun _ => rfl⟩ hS ?_
  simp only [List.getElem_toArray, List.getElem_cons_zero, List.getElem_cons_succ, Act.put, List.setIfInBounds_toArray, List.set_cons_zero, List.set_cons_succ]
  refine wpAnyR_take (i := 10) (v := (.pointer (some ⟨p, 34, none⟩))) rfl rfl (by kernel_rfl) (by kernel_rfl) (by kernel_rfl) (fun _ _ _ h => h) (Nat.le_refl _) ⟨by rfl, fun w _ => (by go_simp; try (first | rfl | omega)), fun _ => rfl⟩ hS ?_
  simp only [List.getElem_toArray, List.getElem_cons_zero, List.getElem_cons_succ, Act.put, List.setIfInBounds_toArray, List.set_cons_zero, List.set_cons_succ]
  refine wpAnyR_take (i := 11) (v := (.pointer (some ⟨p, 34 + C, none⟩))) rfl rfl (by kernel_rfl) (by kernel_rfl) (by kernel_rfl) (fun _ _ _ h => h) (Nat.le_refl _) ⟨by rfl, fun w _ => (by go_simp; try (first | rfl | omega)), fun _ => rfl⟩ hS ?_
  simp only [List.getElem_toArray, List.getElem_cons_zero, List.getElem_cons_succ, Act.put, List.setIfInBounds_toArray, List.set_cons_zero, List.set_cons_succ]
  refine wpAnyR_take (i := 12) (v := LC) rfl rfl (by kernel_rfl) (by kernel_rfl) (by kernel_rfl) (fun _ _ _ h => h) (Nat.le_refl _) (yields_old cl hp (by exact rfl) (by exact rfl) (by exact rfl) Try.underlying29 rfl) hS ?_
  simp only [List.getElem_toArray, List.getElem_cons_zero, List.getElem_cons_succ, Act.put, List.setIfInBounds_toArray, List.set_cons_zero, List.set_cons_succ]
  refine wpAnyG_two (i := 13) (j := 14) (by kernel_rfl) rfl rfl (fun K hK => ?_) (fun K hK => ?_)
  · go_simp
    refine hK _ _ (.inr (hS.skip _)) ?_
    clear hK K
    have hN := hS.alloc 59 #[.int .i64 0, .int .i64 0]
    have hS5 := hS.skip (.cells #[.int .i64 0, .int .i64 0] 59)
    clear hS
    generalize hbN : wr.heap.size = bs at hN ⊢
    clear hbN
    generalize wr.alloc (.cells #[.int .i64 0, .int .i64 0] 59) = w5 at hN hS5 ⊢
    have hS := hS5
    clear hS5
    simp only [List.cons_append, List.nil_append] at hN
    try simp only [List.getElem_toArray, List.getElem_cons_zero, List.getElem_cons_succ, Act.put, List.setIfInBounds_toArray, List.set_cons_zero, List.set_cons_succ]
    refine wpAnyG_one (i := 14) (by kernel_rfl) rfl (fun K hK => ?_)
    have h0 := hN
    clear hN
    go_simp
    refine hK _ _ (.inr (hS.skip _)) ?_
    clear hK K
    have hN := h0.alloc 29 #[.slice none 0 0]
    have hS5 := hS.skip (.cells #[.slice none 0 0] 29)
    clear hS h0
    generalize hbN : w5.heap.size = bl at hN ⊢
    clear hbN
    generalize w5.alloc (.cells #[.slice none 0 0] 29) = w6 at hN hS5 ⊢
    have hS := hS5
    clear hS5
    simp only [List.cons_append, List.nil_append] at hN
    try simp only [List.getElem_toArray, List.getElem_cons_zero, List.getElem_cons_succ, Act.put, List.setIfInBounds_toArray, List.set_cons_zero, List.set_cons_succ]
    refine wpAnyG_one (i := 15) (by kernel_rfl) rfl (fun K hK => ?_)
    rw [if_pos (by exact rfl)]
    refine wpIn_store_mem (i := 0) hN (by exact rfl) (by exact rfl) (by exact rfl) (by exact rfl) (by exact spInfo) (by exact rfl) (by exact rfl) ?_
    intro w7 H
    try simp only [List.cons_append, List.nil_append, List.set_cons_zero, List.set_cons_succ, List.setIfInBounds_toArray] at H
    refine hK _ _ (.inr (H.drop 0)) ?_
    clear hK K hS hN
    have hN := H
    clear H
    have hS := hN.drop 0
    try simp only [List.getElem_toArray, List.getElem_cons_zero, List.getElem_cons_succ, Act.put, List.setIfInBounds_toArray, List.set_cons_zero, List.set_cons_succ]
    refine wpAnyG_one (i := 16) (by kernel_rfl) rfl (fun K hK => ?_)
    rw [if_pos (by exact rfl)]
    refine wpIn_storef_mem (i := 1) hN (by exact rfl) (by exact rfl) (by exact rfl) (by exact rfl) (by exact pslInfo) (by exact rfl) (by exact hone) ?_
    intro w7 H _
    try simp only [List.cons_append, List.nil_append, List.set_cons_zero, List.set_cons_succ, List.setIfInBounds_toArray] at H
    refine hK _ _ (.inr (H.drop 0)) ?_
    clear hK K hS hN
    have hN := H
    clear H
    have hS := hN.drop 0
    try simp only [List.getElem_toArray, List.getElem_cons_zero, List.getElem_cons_succ, Act.put, List.setIfInBounds_toArray, List.set_cons_zero, List.set_cons_succ]
    refine wpAnyG_done (by kernel_rfl) ?_ _
    go_wp2
    go_ret
    exact ⟨bs, bl, rfl, (by have h1 := hN.inc; simp at h1; omega), (hN.held _ (List.mem_of_getElem? (i := 0) rfl)).1, (hN.held _ (List.mem_of_getElem? (i := 1) rfl)).1, hN.at 0 rfl, hN.at 1 rfl, hN.below⟩
  · go_simp
    refine hK _ _ (.inr (hS.skip _)) ?_
    clear hK K
    have hN := hS.alloc 29 #[.slice none 0 0]
    have hS5 := hS.skip (.cells #[.slice none 0 0] 29)
    clear hS
    generalize hbN : wr.heap.size = bl at hN ⊢
    clear hbN
    generalize wr.alloc (.cells #[.slice none 0 0] 29) = w5 at hN hS5 ⊢
    have hS := hS5
    clear hS5
    simp only [List.cons_append, List.nil_append] at hN
    try simp only [List.getElem_toArray, List.getElem_cons_zero, List.getElem_cons_succ, Act.put, List.setIfInBounds_toArray, List.set_cons_zero, List.set_cons_succ]
    refine wpAnyG_one (i := 13) (by kernel_rfl) rfl (fun K hK => ?_)
    have h0 := hN
    clear hN
    go_simp
    refine hK _ _ (.inr (hS.skip _)) ?_
    clear hK K
    have hN := h0.alloc 59 #[.int .i64 0, .int .i64 0]
    have hS5 := hS.skip (.cells #[.int .i64 0, .int .i64 0] 59)
    clear hS h0
    generalize hbN : w5.heap.size = bs at hN ⊢
    clear hbN
    generalize w5.alloc (.cells #[.int .i64 0, .int .i64 0] 59) = w6 at hN hS5 ⊢
    have hS := hS5
    clear hS5
    simp only [List.cons_append, List.nil_append] at hN
    try simp only [List.getElem_toArray, List.getElem_cons_zero, List.getElem_cons_succ, Act.put, List.setIfInBounds_toArray, List.set_cons_zero, List.set_cons_succ]
    refine wpAnyG_one (i := 15) (by kernel_rfl) rfl (fun K hK => ?_)
    rw [if_pos (by exact rfl)]
    refine wpIn_store_mem (i := 1) hN (by exact rfl) (by exact rfl) (by exact rfl) (by exact rfl) (by exact spInfo) (by exact rfl) (by exact rfl) ?_
    intro w7 H
    try simp only [List.cons_append, List.nil_append, List.set_cons_zero, List.set_cons_succ, List.setIfInBounds_toArray] at H
    refine hK _ _ (.inr (H.drop 0)) ?_
    clear hK K hS hN
    have hN := H
    clear H
    have hS := hN.drop 0
    try simp only [List.getElem_toArray, List.getElem_cons_zero, List.getElem_cons_succ, Act.put, List.setIfInBounds_toArray, List.set_cons_zero, List.set_cons_succ]
    refine wpAnyG_one (i := 16) (by kernel_rfl) rfl (fun K hK => ?_)
    rw [if_pos (by exact rfl)]
    refine wpIn_storef_mem (i := 0) hN (by exact rfl) (by exact rfl) (by exact rfl) (by exact rfl) (by exact pslInfo) (by exact rfl) (by exact hone) ?_
    intro w7 H _
    try simp only [List.cons_append, List.nil_append, List.set_cons_zero, List.set_cons_succ, List.setIfInBounds_toArray] at H
    refine hK _ _ (.inr (H.drop 0)) ?_
    clear hK K hS hN
    have hN := H
    clear H
    have hS := hN.drop 0
    try simp only [List.getElem_toArray, List.getElem_cons_zero, List.getElem_cons_succ, Act.put, List.setIfInBounds_toArray, List.set_cons_zero, List.set_cons_succ]
    refine wpAnyG_done (by kernel_rfl) ?_ _
    go_wp2
    go_ret
    exact ⟨bs, bl, rfl, (by have h1 := hN.inc; simp at h1; omega), (hN.held _ (List.mem_of_getElem? (i := 1) rfl)).1, (hN.held _ (List.mem_of_getElem? (i := 0) rfl)).1, hN.at 1 rfl, hN.at 0 rfl, hN.below⟩
end Go.Proofs.Ytaoaapbbadipfaa
end
