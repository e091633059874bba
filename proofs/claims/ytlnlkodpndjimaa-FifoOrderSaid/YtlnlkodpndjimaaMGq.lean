/-
  FifoOrder, walked. Conditions: as the interface says; the acts lie where their slice says.
-/
import Derived.Test.YtlnlkodpndjimaaMGp
/- FifoOrder, walked. Conditions: as the interface says; the acts lie where their slice says. -/
section
namespace Go.Proofs.Ytlnlkodpndjimaa.Fi
set_option linter.unusedSimpArgs false
set_option linter.unusedVariables false
set_option maxRecDepth 100000
open Go.ChangeShapes Go.WideShapes Go.ChangeAt Go.RowKit Go.Maps

theorem tmod2 (d : Int) : -1 ≤ d.tmod 2 ∧ d.tmod 2 ≤ 1 := by
  obtain ⟨a, rfl | rfl⟩ := Int.eq_nat_or_neg d
  · have h : ((a : Int)).tmod ((2 : Nat) : Int) = ((a % 2 : Nat) : Int) := (Int.ofNat_tmod a 2).symm
    have h2 : a % 2 < 2 := Nat.mod_lt _ (by omega)
    show -1 ≤ (a : Int).tmod ((2 : Nat) : Int) ∧ (a : Int).tmod ((2 : Nat) : Int) ≤ 1
    rw [h]
    omega
  · have h : ((a : Int)).tmod ((2 : Nat) : Int) = ((a % 2 : Nat) : Int) := (Int.ofNat_tmod a 2).symm
    have h2 : a % 2 < 2 := Nat.mod_lt _ (by omega)
    rw [Int.neg_tmod]
    show -1 ≤ -((a : Int).tmod ((2 : Nat) : Int)) ∧ -((a : Int).tmod ((2 : Nat) : Int)) ≤ 1
    rw [h]
    omega
/-- elements more, whatever they lie in, as the walk meets it -/
theorem wpList_append_que2 {w : World} {ops : Array Oper} {rest : List Oper} {o : Oper} {a : Act} {Q : Exit → Act → World → Prop} (hgd : o.guard = none) (s x : Operand) (hop : o.op = Op.call { callee := Callee.builtin Builtin.append, args := #[s, x], argTypes := #[41, 41] }) (hty : o.type = 41) (v v2 : Value) (l l2 : List PV) (hs : a.eval s = v) (hx : a.eval x = v2) (hq : Que w v l) (hq2 : Que w v2 l2) (h5 : l.length + l2.length ≤ 100000)
    (h : ∀ v' w', Que w' v' (l ++ l2) → Foot (qb v) w w' → (∀ i, qb v' i → qb v i ∨ w.heap.size ≤ i) → wpList Try.prog ops Q rest (a.put o.dst v') w') : wpList Try.prog ops Q (o :: rest) a w := by
  refine wpList_plain hgd fun K hK => ?_
  obtain ⟨v', w', hr, h2, h3, h4⟩ := run_append_que2 w v v2 l l2 hq hq2 h5
  unfold Oper.wp execOp
  simp only [hop, hty, resolve, invoke, builtin, Sem.run_bind, Sem.run_pure, Result.andThen_ok, List.map_toArray, List.map_cons, List.map_nil, hs, hx, hr]
  exact hK _ _ (h v' w' h2 h3 h4)
section
variable {P1 P2 : PT} {W0 W W' : World} {T T' : Nat → Prop} {K K' : World → Prop} {p1 N1 p2 N2 : Nat} {s1 s2 : FF}
/-- what the law holds is turned -/
theorem St.turn (o1 : PtOk P1) (o2 : PtOk P2) (h : St P1 P2 W0 W T K p1 s1 N1 p2 s2 N2) (hF : Foot T W W') (h0 : ∀ i, T i → W0.heap.size ≤ i) (hT : ∀ i, T' i → T i ∨ (W.heap.size ≤ i ∧ i < W'.heap.size)) (hK : K' W') : St P1 P2 W0 W' T' K' p1 s1 N1 p2 s2 N2 := by
  obtain ⟨own, own2, h⟩ := h
  have hz := h.below.size
  refine ⟨own, own2, o1.on h.a1 (fun i hi => hF.block i (o1.lt h.a1 i hi) fun e => (h.free i e).2.1 hi) hF.size, o2.on h.a2 (fun i hi => hF.block i (o2.lt h.a2 i hi) fun e => (h.free i e).2.2 hi) hF.size, h.sep, h.b1, h.b2, h.below.trans (hF.below hz h0), fun i hi => ?_, hK⟩
  rcases hT i hi with h1 | h1
  · exact ⟨Nat.lt_of_lt_of_le (h.free i h1).1 hF.size, (h.free i h1).2⟩
  · refine ⟨h1.2, fun h2 => ?_, fun h2 => ?_⟩
    · have := o1.lt h.a1 i h2
      omega
    · have := o2.lt h.a2 i h2
      omega
end
theorem keptIO (vi : Value) (I : List PV) (vo : Value) (O : List PV) : Kept (fun i => qb vi i ∨ qb vo i) (fun X => Que X vi I ∧ Que X vo O) := fun X Y h hs hb =>
  ⟨h.1.on fun i hi => hb i (.inl hi), h.2.on fun i hi => hb i (.inr hi)⟩
abbrev SIO (P : PT) (w : World) (p : Nat) (s : FF) (N : Nat) (vi : Value) (I : List PV) (vo : Value) (O : List PV) (V : World) : Prop := St P NoT w V (fun i => qb vi i ∨ qb vo i) (fun X => Que X vi I ∧ Que X vo O) p s N 0 ⟨[], 0, 0⟩ 0
/-- the fifo, what was put, what came out -/
structure OI (P : PT) (w : World) (p : Nat) (s : FF) (N : Nat) (vi : Value) (I : List PV) (vo : Value) (O : List PV) (V : World) : Prop where
  st : SIO P w p s N vi I vo O V
  sep : ∀ i, qb vi i → ¬ qb vo i
  ge : ∀ i, qb vi i ∨ qb vo i → w.heap.size ≤ i
section
variable {P : PT} {w V V1 V2 : World} {p N : Nat} {s : FF} {vi vo v' : Value} {I O : List PV} {I' O' : List PV}
theorem OI.on (hP : PFifo P) (h : OI P w p s N vi I vo O V) (hb : Below V.heap.size V V1) : OI P w p s N vi I vo O V1 := ⟨h.st.on hP.pt NoT.pt (keptIO _ _ _ _) hb, h.sep, h.ge⟩
theorem OI.appO (hP : PFifo P) (h : OI P w p s N vi I vo O V1) (hF : Foot (qb vo) V1 V2) (hq : Que V2 v' O') (hn : ∀ i, qb v' i → qb vo i ∨ V1.heap.size ≤ i) : OI P w p s N vi I v' O' V2 := by
  have hz := h.st.bel.size
  refine ⟨h.st.turn hP.pt NoT.pt (hF.mono fun i _ hi => .inr hi) h.ge (fun i hi => ?_) ⟨h.st.kp.1.on fun i hi => hF.block i (h.st.kp.1.lt hi) (h.sep i hi), hq⟩, fun i h1 h2 => ?_, fun i hi => ?_⟩
  · rcases hi with hi | hi
    · exact .inl (.inl hi)
    · rcases hn i hi with e | e
      · exact .inl (.inr e)
      · exact .inr ⟨e, hq.lt hi⟩
  · rcases hn i h2 with e | e
    · exact h.sep i h1 e
    · have := h.st.kp.1.lt h1
      omega
  · rcases hi with hi | hi
    · exact h.ge i (.inl hi)
    · rcases hn i hi with e | e
      · exact h.ge i (.inr e)
      · omega
theorem OI.swap (h : OI P w p s N vi I vo O V) : OI P w p s N vo O vi I V := ⟨h.st.less (fun i hi => hi.symm) (fun h => ⟨h.2, h.1⟩), fun i h1 h2 => h.sep i h2 h1, fun i hi => h.ge i hi.symm⟩
theorem OI.appI (hP : PFifo P) (h : OI P w p s N vi I vo O V1) (hF : Foot (qb vi) V1 V2) (hq : Que V2 v' I') (hn : ∀ i, qb v' i → qb vi i ∨ V1.heap.size ≤ i) : OI P w p s N v' I' vo O V2 :=
  (h.swap.appO hP hF hq hn).swap
theorem OI.put (hP : PFifo P) (h : OI P w p s N vi I vo O V) (hN : N ≤ 200) (q : PV) (hq : q.Fits) : Calls Try.prog 21 #[.pointer (some ⟨p, 0, none⟩), pv q] V fun e w' => e = .returned (.int .i64 (putE s q)) ∧ OI P w p (putS s q) (N + 1) vi I vo O w' :=
  (putP hP NoT.pt (keptIO _ _ _ _) h.st (by omega) q hq).mono fun e w' hh => ⟨hh.1, hh.2, h.sep, h.ge⟩
theorem OI.take (hP : PFifo P) (h : OI P w p s N vi I vo O V) (hN : N ≤ 200) : Calls Try.prog 19 #[.pointer (some ⟨p, 0, none⟩)] V fun e w' => e = .returned (.tuple #[pv (firstV s), .int .i64 (firstE s)]) ∧ OI P w p (takeS s) N vi I vo O w' :=
  (takeP hP NoT.pt (keptIO _ _ _ _) h.st (by omega)).mono fun e w' hh => ⟨hh.1, hh.2, h.sep, h.ge⟩
theorem OI.drain (hP : PFifo P) (h : OI P w p s N vi I vo O V) (hN : N ≤ 200) : Calls Try.prog 23 #[.pointer (some ⟨p, 0, none⟩)] V fun e w' => ∃ vd, e = .returned vd ∧ Que w' vd s.l ∧ OI P w p (drainS s) N vi I vo O w' :=
  (drainP hP NoT.pt (keptIO _ _ _ _) h.st (by omega)).mono fun e w' ⟨vd, he, hh⟩ => ⟨vd, he, hh.kp.2, hh.less (fun i hi => .inl hi) (fun h => h.1), h.sep, h.ge⟩
theorem OI.all (hP : PFifo P) (h : OI P w p s N vi I vo O V) (hN : N ≤ 200) (h0 : s.l = []) : Calls Try.prog 15 #[.pointer (some ⟨p, 0, none⟩)] V fun e w' => ∃ A c, e = .returned (.slice A 0 c) ∧ OI P w p s N vi I vo O w' := by
  refine (allP hP NoT.pt (keptIO _ _ _ _) h.st (by omega)).mono ?_
  rintro e w' ⟨va, rfl, hh⟩
  obtain ⟨A, c, hva, _, _⟩ := hh.kp.2.shape
  rw [h0] at hva
  exact ⟨A, c, by rw [hva]; rfl, hh.less (fun i hi => .inl hi) (fun h => h.1), h.sep, h.ge⟩
end
/-- .. between two acts -/
def OJ (P : PT) (w : World) (p k : Nat) (vi vo : Value) (V : World) : Prop := ∃ s N I O, N ≤ k ∧ I.length ≤ k ∧ I = O ++ s.l ∧ OI P w p s N vi I vo O V
section
variable {P : PT}
set_option maxHeartbeats 4000000 in
theorem order_w (hP : PFifo P) (n b : Int) (A : Option Addr) (len cap : Nat) (xs : Nat → AX) (hl : len ≤ cap) (hc : cap ≤ maxLen) (w : World) (hA : ActsX w A len xs) : Calls Try.prog 5 #[.int .i64 n, .int .i64 b, .slice A len cap] w fun e w' => e = .returned (.bool true) ∧ Below w.heap.size w w' := by
  have H := Mem.start w
  have HA := Lib.hid hA
  unfold maxLen at hc
  clear hA
  cases hok : okN n b with
  | false =>
    have kn := fun w => hP.new_no n b w hok
    clear hok
    go_enter Try.func5, Try.ntmps5
    go_wp2_with (first
    | go_skip
    | go_skip
    | (go_at_call 10; refine (shown10 hP _).mono ?_; rintro e w2 ⟨rfl, hb⟩; have H2 := H.call hb; clear H hb; have H := H2; clear H2)
    | (go_at_call 11; refine (kn _).mono ?_; rintro e w2 ⟨rfl, hb⟩; have H2 := H.call hb; clear H hb; have H := H2; clear H2))
    go_ret
    exact ⟨by simp, H.below⟩
  | true =>
    have O := Lib.hid (St.start w ⟨[], 0, 0⟩)
    have HOK := Lib.hid hok
    clear hok
    go_enter Try.func5, Try.ntmps5
    go_upto_region 2 with (first
    | go_skip
    | (go_at_call 10; refine (shown10 hP _).mono ?_; rintro e w2 ⟨rfl, hb⟩; have O2 := St.on NoT.pt NoT.pt (Kept.no _) O.out hb; clear O; have O := Lib.hid O2; clear O2; have H2 := H.call hb; clear H hb; have H := H2; clear H2))
    go_upto_region 3 with (first
    | go_skip
    | (go_at_call 11; refine (O.out.newP hP NoT.pt (Kept.no _) n b HOK.out).mono ?_; rintro e w2 ⟨p, rfl, O2⟩; clear O H; have O := Lib.hid O2; clear O2; have H := Mem.start w2))
    have HJ := Lib.hid (show OJ P w p 0 (.slice none 0 0) (.slice none 0 0) w2 from ⟨⟨[], n, b⟩, 0, [], [], Nat.le_refl _, Nat.le_refl _, rfl, ⟨O.out.less (fun i hi => by rcases hi with ⟨_, _, _, _, e⟩ | ⟨_, _, _, _, e⟩ <;> cases e) (fun _ => ⟨Que.nil _, Que.nil _⟩), (fun i ⟨_, _, _, _, e⟩ => by cases e), (fun i hi => by rcases hi with ⟨_, _, _, _, e⟩ | ⟨_, _, _, _, e⟩ <;> cases e)⟩⟩)
    clear O H
    go_wp2
    go_loopw [10, 11, 12] (fun vi vo iv wr => ∃ k : Nat, k ≤ len ∧ k ≤ 80 ∧ iv = .int .i64 k ∧ Hid (OJ P w p k vi vo wr)) (fun _ _ iv _ => len - (intOf iv).toNat)
    case atStart => exact ⟨0, Nat.zero_le _, Nat.zero_le _, rfl, HJ⟩
    case round =>
      clear HJ
      obtain ⟨k, hk, hk80, rfl, HJ⟩ := hrel
      have H := Mem.start wr
      obtain ⟨s, N, I, U, hN, hI, hIO, hS⟩ := HJ.out
      have O := Lib.hid hS
      have hN1 : N ≤ 80 := by omega
      have HN := Lib.hid (And.intro hN (And.intro hI hIO))
      have hU5 : U.length ≤ 80 ∧ I.length ≤ 80 := by
        have : I.length = U.length + s.l.length := by rw [hIO, List.length_append]
        omega
      clear HJ hS hN hI hIO
      by_cases hlt : k < len ∧ k < 80
      · obtain ⟨bA, oA, hA, hb, hx⟩ := HA.out.plain axC_len (by decide) (by omega)
        obtain ⟨hfit, hcells⟩ := hx k hlt.1
        have t1 : decide ((k : Int) < (len : Int)) = true := decide_eq_true (by omega)
        have t2 : decide ((k : Int) < 80) = true := decide_eq_true (by omega)
        obtain ⟨x, hxx⟩ : ∃ x, xs k = x := ⟨_, rfl⟩
        rw [hxx] at hfit hcells
        have HB := Lib.hid (fun (W : World) (h : Below w.heap.size w W) => show W.rangeAt bA (oA + k * 12 + 1) (pvCs x.q) from fun j v hj => by
          have h2 := hcells (1 + j) v (by
            match j, hj with
            | 0, hj => exact hj
            | 1, hj => exact hj
            | 2, hj => exact hj
            | 3, hj => exact hj
            | 4, hj => exact hj
            | 5, hj => exact hj
            | 6, hj => exact hj
            | 7, hj => exact hj
            | 8, hj => exact hj)
          rw [← h2, ← Nat.add_assoc]
          unfold World.cell?
          rw [h.block bA hb])
        obtain ⟨q, hq⟩ : ∃ q, x.q = q := ⟨_, rfl⟩
        rw [hq] at HB
        have HX := Lib.hid (show q.Fits by rw [← hq]; exact hfit.q)
        obtain ⟨d, hd⟩ : ∃ d, x.d = d := ⟨_, rfl⟩
        have cdw : wr.cell? ⟨bA, oA + k * 12, none⟩ = some (.int .i64 d) := by
          have h1 := hcells 0 _ rfl
          rw [← hd, ← h1, Nat.add_zero]
          unfold World.cell?
          rw [O.out.st.bel.block bA hb]
        subst hA
        clear hfit hcells hxx hx hq hd
        have wz : IntKind.i64.wrap (d.tmod 2) = d.tmod 2 := by
          have h1 := tmod2 d
          exact wrap_id (by omega) (by omega)
        by_cases hz : d.tmod 2 = 0
        · have t3 : (d.tmod 2 == 0) = true := by rw [hz]; rfl
          have HZ := Lib.hid hz
          clear hz
          have kput := fun W (h : OI P w p s N u10 I u11 U W) => h.put hP (by omega) q HX.out
          obtain ⟨E, hE⟩ : ∃ E, putE s q = E := ⟨_, rfl⟩
          obtain ⟨s', hs'⟩ : ∃ y, putS s q = y := ⟨_, rfl⟩
          rw [hE, hs'] at kput
          by_cases hE0 : E = 0
          · have t5 : (E == 0) = true := by rw [hE0]; rfl
            have HIO := Lib.hid (show I ++ [q] = U ++ s'.l from by
              rw [← hs', putS, hE, if_pos hE0, HN.out.2.2, List.append_assoc])
            clear hE hs'
            have HE := Lib.hid hE0
            clear hE0
            go_upto_region 14 with (first
            | go_skip
            | ((with_reducible show wpList _ _ _ (⟨_, .load 37 _, _, _, _, _⟩ :: _) _ _); refine wpList_load_mid rfl _ _ rfl bA (oA + k * 12 + 1) rfl _ _ (HB.out _ (O.out.st.bel.trans (H.below.mono O.out.st.bel.size))) Try.underlying37 rfl pkInfo ?_)
            | (go_at_call 21; refine (kput _ (O.out.on hP H.below)).mono ?_; rintro e w2 ⟨rfl, O2⟩; clear O H; have O := Lib.hid O2; clear O2; have H := Mem.start w2))
            clear cdw t3 kput t5
            go_wp2_with (first
            | go_skip
            | ((with_reducible show wpList _ _ _ (⟨_, .load 37 _, _, _, _, _⟩ :: _) _ _); refine wpList_load_mid rfl _ _ rfl bA (oA + k * 12 + 1) rfl _ _ (HB.out _ (O.out.st.bel.trans (H.below.mono O.out.st.bel.size))) Try.underlying37 rfl pkInfo ?_)
            | (at_builtin; refine wpList_append_que rfl _ _ rfl rfl u10 I [q] ⟨w2.heap.size, 0, none⟩ 1 1 rfl rfl (((O.out.on hP H.below).st.kp.1).on (fun i hi => Below.heap_alloc _ _ _ (((O.out.on hP H.below).st.kp.1).lt hi))) rfl (fun j u hj => by rw [Addr.add_mid, Nat.zero_add]; rw [pvs_one] at hj; exact ((Held.new w2 37 (pvCs q).toArray).cell j).trans (by simpa using hj)) (by omega) ?_; intro v' w7 hq7 hF7 hb7))
            have J := (O.out.on hP (H.below.trans ((Below.refl _ _).alloc H.below.size _))).appI hP hF7 hq7 hb7
            go_roundw
            case rel => exact ⟨k + 1, by omega, by omega, by go_num, Lib.hid ⟨s', N + 1, I ++ [q], U, by have := HN.out.1; omega, by have := HN.out.2.1; simp; omega, HIO.out, J⟩⟩
            case measure => simp [intOf]; omega
          · have t5 : (E == 0) = false := by simpa using hE0
            have HIO := Lib.hid (show s' = s from by
              rw [← hs', putS, hE, if_neg hE0])
            clear hE hs'
            have HE := Lib.hid hE0
            clear hE0
            go_wp2_with (first
            | go_skip
            | ((with_reducible show wpList _ _ _ (⟨_, .load 37 _, _, _, _, _⟩ :: _) _ _); refine wpList_load_mid rfl _ _ rfl bA (oA + k * 12 + 1) rfl _ _ (HB.out _ (O.out.st.bel.trans (H.below.mono O.out.st.bel.size))) Try.underlying37 rfl pkInfo ?_)
            | (go_at_call 21; refine (kput _ (O.out.on hP H.below)).mono ?_; rintro e w2 ⟨rfl, O2⟩; clear O H; have O := Lib.hid O2; clear O2; have H := Mem.start w2))
            go_roundw
            case rel => exact ⟨k + 1, by omega, by omega, by go_num, Lib.hid ⟨s', N + 1, I, U, by have := HN.out.1; omega, by have := HN.out.2.1; omega, by rw [HIO.out]; exact HN.out.2.2, O.out.on hP H.below⟩⟩
            case measure => simp [intOf]; omega
        · have t3 : (d.tmod 2 == 0) = false := by simpa using hz
          have HZ := Lib.hid hz
          clear hz
          have ktake := fun W (h : OI P w p s N u10 I u11 U W) => h.take hP (by omega)
          obtain ⟨E, hE⟩ : ∃ E, firstE s = E := ⟨_, rfl⟩
          obtain ⟨y, hy⟩ : ∃ y, firstV s = y := ⟨_, rfl⟩
          obtain ⟨s', hs'⟩ : ∃ y, takeS s = y := ⟨_, rfl⟩
          rw [hE, hy, hs'] at ktake
          by_cases hE0 : E = 0
          · have t5 : (E == 0) = true := by rw [hE0]; rfl
            have HIO := Lib.hid (show I = (U ++ [y]) ++ s'.l from by
              rw [HN.out.2.2, List.append_assoc]
              congr 1
              cases hsl : s.l with
              | nil => rw [← hE, firstE, if_pos hsl] at hE0; cases hE0
              | cons a t =>
                have h1 : firstV s = a := by rw [firstV, hsl]; rfl
                have h2 : (takeS s).l = t := by show s.l.tail = t; rw [hsl]; rfl
                rw [← hs', ← hy, h1, h2]
                rfl)
            clear hE hy hs'
            have HE := Lib.hid hE0
            clear hE0
            go_upto_region 12 with (first
            | go_skip
            | (go_at_call 19; refine (ktake _ (O.out.on hP H.below)).mono ?_; rintro e w2 ⟨rfl, O2⟩; clear O H; have O := Lib.hid O2; clear O2; have H := Mem.start w2)
            | ((with_reducible show wpList _ _ _ _ _ (World.alloc _ (.cells _ _))); refine mem_newb (l := []) H ?_; intro b13 w3 hbk H2; try rw [← hbk]; clear hbk H; have H := H2; clear H2; simp only [List.cons_append, List.nil_append, List.set_cons_zero, List.set_cons_succ, List.setIfInBounds_toArray] at H)
            | ((with_reducible show wpList _ _ _ (⟨_, .store 37 _ _, _, _, _, _⟩ :: _) _ _); refine mem_store (i := 0) H (by first | exact wanted_none rfl | exact wanted_some rfl rfl rfl rfl) (by exact rfl) (by exact rfl) (by exact rfl) (by exact rfl) (by exact pkInfo) (by exact rfl) (by exact rfl) ?_; intro w2 H2; clear H; have H := H2; clear H2; simp only [List.cons_append, List.nil_append, List.set_cons_zero, List.set_cons_succ, List.setIfInBounds_toArray] at H))
            clear cdw t3 ktake t5
            go_wp2_with (first
            | go_skip
            | ((with_reducible show wpList _ _ _ (⟨_, .load 37 _, _, _, _, _⟩ :: _) _ _); refine mem_load (i := 0) H (by first | exact wanted_none rfl | exact wanted_some rfl rfl rfl rfl) (by exact rfl) (by exact rfl) (by exact rfl) Try.underlying37 rfl (by exact pkInfo) ?_)
            | (at_builtin; refine wpList_append_que rfl _ _ rfl rfl u11 U [y] ⟨w2.heap.size, 0, none⟩ 1 1 rfl rfl (((O.out.on hP H.below).st.kp.2).on (fun i hi => Below.heap_alloc _ _ _ (((O.out.on hP H.below).st.kp.2).lt hi))) rfl (fun j u hj => by rw [Addr.add_mid, Nat.zero_add]; rw [pvs_one] at hj; exact ((Held.new w2 37 (pvCs y).toArray).cell j).trans (by simpa using hj)) (by omega) ?_; intro v' w7 hq7 hF7 hb7))
            have J := (O.out.on hP (H.below.trans ((Below.refl _ _).alloc H.below.size _))).appO hP hF7 hq7 hb7
            go_roundw
            case rel => exact ⟨k + 1, by omega, by omega, by go_num, Lib.hid ⟨s', N, I, U ++ [y], by have := HN.out.1; omega, by have := HN.out.2.1; omega, HIO.out, J⟩⟩
            case measure => simp [intOf]; omega
          · have t5 : (E == 0) = false := by simpa using hE0
            have HIO := Lib.hid (show s'.l = s.l from by
              rw [← hs']
              show s.l.tail = s.l
              cases hsl : s.l with
              | nil => rfl
              | cons a t => exact absurd (by rw [← hE, firstE, if_neg (by rw [hsl]; simp)]) hE0)
            clear hE hy hs'
            have HE := Lib.hid hE0
            clear hE0
            go_wp2_with (first
            | go_skip
            | (go_at_call 19; refine (ktake _ (O.out.on hP H.below)).mono ?_; rintro e w2 ⟨rfl, O2⟩; clear O H; have O := Lib.hid O2; clear O2; have H := Mem.start w2)
            | ((with_reducible show wpList _ _ _ _ _ (World.alloc _ (.cells _ _))); refine mem_newb (l := []) H ?_; intro b13 w3 hbk H2; try rw [← hbk]; clear hbk H; have H := H2; clear H2; simp only [List.cons_append, List.nil_append, List.set_cons_zero, List.set_cons_succ, List.setIfInBounds_toArray] at H)
            | ((with_reducible show wpList _ _ _ (⟨_, .store 37 _ _, _, _, _, _⟩ :: _) _ _); refine mem_store (i := 0) H (by first | exact wanted_none rfl | exact wanted_some rfl rfl rfl rfl) (by exact rfl) (by exact rfl) (by exact rfl) (by exact rfl) (by exact pkInfo) (by exact rfl) (by exact rfl) ?_; intro w2 H2; clear H; have H := H2; clear H2; simp only [List.cons_append, List.nil_append, List.set_cons_zero, List.set_cons_succ, List.setIfInBounds_toArray] at H))
            go_roundw
            case rel => exact ⟨k + 1, by omega, by omega, by go_num, Lib.hid ⟨s', N, I, U, by have := HN.out.1; omega, by have := HN.out.2.1; omega, by rw [HIO.out]; exact HN.out.2.2, O.out.on hP H.below⟩⟩
            case measure => simp [intOf]; omega
      · have hwhy : (decide ((k : Int) < (len : Int)) = true ∧ decide ((k : Int) < 80) = false) ∨ decide ((k : Int) < (len : Int)) = false := by
          by_cases h1 : k < len
          · exact .inl ⟨decide_eq_true (by omega), decide_eq_false (by omega)⟩
          · exact .inr (decide_eq_false (by omega))
        obtain ⟨L, hL⟩ : ∃ L, s.l = L := ⟨_, rfl⟩
        have HL := Lib.hid hL
        have hL5 : L.length ≤ 80 := by rw [← hL]; have := (O.out.st.facts hP).1; omega
        have kd := fun W (h : OI P w p s N u10 I u11 U W) => h.drain hP (by omega)
        obtain ⟨s', hs'⟩ : ∃ y, drainS s = y := ⟨_, rfl⟩
        rw [hs', hL] at kd
        have HS' := Lib.hid (show s'.l = [] by rw [← hs']; rfl)
        have HIO := Lib.hid (show U ++ L = I by rw [← hL]; exact HN.out.2.2.symm)
        obtain ⟨m, hm⟩ : ∃ m, I.length = m := ⟨_, rfl⟩
        have HM := Lib.hid hm
        rw [hm] at hU5
        clear hL hs' hm
        rcases hwhy with ⟨t1, t2⟩ | t1
        · go_upto_region 15 with (fail)
          clear t1
          go_wp2_with (first
            | go_skip
            | (go_at_call 23; refine (kd _ (O.out.on hP H.below)).mono ?_; rintro e w2 ⟨vd, rfl, hqd, O2⟩; clear O H; have O := Lib.hid O2; have HQD := Lib.hid hqd; clear O2 hqd; have H := Mem.start w2)
            | (at_builtin; refine wpList_append_que2 rfl _ _ rfl rfl u11 vd U L rfl rfl O.out.st.kp.2 HQD.out (by omega) ?_; intro v' w7 hq7 hF7 hb7; have J := O.out.appO hP hF7 hq7 hb7; rw [HIO.out] at J hq7; obtain ⟨A1, c1, hvi, hl1, _⟩ := J.st.kp.1.shape; obtain ⟨A2, c2, hvo, hl2, _⟩ := J.st.kp.2.shape; rw [HM.out] at hvi hvo; have O3 := Lib.hid J; clear O H hq7 hF7 hb7 J; have O := O3; clear O3; subst hvi hvo; have H := Mem.start w7; have ks := fun W (h : Below w7.heap.size w7 W) => same_r A1 A2 m c1 m c2 I I W (O.out.on hP h).st.kp.1 (O.out.on hP h).st.kp.2 HM.out HM.out (by omega) (by omega); simp only [decide_true] at ks; have kal := fun W (h : OI P w p s' N (.slice A1 m c1) I (.slice A2 m c2) I W) => h.all hP (by omega) HS'.out)
            | (go_at_call 14; refine (ks _ H.below).mono ?_; rintro e w5 ⟨rfl, hb⟩; have H2 := H.call hb; clear H hb; have H := H2; clear H2)
            | (go_at_call 15; refine (kal _ (O.out.on hP H.below)).mono ?_; rintro e w2 ⟨A9, c9, rfl, O2⟩; clear O H; have O := Lib.hid O2; clear O2; have H := Mem.start w2))
          all_goals
            go_ret
            exact ⟨by simp, O.out.st.bel.trans (H.below.mono O.out.st.bel.size)⟩
        · go_upto_region 15 with (fail)
          clear t1
          go_wp2_with (first
            | go_skip
            | (go_at_call 23; refine (kd _ (O.out.on hP H.below)).mono ?_; rintro e w2 ⟨vd, rfl, hqd, O2⟩; clear O H; have O := Lib.hid O2; have HQD := Lib.hid hqd; clear O2 hqd; have H := Mem.start w2)
            | (at_builtin; refine wpList_append_que2 rfl _ _ rfl rfl u11 vd U L rfl rfl O.out.st.kp.2 HQD.out (by omega) ?_; intro v' w7 hq7 hF7 hb7; have J := O.out.appO hP hF7 hq7 hb7; rw [HIO.out] at J hq7; obtain ⟨A1, c1, hvi, hl1, _⟩ := J.st.kp.1.shape; obtain ⟨A2, c2, hvo, hl2, _⟩ := J.st.kp.2.shape; rw [HM.out] at hvi hvo; have O3 := Lib.hid J; clear O H hq7 hF7 hb7 J; have O := O3; clear O3; subst hvi hvo; have H := Mem.start w7; have ks := fun W (h : Below w7.heap.size w7 W) => same_r A1 A2 m c1 m c2 I I W (O.out.on hP h).st.kp.1 (O.out.on hP h).st.kp.2 HM.out HM.out (by omega) (by omega); simp only [decide_true] at ks; have kal := fun W (h : OI P w p s' N (.slice A1 m c1) I (.slice A2 m c2) I W) => h.all hP (by omega) HS'.out)
            | (go_at_call 14; refine (ks _ H.below).mono ?_; rintro e w5 ⟨rfl, hb⟩; have H2 := H.call hb; clear H hb; have H := H2; clear H2)
            | (go_at_call 15; refine (kal _ (O.out.on hP H.below)).mono ?_; rintro e w2 ⟨A9, c9, rfl, O2⟩; clear O H; have O := Lib.hid O2; clear O2; have H := Mem.start w2))
          all_goals
            go_ret
            exact ⟨by simp, O.out.st.bel.trans (H.below.mono O.out.st.bel.size)⟩
end
end Go.Proofs.Ytlnlkodpndjimaa.Fi
end
