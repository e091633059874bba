/-
  The laws' own shown of layer 10; a law's state, begun, and what the law holds itself. Conditions: as the interface says. FifoNone, walked. Conditions: as the interface says.
-/
import Derived.Test.YtlnlkodpndjimaaMGe
import Derived.Test.YtlnlkodpndjimaaMGl
/- The laws' own shown of layer 10; a law's state, begun, and what the law holds itself. Conditions: as the interface says. -/
section
namespace Go.Proofs.Ytlnlkodpndjimaa.Fi
set_option linter.unusedSimpArgs false
set_option linter.unusedVariables false
set_option maxRecDepth 100000
open Go.ChangeShapes Go.WideShapes Go.ChangeAt Go.RowKit

theorem St.start (w : World) (s : FF) : St NoT NoT w w (fun _ => False) (fun _ => True) 0 s 0 0 s 0 :=
  ⟨fun _ => False, fun _ => False, fun _ h => h, fun _ h => h, fun _ h => h.elim, fun _ h => h.elim, fun _ h => h.elim, Below.refl _ _, fun _ h => h.elim, trivial⟩
section
variable {P1 P2 P : PT} {W0 W W' : World} {T T' : Nat → Prop} {K K' : World → Prop} {p1 N1 p2 N2 : Nat} {s1 s2 s : FF}
/-- the first of them is made -/
theorem St.made (o2 : PtOk P2) (hk : Kept T K) (h : St NoT P2 W0 W T K p1 s1 N1 p2 s2 N2) {f : Nat} {args : Array Value} (hc : Calls Try.prog f args W (NewF P W s)) : Calls Try.prog f args W fun e w' => ∃ p, e = .returned (.tuple #[.pointer (some ⟨p, 0, none⟩), .int .i64 0]) ∧ St P P2 W0 w' T K p s 0 p2 s2 N2 := by
  obtain ⟨own, own2, h⟩ := h
  refine hc.mono ?_
  rintro e w' ⟨p, own', rfl, hP, hb, hn⟩
  have hz := h.below.size
  refine ⟨p, rfl, own', own2, hP, o2.on h.a2 (fun i hi => hb.block i (o2.lt h.a2 i hi)) hb.size, fun i h1 h2 => ?_, fun i hi => by have := hn i hi; omega, h.b2, h.below.trans (hb.mono hz), fun i hi => ⟨Nat.lt_of_lt_of_le (h.free i hi).1 hb.size, fun e => ?_, (h.free i hi).2.2⟩, hk W w' h.keep hb.size fun i hi => hb.block i (h.free i hi).1⟩
  · have := hn i h1
    have := o2.lt h.a2 i h2
    omega
  · have := hn i e
    have := (h.free i hi).1
    omega
theorem St.newP (hP : PFifo P) (o2 : PtOk P2) (hk : Kept T K) (h : St NoT P2 W0 W T K p1 s1 N1 p2 s2 N2) (n b : Int) (ho : okN n b = true) : Calls Try.prog 11 #[.int .i64 n, .int .i64 b] W fun e w' => ∃ p, e = .returned (.tuple #[.pointer (some ⟨p, 0, none⟩), .int .i64 0]) ∧ St P P2 W0 w' T K p ⟨[], n, b⟩ 0 p2 s2 N2 :=
  h.made o2 hk (hP.new_yes n b W ho)
theorem St.newR (o1 : PtOk P1) (hk : Kept T K) (h : St P1 NoT W0 W T K p1 s1 N1 p2 s2 N2) (n b : Int) (ho : okN n b = true) : Calls Try.prog 12 #[.int .i64 n, .int .i64 b] W fun e w' => ∃ p, e = .returned (.tuple #[.pointer (some ⟨p, 0, none⟩), .int .i64 0]) ∧ St P1 DocAt W0 w' T K p1 s1 N1 p ⟨[], n, b⟩ 0 :=
  (h.symm.made o1 hk (new_yes n b ho W)).mono fun e w' ⟨p, he, hh⟩ => ⟨p, he, hh.symm⟩
/-- less is held from now on -/
theorem St.less (h : St P1 P2 W0 W T K p1 s1 N1 p2 s2 N2) (hT : ∀ i, T' i → T i) (hK : K W → K' W) : St P1 P2 W0 W T' K' p1 s1 N1 p2 s2 N2 := by
  obtain ⟨own, own2, h⟩ := h
  exact ⟨own, own2, h.a1, h.a2, h.sep, h.b1, h.b2, h.below, fun i hi => h.free i (hT i hi), hK h.keep⟩
theorem St.none (h : St P1 P2 W0 W T K p1 s1 N1 p2 s2 N2) : St P1 P2 W0 W (fun _ => False) (fun _ => True) p1 s1 N1 p2 s2 N2 := h.less (fun _ h => h.elim) fun _ => trivial
theorem Kept.box (hk : Kept T K) (b : Nat) (ty : TypeId) (cs : Array Value) : Kept (fun i => T i ∨ i = b) (fun X => K X ∧ Held X b ty cs) := fun X Y h hs hb =>
  ⟨hk X Y h.1 hs fun i hi => hb i (.inl hi), (hb b (.inr rfl)).trans h.2⟩
theorem St.box (o1 : PtOk P1) (o2 : PtOk P2) (hk : Kept T K) (O : St P1 P2 W0 W T K p1 s1 N1 p2 s2 N2) {b : Nat} {ty : TypeId} {cs : Array Value} (H : Mem W W' [(b, ty, cs)]) : St P1 P2 W0 W' (fun i => T i ∨ i = b) (fun X => K X ∧ Held X b ty cs) p1 s1 N1 p2 s2 N2 := by
  have hh := H.held _ List.mem_cons_self
  refine O.grow o1 o2 H.below (fun i hi => hi.imp id fun e => by rw [e]; exact ⟨hh.1, hh.2.lt⟩) ⟨?_, hh.2⟩
  obtain ⟨own, own2, h⟩ := O
  exact hk W W' h.keep H.below.size fun i hi => H.below.block i (h.free i hi).1
theorem pack_more (o1 : PtOk P1) (o2 : PtOk P2) (hk : Kept T K) (O : St P1 P2 W0 W T K p1 s1 N1 p2 s2 N2) {b : Nat} {ty : TypeId} {cs : Array Value} (H : Mem W W' [(b, ty, cs)]) :
    ∃ T' K', Kept T' K' ∧ (∀ X, K' X → K X ∧ Held X b ty cs) ∧ (∀ i, T i → T' i) ∧ St P1 P2 W0 W' T' K' p1 s1 N1 p2 s2 N2 :=
  ⟨_, _, hk.box b ty cs, fun X h => h, fun i hi => .inl hi, O.box o1 o2 hk H⟩
/-- the document's fifo with its row's value -/
def DocV (v : Value) : PT := fun W own p s N => DAt W own p s N v
theorem DocV.pt (v : Value) : PtOk (DocV v) := ⟨fun h h1 h2 => DAt.on h h1 h2, fun h i hi => DAt.lt h i hi⟩
theorem St.fix (h : St P1 DocAt W0 W T K p1 s1 N1 p2 s2 N2) : ∃ v, St P1 (DocV v) W0 W T K p1 s1 N1 p2 s2 N2 := by
  obtain ⟨own, own2, h⟩ := h
  obtain ⟨v, hv⟩ := h.a2
  exact ⟨v, own, own2, h.a1, hv, h.sep, h.b1, h.b2, h.below, h.free, h.keep⟩
theorem St.unfix {v : Value} (h : St P1 (DocV v) W0 W T K p1 s1 N1 p2 s2 N2) : St P1 DocAt W0 W T K p1 s1 N1 p2 s2 N2 := by
  obtain ⟨own, own2, h⟩ := h
  exact ⟨own, own2, h.a1, ⟨v, h.a2⟩, h.sep, h.b1, h.b2, h.below, h.free, h.keep⟩
theorem St.row {v : Value} (h : St P1 (DocV v) W0 W T K p1 s1 N1 p2 s2 N2) : W.cell? ⟨p2, 0, .none⟩ = some v ∧ Que W v s2.l ∧ p2 < W.heap.size := by
  obtain ⟨own, own2, h⟩ := h
  have := h.a2
  exact ⟨DAt.box this |>.cell 0, DAt.row this, (DAt.box this).lt⟩
theorem St.facts (hP : PFifo P) (h : St P P2 W0 W T K p1 s1 N1 p2 s2 N2) : s1.l.length ≤ N1 ∧ okN s1.n s1.b = true ∧ (∀ q, q ∈ s1.l → q.Fits) ∧ Sz s1.l := by
  obtain ⟨own, own2, h⟩ := h
  exact hP.ok h.a1
end
def qq (n : Int) : PV := ⟨0, n, 0, 0, 0, 0, 0, 0, 0⟩
theorem qq_fits {n : Int} (h : 0 ≤ n ∧ n ≤ 4294967295) : (qq n).Fits := by constructor <;> simp [qq] <;> omega
section
variable {P : PT} {W0 W : World} {p N : Nat}
abbrev SN (P : PT) (W0 W : World) (p : Nat) (s : FF) (N : Nat) : Prop := St P NoT W0 W (fun _ => False) (fun _ => True) p s N 0 ⟨[], 0, 0⟩ 0
def sA : FF := ⟨[qq 6], 2, 10⟩
def sB : FF := ⟨[qq 6, qq 4], 2, 10⟩
def s00 : FF := ⟨[], 2, 10⟩
theorem sh1 : putE s00 (qq 6) = 0 ∧ putS s00 (qq 6) = sA := ⟨by decide, rfl⟩
theorem sh2 : putE sA (qq 5) = 101 ∧ putS sA (qq 5) = sA := ⟨by decide, rfl⟩
theorem sh3 : putE sA (qq 4) = 0 ∧ putS sA (qq 4) = sB := ⟨by decide, rfl⟩
theorem sh4 : putE sB (qq 1) = 100 ∧ putS sB (qq 1) = sB := ⟨by decide, rfl⟩
theorem sh5 : Fi.bytes sB.l = 10 := by decide
theorem shP (hP : PFifo P) {s s' : FF} {n E : Int} (h : SN P W0 W p s N) (hN : N ≤ 100) (hn : 0 ≤ n ∧ n ≤ 4294967295) (e1 : putE s (qq n) = E) (e2 : putS s (qq n) = s') : Calls Try.prog 21 #[.pointer (some ⟨p, 0, none⟩), .agg #[.int .u32 0, .int .u32 n, .int .i64 0, .int .i64 0, .int .u32 0, .int .u32 0, .int .u16 0, .int .u16 0, .int .u8 0]] W fun e w' => e = .returned (.int .i64 E) ∧ SN P W0 w' p s' (N + 1) := by
  have h2 := putP hP NoT.pt (Kept.no _) h (by omega) (qq n) (qq_fits hn)
  rw [e1, e2] at h2
  exact h2
theorem shB (hP : PFifo P) {s : FF} {n : Int} (h : SN P W0 W p s N) (hN : N ≤ 100) (e : Fi.bytes s.l = n) : Calls Try.prog 16 #[.pointer (some ⟨p, 0, none⟩)] W fun e w' => e = .returned (.int .i64 n) ∧ SN P W0 w' p s N := by
  have h2 := bytesP hP NoT.pt (Kept.no _) h (by omega)
  rw [e] at h2
  exact h2
set_option maxHeartbeats 1000000 in
theorem shown10 (hP : PFifo P) (w : World) : Calls Try.prog 10 #[] w fun e w' => e = .returned (.bool true) ∧ Below w.heap.size w w' := by
  have H := Mem.start w
  have O := Lib.hid (St.start w ⟨[], 0, 0⟩)
  go_enter Try.func10, Try.ntmps10
  go_upto_region 2 with (first
    | (go_at_call 11; refine (O.out.newP hP NoT.pt (Kept.no _) 2 10 (by decide)).mono ?_; rintro e w2 ⟨p, rfl, O2⟩; clear O H; have O := Lib.hid (show SN P w w2 p s00 0 from O2); clear O2; have H := Mem.start w2))
  go_upto_region 3 with (first
    | (go_at_call 21; refine (shP hP O.out (by omega) (by omega) sh1.1 sh1.2).mono ?_; rintro e w2 ⟨rfl, O2⟩; clear O H; have O := Lib.hid O2; clear O2; have H := Mem.start w2))
  go_upto_region 4 with (first
    | (go_at_call 21; refine (shP hP O.out (by omega) (by omega) sh2.1 sh2.2).mono ?_; rintro e w2 ⟨rfl, O2⟩; clear O H; have O := Lib.hid O2; clear O2; have H := Mem.start w2))
  go_upto_region 5 with (first
    | (go_at_call 21; refine (shP hP O.out (by omega) (by omega) sh3.1 sh3.2).mono ?_; rintro e w2 ⟨rfl, O2⟩; clear O H; have O := Lib.hid O2; clear O2; have H := Mem.start w2))
  go_upto_region 6 with (first
    | (go_at_call 21; refine (shP hP O.out (by omega) (by omega) sh4.1 sh4.2).mono ?_; rintro e w2 ⟨rfl, O2⟩; clear O H; have O := Lib.hid O2; clear O2; have H := Mem.start w2))
  go_upto_region 7 with (first
    | (go_at_call 11; refine (hP.new_no 0 1 _ (by decide)).mono ?_; rintro e w2 ⟨rfl, hb⟩; have O2 := St.on hP.pt NoT.pt (Kept.no _) O.out hb; clear O H hb; have O := Lib.hid O2; clear O2; have H := Mem.start w2))
  go_wp2_with (first
    | go_skip
    | (go_at_call 16; refine (shB hP O.out (by omega) sh5).mono ?_; rintro e w2 ⟨rfl, O2⟩; clear O H; have O := Lib.hid O2; clear O2; have H := Mem.start w2))
  go_ret
  exact ⟨by simp, O.out.bel⟩
end
end Go.Proofs.Ytlnlkodpndjimaa.Fi
end
/- FifoNone, walked. Conditions: as the interface says. -/
section
namespace Go.Proofs.Ytlnlkodpndjimaa.Fi
set_option linter.unusedSimpArgs false
set_option linter.unusedVariables false
set_option maxRecDepth 100000
open Go.ChangeShapes Go.WideShapes Go.ChangeAt Go.RowKit

theorem takeP_nil0 (W : World) : Calls Try.prog 19 #[.pointer none] W fun e w' => e = .returned (.tuple #[pv pv0, .int .i64 1]) ∧ Below W.heap.size W w' := by
  have H := Mem.start W
  have kf := firstP_nil
  go_enter Try.func19, Try.ntmps19
  go_wp2_with (first
    | go_skip
    | go_skip
    | ((with_reducible show wpList _ _ _ _ _ (World.alloc _ (.cells _ _))); refine mem_new H ?_; intro w2 H2; clear H; have H := H2; clear H2; simp only [List.cons_append, List.nil_append, List.set_cons_zero, List.set_cons_succ, List.setIfInBounds_toArray] at H)
    | (go_at_call 18; refine (kf _).mono ?_; rintro e w2 ⟨rfl, hb⟩; have H2 := H.call hb; clear H hb; have H := H2; clear H2)
    | ((with_reducible show wpList _ _ _ (⟨_, .store 37 _ _, _, _, _, _⟩ :: _) _ _); refine mem_store (i := 1) H (by first | exact wanted_none rfl | exact wanted_some rfl rfl rfl rfl) (by exact rfl) (by exact rfl) (by exact rfl) (by exact rfl) (by exact pkInfo) (by exact rfl) (by exact rfl) ?_; intro w2 H2; clear H; have H := H2; clear H2; simp only [List.cons_append, List.nil_append, List.set_cons_zero, List.set_cons_succ, List.setIfInBounds_toArray] at H)
    | ((with_reducible show wpList _ _ _ (⟨_, .store 37 _ _, _, _, _, _⟩ :: _) _ _); refine mem_store (i := 0) H (by first | exact wanted_none rfl | exact wanted_some rfl rfl rfl rfl) (by exact rfl) (by exact rfl) (by exact rfl) (by exact rfl) (by exact pkInfo) (by exact rfl) (by exact rfl) ?_; intro w2 H2; clear H; have H := H2; clear H2; simp only [List.cons_append, List.nil_append, List.set_cons_zero, List.set_cons_succ, List.setIfInBounds_toArray] at H))
  refine bodyPost_ret (results_ct rfl rfl (run_loadVar_row _ _ _ _ _ (0, 0) _ (H.at 0 rfl) Try.underlying37 rfl pkInfo)) rfl ?_
  exact ⟨rfl, H.below⟩
set_option maxHeartbeats 2000000 in
theorem none_w (q : PV) (hq : q.Fits) (n b : Int) (w : World) : Calls Try.prog 4 #[pv q, .int .i64 n, .int .i64 b] w fun e w' => e = .returned (.bool true) ∧ Below w.heap.size w w' := by
  have H := Mem.start w
  have k1 := fun w => putP_nil q w hq
  have k2 := fun w => backP_nil q w hq
  clear hq
  go_enter Try.func4, Try.ntmps4
  go_upto_region 1 with (first
    | go_skip
    | ((with_reducible show wpList _ _ _ _ _ (World.alloc _ (.cells _ _))); refine mem_newb (l := []) H ?_; intro bq w3 hbk H2; try rw [← hbk]; clear hbk H; have H := H2; clear H2; simp only [List.cons_append, List.nil_append, List.set_cons_zero, List.set_cons_succ, List.setIfInBounds_toArray] at H))
  go_upto_region 3 with (first
    | go_skip
    | (go_at_call 10; refine (shown10 pfifo _).mono ?_; rintro e w2 ⟨rfl, hb⟩; have H2 := H.call hb; clear H hb; have H := H2; clear H2))
  go_upto_region 4 with (first
    | go_skip
    | (go_at_call 18; refine (firstP_nil _).mono ?_; rintro e w2 ⟨rfl, hb⟩; have H2 := H.call hb; clear H hb; have H := H2; clear H2)
    | ((with_reducible show wpList _ _ _ _ _ (World.alloc _ (.cells _ _))); refine mem_newb (l := [_]) H ?_; intro b1 w3 hbk H2; try rw [← hbk]; clear hbk H; have H := H2; clear H2; simp only [List.cons_append, List.nil_append, List.set_cons_zero, List.set_cons_succ, List.setIfInBounds_toArray] at H)
    | ((with_reducible show wpList _ _ _ (⟨_, .store 37 _ _, _, _, _, _⟩ :: _) _ _); refine mem_store (i := 1) H (by first | exact wanted_none rfl | exact wanted_some rfl rfl rfl rfl) (by exact rfl) (by exact rfl) (by exact rfl) (by exact rfl) (by exact pkInfo) (by exact rfl) (by exact rfl) ?_; intro w2 H2; clear H; have H := H2; clear H2; simp only [List.cons_append, List.nil_append, List.set_cons_zero, List.set_cons_succ, List.setIfInBounds_toArray] at H))
  go_upto_region 5 with (first
    | go_skip
    | (go_at_call 19; refine (takeP_nil0 _).mono ?_; rintro e w2 ⟨rfl, hb⟩; have H2 := H.call hb; clear H hb; have H := H2; clear H2)
    | ((with_reducible show wpList _ _ _ _ _ (World.alloc _ (.cells _ _))); refine mem_newb (l := [_, _]) H ?_; intro b2 w3 hbk H2; try rw [← hbk]; clear hbk H; have H := H2; clear H2; simp only [List.cons_append, List.nil_append, List.set_cons_zero, List.set_cons_succ, List.setIfInBounds_toArray] at H)
    | ((with_reducible show wpList _ _ _ (⟨_, .store 37 _ _, _, _, _, _⟩ :: _) _ _); refine mem_store (i := 2) H (by first | exact wanted_none rfl | exact wanted_some rfl rfl rfl rfl) (by exact rfl) (by exact rfl) (by exact rfl) (by exact rfl) (by exact pkInfo) (by exact rfl) (by exact rfl) ?_; intro w2 H2; clear H; have H := H2; clear H2; simp only [List.cons_append, List.nil_append, List.set_cons_zero, List.set_cons_succ, List.setIfInBounds_toArray] at H))
  go_upto_region 6 with (first
    | go_skip
    | (go_at_call 20; refine (limP_nil n b _).mono ?_; rintro e w2 ⟨rfl, hb⟩; have H2 := H.call hb; clear H hb; have H := H2; clear H2))
  go_wp2_with (first
    | go_skip
    | go_skip
    | ((with_reducible show wpList _ _ _ (⟨_, .load 37 _, _, _, _, _⟩ :: _) _ _); refine mem_load (i := 0) H (by first | exact wanted_none rfl | exact wanted_some rfl rfl rfl rfl) (by exact rfl) (by exact rfl) (by exact rfl) Try.underlying37 rfl (by exact pkInfo) ?_)
    | (go_at_call 21; refine (k1 _).mono ?_; rintro e w2 ⟨rfl, hb⟩; have H2 := H.call hb; clear H hb; have H := H2; clear H2)
    | (go_at_call 22; refine (k2 _).mono ?_; rintro e w2 ⟨rfl, hb⟩; have H2 := H.call hb; clear H hb; have H := H2; clear H2)
    | (go_at_call 23; refine (drainP_nil _).mono ?_; rintro e w2 ⟨rfl, hb⟩; have H2 := H.call hb; clear H hb; have H := H2; clear H2)
    | (go_at_call 15; refine (allP_nil _).mono ?_; rintro e w2 ⟨rfl, hb⟩; have H2 := H.call hb; clear H hb; have H := H2; clear H2)
    | (go_at_call 16; refine (bytesP_nil _).mono ?_; rintro e w2 ⟨rfl, hb⟩; have H2 := H.call hb; clear H hb; have H := H2; clear H2))
  go_ret
  exact ⟨by simp, H.below⟩
end Go.Proofs.Ytlnlkodpndjimaa.Fi
end
