/-
  The laws' own shown of layer 9; their even table, on a law's state. Conditions: as the interface says. Same over lists that lie anywhere; SteerMaps, walked. Conditions: as the interface says.
-/
import Derived.Test.YtaoaapbbadipfaaMGt
/- The laws' own shown of layer 9; their even table, on a law's state. Conditions: as the interface says. -/
section
namespace Go.Proofs.Ytaoaapbbadipfaa
set_option linter.unusedSimpArgs false
set_option linter.unusedVariables false
set_option maxRecDepth 100000
open Go.ChangeShapes Go.WideShapes Go.ChangeAt Go.RowKit

section
variable {P1 P2 : PT} {W0 W W' : World} {T T' : Nat → Prop} {K K' : World → Prop} {p1 N1 p2 N2 : Nat} {s1 s2 : SS}
theorem St.even (o1 : PtOk P1) (o2 : PtOk P2) (hk : Kept T K) (h : St P1 P2 W0 W T K p1 s1 N1 p2 s2 N2) (n m : Int) : Calls Try.prog 13 #[.int .i64 n, .int .i64 m] W fun e w' =>
    ∃ A1 A2 c1 c2, e = .returned (.agg (tbC A1 A2 c1 c2 (evT n m))) ∧ St P1 P2 W0 w' (fun i => T i ∨ tbS A1 A2 i) (fun X => K X ∧ TbAt X.heap.size X A1 A2 c1 c2 (evT n m)) p1 s1 N1 p2 s2 N2 := by
  refine (even9_r n m W).mono ?_
  rintro e w' ⟨A1, A2, c1, c2, rfl, ht, hb, hf⟩
  refine ⟨A1, A2, c1, c2, rfl, h.grow o1 o2 hb (fun i hi => hi.imp id fun e => ⟨hf i e, tbS_lt ht (evT_right n m) i e⟩) ⟨?_, ht⟩⟩
  obtain ⟨rd, own, rd2, own2, h⟩ := h
  exact hk W w' h.keep hb.size fun i hi => hb.block i (h.free i hi).1
theorem Kept.tb (hk : Kept T K) (A1 A2 : Option Addr) (c1 c2 : Nat) (t : TB) : Kept (fun i => T i ∨ tbS A1 A2 i) (fun X => K X ∧ TbAt X.heap.size X A1 A2 c1 c2 t) := fun X Y h hs hb =>
  ⟨hk X Y h.1 hs fun i hi => hb i (.inl hi), h.2.on (fun i hi => hb i (.inr hi)) hs⟩
theorem rowI_box {w : World} {b : Nat} {t : TypeId} {l : List Int} (h : Held w b t (ints l).toArray) : RowI w.heap.size w (some ⟨b, 0, none⟩) l := fun k x hx => by
  refine ⟨b, 0, rfl, h.lt, ?_⟩
  rw [Nat.zero_add]
  refine (h.cell k).trans ?_
  simp [ints, hx]
/-- less is held from now on -/
theorem St.less (o1 : PtOk P1) (o2 : PtOk P2) (h : St P1 P2 W0 W T K p1 s1 N1 p2 s2 N2) (hT : ∀ i, T' i → T i) (hK : K W → K' W) : St P1 P2 W0 W T' K' p1 s1 N1 p2 s2 N2 := by
  obtain ⟨rd, own, rd2, own2, h⟩ := h
  exact ⟨rd, own, rd2, own2, h.a1, h.a2, h.sep, h.below, fun i hi => h.free i (hT i hi), hK h.keep⟩
theorem St.none (o1 : PtOk P1) (o2 : PtOk P2) (h : St P1 P2 W0 W T K p1 s1 N1 p2 s2 N2) : St P1 P2 W0 W (fun _ => False) (fun _ => True) p1 s1 N1 p2 s2 N2 := h.less o1 o2 (fun _ h => h.elim) fun _ => trivial
end
def f0 : Hs.FV := ⟨0, 0, 0, 0, 0⟩
theorem f0_fits : f0.Fits := by constructor <;> simp [f0]
def pkA : PK := ⟨0, 0, 0, 1, f0⟩
def pkB : PK := ⟨0, 0, 16, 0, f0⟩
theorem pkA_fits : pkA.Fits := ⟨by simp [pkA], by simp [pkA], by simp [pkA, I64], by simp [pkA, I64], f0_fits⟩
theorem pkB_fits : pkB.Fits := ⟨by simp [pkB], by simp [pkB], by simp [pkB, I64], by simp [pkB, I64], f0_fits⟩
def ss0 : SS := SS.new (evT 4 1) 5
def ss1 : SS := ss0.map 1 [2]
def hz0 : Int := hashI f0 5
def ss2 : SS := ss1.choose hz0 0 1
def ss3 : SS := ss2.done hz0
theorem ss_mapE : ss0.mapE 1 [2] = 0 := by decide
theorem ss1_eq : ss1 = ss0.mapped 1 [2] := by
  show (bif ss0.mapOk 1 [2] then ss0.mapped 1 [2] else ss0) = _
  rw [show ss0.mapOk 1 [2] = true by decide]
  rfl
theorem pick_one (a n : Int) (h : 0 ≤ n ∧ n ≤ 4294967295) : pickQ [a] n = a := by
  have e : n * (([a].length : Nat) : Int) / 4294967296 = 0 := by simp only [List.length_cons, List.length_nil]; omega
  rw [pickQ, e]
  rfl
theorem ss1_q : ss1.queue hz0 0 1 = 2 := by
  have e : ss1.cand 0 1 = [2] := by rw [ss1_eq]; decide
  rw [SS.queue, show ss1.stays hz0 0 = false by rw [ss1_eq]; rfl, e]
  exact pick_one 2 hz0 (hashI_bd _ _)
theorem ss1_v : ss1.chooseV hz0 0 1 = 2 := by
  show (bif cOk 0 1 then ss1.queue hz0 0 1 else 0) = 2
  rw [ss1_q]
  rfl
theorem ss2_eq : ss2 = ss1.set hz0 2 1 := by
  show (bif cOk 0 1 then ss1.set hz0 (ss1.queue hz0 0 1) (ss1.outN hz0 + 1) else ss1) = _
  rw [ss1_q, show ss1.outN hz0 = 0 by rw [ss1_eq]; rfl]
  rfl
theorem ss2_fl : ss2.fl hz0 = some (2, 1) := by
  rw [ss2_eq]
  show (if hz0 = hz0 then some ((2 : Int), (1 : Int)) else ss1.fl hz0) = _
  rw [if_pos rfl]
theorem ss2_v : ss2.chooseV hz0 16 0 = 0 := rfl
theorem ss2_c : ss2.choose hz0 16 0 = ss2 := rfl
theorem ss2_q : ss2.outQ hz0 = 2 := by rw [SS.outQ, ss2_fl]
theorem ss2_n : ss2.outN hz0 = 1 := by rw [SS.outN, ss2_fl]
theorem ss2_d : ss2.doneE hz0 = 0 := by rw [SS.doneE, ss2_n]; rfl
theorem ss3_d : ss3.doneE hz0 = 90 := by
  have e : ss3 = ss2.set hz0 2 0 := by
    show (bif ss2.outN hz0 == 0 then ss2 else ss2.set hz0 (ss2.outQ hz0) (ss2.outN hz0 - 1)) = _
    rw [ss2_n, ss2_q]
    rfl
  have e2 : ss3.fl hz0 = some (2, 0) := by
    rw [e]
    show (if hz0 = hz0 then some ((2 : Int), (0 : Int)) else ss2.fl hz0) = _
    rw [if_pos rfl]
  rw [SS.doneE, SS.outN, e2]
  rfl
section
variable {P : PT} {W0 W : World} {T : Nat → Prop} {K : World → Prop} {p N : Nat}
theorem sal : ss2.salt = 5 ∧ ss1.salt = 5 ∧ ss3.salt = 5 := by
  have e1 : ss1.salt = 5 := by rw [ss1_eq]; rfl
  have e2 : ss2.salt = 5 := by rw [ss2_eq]; exact e1
  refine ⟨e2, e1, ?_⟩
  show (bif ss2.outN hz0 == 0 then ss2 else ss2.set hz0 (ss2.outQ hz0) (ss2.outN hz0 - 1)).salt = 5
  rw [ss2_n]
  exact e2
abbrev SN (P : PT) (W0 W : World) (p : Nat) (s : SS) (N : Nat) : Prop := St P NoT W0 W (fun _ => False) (fun _ => True) p s N 0 ss0 0
theorem map_one (hP : PSteer P) (hk : Kept T K) {s : SS} (h : St P NoT W0 W T K p s N 0 ss0 0) (c a : Int) (hc : I64 c) (ha : I64 a) (A : Option Addr) (hr : RowI W.heap.size W A [a]) : Calls Try.prog 21 #[.pointer (some ⟨p, 0, none⟩), .int .i64 c, .slice A 1 1] W fun e w' => e = .returned (.int .i64 (s.mapE c [a])) ∧ St P NoT W0 w' T K p (s.map c [a]) N 0 ss0 0 :=
  h.mapP hP NoT.pt hk c A 1 [a] hc (by simp) (by simp) (by simp [maxLen]) hr (fun y hy => by simp at hy; subst hy; exact ha) (fun e => by subst e; obtain ⟨b, o, e, _⟩ := hr 0 a rfl; cases e)
theorem shA (hP : PSteer P) (h : SN P W0 W p ss0 0) (A : Option Addr) (hr : RowI W.heap.size W A [2]) : Calls Try.prog 21 #[.pointer (some ⟨p, 0, none⟩), .int .i64 1, .slice A 1 1] W fun e w' => e = .returned (.int .i64 0) ∧ SN P W0 w' p ss1 0 := by
  have h2 := h.mapP hP NoT.pt (Kept.no _) 1 A 1 [2] (by unfold I64; omega) (by simp) (by simp) (by simp [maxLen]) hr (fun y hy => by simp at hy; subst hy; unfold I64; omega) (fun e => by subst e; obtain ⟨b, o, e, _⟩ := hr 0 2 rfl; cases e)
  rw [ss_mapE] at h2
  exact h2
theorem shB (hP : PSteer P) (h : SN P W0 W p ss1 0) : Calls Try.prog 19 #[.pointer (some ⟨p, 0, none⟩), pk pkA] W fun e w' => e = .returned (.tuple #[.int .i64 2, .int .i64 0]) ∧ SN P W0 w' p ss2 1 := by
  have h2 := h.chooseP hP NoT.pt (Kept.no _) (by omega) pkA pkA_fits
  rw [sal.2.1, show hashI pkA.f 5 = hz0 from rfl, show pkA.prio = 0 from rfl, show pkA.cpu = 1 from rfl, ss1_v] at h2
  exact h2
theorem shC (hP : PSteer P) (h : SN P W0 W p ss2 1) : Calls Try.prog 19 #[.pointer (some ⟨p, 0, none⟩), pk pkB] W fun e w' => e = .returned (.tuple #[.int .i64 0, .int .i64 2]) ∧ SN P W0 w' p ss2 2 := by
  have h2 := h.chooseP hP NoT.pt (Kept.no _) (by omega) pkB pkB_fits
  rw [sal.1, show hashI pkB.f 5 = hz0 from rfl, show pkB.prio = 16 from rfl, show pkB.cpu = 0 from rfl, ss2_v, ss2_c] at h2
  exact h2
theorem shD (hP : PSteer P) (h : SN P W0 W p ss2 2) : Calls Try.prog 16 #[.pointer (some ⟨p, 0, none⟩), Hs.fv f0] W fun e w' => e = .returned (.tuple #[.int .i64 2, .int .i64 1]) ∧ SN P W0 w' p ss2 2 := by
  have h2 := h.outP hP NoT.pt (Kept.no _) (by omega) f0 f0_fits
  rw [sal.1, show hashI f0 5 = hz0 from rfl, ss2_q, ss2_n] at h2
  exact h2
theorem shE (hP : PSteer P) (h : SN P W0 W p ss2 2) : Calls Try.prog 22 #[.pointer (some ⟨p, 0, none⟩), Hs.fv f0] W fun e w' => e = .returned (.int .i64 0) ∧ SN P W0 w' p ss3 2 := by
  have h2 := h.doneP hP NoT.pt (Kept.no _) (by omega) f0 f0_fits
  rw [sal.1, show hashI f0 5 = hz0 from rfl, ss2_d] at h2
  exact h2
theorem shF (hP : PSteer P) (h : SN P W0 W p ss3 2) : Calls Try.prog 22 #[.pointer (some ⟨p, 0, none⟩), Hs.fv f0] W fun e w' => e = .returned (.int .i64 90) ∧ SN P W0 w' p (ss3.done hz0) 2 := by
  have h2 := h.doneP hP NoT.pt (Kept.no _) (by omega) f0 f0_fits
  rw [sal.2.2, show hashI f0 5 = hz0 from rfl, ss3_d] at h2
  exact h2
theorem NN {ss : SS} (h : SN P W0 W p ss N) (hP : PSteer P) {W' : World} (hb : Below W.heap.size W W') : SN P W0 W' p ss N := h.on hP.pt NoT.pt (Kept.no _) hb
set_option maxHeartbeats 2000000 in
theorem shown9 (hP : PSteer P) (w : World) : Calls Try.prog 11 #[] w fun e w' => e = .returned (.bool true) ∧ Below w.heap.size w w' := by
  have H := Mem.start w
  have O := Lib.hid ((St.start w ss0).none NoT.pt NoT.pt)
  go_enter Try.func11, Try.ntmps11
  go_upto_region 2 with (first
    | (go_at_call 13; refine (O.out.even NoT.pt NoT.pt (Kept.no _) 4 1).mono ?_; rintro e w2 ⟨A1, A2, c1, c2, rfl, O2⟩; clear O H; have O := Lib.hid O2; clear O2; have H := Mem.start w2)
    | (go_at_call 12; refine ((O.out.on NoT.pt NoT.pt ((Kept.no _).tb A1 A2 c1 c2 (evT 4 1)) H.below).newP hP NoT.pt ((Kept.no _).tb A1 A2 c1 c2 (evT 4 1)) A1 A2 c1 c2 (evT 4 1) 5 (by omega) (O.out.on NoT.pt NoT.pt ((Kept.no _).tb A1 A2 c1 c2 (evT 4 1)) H.below).kp.2 (evT_right 4 1) (fun i hi => .inr hi)).mono ?_; rintro e w2 ⟨p, rfl, O2⟩; clear O H; have O := Lib.hid (O2.none hP.pt NoT.pt); clear O2; have H := Mem.start w2))
  go_upto_region 3 with (first
    | ((with_reducible show wpList _ _ _ _ _ (World.alloc _ (.cells _ _))); refine mem_new H ?_; intro w2 H2; clear H; have H := H2; clear H2; simp only [List.cons_append, List.nil_append, List.set_cons_zero, List.set_cons_succ, List.setIfInBounds_toArray] at H)
    | (go_at_call 21; refine (shA hP (NN O.out hP H.below) _ (rowI_box (H.at 0 rfl))).mono ?_; rintro e w2 ⟨rfl, O2⟩; clear O H; have O := Lib.hid O2; clear O2; have H := Mem.start w2))
  go_upto_region 4 with (first
    | (go_at_call 19; refine (shB hP (NN O.out hP H.below)).mono ?_; rintro e w2 ⟨rfl, O2⟩; clear O H; have O := Lib.hid O2; clear O2; have H := Mem.start w2))
  go_upto_region 5 with (first
    | (go_at_call 19; refine (shC hP (NN O.out hP H.below)).mono ?_; rintro e w2 ⟨rfl, O2⟩; clear O H; have O := Lib.hid O2; clear O2; have H := Mem.start w2))
  go_upto_region 6 with (first
    | (go_at_call 16; refine (shD hP (NN O.out hP H.below)).mono ?_; rintro e w2 ⟨rfl, O2⟩; clear O H; have O := Lib.hid O2; clear O2; have H := Mem.start w2))
  go_wp2_with (first
    | go_skip
    | (go_at_call 22; refine (shE hP (NN O.out hP H.below)).mono ?_; rintro e w2 ⟨rfl, O2⟩; clear O H; have O := Lib.hid O2; clear O2; have H := Mem.start w2)
    | (go_at_call 22; refine (shF hP (NN O.out hP H.below)).mono ?_; rintro e w2 ⟨rfl, O2⟩; clear O H; have O := Lib.hid O2; clear O2; have H := Mem.start w2))
  go_ret
  exact ⟨by simp, O.out.bel.trans (H.below.mono O.out.le)⟩

end
end Go.Proofs.Ytaoaapbbadipfaa
end
/- Same over lists that lie anywhere; SteerMaps, walked. Conditions: as the interface says. -/
section
namespace Go.Proofs.Ytaoaapbbadipfaa
set_option linter.unusedSimpArgs false
set_option linter.unusedVariables false
set_option maxRecDepth 100000
open Go.ChangeShapes Go.WideShapes Go.ChangeAt Go.RowKit

set_option maxHeartbeats 1000000 in
theorem same_sl (v v' : Value) (xs : List Int) (w : World) (hn : xs.length ≤ 4096) (hA : SlI w.heap.size w v xs) (hB : SlI w.heap.size w v' xs) :
    Calls Try.prog 27 #[v, v'] w fun e w' => e = .returned (.bool true) ∧ Below w.heap.size w w' := by
  obtain ⟨A, c, rfl, hc, hcm, hA⟩ := hA
  obtain ⟨B, c', rfl, hc', hcm', hB⟩ := hB
  have HA := Lib.hid hA
  have HB := Lib.hid hB
  obtain ⟨n, hn'⟩ : ∃ n, xs.length = n := ⟨_, rfl⟩
  rw [hn'] at hn hc hc' ⊢
  have HN := Lib.hid hn'
  clear hA hB hn' hcm hcm'
  go_enter Try.func27, Try.ntmps27
  go_wp2
  go_loopw [5] (fun i wr => ∃ k : Nat, k ≤ n ∧ i = .int .i64 k ∧ ∃ m, wr = w.drewN m) (fun i _ => n - (intOf i).toNat)
  case atStart => exact ⟨0, Nat.zero_le _, rfl, 0, rfl⟩
  case round =>
    obtain ⟨k, hk, rfl, m, rfl⟩ := hrel
    by_cases hlt : k < n
    · have hl : k < xs.length := by rw [HN.out]; exact hlt
      obtain ⟨x, hx⟩ : ∃ x, xs[k]? = some x := ⟨xs[k], List.getElem?_eq_getElem hl⟩
      obtain ⟨g, o, rfl, _, h1⟩ := HA.out k x hx
      obtain ⟨g', o', rfl, _, h2⟩ := HB.out k x hx
      clear hl hx
      go_wp2
      go_quiet (fail)
      go_wp2
      go_roundw
      case rel => exact ⟨k + 1, by omega, by go_num, m + nq, by simp⟩
      case measure => simp [intOf]; omega
    · go_wp2
      go_ret
      exact ⟨rfl, below_draws w m⟩
end Go.Proofs.Ytaoaapbbadipfaa
end
