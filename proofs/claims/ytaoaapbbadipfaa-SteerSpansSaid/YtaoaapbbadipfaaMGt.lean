/-
  The document's Choose, all ways; Done and Map as steps of a steer. Conditions: the steer lies where its pointer says, nine hundred flows at most. What the program's steers do, as an interface; the laws' even. Conditions: as the interface says. A law's state: two steers that lie apart, what the law itself holds. Conditions: as the interface says. The methods of both steers, on a law's state. Conditions: as the interface says.
-/
import Derived.Test.YtaoaapbbadipfaaMGp
import Derived.Test.YtaoaapbbadipfaaMGq
import Derived.Test.YtaoaapbbadipfaaMGr
import Derived.Test.YtaoaapbbadipfaaMGs
import Derived.Test.YtaoaapbbadipfaaMGo
import Derived.Test.YtaoaapbbadipfaaMGi
/- The document's Choose, all ways; Done and Map as steps of a steer. Conditions: the steer lies where its pointer says, nine hundred flows at most. -/
section
namespace Go.Proofs.Ytaoaapbbadipfaa
set_option linter.unusedSimpArgs false
set_option linter.unusedVariables false
set_option maxRecDepth 100000
open Go.ChangeShapes Go.WideShapes Go.ChangeAt Go.RowKit

theorem cand_bd {W : World} {rd own : Nat → Prop} {p : Nat} {s : SS} {N : Nat} {x : RParts} (h : RAt W rd own p s N x) {pr : Int} (hp : 0 ≤ pr ∧ pr < 16) {C : Nat} (hC : C < 64) : (1 ≤ (s.cand pr (C : Int)).length ∧ (s.cand pr (C : Int)).length ≤ 64) ∧ ∀ y, y ∈ s.cand pr (C : Int) → 0 ≤ y ∧ y < 64 := by
  obtain ⟨_, _, X, Y, e, hY, hXY, hq⟩ := spn_ok h.right hp
  have hm := h.m64 C hC
  unfold SS.cand candL
  rw [e, Int.toNat_natCast]
  by_cases hz : ((s.maps C).filter (inS ((X : Int), (Y : Int)))).length = 0
  · rw [if_pos hz]
    unfold allQ
    simp only [Int.toNat_natCast, List.length_map, List.length_range, List.mem_map, List.mem_range]
    refine ⟨by omega, ?_⟩
    rintro y ⟨i, hi, rfl⟩
    omega
  · rw [if_neg hz]
    have hl := List.length_filter_le (inS ((X : Int), (Y : Int))) (s.maps C)
    exact ⟨by omega, fun y hy => hm.2 y (List.mem_filter.1 hy).1⟩
set_option maxHeartbeats 2000000 in
theorem choose_no (W : World) (rd own : Nat → Prop) (p : Nat) (s : SS) (N : Nat) (x : RParts) (h : RAt W rd own p s N x) (q : PK) (hno : cOk q.prio q.cpu = false) : Calls Try.prog 30 #[.pointer (some ⟨p, 0, none⟩), pk q] W fun e w' => e = .returned (.tuple #[.int .i64 0, .int .i64 2]) ∧ Below W.heap.size W w' := by
  have H := Mem.start W
  have HR := Lib.hid h
  have kc := fun w h => cand_no w rd own p s N x h q.prio q.cpu hno
  unfold GivesInts at kc
  clear h
  unfold pk
  go_enter Try.func30, Try.ntmps30
  go_upto_region 1 with (first
    | ((with_reducible show wpList _ _ _ _ _ (World.alloc _ (.cells _ _))); refine mem_newb H ?_; intro b w3 hbk H2; try rw [← hbk]; clear hbk H; have H := H2; clear H2; simp only [List.cons_append, List.nil_append, List.set_cons_zero, List.set_cons_succ, List.setIfInBounds_toArray] at H))
  go_wp2_with (first
    | ((with_reducible show wpList _ _ _ (⟨_, .load _ _, _, _, _, _⟩ :: _) _ _); refine mem_loadf (i := 0) H (by first | exact wanted_none rfl | exact wanted_some rfl rfl rfl rfl) (by exact rfl) (by exact rfl) (by exact rfl) (by first | exact Try.underlying3 | exact Try.underlying22 | exact Try.underlying29 | exact Try.underlying80) rfl (by exact rfl) ?_)
    | (go_at_call 26; refine (kc _ (HR.out.below H.below)).mono ?_; rintro e w2 ⟨v1, rfl, R, hb⟩; have H2 := H.call hb; obtain ⟨Av, dv, rfl, hdv, Lv0⟩ := lies_of_own R; clear H R hb Lv0; have H := H2; clear H2))
  refine bodyPost_ret (results_two rfl _ _ _) rfl ?_
  exact ⟨rfl, H.below⟩
theorem choose_r (W : World) (rd own : Nat → Prop) (p : Nat) (s : SS) (N : Nat) (x : RParts) (h : RAt W rd own p s N x) (hN9 : N ≤ 900) (q : PK) (hq : q.Fits) : Calls Try.prog 30 #[.pointer (some ⟨p, 0, none⟩), pk q] W (DidR W rd own p (s.choose (hashI q.f s.salt) q.prio q.cpu) (N + 1) (fun _ => False) (.tuple #[.int .i64 (s.chooseV (hashI q.f s.salt) q.prio q.cpu), .int .i64 (SS.chooseE q.prio q.cpu)])) := by
  cases hc : cOk q.prio q.cpu with
  | false =>
    refine (choose_no W rd own p s N x h q hc).mono ?_
    rintro e w' ⟨rfl, hb⟩
    refine ⟨?_, ⟨rd, own, x, ?_, fun i hi => .inl hi, fun i hi => .inl hi⟩, Foot.of_below hb⟩
    · rw [SS.chooseV, SS.chooseE, SS.candE, hc]
      rfl
    · rw [SS.choose, hc]
      exact (h.below hb).mono (by omega)
  | true =>
    have hc2 := hc
    simp only [cOk, Bool.and_eq_true, decide_eq_true_eq] at hc2
    obtain ⟨C, hC⟩ := Int.eq_ofNat_of_zero_le hc2.1.2
    have hC64 : C < 64 := by omega
    have hp16 : 0 ≤ q.prio ∧ q.prio < 16 := ⟨hc2.1.1.1, hc2.1.1.2⟩
    have hb := cand_bd h hp16 hC64
    have hq64 : ∀ y, y ∈ s.cand q.prio (C : Int) → I64 y := fun y hy => by
      have := hb.2 y hy
      unfold I64
      omega
    rw [SS.choose, SS.chooseV, SS.chooseE, SS.candE, hc]
    simp only [cond_true]
    have hfe := congrFun h.fl (hashI q.f s.salt)
    rcases Nat.lt_or_ge (fat x.l (hashI q.f s.salt)) x.l.length with hlt | hge
    · obtain ⟨f, hf⟩ : ∃ f, x.l[fat x.l (hashI q.f s.salt)]? = some f := ⟨x.l[fat x.l (hashI q.f s.salt)]'hlt, List.getElem?_eq_getElem _⟩
      rw [(flook_at hf).2] at hfe
      have e1 : s.outN (hashI q.f s.salt) = f.o := by rw [SS.outN, hfe]
      have e2 : s.outQ (hashI q.f s.salt) = f.q := by rw [SS.outQ, hfe]
      by_cases ho : f.o = 0
      · have e3 : s.stays (hashI q.f s.salt) q.prio = false := by
          rw [SS.stays, hfe]
          simp [ho]
        rw [SS.queue, e3, e1, ho, hC]
        exact choose_zero W rd own p s N x h hN9 q hq C hC64 hC hp16 f hf ho hb.1 hq64
      · cases hin : inS (s.spn q.prio) f.q with
        | false =>
          have e3 : s.stays (hashI q.f s.salt) q.prio = false := by
            rw [SS.stays, hfe]
            simp [hin]
          rw [SS.queue, e3, e1, hC]
          exact choose_move W rd own p s N x h hN9 q hq C hC64 hC hp16 f hf ho hin hb.1 hq64
        | true =>
          have e3 : s.stays (hashI q.f s.salt) q.prio = true := by
            rw [SS.stays, hfe]
            simp [hin, ho]
          rw [SS.queue, e3, e1, e2]
          exact choose_stay W rd own p s N x h hN9 q hq C hC64 hC hp16 f hf ho hin hb.1 hq64
    · have hk : fat x.l (hashI q.f s.salt) = x.l.length := by have := fat_le x.l (hashI q.f s.salt); omega
      rw [flook_none hk] at hfe
      have e1 : s.outN (hashI q.f s.salt) = 0 := by rw [SS.outN, hfe]
      have e3 : s.stays (hashI q.f s.salt) q.prio = false := by rw [SS.stays, hfe]
      rw [SS.queue, e3, e1, hC]
      exact choose_new W rd own p s N x h hN9 q hq C hC64 hC hp16 hk hb.1 hq64
theorem done_d (W : World) (rd own : Nat → Prop) (p : Nat) (s : SS) (N : Nat) (x : RParts) (h : RAt W rd own p s N x) (hN : N ≤ 1000) (d : Hs.FV) (hd : d.Fits) : Calls Try.prog 31 #[.pointer (some ⟨p, 0, none⟩), Hs.fv d] W (DidR W rd own p (s.done (hashI d s.salt)) N (fun _ => False) (.int .i64 (s.doneE (hashI d s.salt)))) :=
  (done_r W rd own p s N x h hN d hd).mono fun e w' ⟨h1, ⟨x', h2⟩, h3⟩ => ⟨h1, ⟨rd, own, x', h2, fun i hi => .inl hi, fun i hi => .inl hi⟩, h3⟩
theorem map_d (W : World) (rd own : Nat → Prop) (p : Nat) (s : SS) (N : Nat) (x : RParts) (h : RAt W rd own p s N x) (c : Int) (A : Option Addr) (cap : Nat) (l : List Int) (hcap : l.length ≤ cap) (hcm : cap ≤ maxLen) (hrow : RowI W.heap.size W A l) (hi64 : ∀ y, y ∈ l → I64 y) (hnil : A = none → cap = 0) :
    Calls Try.prog 25 #[.pointer (some ⟨p, 0, none⟩), .int .i64 c, .slice A l.length cap] W (DidR W rd own p (s.map c l) N (fun _ => False) (.int .i64 (s.mapE c l))) := by
  by_cases hno : c < 0 ∨ 64 ≤ c ∨ 64 < l.length
  · refine (map_no W rd own p s N x h c A cap l hno).mono ?_
    rintro e w' ⟨rfl, hb⟩
    have e1 : s.mapOk c l = false := by
      rw [SS.mapOk]
      rcases hno with h1 | h1 | h1
      · rw [decide_eq_false (show ¬ 0 ≤ c by omega)]
        simp
      · rw [decide_eq_false (show ¬ c < 64 by omega)]
        simp
      · rw [decide_eq_false (show ¬ l.length ≤ 64 by omega)]
        simp
    refine ⟨by rw [SS.mapE, e1]; rfl, ⟨rd, own, x, ?_, fun i hi => .inl hi, fun i hi => .inl hi⟩, Foot.of_below hb⟩
    rw [SS.map, e1]
    exact h.below hb
  · obtain ⟨C, rfl⟩ := Int.eq_ofNat_of_zero_le (show 0 ≤ c by omega)
    refine (map_yes W rd own p s N x h C (by omega) A cap l (by omega) hcap hcm hrow hi64 hnil).mono ?_
    rintro e w' ⟨rfl, ⟨rd', x', h2, h3⟩, h4⟩
    exact ⟨rfl, ⟨rd', own, x', h2, fun i hi => (h3 i hi).imp id .inr, fun i hi => .inl hi⟩, h4⟩
theorem table_d (W : World) (rd own : Nat → Prop) (p : Nat) (s : SS) (N : Nat) (x : RParts) (h : RAt W rd own p s N x) (A3 A4 : Option Addr) (c3 c4 : Nat) (t : TB) (ht : TbAt W.heap.size W A3 A4 c3 c4 t) (hb0 : t.right = true → ∀ i, tbS A3 A4 i → ¬ own i) : Calls Try.prog 32 #[.pointer (some ⟨p, 0, none⟩), .agg (tbC A3 A4 c3 c4 t)] W (DidR W rd own p (s.table t) N (fun i => t.right = true ∧ tbS A3 A4 i) (.int .i64 (tabE t))) := by
  cases hr : t.right with
  | false =>
    refine (table_no W rd own p s N x h A3 A4 c3 c4 t ht hr).mono ?_
    rintro e w' ⟨rfl, hb⟩
    refine ⟨by rw [tabE, hr]; rfl, ⟨rd, own, x, ?_, fun i hi => .inl hi, fun i hi => .inl hi⟩, Foot.of_below hb⟩
    rw [SS.table, hr]
    exact h.below hb
  | true =>
    rw [SS.table, tabE, hr]
    refine (table_yes W rd own p s N x h A3 A4 c3 c4 t ht hr (hb0 hr)).mono ?_
    rintro e w' ⟨h1, ⟨rd', own', x', h2, h3, h4⟩, h5⟩
    exact ⟨h1, ⟨rd', own', x', h2, fun i hi => (h3 i hi).imp id fun h => h.imp (fun h => ⟨rfl, h⟩) id, h4⟩, h5⟩
end Go.Proofs.Ytaoaapbbadipfaa
end
/- What the program's steers do, as an interface; the laws' even. Conditions: as the interface says. -/
section
namespace Go.Proofs.Ytaoaapbbadipfaa
set_option linter.unusedSimpArgs false
set_option linter.unusedVariables false
set_option maxRecDepth 100000
open Go.ChangeShapes Go.WideShapes Go.ChangeAt Go.RowKit

/-- a table that is told, of its own blocks -/
def GivesTb (W : World) (t : TB) (e : Ending) (w' : World) : Prop :=
  ∃ A1 A2 c1 c2, e = .returned (.agg (tbC A1 A2 c1 c2 t)) ∧ TbAt w'.heap.size w' A1 A2 c1 c2 t ∧ Below W.heap.size W w' ∧ ∀ i, tbS A1 A2 i → W.heap.size ≤ i
def EvOk (n m : Int) : Prop := 1 ≤ n ∧ n ≤ 64 ∧ 1 ≤ m ∧ m ≤ 16 ∧ m ≤ n
instance (n m : Int) : Decidable (EvOk n m) := by unfold EvOk; infer_instance
/-- the laws' even table -/
def evT (n m : Int) : TB := if EvOk n m then evenT n.toNat m.toNat else evenT 4 1
theorem evT_right (n m : Int) : (evT n m).right = true := by
  unfold evT
  split
  · rename_i h
    unfold EvOk at h
    exact evenT_right (by omega) (by omega)
  · exact evenT_right (by omega) (by omega)
theorem evT_len (n m : Int) : (evT n m).cl.length ≤ 20 ∧ (evT n m).sp.length ≤ 20 := by
  unfold evT
  split
  · rename_i h
    unfold EvOk at h
    constructor <;> simp only [evenT, evenC_len, evenS_len] <;> omega
  · constructor <;> simp only [evenT, evenC_len, evenS_len] <;> omega
set_option maxHeartbeats 2000000 in
theorem even9_r (n m : Int) (w : World) : Calls Try.prog 13 #[.int .i64 n, .int .i64 m] w (GivesTb w (evT n m)) := by
  have H := Mem.start w
  by_cases h : EvOk n m
  · have et : evT n m = evenT n.toNat m.toNat := if_pos h
    unfold EvOk at h
    obtain ⟨Q, rfl⟩ := Int.eq_ofNat_of_zero_le (show 0 ≤ n by omega)
    obtain ⟨C, rfl⟩ := Int.eq_ofNat_of_zero_le (show 0 ≤ m by omega)
    rw [Int.toNat_natCast, Int.toNat_natCast] at et
    rw [et]
    have hQ : 1 ≤ Q ∧ Q ≤ 64 := by omega
    have hC : 1 ≤ C ∧ C ≤ 16 ∧ C ≤ Q := by omega
    clear h et
    go_enter Try.func13, Try.ntmps13
    go_upto_region 1 with (first
    | ((with_reducible show wpList _ _ _ _ _ (World.alloc _ (.cells _ _))); refine mem_newb H ?_; intro br w3 hbk H2; try rw [← hbk]; clear hbk H; have H := H2; clear H2; simp only [List.cons_append, List.nil_append, List.set_cons_zero, List.set_cons_succ, List.setIfInBounds_toArray] at H))
    go_upto_region 4 with (first
    | go_skip
    | (go_at_call 29; refine (even_fresh Q C hQ hC _).mono ?_; rintro e w4 ⟨A1, A2, c1, c2, rfl, T0, hb, hf1, hf2⟩; have HH := Lib.hid (H.call hb); have T := Lib.hid (And.intro T0 (fun i (hi : tbS A1 A2 i) => Nat.le_trans H.below.size (hi.elim (fun ⟨o, m, e⟩ => hf1 i o m e) (fun ⟨o, m, e⟩ => hf2 i o m e)))); have TB := Lib.hid (fun i (hi : tbS A1 A2 i) => Nat.lt_of_lt_of_le (H.at 0 rfl).lt (hi.elim (fun ⟨o, m, e⟩ => hf1 i o m e) (fun ⟨o, m, e⟩ => hf2 i o m e))); clear H hb hf1 hf2 T0; have H := Mem.start w4)
    | ((with_reducible show wpList _ _ _ _ _ (World.alloc _ (.cells _ _))); refine mem_new H ?_; intro w2 H2; clear H; have H := H2; clear H2; simp only [List.cons_append, List.nil_append, List.set_cons_zero, List.set_cons_succ, List.setIfInBounds_toArray] at H)
    | ((with_reducible show wpList _ _ _ (⟨_, .store 32 _ _, _, _, _, _⟩ :: _) _ _); refine mem_store (i := 0) H (by first | exact wanted_none rfl | exact wanted_some rfl rfl rfl rfl) (by exact rfl) (by exact rfl) (by exact rfl) (by exact rfl) (by exact tbInfo) (by exact rfl) (by exact rfl) ?_; intro w2 H2; clear H; have H := H2; clear H2; simp only [List.cons_append, List.nil_append, List.set_cons_zero, List.set_cons_succ, List.setIfInBounds_toArray] at H))
    have T5 := Lib.hid (T.out.1.mem H)
    have H6 := HH.out.join H
    clear H
    have H := H6
    clear H6
    simp only [List.cons_append, List.nil_append] at H
    go_wp2_with (first
    | ((with_reducible show wpList _ _ _ (⟨_, .load 32 _, _, _, _, _⟩ :: _) _ _); refine mem_load (i := 1) H (by first | exact wanted_none rfl | exact wanted_some rfl rfl rfl rfl) (by exact rfl) (by exact rfl) (by exact rfl) Try.underlying32 rfl (by exact tbInfo) ?_)
    | ((with_reducible show wpList _ _ _ (⟨_, .store 32 _ _, _, _, _, _⟩ :: _) _ _); refine mem_storeF (i := 0) H (by first | exact wanted_none rfl | exact wanted_some rfl rfl rfl rfl) (by exact rfl) (by exact rfl) (by exact rfl) (by exact rfl) (by exact tbInfo) (by exact rfl) (by exact rfl) ?_; intro w7 H7 F7; clear H; have H := H7; clear H7; simp only [List.cons_append, List.nil_append, List.set_cons_zero, List.set_cons_succ, List.setIfInBounds_toArray] at H))
    refine ret_held (H.at 0 rfl) rfl rfl Try.underlying32 rfl tbInfo ?_
    have hs := F7.size
    exact ⟨A1, A2, c1, c2, rfl, T5.out.on (fun i hi => F7.block i (tbS_lt T5.out (evenT_right hQ hC) i hi) (fun e => by have := TB.out i hi; omega)) hs, H.below, T.out.2⟩

  · have et : evT n m = evenT 4 1 := if_neg h
    rw [et]
    unfold EvOk at h
    have k1 := fun w => even_no n m h w
    clear h et
    go_enter Try.func13, Try.ntmps13
    go_upto_region 1 with (first
    | ((with_reducible show wpList _ _ _ _ _ (World.alloc _ (.cells _ _))); refine mem_newb H ?_; intro br w3 hbk H2; try rw [← hbk]; clear hbk H; have H := H2; clear H2; simp only [List.cons_append, List.nil_append, List.set_cons_zero, List.set_cons_succ, List.setIfInBounds_toArray] at H))
    go_upto_region 3 with (first
    | go_skip
    | (go_at_call 29; with_reducible refine (k1 _).mono ?_; rintro e w2 ⟨rfl, hb⟩; have H2 := H.call hb; clear H hb; have H := H2; clear H2)
    | ((with_reducible show wpList _ _ _ _ _ (World.alloc _ (.cells _ _))); refine mem_new H ?_; intro w2 H2; clear H; have H := H2; clear H2; simp only [List.cons_append, List.nil_append, List.set_cons_zero, List.set_cons_succ, List.setIfInBounds_toArray] at H)
    | ((with_reducible show wpList _ _ _ (⟨_, .store 32 _ _, _, _, _, _⟩ :: _) _ _); refine mem_store (i := 1) H (by first | exact wanted_none rfl | exact wanted_some rfl rfl rfl rfl) (by exact rfl) (by exact rfl) (by exact rfl) (by exact rfl) (by exact tbInfo) (by exact rfl) (by exact rfl) ?_; intro w2 H2; clear H; have H := H2; clear H2; simp only [List.cons_append, List.nil_append, List.set_cons_zero, List.set_cons_succ, List.setIfInBounds_toArray] at H))
    go_upto_region 4 with (first
    | (go_at_call 29; refine (even_fresh 4 1 (by omega) (by omega) _).mono ?_; rintro e w4 ⟨A1, A2, c1, c2, rfl, T0, hb, hf1, hf2⟩; have HH := H.call hb; have T := Lib.hid (And.intro T0 (fun i (hi : tbS A1 A2 i) => Nat.le_trans H.below.size (hi.elim (fun ⟨o, m, e⟩ => hf1 i o m e) (fun ⟨o, m, e⟩ => hf2 i o m e)))); have TB := Lib.hid (fun i (hi : tbS A1 A2 i) => And.intro (Nat.lt_of_lt_of_le (H.at 0 rfl).lt (hi.elim (fun ⟨o, m, e⟩ => hf1 i o m e) (fun ⟨o, m, e⟩ => hf2 i o m e))) (Nat.lt_of_lt_of_le (H.at 1 rfl).lt (hi.elim (fun ⟨o, m, e⟩ => hf1 i o m e) (fun ⟨o, m, e⟩ => hf2 i o m e)))); clear H hb hf1 hf2 T0; have H := HH; clear HH)
    | ((with_reducible show wpList _ _ _ (⟨_, .store 32 _ _, _, _, _, _⟩ :: _) _ _); refine mem_storeF (i := 1) H (by first | exact wanted_none rfl | exact wanted_some rfl rfl rfl rfl) (by exact rfl) (by exact rfl) (by exact rfl) (by exact rfl) (by exact tbInfo) (by exact rfl) (by exact rfl) ?_; intro w7 H7 F8; clear H; have H := H7; clear H7; simp only [List.cons_append, List.nil_append, List.set_cons_zero, List.set_cons_succ, List.setIfInBounds_toArray] at H))
    go_wp2_with (first
    | ((with_reducible show wpList _ _ _ (⟨_, .load 32 _, _, _, _, _⟩ :: _) _ _); refine mem_load (i := 1) H (by first | exact wanted_none rfl | exact wanted_some rfl rfl rfl rfl) (by exact rfl) (by exact rfl) (by exact rfl) Try.underlying32 rfl (by exact tbInfo) ?_)
    | ((with_reducible show wpList _ _ _ (⟨_, .store 32 _ _, _, _, _, _⟩ :: _) _ _); refine mem_storeF (i := 0) H (by first | exact wanted_none rfl | exact wanted_some rfl rfl rfl rfl) (by exact rfl) (by exact rfl) (by exact rfl) (by exact rfl) (by exact tbInfo) (by exact rfl) (by exact rfl) ?_; intro w7 H7 F7; clear H; have H := H7; clear H7; simp only [List.cons_append, List.nil_append, List.set_cons_zero, List.set_cons_succ, List.setIfInBounds_toArray] at H))
    refine ret_held (H.at 0 rfl) rfl rfl Try.underlying32 rfl tbInfo ?_
    have hs := F7.size
    have hs8 := F8.size
    have T8 := T.out.1.on (fun i hi => F8.block i (tbS_lt T.out.1 (evenT_right (by omega) (by omega)) i hi) (fun e => by have := (TB.out i hi).2; omega)) hs8
    exact ⟨A1, A2, c1, c2, rfl, T8.on (fun i hi => F7.block i (tbS_lt T8 (evenT_right (by omega) (by omega)) i hi) (fun e => by have := (TB.out i hi).1; omega)) hs, H.below, T.out.2⟩

/-- two steers, apart: what they read, what they own; of their own all is new since B -/
structure Sep (B : Nat) (W : World) (rd own rd2 own2 : Nat → Prop) : Prop where
  h1 : ∀ i, rd i → ¬ own2 i
  h2 : ∀ i, rd2 i → ¬ own i
  b1 : ∀ i, own i → B ≤ i
  b2 : ∀ i, own2 i → B ≤ i
  l1 : ∀ i, rd i → i < W.heap.size
  l2 : ∀ i, rd2 i → i < W.heap.size
  o1 : ∀ i, own i → rd i
  o2 : ∀ i, own2 i → rd2 i
theorem Sep.symm {B : Nat} {W : World} {rd own rd2 own2 : Nat → Prop} (h : Sep B W rd own rd2 own2) : Sep B W rd2 own2 rd own := ⟨h.h2, h.h1, h.b2, h.b1, h.l2, h.l1, h.o2, h.o1⟩
theorem Sep.left {B : Nat} {W W' : World} {rd own rd2 own2 rd' own' S : Nat → Prop} (h : Sep B W rd own rd2 own2) (hB : B ≤ W.heap.size) (hr : ∀ i, rd' i → rd i ∨ S i ∨ W.heap.size ≤ i) (ho : ∀ i, own' i → own i ∨ W.heap.size ≤ i) (hS : ∀ i, S i → ¬ own2 i) (hl : ∀ i, rd' i → i < W'.heap.size) (hor : ∀ i, own' i → rd' i) (hF : Foot own W W') :
    Sep B W' rd' own' rd2 own2 ∧ ∀ i, rd2 i → W'.heap[i]? = W.heap[i]? := by
  refine ⟨⟨fun i hi h2 => ?_, fun i hi h2 => ?_, fun i hi => ?_, h.b2, hl, fun i hi => Nat.lt_of_lt_of_le (h.l2 i hi) hF.size, hor, h.o2⟩, fun i hi => hF.block i (h.l2 i hi) (h.h2 i hi)⟩
  · rcases hr i hi with h3 | h3 | h3
    · exact h.h1 i h3 h2
    · exact hS i h3 h2
    · have := h.l2 i (h.o2 i h2)
      omega
  · rcases ho i h2 with h3 | h3
    · exact h.h2 i hi h3
    · have := h.l2 i hi
      omega
  · rcases ho i hi with h3 | h3
    · exact h.b1 i h3
    · omega
theorem Sep.below {B : Nat} {W W' : World} {rd own rd2 own2 : Nat → Prop} (h : Sep B W rd own rd2 own2) (hb : Below W.heap.size W W') : Sep B W' rd own rd2 own2 :=
  { h with l1 := fun i hi => Nat.lt_of_lt_of_le (h.l1 i hi) hb.size, l2 := fun i hi => Nat.lt_of_lt_of_le (h.l2 i hi) hb.size }
abbrev PT := World → (Nat → Prop) → (Nat → Prop) → Nat → SS → Nat → Prop
/-- what New gives -/
def NewG (PAt : PT) (W : World) (A1 A2 : Option Addr) (t : TB) (salt : Int) (e : Ending) (w' : World) : Prop :=
  ∃ p rd own, e = .returned (.tuple #[.pointer (some ⟨p, 0, none⟩), .int .i64 0]) ∧ PAt w' rd own p (SS.new t salt) 0 ∧ Below W.heap.size W w' ∧ (∀ i, own i → W.heap.size ≤ i) ∧ (∀ i, rd i → tbS A1 A2 i ∨ W.heap.size ≤ i)
/-- what a method that changes a steer does -/
def DidG (PAt : PT) (W : World) (rd own : Nat → Prop) (p : Nat) (s' : SS) (N : Nat) (S : Nat → Prop) (v : Value) (e : Ending) (w' : World) : Prop :=
  e = .returned v ∧ (∃ rd' own', PAt w' rd' own' p s' N ∧ (∀ i, rd' i → rd i ∨ S i ∨ W.heap.size ≤ i) ∧ (∀ i, own' i → own i ∨ W.heap.size ≤ i)) ∧ Foot own W w'
/-- what Candidates gives -/
def GivesSl (W : World) (rd own : Nat → Prop) (l : List Int) (E : Int) (e : Ending) (w' : World) : Prop :=
  ∃ v, e = .returned (.tuple #[v, .int .i64 E]) ∧ SlI w'.heap.size w' v l ∧ (∀ i, blk v i → ((rd i ∧ ¬ own i) ∨ W.heap.size ≤ i) ∧ i < w'.heap.size) ∧ Below W.heap.size W w'
/-- what the program's steers do; PAt says that one lies at a block -/
structure PSteer (PAt : PT) : Prop where
  on : ∀ {W W' : World} {rd own : Nat → Prop} {p : Nat} {s : SS} {N : Nat}, PAt W rd own p s N → (∀ i, rd i → W'.heap[i]? = W.heap[i]?) → W.heap.size ≤ W'.heap.size → PAt W' rd own p s N
  lt : ∀ {W : World} {rd own : Nat → Prop} {p : Nat} {s : SS} {N : Nat}, PAt W rd own p s N → ∀ i, rd i → i < W.heap.size
  sub : ∀ {W : World} {rd own : Nat → Prop} {p : Nat} {s : SS} {N : Nat}, PAt W rd own p s N → ∀ i, own i → rd i
  ok : ∀ {W : World} {rd own : Nat → Prop} {p : Nat} {s : SS} {N : Nat}, PAt W rd own p s N → s.t.right = true ∧ (0 ≤ s.salt ∧ s.salt ≤ 4294967295) ∧ (∀ c, c < 64 → (s.maps c).length ≤ 64 ∧ ∀ q, q ∈ s.maps c → 0 ≤ q ∧ q < 64) ∧ ∀ n q o, s.fl n = some (q, o) → I64 q ∧ 0 ≤ o ∧ o ≤ N
  new_no : ∀ (A1 A2 : Option Addr) (c1 c2 : Nat) (t : TB) (salt : Int) (W : World), TbAt W.heap.size W A1 A2 c1 c2 t → (t.cl.length ≤ 20 ∧ t.sp.length ≤ 20) → t.right = false → Calls Try.prog 12 #[.agg (tbC A1 A2 c1 c2 t), .int .u32 salt] W fun e w' => e = .returned (.tuple #[.pointer none, .int .i64 80]) ∧ Below W.heap.size W w'
  new_yes : ∀ (A1 A2 : Option Addr) (c1 c2 : Nat) (t : TB) (salt : Int) (W : World), (0 ≤ salt ∧ salt ≤ 4294967295) → TbAt W.heap.size W A1 A2 c1 c2 t → t.right = true → Calls Try.prog 12 #[.agg (tbC A1 A2 c1 c2 t), .int .u32 salt] W (NewG PAt W A1 A2 t salt)
  choose : ∀ (W : World) (rd own : Nat → Prop) (p : Nat) (s : SS) (N : Nat), PAt W rd own p s N → N ≤ 900 → ∀ q : PK, q.Fits → Calls Try.prog 19 #[.pointer (some ⟨p, 0, none⟩), pk q] W (DidG PAt W rd own p (s.choose (hashI q.f s.salt) q.prio q.cpu) (N + 1) (fun _ => False) (.tuple #[.int .i64 (s.chooseV (hashI q.f s.salt) q.prio q.cpu), .int .i64 (SS.chooseE q.prio q.cpu)]))
  done : ∀ (W : World) (rd own : Nat → Prop) (p : Nat) (s : SS) (N : Nat), PAt W rd own p s N → N ≤ 1000 → ∀ d : Hs.FV, d.Fits → Calls Try.prog 22 #[.pointer (some ⟨p, 0, none⟩), Hs.fv d] W (DidG PAt W rd own p (s.done (hashI d s.salt)) N (fun _ => False) (.int .i64 (s.doneE (hashI d s.salt))))
  map : ∀ (W : World) (rd own : Nat → Prop) (p : Nat) (s : SS) (N : Nat), PAt W rd own p s N → ∀ (c : Int) (A : Option Addr) (cap : Nat) (l : List Int), I64 c → l.length ≤ 70 → l.length ≤ cap → cap ≤ maxLen → RowI W.heap.size W A l → (∀ y, y ∈ l → I64 y) → (A = none → cap = 0) → Calls Try.prog 21 #[.pointer (some ⟨p, 0, none⟩), .int .i64 c, .slice A l.length cap] W (DidG PAt W rd own p (s.map c l) N (fun _ => False) (.int .i64 (s.mapE c l)))
  table : ∀ (W : World) (rd own : Nat → Prop) (p : Nat) (s : SS) (N : Nat), PAt W rd own p s N → ∀ (A3 A4 : Option Addr) (c3 c4 : Nat) (t : TB), TbAt W.heap.size W A3 A4 c3 c4 t → (t.cl.length ≤ 20 ∧ t.sp.length ≤ 20) → (t.right = true → ∀ i, tbS A3 A4 i → ¬ own i) → Calls Try.prog 23 #[.pointer (some ⟨p, 0, none⟩), .agg (tbC A3 A4 c3 c4 t)] W (DidG PAt W rd own p (s.table t) N (fun i => t.right = true ∧ tbS A3 A4 i) (.int .i64 (tabE t)))
  cand : ∀ (W : World) (rd own : Nat → Prop) (p : Nat) (s : SS) (N : Nat), PAt W rd own p s N → ∀ pr c : Int, I64 pr → I64 c → Calls Try.prog 20 #[.pointer (some ⟨p, 0, none⟩), .int .i64 pr, .int .i64 c] W (GivesSl W rd own (s.candV pr c) (SS.candE pr c))
  out : ∀ (W : World) (rd own : Nat → Prop) (p : Nat) (s : SS) (N : Nat), PAt W rd own p s N → N ≤ 1000 → ∀ d : Hs.FV, d.Fits → Calls Try.prog 16 #[.pointer (some ⟨p, 0, none⟩), Hs.fv d] W fun e w' => e = .returned (.tuple #[.int .i64 (s.outQ (hashI d s.salt)), .int .i64 (s.outN (hashI d s.salt))]) ∧ Below W.heap.size W w'
  nil_choose : ∀ (q : PK) (W : World), q.Fits → Calls Try.prog 19 #[.pointer none, pk q] W fun e w' => (∃ a, e = .returned (.tuple #[.int .i64 a, .int .i64 1])) ∧ Below W.heap.size W w'
  nil_cand : ∀ (pr c : Int) (W : World), Calls Try.prog 20 #[.pointer none, .int .i64 pr, .int .i64 c] W fun e w' => (∃ v, e = .returned (.tuple #[v, .int .i64 1])) ∧ Below W.heap.size W w'
  nil_out : ∀ (d : Hs.FV) (W : World), d.Fits → Calls Try.prog 16 #[.pointer none, Hs.fv d] W fun e w' => e = .returned (.tuple #[.int .i64 (-1), .int .i64 0]) ∧ Below W.heap.size W w'
  nil_done : ∀ (d : Hs.FV) (W : World), d.Fits → Calls Try.prog 22 #[.pointer none, Hs.fv d] W fun e w' => e = .returned (.int .i64 1) ∧ Below W.heap.size W w'
  nil_map : ∀ W : World, Calls Try.prog 21 #[.pointer none, .int .i64 0, .slice none 0 0] W fun e w' => e = .returned (.int .i64 1) ∧ Below W.heap.size W w'
  nil_table : ∀ (A1 A2 : Option Addr) (c1 c2 : Nat) (t : TB) (W : World), TbAt W.heap.size W A1 A2 c1 c2 t → Calls Try.prog 23 #[.pointer none, .agg (tbC A1 A2 c1 c2 t)] W fun e w' => e = .returned (.int .i64 1) ∧ Below W.heap.size W w'
end Go.Proofs.Ytaoaapbbadipfaa
end
/- A law's state: two steers that lie apart, what the law itself holds. Conditions: as the interface says. -/
section
namespace Go.Proofs.Ytaoaapbbadipfaa
set_option linter.unusedSimpArgs false
set_option linter.unusedVariables false
set_option maxRecDepth 100000
open Go.ChangeShapes Go.WideShapes Go.ChangeAt Go.RowKit

/-- what lies somewhere stays, if what it reads stays -/
structure PtOk (P : PT) : Prop where
  on : ∀ {W W' : World} {rd own : Nat → Prop} {p : Nat} {s : SS} {N : Nat}, P W rd own p s N → (∀ i, rd i → W'.heap[i]? = W.heap[i]?) → W.heap.size ≤ W'.heap.size → P W' rd own p s N
  lt : ∀ {W : World} {rd own : Nat → Prop} {p : Nat} {s : SS} {N : Nat}, P W rd own p s N → ∀ i, rd i → i < W.heap.size
  sub : ∀ {W : World} {rd own : Nat → Prop} {p : Nat} {s : SS} {N : Nat}, P W rd own p s N → ∀ i, own i → rd i
theorem PSteer.pt {P : PT} (h : PSteer P) : PtOk P := ⟨h.on, h.lt, h.sub⟩
/-- no steer -/
def NoT : PT := fun _ rd own _ _ _ => (∀ i, ¬ rd i) ∧ ∀ i, ¬ own i
theorem NoT.pt : PtOk NoT := ⟨fun h _ _ => h, fun h i hi => absurd hi (h.1 i), fun h i hi => absurd hi (h.2 i)⟩
/-- the document's -/
def RT : PT := fun W rd own p s N => ∃ x, RAt W rd own p s N x
theorem RT.pt : PtOk RT := ⟨fun ⟨x, h⟩ h1 h2 => ⟨x, h.on h1 h2⟩, fun ⟨x, h⟩ i hi => h.lt i hi, fun ⟨x, h⟩ i hi => h.or i hi⟩
theorem RT.of {W W' : World} {rd own : Nat → Prop} {p : Nat} {s : SS} {N : Nat} {S : Nat → Prop} {v : Value} {e : Ending} (h : DidR W rd own p s N S v e W') : DidG RT W rd own p s N S v e W' := by
  obtain ⟨h1, ⟨rd', own', x', h2, h3, h4⟩, h5⟩ := h
  exact ⟨h1, ⟨rd', own', ⟨x', h2⟩, h3, h4⟩, h5⟩
theorem RT.new {W : World} {A1 A2 : Option Addr} {t : TB} {salt : Int} {e : Ending} {w' : World} (h : NewR W A1 A2 t salt e w') : NewG RT W A1 A2 t salt e w' := by
  obtain ⟨p, rd, own, x, h1, h2, h3, h4, h5⟩ := h
  exact ⟨p, rd, own, h1, ⟨x, h2⟩, h3, h4, h5⟩
/-- what a law holds: it stays as long as the blocks T stay -/
def Kept (T : Nat → Prop) (K : World → Prop) : Prop := ∀ X Y : World, K X → X.heap.size ≤ Y.heap.size → (∀ i, T i → Y.heap[i]? = X.heap[i]?) → K Y
structure St0 (P1 P2 : PT) (W0 W : World) (T : Nat → Prop) (K : World → Prop) (p1 : Nat) (s1 : SS) (N1 : Nat) (p2 : Nat) (s2 : SS) (N2 : Nat) (rd own rd2 own2 : Nat → Prop) : Prop where
  a1 : P1 W rd own p1 s1 N1
  a2 : P2 W rd2 own2 p2 s2 N2
  sep : Sep W0.heap.size W rd own rd2 own2
  below : Below W0.heap.size W0 W
  free : ∀ i, T i → i < W.heap.size ∧ ¬ own i ∧ ¬ own2 i
  keep : K W
def St (P1 P2 : PT) (W0 W : World) (T : Nat → Prop) (K : World → Prop) (p1 : Nat) (s1 : SS) (N1 : Nat) (p2 : Nat) (s2 : SS) (N2 : Nat) : Prop := ∃ rd own rd2 own2, St0 P1 P2 W0 W T K p1 s1 N1 p2 s2 N2 rd own rd2 own2
section
variable {P1 P2 : PT} {W0 W W' : World} {T T' : Nat → Prop} {K K' : World → Prop} {p1 N1 p2 N2 : Nat} {s1 s2 : SS}
theorem St.symm (h : St P1 P2 W0 W T K p1 s1 N1 p2 s2 N2) : St P2 P1 W0 W T K p2 s2 N2 p1 s1 N1 := by
  obtain ⟨rd, own, rd2, own2, h⟩ := h
  exact ⟨rd2, own2, rd, own, h.a2, h.a1, h.sep.symm, h.below, fun i hi => ⟨(h.free i hi).1, (h.free i hi).2.2, (h.free i hi).2.1⟩, h.keep⟩
theorem St.le (h : St P1 P2 W0 W T K p1 s1 N1 p2 s2 N2) : W0.heap.size ≤ W.heap.size := by
  obtain ⟨rd, own, rd2, own2, h⟩ := h
  exact h.below.size
theorem St.bel (h : St P1 P2 W0 W T K p1 s1 N1 p2 s2 N2) : Below W0.heap.size W0 W := by
  obtain ⟨rd, own, rd2, own2, h⟩ := h
  exact h.below
theorem St.kp (h : St P1 P2 W0 W T K p1 s1 N1 p2 s2 N2) : K W := by
  obtain ⟨rd, own, rd2, own2, h⟩ := h
  exact h.keep
/-- what is new is the law's own -/
theorem St.grow (o1 : PtOk P1) (o2 : PtOk P2) (h : St P1 P2 W0 W T K p1 s1 N1 p2 s2 N2) (hb : Below W.heap.size W W') (hT : ∀ i, T' i → T i ∨ (W.heap.size ≤ i ∧ i < W'.heap.size)) (hK : K' W') : St P1 P2 W0 W' T' K' p1 s1 N1 p2 s2 N2 := by
  obtain ⟨rd, own, rd2, own2, h⟩ := h
  refine ⟨rd, own, rd2, own2, o1.on h.a1 (fun i hi => hb.block i (h.sep.l1 i hi)) hb.size, o2.on h.a2 (fun i hi => hb.block i (h.sep.l2 i hi)) hb.size, h.sep.below hb, h.below.trans (hb.mono h.below.size), fun i hi => ?_, hK⟩
  rcases hT i hi with h1 | h1
  · exact ⟨Nat.lt_of_lt_of_le (h.free i h1).1 hb.size, (h.free i h1).2⟩
  · refine ⟨h1.2, fun h2 => ?_, fun h2 => ?_⟩
    · have := h.sep.l1 i (h.sep.o1 i h2)
      omega
    · have := h.sep.l2 i (h.sep.o2 i h2)
      omega
theorem St.on (o1 : PtOk P1) (o2 : PtOk P2) (hk : Kept T K) (h : St P1 P2 W0 W T K p1 s1 N1 p2 s2 N2) (hb : Below W.heap.size W W') : St P1 P2 W0 W' T K p1 s1 N1 p2 s2 N2 := by
  refine h.grow o1 o2 hb (fun i hi => .inl hi) ?_
  obtain ⟨rd, own, rd2, own2, h⟩ := h
  exact hk W W' h.keep hb.size fun i hi => hb.block i (h.free i hi).1
/-- .. a box that was laid, and is kept from now on -/
theorem St.box (o1 : PtOk P1) (o2 : PtOk P2) (hk : Kept T K) (h : St P1 P2 W0 W T K p1 s1 N1 p2 s2 N2) {b : Nat} {t : TypeId} {cs : Array Value} (H : Mem W W' [(b, t, cs)]) : St P1 P2 W0 W' (fun i => T i ∨ i = b) (fun X => K X ∧ Held X b t cs) p1 s1 N1 p2 s2 N2 := by
  have g := H.held _ List.mem_cons_self
  refine h.grow o1 o2 H.below (fun i hi => hi.imp id fun e => ?_) ⟨?_, g.2⟩
  · subst e
    exact ⟨g.1, g.2.lt⟩
  · obtain ⟨rd, own, rd2, own2, h⟩ := h
    exact hk W W' h.keep H.below.size fun i hi => H.below.block i (h.free i hi).1
theorem Kept.box (hk : Kept T K) (b : Nat) (t : TypeId) (cs : Array Value) : Kept (fun i => T i ∨ i = b) (fun X => K X ∧ Held X b t cs) := fun X Y h hs hb =>
  ⟨hk X Y h.1 hs fun i hi => hb i (.inl hi), (hb b (.inr rfl)).trans h.2⟩
theorem Kept.no (T : Nat → Prop) : Kept T (fun _ => True) := fun _ _ _ _ _ => trivial
/-- a call that changes the first of them -/
theorem St.step (o1 : PtOk P1) (o2 : PtOk P2) (hk : Kept T K) (h : St P1 P2 W0 W T K p1 s1 N1 p2 s2 N2) {f : Nat} {args : Array Value} {s' : SS} {N' : Nat} {S : Nat → Prop} {v : Value} (hS : ∀ i, S i → T i)
    (hc : ∀ rd own, P1 W rd own p1 s1 N1 → (∀ i, S i → ¬ own i) → Calls Try.prog f args W (DidG P1 W rd own p1 s' N' S v)) : Calls Try.prog f args W fun e w' => e = .returned v ∧ St P1 P2 W0 w' T K p1 s' N' p2 s2 N2 := by
  obtain ⟨rd, own, rd2, own2, h⟩ := h
  refine (hc rd own h.a1 fun i hi => (h.free i (hS i hi)).2.1).mono ?_
  rintro e w' ⟨rfl, ⟨rd', own', a, hr, ho⟩, hF⟩
  obtain ⟨hs, h2⟩ := h.sep.left h.below.size hr ho (fun i hi => (h.free i (hS i hi)).2.2) (o1.lt a) (o1.sub a) hF
  have hb : Below W0.heap.size W0 w' := ⟨hF.os.trans h.below.os, hF.tape.trans h.below.tape, hF.output.trans h.below.output, Nat.le_trans h.below.size hF.size, fun i hi => (hF.block i (Nat.lt_of_lt_of_le hi h.below.size) (fun e => by have := h.sep.b1 i e; omega)).trans (h.below.block i hi)⟩
  have hT : ∀ i, T i → w'.heap[i]? = W.heap[i]? := fun i hi => hF.block i (h.free i hi).1 (h.free i hi).2.1
  refine ⟨rfl, rd', own', rd2, own2, a, o2.on h.a2 h2 hF.size, hs, hb, fun i hi => ?_, hk W w' h.keep hF.size hT⟩
  have hf := h.free i hi
  refine ⟨Nat.lt_of_lt_of_le hf.1 hF.size, fun e => ?_, hf.2.2⟩
  rcases ho i e with e | e
  · exact hf.2.1 e
  · omega
/-- a call that changes none -/
theorem St.ask (o1 : PtOk P1) (o2 : PtOk P2) (hk : Kept T K) (h : St P1 P2 W0 W T K p1 s1 N1 p2 s2 N2) {f : Nat} {args : Array Value} {v : Value}
    (hc : ∀ rd own, P1 W rd own p1 s1 N1 → Calls Try.prog f args W fun e w' => e = .returned v ∧ Below W.heap.size W w') : Calls Try.prog f args W fun e w' => e = .returned v ∧ St P1 P2 W0 w' T K p1 s1 N1 p2 s2 N2 := by
  have hh := h
  obtain ⟨rd, own, rd2, own2, h⟩ := h
  refine (hc rd own h.a1).mono ?_
  rintro e w' ⟨rfl, hb⟩
  exact ⟨rfl, hh.on o1 o2 hk hb⟩
/-- a call that tells a list: it is kept from now on -/
def CandP (P1 P2 : PT) (W0 : World) (T : Nat → Prop) (K : World → Prop) (p1 : Nat) (s1 : SS) (N1 : Nat) (p2 : Nat) (s2 : SS) (N2 : Nat) (l : List Int) (E : Int) (e : Ending) (w' : World) : Prop :=
  ∃ v, e = .returned (.tuple #[v, .int .i64 E]) ∧ St P1 P2 W0 w' (fun i => T i ∨ blk v i) (fun X => K X ∧ SlI X.heap.size X v l) p1 s1 N1 p2 s2 N2
theorem Kept.sl (hk : Kept T K) (v : Value) (l : List Int) : Kept (fun i => T i ∨ blk v i) (fun X => K X ∧ SlI X.heap.size X v l) := fun X Y h hs hb =>
  ⟨hk X Y h.1 hs fun i hi => hb i (.inl hi), h.2.on (fun i hi => hb i (.inr hi)) hs⟩
end
end Go.Proofs.Ytaoaapbbadipfaa
end
/- The methods of both steers, on a law's state. Conditions: as the interface says. -/
section
namespace Go.Proofs.Ytaoaapbbadipfaa
set_option linter.unusedSimpArgs false
set_option linter.unusedVariables false
set_option maxRecDepth 100000
open Go.ChangeShapes Go.WideShapes Go.ChangeAt Go.RowKit

section
variable {P1 P2 : PT} {W0 W W' : World} {T T' : Nat → Prop} {K K' : World → Prop} {p1 N1 p2 N2 : Nat} {s1 s2 : SS}
theorem St.tell (o1 : PtOk P1) (o2 : PtOk P2) (hk : Kept T K) (h : St P1 P2 W0 W T K p1 s1 N1 p2 s2 N2) {f : Nat} {args : Array Value} {l : List Int} {E : Int}
    (hc : ∀ rd own, P1 W rd own p1 s1 N1 → Calls Try.prog f args W (GivesSl W rd own l E)) : Calls Try.prog f args W (CandP P1 P2 W0 T K p1 s1 N1 p2 s2 N2 l E) := by
  obtain ⟨rd, own, rd2, own2, h⟩ := h
  refine (hc rd own h.a1).mono ?_
  rintro e w' ⟨v, rfl, hv, hbv, hb⟩
  have hlt : ∀ i, rd i → w'.heap[i]? = W.heap[i]? := fun i hi => hb.block i (h.sep.l1 i hi)
  refine ⟨v, rfl, rd, own, rd2, own2, o1.on h.a1 hlt hb.size, o2.on h.a2 (fun i hi => hb.block i (h.sep.l2 i hi)) hb.size, h.sep.below hb, h.below.trans (hb.mono h.below.size), fun i hi => ?_, hk W w' h.keep hb.size fun i hi => hb.block i (h.free i hi).1, hv⟩
  rcases hi with hi | hi
  · exact ⟨Nat.lt_of_lt_of_le (h.free i hi).1 hb.size, (h.free i hi).2⟩
  · obtain ⟨h1, h2⟩ := hbv i hi
    rcases h1 with ⟨h1, h3⟩ | h1
    · exact ⟨h2, h3, h.sep.h1 i h1⟩
    · refine ⟨h2, fun e => ?_, fun e => ?_⟩
      · have := h.sep.l1 i (h.sep.o1 i e)
        omega
      · have := h.sep.l2 i (h.sep.o2 i e)
        omega
/-- no steers at all -/
theorem St.start (W : World) (s : SS) : St NoT NoT W W (fun i => i < W.heap.size) (fun _ => True) 0 s 0 0 s 0 :=
  ⟨fun _ => False, fun _ => False, fun _ => False, fun _ => False, ⟨fun _ h => h, fun _ h => h⟩, ⟨fun _ h => h, fun _ h => h⟩, ⟨fun _ h => h.elim, fun _ h => h.elim, fun _ h => h.elim, fun _ h => h.elim, fun _ h => h.elim, fun _ h => h.elim, fun _ h => h, fun _ h => h⟩, Below.refl _ _, fun i hi => ⟨hi, fun h => h, fun h => h⟩, trivial⟩
/-- what New gives, on a law's state -/
def NewS (P1 P2 : PT) (W0 : World) (T : Nat → Prop) (K : World → Prop) (s : SS) (p2 : Nat) (s2 : SS) (N2 : Nat) (e : Ending) (w' : World) : Prop :=
  ∃ p, e = .returned (.tuple #[.pointer (some ⟨p, 0, none⟩), .int .i64 0]) ∧ St P1 P2 W0 w' T K p s 0 p2 s2 N2
theorem St.newG (o1 : PtOk P1) (o2 : PtOk P2) (hk : Kept T K) (h : St NoT P2 W0 W T K p1 s1 N1 p2 s2 N2) {A1 A2 : Option Addr} {t : TB} {salt : Int} (hT : ∀ i, tbS A1 A2 i → T i) {f : Nat} {args : Array Value}
    (hc : Calls Try.prog f args W (NewG P1 W A1 A2 t salt)) : Calls Try.prog f args W (NewS P1 P2 W0 T K (SS.new t salt) p2 s2 N2) := by
  obtain ⟨rd0, own0, rd2, own2, h⟩ := h
  refine hc.mono ?_
  rintro e w' ⟨p, rd, own, rfl, a, hb, ho, hr⟩
  refine ⟨p, rfl, rd, own, rd2, own2, a, o2.on h.a2 (fun i hi => hb.block i (h.sep.l2 i hi)) hb.size, ⟨fun i hi h2 => ?_, fun i hi h2 => ?_, fun i hi => Nat.le_trans h.below.size (ho i hi), h.sep.b2, o1.lt a, fun i hi => Nat.lt_of_lt_of_le (h.sep.l2 i hi) hb.size, o1.sub a, h.sep.o2⟩, h.below.trans (hb.mono h.below.size), fun i hi => ⟨Nat.lt_of_lt_of_le (h.free i hi).1 hb.size, fun e => ?_, (h.free i hi).2.2⟩, hk W w' h.keep hb.size fun i hi => hb.block i (h.free i hi).1⟩
  · rcases hr i hi with h3 | h3
    · exact (h.free i (hT i h3)).2.2 h2
    · have := h.sep.l2 i (h.sep.o2 i h2)
      omega
  · have := h.sep.l2 i hi
    have := ho i h2
    omega
  · have := (h.free i hi).1
    have := ho i e
    omega
end
section
variable {P P2 : PT} {W0 W W' : World} {T T' : Nat → Prop} {K K' : World → Prop} {p1 N1 p2 N2 : Nat} {s1 s2 : SS}
theorem St.chooseP (hP : PSteer P) (o2 : PtOk P2) (hk : Kept T K) (h : St P P2 W0 W T K p1 s1 N1 p2 s2 N2) (hN : N1 ≤ 900) (q : PK) (hq : q.Fits) : Calls Try.prog 19 #[.pointer (some ⟨p1, 0, none⟩), pk q] W fun e w' => e = .returned (.tuple #[.int .i64 (s1.chooseV (hashI q.f s1.salt) q.prio q.cpu), .int .i64 (SS.chooseE q.prio q.cpu)]) ∧ St P P2 W0 w' T K p1 (s1.choose (hashI q.f s1.salt) q.prio q.cpu) (N1 + 1) p2 s2 N2 :=
  h.step hP.pt o2 hk (S := fun _ => False) (fun _ h => h.elim) fun rd own a hf => hP.choose W rd own p1 s1 N1 a hN q hq
theorem St.doneP (hP : PSteer P) (o2 : PtOk P2) (hk : Kept T K) (h : St P P2 W0 W T K p1 s1 N1 p2 s2 N2) (hN : N1 ≤ 1000) (d : Hs.FV) (hd : d.Fits) : Calls Try.prog 22 #[.pointer (some ⟨p1, 0, none⟩), Hs.fv d] W fun e w' => e = .returned (.int .i64 (s1.doneE (hashI d s1.salt))) ∧ St P P2 W0 w' T K p1 (s1.done (hashI d s1.salt)) N1 p2 s2 N2 :=
  h.step hP.pt o2 hk (S := fun _ => False) (fun _ h => h.elim) fun rd own a hf => hP.done W rd own p1 s1 N1 a hN d hd
theorem St.mapP (hP : PSteer P) (o2 : PtOk P2) (hk : Kept T K) (h : St P P2 W0 W T K p1 s1 N1 p2 s2 N2) (c : Int) (A : Option Addr) (cap : Nat) (l : List Int) (hc : I64 c) (h70 : l.length ≤ 70) (hcap : l.length ≤ cap) (hcm : cap ≤ maxLen) (hrow : RowI W.heap.size W A l) (hi : ∀ y, y ∈ l → I64 y) (hnil : A = none → cap = 0) : Calls Try.prog 21 #[.pointer (some ⟨p1, 0, none⟩), .int .i64 c, .slice A l.length cap] W fun e w' => e = .returned (.int .i64 (s1.mapE c l)) ∧ St P P2 W0 w' T K p1 (s1.map c l) N1 p2 s2 N2 :=
  h.step hP.pt o2 hk (S := fun _ => False) (fun _ h => h.elim) fun rd own a hf => hP.map W rd own p1 s1 N1 a c A cap l hc h70 hcap hcm hrow hi hnil
theorem St.tableP (hP : PSteer P) (o2 : PtOk P2) (hk : Kept T K) (h : St P P2 W0 W T K p1 s1 N1 p2 s2 N2) (A3 A4 : Option Addr) (c3 c4 : Nat) (t : TB) (ht : TbAt W.heap.size W A3 A4 c3 c4 t) (h20 : t.cl.length ≤ 20 ∧ t.sp.length ≤ 20) (hT : t.right = true → ∀ i, tbS A3 A4 i → T i) : Calls Try.prog 23 #[.pointer (some ⟨p1, 0, none⟩), .agg (tbC A3 A4 c3 c4 t)] W fun e w' => e = .returned (.int .i64 (tabE t)) ∧ St P P2 W0 w' T K p1 (s1.table t) N1 p2 s2 N2 :=
  h.step hP.pt o2 hk (S := fun i => t.right = true ∧ tbS A3 A4 i) (fun i hi => hT hi.1 i hi.2) fun rd own a hf => hP.table W rd own p1 s1 N1 a A3 A4 c3 c4 t ht h20 (fun hr i hi => hf i ⟨hr, hi⟩)
theorem St.outP (hP : PSteer P) (o2 : PtOk P2) (hk : Kept T K) (h : St P P2 W0 W T K p1 s1 N1 p2 s2 N2) (hN : N1 ≤ 1000) (d : Hs.FV) (hd : d.Fits) : Calls Try.prog 16 #[.pointer (some ⟨p1, 0, none⟩), Hs.fv d] W fun e w' => e = .returned (.tuple #[.int .i64 (s1.outQ (hashI d s1.salt)), .int .i64 (s1.outN (hashI d s1.salt))]) ∧ St P P2 W0 w' T K p1 s1 N1 p2 s2 N2 :=
  h.ask hP.pt o2 hk fun rd own a => hP.out W rd own p1 s1 N1 a hN d hd
theorem St.candP (hP : PSteer P) (o2 : PtOk P2) (hk : Kept T K) (h : St P P2 W0 W T K p1 s1 N1 p2 s2 N2) (pr c : Int) (hp : I64 pr) (hc : I64 c) : Calls Try.prog 20 #[.pointer (some ⟨p1, 0, none⟩), .int .i64 pr, .int .i64 c] W (CandP P P2 W0 T K p1 s1 N1 p2 s2 N2 (s1.candV pr c) (SS.candE pr c)) :=
  h.tell hP.pt o2 hk fun rd own a => hP.cand W rd own p1 s1 N1 a pr c hp hc
theorem St.newP (hP : PSteer P) (o2 : PtOk P2) (hk : Kept T K) (h : St NoT P2 W0 W T K p1 s1 N1 p2 s2 N2) (A1 A2 : Option Addr) (c1 c2 : Nat) (t : TB) (salt : Int) (hs : 0 ≤ salt ∧ salt ≤ 4294967295) (ht : TbAt W.heap.size W A1 A2 c1 c2 t) (hr : t.right = true) (hT : ∀ i, tbS A1 A2 i → T i) : Calls Try.prog 12 #[.agg (tbC A1 A2 c1 c2 t), .int .u32 salt] W (NewS P P2 W0 T K (SS.new t salt) p2 s2 N2) :=
  h.newG hP.pt o2 hk hT (hP.new_yes A1 A2 c1 c2 t salt W hs ht hr)
theorem St.chooseR (o2 : PtOk P2) (hk : Kept T K) (h : St P2 RT W0 W T K p2 s2 N2 p1 s1 N1) (hN : N1 ≤ 900) (q : PK) (hq : q.Fits) : Calls Try.prog 30 #[.pointer (some ⟨p1, 0, none⟩), pk q] W fun e w' => e = .returned (.tuple #[.int .i64 (s1.chooseV (hashI q.f s1.salt) q.prio q.cpu), .int .i64 (SS.chooseE q.prio q.cpu)]) ∧ St P2 RT W0 w' T K p2 s2 N2 p1 (s1.choose (hashI q.f s1.salt) q.prio q.cpu) (N1 + 1) :=
  (h.symm.step RT.pt o2 hk (S := fun _ => False) (fun _ h => h.elim) fun rd own ⟨x, a⟩ hf => (choose_r W rd own p1 s1 N1 x a hN q hq).mono fun e w' h => RT.of h).mono fun e w' ⟨h1, h2⟩ => ⟨h1, h2.symm⟩
theorem St.doneR (o2 : PtOk P2) (hk : Kept T K) (h : St P2 RT W0 W T K p2 s2 N2 p1 s1 N1) (hN : N1 ≤ 1000) (d : Hs.FV) (hd : d.Fits) : Calls Try.prog 31 #[.pointer (some ⟨p1, 0, none⟩), Hs.fv d] W fun e w' => e = .returned (.int .i64 (s1.doneE (hashI d s1.salt))) ∧ St P2 RT W0 w' T K p2 s2 N2 p1 (s1.done (hashI d s1.salt)) N1 :=
  (h.symm.step RT.pt o2 hk (S := fun _ => False) (fun _ h => h.elim) fun rd own ⟨x, a⟩ hf => (done_d W rd own p1 s1 N1 x a hN d hd).mono fun e w' h => RT.of h).mono fun e w' ⟨h1, h2⟩ => ⟨h1, h2.symm⟩
theorem St.mapR (o2 : PtOk P2) (hk : Kept T K) (h : St P2 RT W0 W T K p2 s2 N2 p1 s1 N1) (c : Int) (A : Option Addr) (cap : Nat) (l : List Int) (hc : I64 c) (h70 : l.length ≤ 70) (hcap : l.length ≤ cap) (hcm : cap ≤ maxLen) (hrow : RowI W.heap.size W A l) (hi : ∀ y, y ∈ l → I64 y) (hnil : A = none → cap = 0) : Calls Try.prog 25 #[.pointer (some ⟨p1, 0, none⟩), .int .i64 c, .slice A l.length cap] W fun e w' => e = .returned (.int .i64 (s1.mapE c l)) ∧ St P2 RT W0 w' T K p2 s2 N2 p1 (s1.map c l) N1 :=
  (h.symm.step RT.pt o2 hk (S := fun _ => False) (fun _ h => h.elim) fun rd own ⟨x, a⟩ hf => (map_d W rd own p1 s1 N1 x a c A cap l hcap hcm hrow hi hnil).mono fun e w' h => RT.of h).mono fun e w' ⟨h1, h2⟩ => ⟨h1, h2.symm⟩
theorem St.tableR (o2 : PtOk P2) (hk : Kept T K) (h : St P2 RT W0 W T K p2 s2 N2 p1 s1 N1) (A3 A4 : Option Addr) (c3 c4 : Nat) (t : TB) (ht : TbAt W.heap.size W A3 A4 c3 c4 t) (h20 : t.cl.length ≤ 20 ∧ t.sp.length ≤ 20) (hT : t.right = true → ∀ i, tbS A3 A4 i → T i) : Calls Try.prog 32 #[.pointer (some ⟨p1, 0, none⟩), .agg (tbC A3 A4 c3 c4 t)] W fun e w' => e = .returned (.int .i64 (tabE t)) ∧ St P2 RT W0 w' T K p2 s2 N2 p1 (s1.table t) N1 :=
  (h.symm.step RT.pt o2 hk (S := fun i => t.right = true ∧ tbS A3 A4 i) (fun i hi => hT hi.1 i hi.2) fun rd own ⟨x, a⟩ hf => (table_d W rd own p1 s1 N1 x a A3 A4 c3 c4 t ht (fun hr i hi => hf i ⟨hr, hi⟩)).mono fun e w' h => RT.of h).mono fun e w' ⟨h1, h2⟩ => ⟨h1, h2.symm⟩
theorem St.outR (o2 : PtOk P2) (hk : Kept T K) (h : St P2 RT W0 W T K p2 s2 N2 p1 s1 N1) (hN : N1 ≤ 1000) (d : Hs.FV) (hd : d.Fits) : Calls Try.prog 17 #[.pointer (some ⟨p1, 0, none⟩), Hs.fv d] W fun e w' => e = .returned (.tuple #[.int .i64 (s1.outQ (hashI d s1.salt)), .int .i64 (s1.outN (hashI d s1.salt))]) ∧ St P2 RT W0 w' T K p2 s2 N2 p1 s1 N1 :=
  (h.symm.ask RT.pt o2 hk fun rd own ⟨x, a⟩ => out_r W rd own p1 s1 N1 x a hN d hd).mono fun e w' ⟨h1, h2⟩ => ⟨h1, h2.symm⟩
theorem gives_sl {W w' : World} {l : List Int} {E : Int} {e : Ending} {rd own : Nat → Prop} (h : GivesInts W l E e w') : GivesSl W rd own l E e w' := by
  obtain ⟨v, rfl, R, hb⟩ := h
  obtain ⟨h1, h2⟩ := sli_own R
  exact ⟨v, rfl, h1, fun i hi => ⟨.inr (h2 i hi).1, (h2 i hi).2⟩, hb⟩
theorem St.candR (o2 : PtOk P2) (hk : Kept T K) (h : St P2 RT W0 W T K p2 s2 N2 p1 s1 N1) (pr c : Int) (hp : I64 pr) (hc : I64 c) : Calls Try.prog 26 #[.pointer (some ⟨p1, 0, none⟩), .int .i64 pr, .int .i64 c] W (CandP P2 RT W0 T K p2 s2 N2 p1 s1 N1 (s1.candV pr c) (SS.candE pr c)) :=
  (h.symm.tell RT.pt o2 hk fun rd own ⟨x, a⟩ => (cand_r W rd own p1 s1 N1 x a pr c).mono fun e w' h => gives_sl h).mono fun e w' ⟨v, h1, h2⟩ => ⟨v, h1, h2.symm⟩
theorem St.newR (o2 : PtOk P2) (hk : Kept T K) (h : St P2 NoT W0 W T K p2 s2 N2 p1 s1 N1) (A1 A2 : Option Addr) (c1 c2 : Nat) (t : TB) (salt : Int) (hs : 0 ≤ salt ∧ salt ≤ 4294967295) (ht : TbAt W.heap.size W A1 A2 c1 c2 t) (hr : t.right = true) (hT : ∀ i, tbS A1 A2 i → T i) : Calls Try.prog 14 #[.agg (tbC A1 A2 c1 c2 t), .int .u32 salt] W fun e w' => ∃ p, e = .returned (.tuple #[.pointer (some ⟨p, 0, none⟩), .int .i64 0]) ∧ St P2 RT W0 w' T K p2 s2 N2 p (SS.new t salt) 0 :=
  (h.symm.newG RT.pt o2 hk hT ((new_yes A1 A2 c1 c2 t salt hs W ht hr).mono fun e w' h => RT.new h)).mono fun e w' ⟨p, h1, h2⟩ => ⟨p, h1, h2.symm⟩
end
end Go.Proofs.Ytaoaapbbadipfaa
end
