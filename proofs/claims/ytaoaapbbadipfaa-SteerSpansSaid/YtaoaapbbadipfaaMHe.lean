/-
  The program's steers do what the interface asks. Conditions: none.
-/
import Derived.Test.YtaoaapbbadipfaaMHd
import Derived.Test.YtaoaapbbadipfaaMHb
import Derived.Test.YtaoaapbbadipfaaMHc
/- The program's steers do what the interface asks. Conditions: none. -/
section
namespace Go.Proofs.Ytaoaapbbadipfaa
set_option linter.unusedSimpArgs false
set_option linter.unusedVariables false
set_option maxRecDepth 100000
open Go.ChangeShapes Go.WideShapes Go.ChangeAt Go.RowKit Go.Maps

theorem QAt.more {W : World} {rd own : Nat → Prop} {p : Nat} {s : SS} {N M : Nat} {x : PParts} (h : QAt W rd own p s N x) (hM : N ≤ M) : QAt W rd own p s M x :=
  { h with
    map := h.map.imp fun D hD => ⟨hD.1.mono hM, hD.2⟩
    out := fun n q o e => by
      obtain ⟨a, b, c⟩ := h.out n q o e
      exact ⟨a, b, by omega⟩ }
theorem stays_eq (s : SS) (n p : Int) : s.stays n p = (!(fO s.fl n == 0) && inS (s.spn p) (fQ s.fl n)) := by
  unfold SS.stays fO fQ
  rcases s.fl n with _ | ⟨a, b⟩ <;> rfl
theorem cOk_parts {p c : Int} (h : cOk p c = true) : ∃ pr C : Nat, p = (pr : Int) ∧ c = (C : Int) ∧ pr < 16 ∧ C < 64 := by
  simp only [cOk, Bool.and_eq_true, decide_eq_true_eq] at h
  obtain ⟨pr, h1⟩ := Int.eq_ofNat_of_zero_le (show 0 ≤ p by omega)
  obtain ⟨C, h2⟩ := Int.eq_ofNat_of_zero_le (show 0 ≤ c by omega)
  exact ⟨pr, C, h1, h2, by omega, by omega⟩
theorem chooseP_p (W : World) (rd own : Nat → Prop) (p : Nat) (s : SS) (N : Nat) (h : PAt9 W rd own p s N) (hN : N ≤ 900) (q : PK) (hq : q.Fits) : Calls Try.prog 19 #[.pointer (some ⟨p, 0, none⟩), pk q] W (DidG PAt9 W rd own p (s.choose (hashI q.f s.salt) q.prio q.cpu) (N + 1) (fun _ => False) (.tuple #[.int .i64 (s.chooseV (hashI q.f s.salt) q.prio q.cpu), .int .i64 (SS.chooseE q.prio q.cpu)])) := by
  obtain ⟨x, h⟩ := h
  rcases hc : cOk q.prio q.cpu with _ | _
  · refine (chooseP_no W rd own p s N x h q hc).mono ?_
    rintro e w' ⟨rfl, hb⟩
    refine ⟨by rw [SS.chooseV, SS.chooseE, SS.candE, hc]; rfl, ⟨rd, own, ⟨x, ?_⟩, (fun i hi => .inl hi), (fun i hi => .inl hi)⟩, Foot.of_below hb⟩
    rw [SS.choose, hc]
    exact (h.below hb).more (Nat.le_succ N)
  · obtain ⟨pr, C, ep, ec, hpr, hC⟩ := cOk_parts hc
    have hst := stays_eq s (hashI q.f s.salt) q.prio
    rw [SS.choose, SS.chooseV, SS.chooseE, SS.candE, hc]
    simp only [cond_true]
    by_cases h0 : fO s.fl (hashI q.f s.salt) = 0
    · have e1 : s.queue (hashI q.f s.salt) q.prio q.cpu = pickQ (s.cand (pr : Int) (C : Int)) (hashI q.f s.salt) := by
        rw [SS.queue, hst, h0, ep, ec]
        rfl
      rw [e1]
      exact chooseP_zero W rd own p s N x h hN q hq pr C hpr hC ep ec _ rfl _ _ rfl rfl h0
    · have hb : (fO s.fl (hashI q.f s.salt) == 0) = false := by simpa using h0
      rcases hi : inS (s.spn (pr : Int)) (fQ s.fl (hashI q.f s.salt)) with _ | _
      · have e1 : s.queue (hashI q.f s.salt) q.prio q.cpu = pickQ (s.cand (pr : Int) (C : Int)) (hashI q.f s.salt) := by
          rw [SS.queue, hst, hb, ep, hi, ec]
          rfl
        rw [e1]
        exact chooseP_move W rd own p s N x h hN q hq pr C hpr hC ep ec _ rfl _ _ rfl rfl h0 hi
      · have e1 : s.queue (hashI q.f s.salt) q.prio q.cpu = fQ s.fl (hashI q.f s.salt) := by
          rw [SS.queue, hst, hb, ep, hi]
          exact (out_some (s := s) h0).2
        rw [e1]
        exact chooseP_stay W rd own p s N x h hN q hq pr C hpr hC ep ec _ rfl _ _ rfl rfl h0 hi
theorem candP_p (W : World) (rd own : Nat → Prop) (p : Nat) (s : SS) (N : Nat) (h : PAt9 W rd own p s N) (pr c : Int) : Calls Try.prog 20 #[.pointer (some ⟨p, 0, none⟩), .int .i64 pr, .int .i64 c] W (GivesSl W rd own (s.candV pr c) (SS.candE pr c)) := by
  obtain ⟨x, h⟩ := h
  rcases hc : cOk pr c with _ | _
  · refine (candP_no W rd own p s N x h pr c hc).mono ?_
    rintro e w' ⟨rfl, hb⟩
    rw [SS.candV, SS.candE, hc]
    exact ⟨_, rfl, SlI.nil _ _, (fun i ⟨o, m, n, c, e⟩ => by cases e), hb⟩
  · obtain ⟨P, C, rfl, rfl, hpr, hC⟩ := cOk_parts hc
    refine (candP_yes W rd own p s N x h P C hpr hC).mono ?_
    rintro e w' ⟨v, rfl, hown, hb⟩
    rw [SS.candV, SS.candE, hc]
    obtain ⟨h1, h2⟩ := sli_own hown
    exact ⟨v, rfl, h1, fun i hi => ⟨.inr (h2 i hi).1, (h2 i hi).2⟩, hb⟩
theorem tableP_p (W : World) (rd own : Nat → Prop) (p : Nat) (s : SS) (N : Nat) (h : PAt9 W rd own p s N) (A3 A4 : Option Addr) (c3 c4 : Nat) (t : TB) (ht : TbAt W.heap.size W A3 A4 c3 c4 t) (hf : Few t) : Calls Try.prog 23 #[.pointer (some ⟨p, 0, none⟩), .agg (tbC A3 A4 c3 c4 t)] W (DidG PAt9 W rd own p (s.table t) N (fun i => t.right = true ∧ tbS A3 A4 i) (.int .i64 (tabE t))) := by
  obtain ⟨x, h⟩ := h
  cases hr : t.right with
  | false =>
    refine (tableP_no W rd own p s N x h A3 A4 c3 c4 t ht hf hr).mono ?_
    rintro e w' ⟨rfl, hb⟩
    refine ⟨by rw [tabE, hr]; rfl, ⟨rd, own, ⟨x, ?_⟩, (fun i hi => .inl hi), (fun i hi => .inl hi)⟩, Foot.of_below hb⟩
    rw [SS.table, hr]
    exact h.below hb
  | true =>
    rw [SS.table, tabE, hr]
    refine (tableP_yes W rd own p s N x h A3 A4 c3 c4 t ht hr).mono ?_
    rintro e w' ⟨h1, ⟨rd', own', h2, h3, h4⟩, h5⟩
    exact ⟨h1, ⟨rd', own', h2, (fun i hi => (h3 i hi).imp id fun h => h.imp (fun h => ⟨rfl, h⟩) id), h4⟩, h5⟩
/-- the program's steers -/
theorem pst : PSteer PAt9 where
  on := fun ⟨x, h⟩ hs hz => ⟨x, h.on hs hz⟩
  lt := fun ⟨x, h⟩ => h.lt
  sub := fun ⟨x, h⟩ => h.or
  ok := fun ⟨x, h⟩ => ⟨h.right, h.salt, h.m64, h.out⟩
  new_no := fun A1 A2 c1 c2 t salt W ht hf hr => newP_no A1 A2 c1 c2 t salt W ht hf hr
  new_yes := fun A1 A2 c1 c2 t salt W hs ht hr => newP_yes A1 A2 c1 c2 t salt W hs ht hr
  choose := fun W rd own p s N h hN q hq => chooseP_p W rd own p s N h hN q hq
  done := fun W rd own p s N h hN d hd => doneP_p W rd own p s N h hN d hd
  map := fun W rd own p s N h c A cap l hc h70 hcap hcm hrow hi64 hnil => mapP_p W rd own p s N h c A cap l hc h70 hcap hcm hrow hi64 hnil
  table := fun W rd own p s N h A3 A4 c3 c4 t ht hf _ => tableP_p W rd own p s N h A3 A4 c3 c4 t ht hf
  cand := fun W rd own p s N h pr c _ _ => candP_p W rd own p s N h pr c
  out := fun W rd own p s N h _ d hd => outP_p W rd own p s N h d hd
  nil_choose := fun q W hq => chooseP_nil q W hq
  nil_cand := fun pr c W => candP_nil pr c W
  nil_out := fun d W hd => outP_nil d W hd
  nil_done := fun d W hd => doneP_nil d W hd
  nil_map := fun W => mapP_nil W
  nil_table := fun A1 A2 c1 c2 t W ht => tableP_nil A1 A2 c1 c2 t W ht
end Go.Proofs.Ytaoaapbbadipfaa
end
