/-
  The iterator of a wheel's timers in their order. Conditions: those that each theorem names.
-/
import Derived.Test.YtbnfjppidmiheaaWheelT
import Derived.Test.YtbnfjppidmiheaaWheelU
import Derived.Test.YtbnfjppidmiheaaRangeO
namespace Go.Proofs.Ytbnfjppidmiheaa
set_option linter.unusedSimpArgs false
set_option linter.unusedVariables false
open Go.ChangeShapes Go.WideShapes Go.ChangeAt Go.RowKit Go.Maps Go.Shelf
attribute [local go_sem] Oper.semAt_some

/-- the k-th timer, as the loop's variable -/
def kth (l : List Tm) (k : Nat) : Tm := l.getD k (0, 0)
abbrev encT (l : List Tm) (k : Nat) : Array Value := #[tm (kth l k)]
def slen : Value → Nat
  | .slice _ n _ => n
  | _ => 0
def AnsweredO (J : Nat → Nat → World → Prop) (Jx : Nat → World → Prop) (g k : Nat) (W : World) (y : Bool) (W' : World) : Prop := (y = true → J g (k + 1) W' ∧ W'.heap[g]? = W.heap[g]?) ∧ (y = false → Jx k W')
theorem answeredO (J : Nat → Nat → World → Prop) (Jx : Nat → World → Prop) (g k : Nat) (W : World) : ∀ (e : Ending) (W' : World), ((e = .returned (.bool true) ∧ J g (k + 1) W' ∧ W'.heap[g]? = W.heap[g]?) ∨ (e = .returned (.bool false) ∧ Jx k W')) → ∃ y, e = .returned (.bool y) ∧ AnsweredO J Jx g k W y W' := by
  rintro e W' (⟨rfl, h1⟩ | ⟨rfl, h1⟩)
  · exact ⟨true, rfl, fun _ => h1, (fun h => by cases h)⟩
  · exact ⟨false, rfl, (fun h => by cases h), fun _ => h1⟩
theorem drop_one {l : List Tm} {k : Nat} {t : Tm} (h : l[k]? = some t) : l.drop k = t :: l.drop (k + 1) := by
  obtain ⟨hk, e⟩ := List.getElem?_eq_some_iff.1 h
  rw [List.drop_eq_getElem_cons hk, e]
set_option maxRecDepth 100000 in
set_option maxHeartbeats 2000000 in
theorem inOrder_own (n : Nat) (hn : 2 ≤ n) (p m : Nat) (s : WS) (w : World) (h : WhP w p m s) (hok : s.Ok) :
    SeqOwn Fence.wide n Try.prog 27 #[.pointer (some ⟨p, 0, none⟩)] (encT s.l) s.l.length w := by
  intro l J Jx W hbW hJ hJx hY h0
  have hW := h.below hbW h.lt h.ltm
  refine callsIn_of_wp Try.func27 rfl trivial ?_ rfl
  simp only [Try.ntmps27, List.size_toArray, List.length_cons, List.length_nil, Nat.reduceAdd, Nat.reduceSub, Array.replicate_succ, Array.replicate_zero, List.push_toArray, List.append_toArray, List.nil_append, List.cons_append]
  have c1 : W.cell? ⟨p, 1, none⟩ = some (.map (some m)) := hW.box.cell 1
  have hmi := missing_no W p m s hW
  have hho := heapOf_p W p m s hW hok
  obtain ⟨N, hN⟩ : ∃ N, s.l.length = N := ⟨_, rfl⟩
  have HN := Lib.hid hN
  have hl := hok.len
  rw [hN] at hho hl hY ⊢
  have HH := Lib.hid (And.intro hW (And.intro hJ (And.intro hJx (And.intro hY h0))))
  clear hN hW hJ hJx hY h0 h hbW
  gi_wp2_with (first
    | (refine ⟨trivial, fun _ => by omega, ?_⟩; gi_at_call 23; refine (callsIn_wide.2 hmi).mono ?_; rintro e w1 ⟨rfl, rfl⟩)
    | (refine ⟨trivial, fun _ => by omega, ?_⟩; gi_at_call 29; refine (callsIn_wide.2 hho).mono ?_; rintro e w2 ⟨g, cap, L, rfl, hp, hh, hHp, hg, hB⟩))
  clear c1 hmi hho
  gi_loopw [4] (fun hv wr => ∃ (k d : Nat) (L : List Tm), k + d = N ∧ hv = .slice (some ⟨g, 0, none⟩) d cap ∧ L.length = d ∧ L.Perm (s.l.drop k) ∧ Tm.HeapFrom L 0 ∧ Hp wr g cap L ∧ J g k wr) (fun hv _ => slen hv)
  case atStart => exact ⟨0, N, L, by omega, rfl, by rw [hp.length_eq]; exact HN.out, hp, hh, hHp, HH.out.2.2.2.2 g _ hg hHp.lt hB⟩
  case round =>
    clear hp hh hHp hB
    obtain ⟨k, d, L, hkd, rfl, hL, hp, hh, hHp, hJk⟩ := hrel
    by_cases hd : d = 0
    · subst hd
      obtain rfl : k = N := by omega
      gi_wp2
      refine ⟨(fun _ h => by cases h), ?_⟩
      gi_wp2
      go_end0
      exact ⟨⟨_, rfl⟩, .inr (.inl ⟨g, hJk⟩)⟩
    · obtain ⟨t0, ht0⟩ : ∃ t, L[0]? = some t := ⟨L[0]'(by omega), List.getElem?_eq_getElem _⟩
      obtain ⟨d', rfl⟩ : ∃ d', d = d' + 1 := ⟨d - 1, by omega⟩
      have htk : s.l[k]? = some t0 := by
        have := Tm.first_of hp (List.Pairwise.sublist (List.drop_sublist k s.l) hok.srt) hh ht0
        rwa [List.getElem?_drop, Nat.add_zero] at this
      obtain ⟨x0, x1⟩ := hHp.cell ht0
      rw [Nat.zero_mul] at x0 x1
      obtain ⟨fn, tmps, assign, body, hy0, hR0⟩ := HH.out.2.2.2.1 g k wr (by omega) hJk
      have hen : encT s.l k = #[.agg #[.int .u64 t0.1, .int .i64 t0.2]] := by
        unfold encT kth
        rw [List.getD_eq_getElem?_getD, htk]
        rfl
      rw [hen] at hy0
      have hR := hR0.mono (answeredO J Jx g k wr)
      have hy : (Instr.yield l #[.agg #[.int .u64 t0.1, .int .i64 t0.2]]).run Try.prog wr = _ := hy0
      have HP := Lib.hid (And.intro hp (And.intro hh (And.intro hHp (And.intro ht0 (And.intro htk hL)))))
      have e0 : decide ((0 : Int) < (d' : Int) + 1) = true := decide_eq_true (by omega)
      clear hy0 hR0 hp hh hHp ht0 htk hL hJk hen
      gi_wp2
      refine ⟨fun _ => by omega, hR.mono ?_⟩
      rintro e W3 ⟨y, rfl, hA⟩
      clear hR hy
      cases y
      · have hJx3 := hA.2 rfl
        gi_wp2
        go_end0
        exact ⟨⟨_, rfl⟩, .inr (.inr ⟨k, by omega, hJx3⟩)⟩
      · obtain ⟨hJ3, hk3⟩ := hA.1 rfl
        obtain ⟨hp, hh, hHp, ht0, htk, hL⟩ := HP.out
        have hH3 : Hp W3 g cap L := hHp.same hk3
        have hpo := pop_p g cap d' L W3 hH3 (by omega) hL hh t0 ht0
        rw [drop_one htk] at hp
        have HQ := Lib.hid (And.intro hp hJ3)
        clear hp hh hHp ht0 htk hL hJ3 hk3 hH3 hA x0 x1
        gi_wp2_with (refine ⟨trivial, fun _ => by omega, ?_⟩; gi_at_call 30; refine (callsIn_wide.2 hpo).mono ?_; rintro e w5 ⟨rfl, L', q1, q2, q3, q4, q5⟩)
        go_roundw
        case rel => exact ⟨k + 1, d', L', by omega, rfl, q2, List.Perm.cons_inv (q3.trans HQ.out.1), q4, q1, HH.out.2.1 g (k + 1) W3 w5 HQ.out.2 q5⟩
        case measure => simp [slen]
set_option maxHeartbeats 1000000 in
theorem inOrder_nil (n : Nat) (hn : 2 ≤ n) (w : World) : SeqOwn Fence.wide n Try.prog 27 #[.pointer none] (encT []) 0 w := by
  intro l J Jx W hbW hJ hJx hY h0
  refine callsIn_of_wp Try.func27 rfl trivial ?_ rfl
  simp only [Try.ntmps27, List.size_toArray, List.length_cons, List.length_nil, Nat.reduceAdd, Nat.reduceSub, Array.replicate_succ, Array.replicate_zero, List.push_toArray, List.append_toArray, List.nil_append, List.cons_append]
  have hmi := missing_yes W
  clear hY
  gi_wp2_with (refine ⟨trivial, fun _ => by omega, ?_⟩; gi_at_call 23; refine (callsIn_wide.2 hmi).mono ?_; rintro e w1 ⟨rfl, rfl⟩)
  refine bodyPost_ret (results_none rfl _ _ _) rfl ?_
  exact ⟨⟨_, rfl⟩, .inl ⟨by trivial, Below.refl _ _⟩⟩
end Go.Proofs.Ytbnfjppidmiheaa
