/-
  The contract of wheel's heapOf: a heap of all timers of a map, in whatever order they come. Conditions: those that each theorem names.
-/
import Derived.Test.YtbnfjppidmiheaaWheelS
namespace Go.Proofs.Ytbnfjppidmiheaa
set_option linter.unusedSimpArgs false
set_option linter.unusedVariables false
open Go.ChangeShapes Go.WideShapes Go.ChangeAt Go.RowKit Go.Maps

theorem perm_of_mem {α : Type} [DecidableEq α] : ∀ {l m : List α}, l.Nodup → m.Nodup → (∀ a, a ∈ l ↔ a ∈ m) → l.Perm m
  | [], m, _, _, h => by
    cases m with
    | nil => exact List.Perm.refl _
    | cons b m => exact absurd ((h b).2 (List.mem_cons_self ..)) (by simp)
  | a :: l, m, hl, hm, h => by
    obtain ⟨h1, h2⟩ := List.nodup_cons.1 hl
    have ha := (h a).1 (List.mem_cons_self ..)
    refine (List.Perm.cons a (perm_of_mem h2 (hm.erase a) fun b => ?_)).trans (List.perm_cons_erase ha).symm
    rw [hm.mem_erase_iff]
    constructor
    · intro hb
      exact ⟨fun e => h1 (e ▸ hb), (h b).1 (List.mem_cons_of_mem _ hb)⟩
    · rintro ⟨hne, hb⟩
      rcases List.mem_cons.1 ((h b).2 hb) with e | e
      · exact absurd e hne
      · exact e
/-- what has been collected while others are still to come -/
structure Coll (l R : List Tm) (left : Lit → Bool) : Prop where
  sub : ∀ t, t ∈ R → t ∈ l
  nodup : R.Nodup
  rest : ∀ t, t ∈ l → (t ∈ R ↔ left (kl t.2) = false)
theorem srt_nodup {l : List Tm} (h : Tm.Srt l) : l.Nodup := by
  refine List.Pairwise.imp ?_ h
  intro a b hab e
  rw [e, Tm.bef_irrefl] at hab
  cases hab
theorem Coll.start {D : DataW Unit} {l : List Tm} (h : MapIs D l) : Coll l [] (Maps.has D) := ⟨(fun _ h => by cases h), List.nodup_nil, fun t ht => by
  have : Maps.has D (kl t.2) = true := by rw [h.has]; exact any_key.2 ⟨t, ht, rfl⟩
  simp [this]⟩
theorem Coll.step {D : DataW Unit} {s : WS} {R : List Tm} {left : Lit → Bool} (h : Coll s.l R left) (hok : s.Ok) (hD : MapIs D s.l) {x c : Int} (hl : left (kl x) = true) (hat : ∀ z, D.atKey (kl x) z = el c) : Coll s.l (R ++ [(c, x)]) (fun z => left z && !z.sameKey (kl x)) ∧ (c, x) ∈ s.l := by
  have hm : (c, x) ∈ s.l := by
    have hh := has_true_of_atKey hat
    rw [hD.has] at hh
    obtain ⟨t, ht, rfl⟩ := any_key.1 hh
    have e := (hD.at_ t ht .nil).symm.trans (hat .nil)
    injection e with e
    injection e with _ e
    rw [← e]
    exact ht
  have hnR : (c, x) ∉ R := fun hR => by
    have := (h.rest _ hm).1 hR
    rw [hl] at this
    cases this
  refine ⟨⟨fun t ht => ?_, ?_, fun t ht => ?_⟩, hm⟩
  · rcases List.mem_append.1 ht with ht | ht
    · exact h.sub t ht
    · rw [List.mem_singleton.1 ht]; exact hm
  · refine List.nodup_append.2 ⟨h.nodup, by simp, fun a ha b hb e => ?_⟩
    rw [List.mem_singleton.1 hb] at e
    exact hnR (e ▸ ha)
  · rw [List.mem_append, List.mem_singleton]
    by_cases e : t.2 = x
    · have et : t = (c, x) := hok.keys t ht _ hm e
      subst et
      simp [WideAt.sameKey_self (isKey x)]
    · have e1 : (kl t.2).sameKey (kl x) = false := sameKey_ne (kl_ne e)
      rw [e1, h.rest t ht]
      constructor
      · rintro (h1 | h1)
        · simp [h1]
        · exact absurd (congrArg Prod.snd h1) e
      · intro h1
        exact .inl (by simpa using h1)
theorem Coll.stop {s : WS} {R : List Tm} {left : Lit → Bool} (h : Coll s.l R left) (hok : s.Ok) (hl : ∀ k, left k = false) : R.Perm s.l :=
  perm_of_mem h.nodup (srt_nodup hok.srt) fun t => ⟨h.sub t, fun ht => (h.rest t ht).2 (hl _)⟩
theorem Coll.len {s : WS} {R : List Tm} {left : Lit → Bool} (h : Coll s.l R left) : R.length ≤ s.l.length := by
  have : ∀ (R l : List Tm), R.Nodup → (∀ t, t ∈ R → t ∈ l) → R.length ≤ l.length := by
    intro R
    induction R with
    | nil => intro l _ _; simp
    | cons a R ih =>
      intro l h1 h2
      obtain ⟨n1, n2⟩ := List.nodup_cons.1 h1
      have ha := h2 a (List.mem_cons_self ..)
      have := ih (l.erase a) n2 (fun t ht => by
        rw [List.mem_erase_of_ne (show t ≠ a from fun e => n1 (e ▸ ht))]
        exact h2 t (List.mem_cons_of_mem _ ht))
      rw [List.length_erase_of_mem ha] at this
      have := List.length_pos_of_mem ha
      simp only [List.length_cons]
      omega
  exact this R s.l h.nodup h.sub
theorem ranges_iter {w : World} {b r n cnt : Nat} {D : DataW Unit} {left : Lit → Bool} (h : w.ranges Try.prog 3 (plainElem Try.prog 22) b r n D left cnt) {g : Nat} {t : TypeId} {cs : Array Value} (hg : w.heap[g]? = some (.cells cs t (0, 0))) : g ≠ r ∧ g ≠ b := by
  obtain ⟨es, clock, since, seen, c0, h1, _, _, _, h2, _⟩ := h
  constructor
  · rintro rfl
    rw [hg] at h2
    cases h2
  · rintro rfl
    rw [hg] at h1
    cases h1
theorem row_some {w : World} {base : Nat} {v : Value} {n : Nat} {xs : List Value} (h : w.ownsRow base 41 2 v n xs) (hv : v ≠ .slice none 0 0) : ∃ g cap cur, v = .slice (some ⟨g, 0, none⟩) n cap ∧ base ≤ g ∧ w.heap[g]? = some (.cells cur 41 (0, 0)) := by
  rcases h.2 with ⟨rfl, _⟩ | ⟨g, cap, cur, h1, h2, h3, _⟩
  · exact absurd rfl hv
  · exact ⟨g, cap, cur, h1, h2, h3⟩
set_option maxRecDepth 100000 in
set_option maxHeartbeats 2000000 in
theorem heapOf_p (W : World) (p m : Nat) (s : WS) (h : WhP W p m s) (hok : s.Ok) : Calls Try.prog 29 #[.map (some m)] W fun e w' =>
    ∃ g cap L, e = .returned (.slice (some ⟨g, 0, none⟩) s.l.length cap) ∧ L.Perm s.l ∧ Tm.HeapFrom L 0 ∧ Hp w' g cap L ∧ W.heap.size ≤ g ∧ Below W.heap.size W w' := by
  obtain ⟨D, hown, hD⟩ := h.map
  obtain ⟨i0, hi, hz0, hz1, hz2⟩ := infoTm_parts
  have hlen := fun ty => hown.len Try.underlying55 ty
  rw [hD.size] at hlen
  have hl := hok.len
  obtain ⟨n, hn⟩ : ∃ n, s.l.length = n := ⟨_, rfl⟩
  have HN := Lib.hid hn
  rw [hn] at hlen hl ⊢
  have hml := hown.lt
  have HD := Lib.hid hD
  clear hn hD h
  go_enter Try.func29, Try.ntmps29
  go_wp2_with (first
    | (at_len; refine wpList_len_own _ rfl _ 55 rfl 3 22 Try.underlying55 _ m 1000 D rfl hown ?_; rw [HD.out.size, HN.out])
    | (at_make; refine wpList_make_own _ rfl _ _ 65 rfl W.heap.size 41 i0 _ 2 Try.underlying65 hi hz0 hz1 .i64 .i64 _ n rfl rfl rfl (by rw [hz2]; omega) (by simp [maxLen]; omega) (Nat.le_refl _) ?_; intro w1 hrow hg1)
    | (at_range; refine wpList_range_own _ rfl _ 55 rfl 3 22 law Try.underlying55 _ m 1000 D rfl (hown.kept hg1 (by simp)) ?_; intro w2 hrg2 hg2 hs2))
  go_frame
  obtain ⟨r, hr⟩ : ∃ r, w1.heap.size = r := ⟨_, rfl⟩
  rw [hr] at hrg2 ⊢
  have hrW : W.heap.size ≤ r := by have := hg1.size; omega
  have hB2 : Below W.heap.size W w2 := ((Below.refl W.heap.size W).grown hg1 (Nat.le_refl _) (fun j hj => by cases hj)).grown hg2 hg1.size (fun j hj => by cases hj)
  have hrow2 : w2.ownsRow W.heap.size 41 2 (.slice (some ⟨W.heap.size, 0, none⟩) 0 n) 0 [] := hrow.kept hg2 (by simp [Value.ownBlock])
  clear hlen hrow hg1 hg2 hs2 hr hown
  go_loopw [3] (fun hv wr => ∃ (g cap cnt : Nat) (R : List Tm) (left : Lit → Bool), hv = .slice (some ⟨g, 0, none⟩) R.length cap ∧ wr.ownsRow W.heap.size 41 2 hv R.length (tmCs R) ∧ wr.ranges Try.prog 3 (plainElem Try.prog 22) m r 1000 D left cnt ∧ Coll s.l R left ∧ Below W.heap.size W wr)
    (fun _ wr => wr.rangeLeft m r)
  case atStart => exact ⟨_, n, _, [], _, rfl, hrow2, hrg2, Coll.start HD.out, hB2⟩
  case round =>
    clear hrow2 hrg2 hB2
    obtain ⟨g, cap, cnt, R, left, rfl, hrow, hrg, hC, hB⟩ := hrel
    have hRl := hC.len
    rw [HN.out] at hRl
    go_wp2_with (at_next; refine wpList_next_ranges_ii _ rfl _ rfl 3 22 .i64 .u64 law Try.underlying3 Try.underlying22 m r 1000 _ _ _ rfl hrg ?_ ?_)
    · intro _ hl0
      have hp := hC.stop hok hl0
      have hRn : R.length = n := by rw [hp.length_eq]; exact HN.out
      have hHp : Hp wr g cap R := by
        rcases hrow.2 with ⟨h1, _⟩ | ⟨g', cap', cur, h1, h2, h3, h4, h5, h6, h7⟩
        · cases h1
        · cases h1
          exact Hp.mk h3 h4 h5 h6 h7
      have hgW : W.heap.size ≤ g := by
        obtain ⟨g', cap', cur, h1, h2, _⟩ := row_some hrow (by simp)
        cases h1
        exact h2
      have HH := Lib.hid (And.intro hp (And.intro hHp hB))
      rw [hRn]
      clear hp hHp hrow hrg hC hl0 hB hRl
      have HS := Lib.hid hgW
      have e2 : (n : Int).tdiv 2 = (n : Int) / 2 := Int.tdiv_eq_ediv_of_nonneg (by omega)
      go_wp2
      go_loopw [6] (fun iv wr2 => ∃ (i : Int) (L : List Tm), iv = .int .i64 i ∧ -1 ≤ i ∧ i < n ∧ L.length = n ∧ L.Perm s.l ∧ Tm.HeapFrom L (i + 1).toNat ∧ Hp wr2 g cap L ∧ Below W.heap.size W wr2) (fun iv _ => (intOf iv + 1).toNat)
      case atStart => exact ⟨(n : Int) / 2 - 1, R, by go_num, by omega, by omega, hRn, HH.out.1, Tm.heap_end (by omega), HH.out.2.1, HH.out.2.2⟩
      case round =>
        obtain ⟨i, L, rfl, hi1, hi2, hL, hp, hh, hHp, hB⟩ := hrel
        by_cases hge : 0 ≤ i
        · obtain ⟨k, rfl⟩ : ∃ k : Nat, i = k := ⟨i.toNat, by omega⟩
          have hsk := sink_p g cap k L wr hHp (by omega) (by omega) (by rw [show ((k : Int) + 1).toNat = k + 1 by omega] at hh; exact hh)
          rw [hL] at hsk
          have hszB := hB.size
          have HP := Lib.hid (And.intro hp hB)
          clear hp hB hh hHp
          go_wp2_with (go_at_call 31; refine hsk.mono ?_; rintro e w5 ⟨⟨v, rfl⟩, L', g1, g2, g3, g4⟩)
          go_roundw
          case rel => exact ⟨(k : Int) - 1, L', by go_num, by omega, by omega, by rw [g2.length_eq]; exact hL, g2.trans HP.out.1, by rw [show ((k : Int) - 1 + 1).toNat = k by omega]; exact g3, g1, HP.out.2.trans (g4.below hszB (fun i e => by rw [e]; exact hgW))⟩
          case measure => first | (simp [intOf]; done) | (simp [intOf]; omega)
        · have hi : i = -1 := by omega
          subst hi
          clear hge
          have HZ := Lib.hid (And.intro hp (And.intro hh (And.intro hHp hB)))
          clear hp hh hHp hB
          go_wp2
          go_ret
          exact ⟨g, cap, L, rfl, HZ.out.1, HZ.out.2.1, HZ.out.2.2.1, hgW, HZ.out.2.2.2⟩
    · intro x c w3 cnt3 hwx hwc hlx hat hrg3 hlt hg3 hs3 hen
      obtain ⟨hC3, hmem⟩ := hC.step hok HD.out hlx hat
      obtain ⟨g', cap', cur, h1, h2, h3⟩ := row_some hrow (by simp)
      cases h1
      obtain ⟨hgr, hgm⟩ := ranges_iter hrg h3
      have hrow3 : w3.ownsRow W.heap.size 41 2 (.slice (some ⟨g, 0, none⟩) R.length cap) R.length (tmCs R) := hrow.kept hg3 (by simpa [Value.ownBlock] using hgr)
      have hB3 : Below W.heap.size W w3 := hB.grown hg3 hB.size (fun j hj => by cases hj; exact hrW)
      have hsz3 := hB3.size
      have HR := Lib.hid (And.intro hrg (And.intro hC3 hB3))
      have HS3 := Lib.hid hs3
      clear hrow hrg hC hB h3 hmem hat hC3 hB3 hs3
      go_wp2_with (at_builtin; refine wpList_append_own_at _ rfl _ _ 65 rfl W.heap.size 41 i0 _ 2 16 Try.underlying65 hi hz0 hz1 hz2 rfl (by decide) _ _ _ rfl (hrow3.alloc _) ⟨w3.heap.size, 0, none⟩ 1 1 (tmC (c, x)) rfl rfl (fun j u hu => by rw [addr_add]; exact ((Held.new w3 41 #[.int .u64 c, .int .i64 x]).cell j).trans (by simpa [tmC] using hu)) (fun u hu => tmCs_one [(c, x)] u (by simpa [tmCs] using hu)) (by simp [maxLen]; omega) (by omega) (by simp; omega) ?_; intro v' w8 hown' hgrow hnil hloc)
      have hne' : v' ≠ .slice none 0 0 := fun e => by have := (hnil.1 e).1; cases this
      obtain ⟨g2, cap2, cur2, rfl, hg2', h32⟩ := row_some hown' hne'
      have hrg8 := (hrg3.alloc (.cells #[.int .u64 c, .int .i64 x] 41)).kept hgrow (fun e => hgm (Option.some.inj e).symm) (fun e => hgr (Option.some.inj e).symm)
      have hB8 : Below W.heap.size W w8 := (HR.out.2.2.alloc hsz3 _).grown hgrow (by simp; omega) (fun j ej => (hrow3.lt j ej).1)
      go_roundw
      case rel => exact ⟨g2, cap2, cnt3, R ++ [(c, x)], _, by rw [List.length_append]; rfl, by rw [tmCs_snoc, List.length_append]; exact hown', hrg8, HR.out.2.1, hB8⟩
      case measure => rw [hrg8.left_eq, HR.out.1.left_eq]; exact hlt
end Go.Proofs.Ytbnfjppidmiheaa
