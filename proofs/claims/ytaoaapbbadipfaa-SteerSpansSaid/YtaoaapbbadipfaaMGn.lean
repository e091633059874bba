/-
  The document's Out and Done. Conditions: the steer lies where its pointer says, a thousand flows at most. The document's Map. Conditions: the steer and the list lie where their values say.
-/
import Derived.Test.YtaoaapbbadipfaaMGm
import Derived.Laws.AppendOwnNone
/- The document's Out and Done. Conditions: the steer lies where its pointer says, a thousand flows at most. -/
section
namespace Go.Proofs.Ytaoaapbbadipfaa
set_option linter.unusedSimpArgs false
set_option linter.unusedVariables false
set_option maxRecDepth 100000
open Go.ChangeShapes Go.WideShapes Go.ChangeAt Go.RowKit

theorem flook_cons (a : SF) (l : List SF) (m : Int) : flook (a :: l) m = if a.n = m then some (a.q, a.o) else flook l m := by
  unfold flook
  rw [List.find?_cons]
  by_cases h : a.n = m
  · rw [if_pos h, show (a.n == m) = true by simpa using h]
    rfl
  · rw [if_neg h, show (a.n == m) = false by simpa using h]
theorem flook_set : ∀ {l : List SF} {k : Nat} {n : Int} {f f' : SF}, l[k]? = some f → f.n = n → f'.n = n → (∀ (j : Nat) (g : SF), j < k → l[j]? = some g → g.n ≠ n) → ∀ m, flook (l.set k f') m = if m = n then some (f'.q, f'.o) else flook l m
  | [], k, n, f, f', h, _, _, _, _ => by cases h
  | a :: l, 0, n, f, f', h, hf, hf', _, m => by
    have h0 : a = f := by simpa using h
    subst h0
    rw [List.set_cons_zero, flook_cons, flook_cons, hf, hf']
    by_cases e : n = m
    · rw [if_pos e, if_pos e.symm]
    · rw [if_neg e, if_neg (fun h => e h.symm), if_neg e]
  | a :: l, k + 1, n, f, f', h, hf, hf', hb, m => by
    have ih := flook_set (l := l) (k := k) (n := n) (f := f) (f' := f') (by simpa using h) hf hf' (fun j g hj hg => hb (j + 1) g (by omega) (by simpa using hg)) m
    have ha : a.n ≠ n := hb 0 a (by omega) rfl
    rw [List.set_cons_succ, flook_cons, flook_cons, ih]
    by_cases e : a.n = m
    · rw [if_pos e, if_neg (fun h => ha (e.trans h)), if_pos e]
    · rw [if_neg e]
      by_cases e2 : m = n
      · rw [if_pos e2, if_pos e2]
      · rw [if_neg e2, if_neg e2, if_neg e]
theorem flook_snoc : ∀ {l : List SF} {n : Int} {f' : SF}, (∀ (j : Nat) (g : SF), l[j]? = some g → g.n ≠ n) → f'.n = n → ∀ m, flook (l ++ [f']) m = if m = n then some (f'.q, f'.o) else flook l m
  | [], n, f', _, hf', m => by
    rw [List.nil_append, flook_cons, hf']
    by_cases e : n = m
    · rw [if_pos e, if_pos e.symm]
    · rw [if_neg e, if_neg (fun h => e h.symm)]
  | a :: l, n, f', hb, hf', m => by
    have ih := flook_snoc (l := l) (n := n) (f' := f') (fun j g hg => hb (j + 1) g (by simpa using hg)) hf' m
    have ha : a.n ≠ n := hb 0 a rfl
    rw [List.cons_append, flook_cons, flook_cons, ih]
    by_cases e : a.n = m
    · rw [if_pos e, if_neg (fun h => ha (e.trans h)), if_pos e]
    · rw [if_neg e]
      by_cases e2 : m = n
      · rw [if_pos e2, if_pos e2]
      · rw [if_neg e2, if_neg e2, if_neg e]
theorem fat_before {l : List SF} {n : Int} : ∀ (j : Nat) (g : SF), j < fat l n → l[j]? = some g → g.n ≠ n := fun j g hj hg => by
  have h := List.not_of_lt_findIdx (p := fun f : SF => f.n == n) (xs := l) (i := j) hj
  rw [(List.getElem?_eq_some_iff.1 hg).2] at h
  simpa using h
/-- one number of a flow changed -/
theorem sfCs_set {l : List SF} {k : Nat} {f f' : SF} {j : Nat} {u : Value} (hk : l[k]? = some f) (hj : j < 3) (h : (sfC f).set j u = sfC f') : (sfCs l).set (k * 3 + j) u = sfCs (l.set k f') := by
  induction l generalizing k with
  | nil => cases hk
  | cons a l ih =>
    cases k with
    | zero =>
      have h0 : a = f := by simpa using hk
      subst h0
      show (sfC a ++ sfCs l).set (0 * 3 + j) u = sfC f' ++ sfCs l
      rw [List.set_append_left _ _ (by simp [sfC]; omega), Nat.zero_mul, Nat.zero_add, h]
    | succ k =>
      have := ih (k := k) (by simpa using hk)
      show (sfC a ++ sfCs l).set ((k + 1) * 3 + j) u = sfC a ++ sfCs (l.set k f')
      rw [List.set_append_right _ _ (by simp [sfC]; omega), ← this]
      congr 2
      simp [sfC]
      omega
theorem block_set (w : World) (g j i : Nat) (u : Value) (h : i ≠ g) : (w.setCell ⟨g, j, none⟩ u).heap[i]? = w.heap[i]? := Below.heap_setCell _ _ _ _ (fun e => h e)
/-- one cell of a flow is written -/
theorem RAt.flowset {W : World} {rd own : Nat → Prop} {p : Nat} {s : SS} {N M : Nat} {x : RParts} (h : RAt W rd own p s N x) {n : Int} {f f' : SF} (hf : x.l[fat x.l n]? = some f) {g cap : Nat} (hg : x.fv = .slice (some ⟨g, 0, none⟩) x.l.length cap) {j : Nat} (hj : j < 3) {u : Value} (hu : (sfC f).set j u = sfC f') (hn : f'.n = n) (hM : N ≤ M)
    (hb : 0 ≤ f'.o ∧ f'.o ≤ M ∧ I64 f'.q) : RAt (W.setCell ⟨g, fat x.l n * 3 + j, none⟩ u) rd own p (s.set n f'.q f'.o) M { x with l := x.l.set (fat x.l n) f' } := by
  have hgo : own g ∧ g ≠ p := h.of g (by rw [hg]; rfl)
  have hfn := (flook_at hf).1
  have hnb := h.out f (List.mem_of_getElem? hf)
  have hz : (W.setCell ⟨g, fat x.l n * 3 + j, none⟩ u).heap.size = W.heap.size := by simp [World.setCell]
  refine ⟨?_, ?_, ?_, ?_, ?_, ?_, ?_, h.salt, h.right, h.m64, h.op, h.of, h.rt, h.rl, h.or, ?_⟩
  · exact h.box.other (fun e => hgo.2 e.symm) _ _
  · exact h.tab.on (fun i hi => block_set _ _ _ _ _ (fun e => (h.rt i hi).2 (e ▸ hgo.1))) (by omega)
  · exact fun c hc => (h.lists c hc).on (fun i hi => block_set _ _ _ _ _ (fun e => (h.rl c hc i hi).2 (e ▸ hgo.1))) (by omega)
  · have hr := h.row
    rw [hg] at hr
    have := hr.stored (fat x.l n * 3 + j) u
    rw [sfCs_set hf hj hu] at this
    show World.ownsRow _ _ _ _ x.fv _ _
    rw [hg, List.length_set]
    exact this.1
  · show (fun m => if m = n then some (f'.q, f'.o) else s.fl m) = flook (x.l.set (fat x.l n) f')
    funext m
    rw [flook_set hf hfn hn fat_before m, h.fl]
  · show (x.l.set (fat x.l n) f').length ≤ M
    rw [List.length_set]
    have := h.len
    omega
  · intro y hy
    rcases List.mem_or_eq_of_mem_set hy with hy | hy
    · have := h.out y hy
      exact ⟨this.1, by omega, this.2.2⟩
    · rw [hy]
      exact ⟨hb.1, hb.2.1, hb.2.2, by rw [hn, ← hfn]; exact hnb.2.2.2.1, by rw [hn, ← hfn]; exact hnb.2.2.2.2⟩
  · intro i hi
    rw [hz]
    exact h.lt i hi
set_option maxHeartbeats 2000000 in
theorem out_r (W : World) (rd own : Nat → Prop) (p : Nat) (s : SS) (N : Nat) (x : RParts) (h : RAt W rd own p s N x) (hN : N ≤ 1000) (d : Hs.FV) (hd : d.Fits) : Calls Try.prog 17 #[.pointer (some ⟨p, 0, none⟩), Hs.fv d] W fun e w' => e = .returned (.tuple #[.int .i64 (s.outQ (hashI d s.salt)), .int .i64 (s.outN (hashI d s.salt))]) ∧ Below W.heap.size W w' := by
  have H := Mem.start W
  have hp := h.plt
  have HR := Lib.hid h
  obtain ⟨A, cap, hfv, hcap, hcm, hfl⟩ := h.flows
  have hlen := h.len
  obtain ⟨_, c68, _⟩ := h.cell
  rw [hfv] at c68
  have ka := fun w h => at_r w rd own p s N x h hN d hd
  have hfe := h.fl
  obtain ⟨z, hz⟩ : ∃ z, hashI d s.salt = z := ⟨_, rfl⟩
  rw [hz] at ka ⊢
  unfold maxLen at hcm
  rcases Nat.lt_or_ge (fat x.l z) x.l.length with hlt | hge
  · obtain ⟨f, hf⟩ : ∃ f, x.l[fat x.l z]? = some f := ⟨x.l[fat x.l z]'hlt, List.getElem?_eq_getElem _⟩
    obtain ⟨g, rfl, hg, _, _, _, g1, g2⟩ := hfl _ _ hf
    have hlk := (flook_at hf).2
    have e1 : s.outQ z = f.q := by rw [SS.outQ, hfe, hlk]
    have e2 : s.outN z = f.o := by rw [SS.outN, hfe, hlk]
    rw [e1, e2]
    obtain ⟨k, hk⟩ : ∃ k, fat x.l z = k := ⟨_, rfl⟩
    rw [hk] at ka g1 g2 hlt
    obtain ⟨n, hn⟩ : ∃ n, x.l.length = n := ⟨_, rfl⟩
    rw [hn] at c68 hlt hcap hlen
    have t1 : ((k : Int) == (n : Int)) = false := by rw [beq_eq_false_iff_ne]; omega
    clear h hfv hfl hfe hz hf hlk e1 e2 hk hn
    go_enter Try.func17, Try.ntmps17
    go_upto_region 1 with (first
    | ((with_reducible show wpList _ _ _ _ _ (World.alloc _ (.cells _ _))); refine mem_newb H ?_; intro b w3 hbk H2; try rw [← hbk]; clear hbk H; have H := H2; clear H2; simp only [List.cons_append, List.nil_append, List.set_cons_zero, List.set_cons_succ, List.setIfInBounds_toArray] at H))
    go_upto_region 2 with (first
      | ((with_reducible show wpList _ _ _ (⟨_, .load 40 _, _, _, _, _⟩ :: _) _ _); refine mem_load (i := 0) H (by first | exact wanted_none rfl | exact wanted_some rfl rfl rfl rfl) (by exact rfl) (by exact rfl) (by exact rfl) Try.underlying40 rfl (by exact Hs.flowInfo) ?_)
      | (go_at_call 35; with_reducible refine (ka _ (HR.out.below H.below)).mono ?_; rintro e w2 ⟨rfl, hb⟩; have H2 := H.call hb; clear H hb; have H := H2; clear H2))
    have q68 := (H.old (p := ⟨p, 68, none⟩) hp).trans c68
    have q1 := (H.old (p := ⟨g, k * 3 + 1, none⟩) hg).trans g1
    have q2 := (H.old (p := ⟨g, k * 3 + 2, none⟩) hg).trans g2
    go_wp2
    go_quiet (fail)
    go_wp2
    refine bodyPost_ret (results_two rfl _ _ _) rfl ?_
    exact ⟨rfl, (H.drewN _).below⟩
  · have hfe2 := flook_none (l := x.l) (n := z) (by have := fat_le x.l z; omega)
    have e1 : s.outQ z = -1 := by rw [SS.outQ, hfe, hfe2]
    have e2 : s.outN z = 0 := by rw [SS.outN, hfe, hfe2]
    have hk : fat x.l z = x.l.length := by have := fat_le x.l z; omega
    rw [e1, e2]
    rw [hk] at ka
    obtain ⟨n, hn⟩ : ∃ n, x.l.length = n := ⟨_, rfl⟩
    rw [hn] at c68 hcap hlen ka
    clear h hfv hfl hfe hfe2 hz e1 e2 hk hn hge
    go_enter Try.func17, Try.ntmps17
    go_upto_region 1 with (first
    | ((with_reducible show wpList _ _ _ _ _ (World.alloc _ (.cells _ _))); refine mem_newb H ?_; intro b w3 hbk H2; try rw [← hbk]; clear hbk H; have H := H2; clear H2; simp only [List.cons_append, List.nil_append, List.set_cons_zero, List.set_cons_succ, List.setIfInBounds_toArray] at H))
    go_upto_region 2 with (first
      | ((with_reducible show wpList _ _ _ (⟨_, .load 40 _, _, _, _, _⟩ :: _) _ _); refine mem_load (i := 0) H (by first | exact wanted_none rfl | exact wanted_some rfl rfl rfl rfl) (by exact rfl) (by exact rfl) (by exact rfl) Try.underlying40 rfl (by exact Hs.flowInfo) ?_)
      | (go_at_call 35; with_reducible refine (ka _ (HR.out.below H.below)).mono ?_; rintro e w2 ⟨rfl, hb⟩; have H2 := H.call hb; clear H hb; have H := H2; clear H2))
    have q68 := (H.old (p := ⟨p, 68, none⟩) hp).trans c68
    go_wp2
    refine bodyPost_ret (results_two rfl _ _ _) rfl ?_
    exact ⟨rfl, H.below⟩
set_option maxHeartbeats 2000000 in
theorem done_r (W : World) (rd own : Nat → Prop) (p : Nat) (s : SS) (N : Nat) (x : RParts) (h : RAt W rd own p s N x) (hN : N ≤ 1000) (d : Hs.FV) (hd : d.Fits) : Calls Try.prog 31 #[.pointer (some ⟨p, 0, none⟩), Hs.fv d] W fun e w' => e = .returned (.int .i64 (s.doneE (hashI d s.salt))) ∧ (∃ x', RAt w' rd own p (s.done (hashI d s.salt)) N x') ∧ Foot own W w' := by
  have H := Mem.start W
  have hp := h.plt
  have HR := Lib.hid h
  obtain ⟨A, cap, hfv, hcap, hcm, hfl⟩ := h.flows
  have hlen := h.len
  obtain ⟨_, c68, _⟩ := h.cell
  rw [hfv] at c68
  have ka := fun w h => at_r w rd own p s N x h hN d hd
  have hfe := h.fl
  obtain ⟨z, hz⟩ : ∃ z, hashI d s.salt = z := ⟨_, rfl⟩
  rw [hz] at ka ⊢
  unfold maxLen at hcm
  rcases Nat.lt_or_ge (fat x.l z) x.l.length with hlt | hge
  · obtain ⟨f, hf⟩ : ∃ f, x.l[fat x.l z]? = some f := ⟨x.l[fat x.l z]'hlt, List.getElem?_eq_getElem _⟩
    obtain ⟨g, rfl, hg, hgo, hgp, _, g1, g2⟩ := hfl _ _ hf
    have hlk := flook_at hf
    have e1 : s.outQ z = f.q := by rw [SS.outQ, hfe, hlk.2]
    have e2 : s.outN z = f.o := by rw [SS.outN, hfe, hlk.2]
    have hob := h.out f (List.mem_of_getElem? hf)
    have HFV := Lib.hid hfv
    have HF := Lib.hid hf
    have HE := Lib.hid (And.intro e1 (And.intro e2 hlk.1))
    obtain ⟨k, hk⟩ : ∃ k, fat x.l z = k := ⟨_, rfl⟩
    rw [hk] at ka g2 hlt
    have HK := Lib.hid hk
    obtain ⟨n, hn⟩ : ∃ n, x.l.length = n := ⟨_, rfl⟩
    rw [hn] at c68 hlt hcap hlen
    have t1 : ((k : Int) == (n : Int)) = false := by rw [beq_eq_false_iff_ne]; omega
    clear h hfl hfe hz hf hlk e1 e2 hk hn hfv g1
    by_cases ho : f.o = 0
    · have t2 : (f.o == 0) = true := by simpa using ho
      have e3 : s.doneE z = 90 := by rw [SS.doneE, HE.out.2.1, t2]; rfl
      have e4 : s.done z = s := by rw [SS.done, HE.out.2.1, t2]; rfl
      rw [e3, e4]
      clear e3 e4
      go_enter Try.func31, Try.ntmps31
      go_upto_region 1 with (first
    | ((with_reducible show wpList _ _ _ _ _ (World.alloc _ (.cells _ _))); refine mem_newb H ?_; intro b w3 hbk H2; try rw [← hbk]; clear hbk H; have H := H2; clear H2; simp only [List.cons_append, List.nil_append, List.set_cons_zero, List.set_cons_succ, List.setIfInBounds_toArray] at H))
      go_upto_region 2 with (first
      | ((with_reducible show wpList _ _ _ (⟨_, .load 40 _, _, _, _, _⟩ :: _) _ _); refine mem_load (i := 0) H (by first | exact wanted_none rfl | exact wanted_some rfl rfl rfl rfl) (by exact rfl) (by exact rfl) (by exact rfl) Try.underlying40 rfl (by exact Hs.flowInfo) ?_)
      | (go_at_call 35; with_reducible refine (ka _ (HR.out.below H.below)).mono ?_; rintro e w2 ⟨rfl, hb⟩; have H2 := H.call hb; clear H hb; have H := H2; clear H2))
      have q68 := (H.old (p := ⟨p, 68, none⟩) hp).trans c68
      have q2 := (H.old (p := ⟨g, k * 3 + 2, none⟩) hg).trans g2
      go_wp2
      go_ret
      exact ⟨rfl, ⟨x, HR.out.below H.below⟩, Foot.of_below H.below⟩
    · have t2 : (f.o == 0) = false := by simpa using ho
      have e3 : s.doneE z = 0 := by rw [SS.doneE, HE.out.2.1, t2]; rfl
      have e4 : s.done z = s.set z f.q (f.o - 1) := by rw [SS.done, HE.out.2.1, t2, HE.out.1]; rfl
      rw [e3, e4]
      clear e3 e4
      go_enter Try.func31, Try.ntmps31
      go_upto_region 1 with (first
    | ((with_reducible show wpList _ _ _ _ _ (World.alloc _ (.cells _ _))); refine mem_newb H ?_; intro b w3 hbk H2; try rw [← hbk]; clear hbk H; have H := H2; clear H2; simp only [List.cons_append, List.nil_append, List.set_cons_zero, List.set_cons_succ, List.setIfInBounds_toArray] at H))
      go_upto_region 2 with (first
      | ((with_reducible show wpList _ _ _ (⟨_, .load 40 _, _, _, _, _⟩ :: _) _ _); refine mem_load (i := 0) H (by first | exact wanted_none rfl | exact wanted_some rfl rfl rfl rfl) (by exact rfl) (by exact rfl) (by exact rfl) Try.underlying40 rfl (by exact Hs.flowInfo) ?_)
      | (go_at_call 35; with_reducible refine (ka _ (HR.out.below H.below)).mono ?_; rintro e w2 ⟨rfl, hb⟩; have H2 := H.call hb; clear H hb; have H := H2; clear H2))
      have q68 := (H.old (p := ⟨p, 68, none⟩) hp).trans c68
      have q2 := (H.old (p := ⟨g, k * 3 + 2, none⟩) hg).trans g2
      have hrow := row_call HR.out.row H.below
      have hrow2 := hrow
      rw [HFV.out] at hrow2
      have fz := hrow2.frozenAt (k * 3 + 2)
      clear hrow hrow2
      go_wp2
      go_ret
      have hR := HR.out.below H.below
      have hF := Foot.of_below (B := own) H.below
      have hs := hR.flowset (f' := { f with o := f.o - 1 }) (M := N) (n := z) HF.out HFV.out (j := 2) (u := .int .i64 (f.o - 1)) (by omega) rfl HE.out.2.2 (Nat.le_refl _) ⟨by simp only; omega, by simp only; omega, hob.2.2.1⟩
      rw [HK.out] at hs
      exact ⟨rfl, ⟨_, hs⟩, hF.setCell (p := ⟨g, k * 3 + 2, none⟩) (fun _ => hgo) _⟩
  · have hfe2 := flook_none (l := x.l) (n := z) (by have := fat_le x.l z; omega)
    have e2 : s.outN z = 0 := by rw [SS.outN, hfe, hfe2]
    have e3 : s.doneE z = 90 := by rw [SS.doneE, e2]; rfl
    have e4 : s.done z = s := by rw [SS.done, e2]; rfl
    have hk : fat x.l z = x.l.length := by have := fat_le x.l z; omega
    rw [e3, e4]
    rw [hk] at ka
    obtain ⟨n, hn⟩ : ∃ n, x.l.length = n := ⟨_, rfl⟩
    rw [hn] at c68 hcap hlen ka
    clear h hfv hfl hfe hfe2 hz e2 e3 e4 hk hn hge
    go_enter Try.func31, Try.ntmps31
    go_upto_region 1 with (first
    | ((with_reducible show wpList _ _ _ _ _ (World.alloc _ (.cells _ _))); refine mem_newb H ?_; intro b w3 hbk H2; try rw [← hbk]; clear hbk H; have H := H2; clear H2; simp only [List.cons_append, List.nil_append, List.set_cons_zero, List.set_cons_succ, List.setIfInBounds_toArray] at H))
    go_upto_region 2 with (first
      | ((with_reducible show wpList _ _ _ (⟨_, .load 40 _, _, _, _, _⟩ :: _) _ _); refine mem_load (i := 0) H (by first | exact wanted_none rfl | exact wanted_some rfl rfl rfl rfl) (by exact rfl) (by exact rfl) (by exact rfl) Try.underlying40 rfl (by exact Hs.flowInfo) ?_)
      | (go_at_call 35; with_reducible refine (ka _ (HR.out.below H.below)).mono ?_; rintro e w2 ⟨rfl, hb⟩; have H2 := H.call hb; clear H hb; have H := H2; clear H2))
    have q68 := (H.old (p := ⟨p, 68, none⟩) hp).trans c68
    go_wp2
    go_ret
    exact ⟨rfl, ⟨x, HR.out.below H.below⟩, Foot.of_below H.below⟩
end Go.Proofs.Ytaoaapbbadipfaa
end
/- The document's Map. Conditions: the steer and the list lie where their values say. -/
section
namespace Go.Proofs.Ytaoaapbbadipfaa
set_option linter.unusedSimpArgs false
set_option linter.unusedVariables false
set_option maxRecDepth 100000
open Go.ChangeShapes Go.WideShapes Go.ChangeAt Go.RowKit

theorem okTo_next (Q : Int) (l : List Int) (k : Nat) : okTo Q l (k + 1) = (okTo Q l k && (decide (0 ≤ l.getD k 0) && decide (l.getD k 0 < Q) && !decide (l.getD k 0 ∈ l.take k))) := by
  simp [okTo, List.range_succ, List.all_append]
theorem okTo_bad {Q : Int} {l : List Int} {k : Nat} (hk : k < l.length) (h : (decide (0 ≤ l.getD k 0) && decide (l.getD k 0 < Q) && !decide (l.getD k 0 ∈ l.take k)) = false) : okTo Q l l.length = false := by
  unfold okTo
  rw [List.all_eq_false]
  exact ⟨k, List.mem_range.2 hk, by simpa using h⟩
theorem okTo_all {Q : Int} {l : List Int} (h : okTo Q l l.length = true) : ∀ q, q ∈ l → 0 ≤ q ∧ q < Q := fun q hq => by
  obtain ⟨k, hk⟩ := List.mem_iff_getElem?.1 hq
  have hk' := (List.getElem?_eq_some_iff.1 hk).1
  have := List.all_eq_true.1 h k (List.mem_range.2 hk')
  simp only [Bool.and_eq_true, decide_eq_true_eq, List.getD_eq_getElem?_getD, hk, Option.getD_some] at this
  exact this.1
theorem RowI.take {B : Nat} {w : World} {A : Option Addr} {l : List Int} (h : RowI B w A l) (k : Nat) : RowI B w A (l.take k) := fun j y hy => h j y (by
  rw [List.getElem?_take] at hy
  split at hy
  · exact hy
  · cases hy)
theorem addr_add2 (q o n : Nat) : (⟨q, o, none⟩ : Addr).add n = ⟨q, o + n, none⟩ := by
  cases n with
  | zero => rfl
  | succ n => rfl
theorem rowI_cells {B : Nat} {w : World} {ad : Addr} {l : List Int} (h : RowI B w (some ad) l) : ∀ j u, (ints l)[j]? = some u → w.cell? (ad.add j) = some u := fun j u hu => by
  obtain ⟨y, hy, rfl⟩ : ∃ y, l[j]? = some y ∧ u = .int .i64 y := by
    simp only [ints, List.getElem?_map, Option.map_eq_some_iff] at hu
    obtain ⟨y, hy, e⟩ := hu
    exact ⟨y, hy, e.symm⟩
  obtain ⟨b, o, e, _, hc⟩ := h j y hy
  cases e
  rw [addr_add2]
  exact hc
/-- a list becomes a processor's -/
theorem RAt.mapset {W : World} {rd own : Nat → Prop} {p : Nat} {s : SS} {N : Nat} {x : RParts} (h : RAt W rd own p s N x) {C : Nat} (hC : C < 64) {v : Value} {l : List Int} (hv : SlI W.heap.size W v l) (hb : ∀ i, blk v i → ¬ own i ∧ i < W.heap.size) (h64 : l.length ≤ 64 ∧ ∀ q, q ∈ l → 0 ≤ q ∧ q < 64) :
    RAt (W.setCell ⟨p, 4 + C, none⟩ v) (fun i => rd i ∨ blk v i) own p (s.mapped (C : Int) l) N { x with L := fun k => if k = C then v else x.L k } := by
  have hz : (W.setCell ⟨p, 4 + C, none⟩ v).heap.size = W.heap.size := by simp [World.setCell]
  have hn : ∀ i, ¬ own i → (W.setCell ⟨p, 4 + C, none⟩ v).heap[i]? = W.heap[i]? := fun i hi => block_set _ _ _ _ _ (fun e => hi (e ▸ h.op))
  refine ⟨?_, ?_, ?_, ?_, h.fl, h.len, h.out, h.salt, h.right, ?_, h.op, h.of, ?_, ?_, ?_, ?_⟩
  · have := h.box.set (4 + C) v
    rw [stC_set_map _ _ _ _ _ _ _ hC] at this
    exact this
  · exact h.tab.on (fun i hi => hn i (h.rt i hi).2) (by omega)
  · intro c hc
    show SlI _ _ (if c = C then v else x.L c) (if c = ((C : Int)).toNat then l else s.maps c)
    rw [Int.toNat_natCast]
    by_cases e : c = C
    · rw [if_pos e, if_pos e]
      exact hv.on (fun i hi => hn i (hb i hi).1) (by omega)
    · rw [if_neg e, if_neg e]
      exact (h.lists c hc).on (fun i hi => hn i (h.rl c hc i hi).2) (by omega)
  · exact row_same h.row fun i hi => block_set _ _ _ _ _ (fun e => (h.of i hi).2 e)
  · intro c hc
    show (if c = ((C : Int)).toNat then l else s.maps c).length ≤ 64 ∧ ∀ q, q ∈ (if c = ((C : Int)).toNat then l else s.maps c) → _
    rw [Int.toNat_natCast]
    by_cases e : c = C
    · rw [if_pos e]
      exact h64
    · rw [if_neg e]
      exact h.m64 c hc
  · exact fun i hi => ⟨.inl (h.rt i hi).1, (h.rt i hi).2⟩
  · intro c hc i hi
    replace hi : blk (if c = C then v else x.L c) i := hi
    by_cases e : c = C
    · rw [if_pos e] at hi
      exact ⟨.inr hi, (hb i hi).1⟩
    · rw [if_neg e] at hi
      exact ⟨.inl (h.rl c hc i hi).1, (h.rl c hc i hi).2⟩
  · exact fun i hi => .inl (h.or i hi)
  · rintro i (hi | hi)
    · rw [hz]; exact h.lt i hi
    · rw [hz]; exact (hb i hi).2
/-- what a slice's own row is, as a list -/
theorem sli_own {W : World} {base : Nat} {e : TypeId} {v : Value} {L : List Int} (h : W.ownsRow base e 1 v L.length (ints L)) : SlI W.heap.size W v L ∧ ∀ i, blk v i → base ≤ i ∧ i < W.heap.size := by
  obtain ⟨A, c, rfl⟩ := ownsRow_len h
  obtain ⟨h1, h2, h3⟩ := rowI_own h
  refine ⟨⟨A, c, rfl, h2, h3, h1⟩, ?_⟩
  rintro i ⟨o, m, n, c', e⟩
  cases e
  exact row_lt h i rfl
set_option maxHeartbeats 2000000 in
theorem map_no (W : World) (rd own : Nat → Prop) (p : Nat) (s : SS) (N : Nat) (x : RParts) (h : RAt W rd own p s N x) (c : Int) (A : Option Addr) (cap : Nat) (l : List Int) (hno : c < 0 ∨ 64 ≤ c ∨ 64 < l.length) : Calls Try.prog 25 #[.pointer (some ⟨p, 0, none⟩), .int .i64 c, .slice A l.length cap] W fun e w' => e = .returned (.int .i64 2) ∧ Below W.heap.size W w' := by
  have H := Mem.start W
  obtain ⟨n, hn⟩ : ∃ n, l.length = n := ⟨_, rfl⟩
  rw [hn] at hno ⊢
  clear h hn
  by_cases h0 : c < 0
  · have t1 : decide (c < 0) = true := decide_eq_true h0
    go_enter Try.func25, Try.ntmps25
    go_wp2
    go_ret
    exact ⟨rfl, H.below⟩
  have t1 : decide (c < 0) = false := decide_eq_false h0
  by_cases h1 : 64 ≤ c
  · have t2 : decide (64 ≤ c) = true := decide_eq_true h1
    go_enter Try.func25, Try.ntmps25
    go_wp2
    go_ret
    exact ⟨rfl, H.below⟩
  have t2 : decide (64 ≤ c) = false := decide_eq_false h1
  have t3 : decide (64 < (n : Int)) = true := decide_eq_true (by omega)
  go_enter Try.func25, Try.ntmps25
  go_wp2
  go_ret
  exact ⟨rfl, H.below⟩
set_option maxHeartbeats 2000000 in
theorem map_yes (W : World) (rd own : Nat → Prop) (p : Nat) (s : SS) (N : Nat) (x : RParts) (h : RAt W rd own p s N x) (C : Nat) (hC : C < 64) (A : Option Addr) (cap : Nat) (l : List Int) (h64 : l.length ≤ 64) (hcap : l.length ≤ cap) (hcm : cap ≤ maxLen) (hrow : RowI W.heap.size W A l) (hi64 : ∀ y, y ∈ l → I64 y) (hnil : A = none → cap = 0) :
    Calls Try.prog 25 #[.pointer (some ⟨p, 0, none⟩), .int .i64 (C : Int), .slice A l.length cap] W fun e w' => e = .returned (.int .i64 (s.mapE (C : Int) l)) ∧ (∃ rd' x', RAt w' rd' own p (s.map (C : Int) l) N x' ∧ ∀ i, rd' i → rd i ∨ W.heap.size ≤ i) ∧ Foot own W w' := by
  have H := Mem.start W
  have hp := h.plt
  have HR := Lib.hid h
  obtain ⟨_, _, _, q0, _, _⟩ := h.cell
  have hq := ((TB.right_iff s.t).1 h.right).q
  have hop := h.op
  obtain ⟨Q, hQ⟩ : ∃ Q, s.t.q = Q := ⟨_, rfl⟩
  have hmk : s.mapOk (C : Int) l = okTo Q l l.length := by
    unfold SS.mapOk
    rw [decide_eq_true (show 0 ≤ (C : Int) by omega), decide_eq_true (show (C : Int) < 64 by omega), decide_eq_true h64, hQ]
    rfl
  have hE : s.mapE (C : Int) l = bif okTo Q l l.length then 0 else 2 := by rw [SS.mapE, hmk]
  have hX : s.map (C : Int) l = bif okTo Q l l.length then s.mapped (C : Int) l else s := by rw [SS.map, hmk]
  rw [hE, hX]
  rw [hQ] at q0 hq
  have HRW := Lib.hid hrow
  have HI := Lib.hid hi64
  unfold maxLen at hcm
  obtain ⟨i0, hi, hz0, hz1, hz2⟩ := infoInt_parts
  have HQ := Lib.hid hQ
  clear h hmk hE hX hrow hi64 hQ
  obtain ⟨n, hn⟩ : ∃ n, l.length = n := ⟨_, rfl⟩
  rw [hn] at h64 hcap ⊢
  have HN := Lib.hid hn
  clear hn
  obtain ⟨V, hV⟩ : ∃ V, okTo Q l n = V := ⟨_, rfl⟩
  rw [hV]
  have HV := Lib.hid hV
  clear hV
  have t1 : decide ((C : Int) < 0) = false := decide_eq_false (by omega)
  have t2 : decide (64 ≤ (C : Int)) = false := decide_eq_false (by omega)
  have t3 : decide (64 < (n : Int)) = false := decide_eq_false (by omega)
  go_enter Try.func25, Try.ntmps25
  go_wp2
  clear t1 t2 t3
  go_loopw [7] (fun i wr => ∃ k : Nat, k ≤ n ∧ i = .int .i64 k ∧ Hid (okTo Q l k = true) ∧ Mem W wr []) (fun i _ => n - (intOf i).toNat)
  case atStart => exact ⟨0, Nat.zero_le _, rfl, Lib.hid rfl, H⟩
  case round =>
    clear H
    obtain ⟨k, hk, rfl, hok, H⟩ := hrel
    by_cases hlt : k < n
    · obtain ⟨y, hy⟩ : ∃ y, l[k]? = some y := ⟨l[k]'(by have := HN.out; omega), List.getElem?_eq_getElem _⟩
      obtain ⟨g, o, rfl, hg, qk0⟩ := HRW.out k y hy
      have hgd : l.getD k 0 = y := by rw [List.getD_eq_getElem?_getD, hy]; rfl
      have hyb := HI.out y (List.mem_of_getElem? hy)
      have hbad := fun e => okTo_bad (Q := Q) (l := l) (k := k) (by have := HN.out; omega) e
      have hnx := okTo_next Q l k
      rw [hgd] at hbad hnx
      clear hy hgd
      by_cases b1 : y < 0
      · have n1 := b1
        have HB := Lib.hid (show V = false by rw [← HV.out, ← HN.out]; exact hbad (by rw [decide_eq_false (show ¬ 0 ≤ y by omega), Bool.false_and, Bool.false_and]))
        have HX : Hid ((bif V then s.mapped (C : Int) l else s) = s) := Lib.hid (by rw [HB.out]; rfl)
        clear hbad hnx hyb
        go_wp2
        refine region_mem H 27 rfl (by kernel_rfl) (fun wr2 hS => ?_)
        clear H
        refine wpAnyR_take (i := 0) (v := (.slice (some ⟨g, o, none⟩) n cap)) rfl rfl (by kernel_rfl) (by kernel_rfl) (by kernel_rfl) (fun _ _ _ h => h) (Nat.le_refl _) ⟨by rfl, fun w _ => (by go_simp; try (first | rfl | omega)), fun _ => rfl⟩ hS ?_
        simp only [List.getElem_toArray, List.getElem_cons_zero, List.getElem_cons_succ, Act.put, List.setIfInBounds_toArray, List.set_cons_zero, List.set_cons_succ]
        refine wpAnyR_take (i := 1) (v := (.int .i64 (k : Int))) rfl rfl (by kernel_rfl) (by kernel_rfl) (by kernel_rfl) (fun _ _ _ h => h) (Nat.le_refl _) ⟨by rfl, fun w _ => (by go_simp; try (first | rfl | omega)), fun _ => rfl⟩ hS ?_
        simp only [List.getElem_toArray, List.getElem_cons_zero, List.getElem_cons_succ, Act.put, List.setIfInBounds_toArray, List.set_cons_zero, List.set_cons_succ]
        refine wpAnyR_take (i := 2) (v := (.pointer (some ⟨g, o + k, none⟩))) rfl rfl (by kernel_rfl) (by kernel_rfl) (by kernel_rfl) (fun _ _ _ h => h) (Nat.le_refl _) ⟨by rfl, fun w _ => (by go_simp; try (first | rfl | omega)), fun _ => rfl⟩ hS ?_
        simp only [List.getElem_toArray, List.getElem_cons_zero, List.getElem_cons_succ, Act.put, List.setIfInBounds_toArray, List.set_cons_zero, List.set_cons_succ]
        refine wpAnyR_take (i := 3) (v := (.int .i64 y)) rfl rfl (by kernel_rfl) (by kernel_rfl) (by kernel_rfl) (fun _ _ _ h => h) (Nat.le_refl _) (yields_old qk0 hg (by exact rfl) (by exact rfl) (by exact rfl) Try.underlying3 rfl) hS ?_
        simp only [List.getElem_toArray, List.getElem_cons_zero, List.getElem_cons_succ, Act.put, List.setIfInBounds_toArray, List.set_cons_zero, List.set_cons_succ]
        refine wpAnyR_take (i := 4) (v := (.bool true)) rfl rfl (by kernel_rfl) (by kernel_rfl) (by kernel_rfl) (fun _ _ _ h => h) (Nat.le_refl _) ⟨by rfl, fun w _ => (by go_simp; try (first | rfl | omega)), fun _ => rfl⟩ hS ?_
        simp only [List.getElem_toArray, List.getElem_cons_zero, List.getElem_cons_succ, Act.put, List.setIfInBounds_toArray, List.set_cons_zero, List.set_cons_succ]
        refine wpAnyR_take (i := 5) (v := (.bool true)) rfl rfl (by kernel_rfl) (by kernel_rfl) (by kernel_rfl) (fun _ _ _ h => h) (Nat.le_refl _) ⟨by rfl, fun w _ => (by go_simp; try (first | rfl | omega)), fun _ => rfl⟩ hS ?_
        simp only [List.getElem_toArray, List.getElem_cons_zero, List.getElem_cons_succ, Act.put, List.setIfInBounds_toArray, List.set_cons_zero, List.set_cons_succ]
        refine wpAnyU_take (i := 6) rfl (fun _ => trivial) rfl (by kernel_rfl) (by kernel_rfl) (by kernel_rfl) (fun _ _ _ h => h) (Nat.le_refl _) (by rfl) hS ?_
        simp only [List.getElem_toArray, List.getElem_cons_zero, List.getElem_cons_succ, Act.put, List.setIfInBounds_toArray, List.set_cons_zero, List.set_cons_succ]
        refine wpAnyU_take (i := 7) rfl (fun _ => trivial) rfl (by kernel_rfl) (by kernel_rfl) (by kernel_rfl) (fun _ _ _ h => h) (Nat.le_refl _) (by rfl) hS ?_
        simp only [List.getElem_toArray, List.getElem_cons_zero, List.getElem_cons_succ, Act.put, List.setIfInBounds_toArray, List.set_cons_zero, List.set_cons_succ]
        refine wpAnyU_take (i := 8) rfl (fun _ => trivial) rfl (by kernel_rfl) (by kernel_rfl) (by kernel_rfl) (fun _ _ _ h => h) (Nat.le_refl _) (by rfl) hS ?_
        simp only [List.getElem_toArray, List.getElem_cons_zero, List.getElem_cons_succ, Act.put, List.setIfInBounds_toArray, List.set_cons_zero, List.set_cons_succ]
        refine wpAnyU_take (i := 9) rfl (fun _ => trivial) rfl (by kernel_rfl) (by kernel_rfl) (by kernel_rfl) (fun _ _ _ h => h) (Nat.le_refl _) (by rfl) hS ?_
        simp only [List.getElem_toArray, List.getElem_cons_zero, List.getElem_cons_succ, Act.put, List.setIfInBounds_toArray, List.set_cons_zero, List.set_cons_succ]
        refine wpAnyU_take (i := 10) rfl (fun _ => trivial) rfl (by kernel_rfl) (by kernel_rfl) (by kernel_rfl) (fun _ _ _ h => h) (Nat.le_refl _) (by rfl) hS ?_
        simp only [List.getElem_toArray, List.getElem_cons_zero, List.getElem_cons_succ, Act.put, List.setIfInBounds_toArray, List.set_cons_zero, List.set_cons_succ]
        refine wpAnyU_take (i := 11) rfl (fun _ => trivial) rfl (by kernel_rfl) (by kernel_rfl) (by kernel_rfl) (fun _ _ _ h => h) (Nat.le_refl _) (by rfl) hS ?_
        simp only [List.getElem_toArray, List.getElem_cons_zero, List.getElem_cons_succ, Act.put, List.setIfInBounds_toArray, List.set_cons_zero, List.set_cons_succ]
        refine wpAnyU_take (i := 12) rfl (fun _ => trivial) rfl (by kernel_rfl) (by kernel_rfl) (by kernel_rfl) (fun _ _ _ h => h) (Nat.le_refl _) (by rfl) hS ?_
        simp only [List.getElem_toArray, List.getElem_cons_zero, List.getElem_cons_succ, Act.put, List.setIfInBounds_toArray, List.set_cons_zero, List.set_cons_succ]
        refine wpAnyU_take (i := 13) rfl (fun _ => trivial) rfl (by kernel_rfl) (by kernel_rfl) (by kernel_rfl) (fun _ _ _ h => h) (Nat.le_refl _) (by rfl) hS ?_
        simp only [List.getElem_toArray, List.getElem_cons_zero, List.getElem_cons_succ, Act.put, List.setIfInBounds_toArray, List.set_cons_zero, List.set_cons_succ]
        refine wpAnyU_take (i := 14) rfl (fun _ => trivial) rfl (by kernel_rfl) (by kernel_rfl) (by kernel_rfl) (fun _ _ _ h => h) (Nat.le_refl _) (by rfl) hS ?_
        simp only [List.getElem_toArray, List.getElem_cons_zero, List.getElem_cons_succ, Act.put, List.setIfInBounds_toArray, List.set_cons_zero, List.set_cons_succ]
        refine wpAnyU_take (i := 15) rfl (fun _ => trivial) rfl (by kernel_rfl) (by kernel_rfl) (by kernel_rfl) (fun _ _ _ h => h) (Nat.le_refl _) (by rfl) hS ?_
        simp only [List.getElem_toArray, List.getElem_cons_zero, List.getElem_cons_succ, Act.put, List.setIfInBounds_toArray, List.set_cons_zero, List.set_cons_succ]
        refine wpAnyR_take (i := 16) (v := (.bool true)) rfl rfl (by kernel_rfl) (by kernel_rfl) (by kernel_rfl) (fun _ _ _ h => h) (Nat.le_refl _) ⟨by rfl, fun w _ => (by go_simp; try (first | rfl | omega)), fun _ => rfl⟩ hS ?_
        simp only [List.getElem_toArray, List.getElem_cons_zero, List.getElem_cons_succ, Act.put, List.setIfInBounds_toArray, List.set_cons_zero, List.set_cons_succ]
        refine wpAnyR_take (i := 17) (v := (.bool true)) rfl rfl (by kernel_rfl) (by kernel_rfl) (by kernel_rfl) (fun _ _ _ h => h) (Nat.le_refl _) ⟨by rfl, fun w _ => (by go_simp; try (first | rfl | omega)), fun _ => rfl⟩ hS ?_
        simp only [List.getElem_toArray, List.getElem_cons_zero, List.getElem_cons_succ, Act.put, List.setIfInBounds_toArray, List.set_cons_zero, List.set_cons_succ]
        refine wpAnyU_take (i := 18) rfl (fun _ => trivial) rfl (by kernel_rfl) (by kernel_rfl) (by kernel_rfl) (fun _ _ _ h => h) (Nat.le_refl _) (by rfl) hS ?_
        simp only [List.getElem_toArray, List.getElem_cons_zero, List.getElem_cons_succ, Act.put, List.setIfInBounds_toArray, List.set_cons_zero, List.set_cons_succ]
        refine wpAnyU_take (i := 19) rfl (fun _ => trivial) rfl (by kernel_rfl) (by kernel_rfl) (by kernel_rfl) (fun _ _ _ h => h) (Nat.le_refl _) (by rfl) hS ?_
        simp only [List.getElem_toArray, List.getElem_cons_zero, List.getElem_cons_succ, Act.put, List.setIfInBounds_toArray, List.set_cons_zero, List.set_cons_succ]
        refine wpAnyU_take (i := 20) rfl (fun _ => trivial) rfl (by kernel_rfl) (by kernel_rfl) (by kernel_rfl) (fun _ _ _ h => h) (Nat.le_refl _) (by rfl) hS ?_
        simp only [List.getElem_toArray, List.getElem_cons_zero, List.getElem_cons_succ, Act.put, List.setIfInBounds_toArray, List.set_cons_zero, List.set_cons_succ]
        refine wpAnyU_take (i := 21) rfl (fun _ => trivial) rfl (by kernel_rfl) (by kernel_rfl) (by kernel_rfl) (fun _ _ _ h => h) (Nat.le_refl _) (by rfl) hS ?_
        simp only [List.getElem_toArray, List.getElem_cons_zero, List.getElem_cons_succ, Act.put, List.setIfInBounds_toArray, List.set_cons_zero, List.set_cons_succ]
        refine wpAnyU_take (i := 22) rfl (fun _ => trivial) rfl (by kernel_rfl) (by kernel_rfl) (by kernel_rfl) (fun _ _ _ h => h) (Nat.le_refl _) (by rfl) hS ?_
        simp only [List.getElem_toArray, List.getElem_cons_zero, List.getElem_cons_succ, Act.put, List.setIfInBounds_toArray, List.set_cons_zero, List.set_cons_succ]
        refine wpAnyU_take (i := 23) rfl (fun _ => trivial) rfl (by kernel_rfl) (by kernel_rfl) (by kernel_rfl) (fun _ _ _ h => h) (Nat.le_refl _) (by rfl) hS ?_
        simp only [List.getElem_toArray, List.getElem_cons_zero, List.getElem_cons_succ, Act.put, List.setIfInBounds_toArray, List.set_cons_zero, List.set_cons_succ]
        refine wpAnyU_take (i := 24) rfl (fun _ => trivial) rfl (by kernel_rfl) (by kernel_rfl) (by kernel_rfl) (fun _ _ _ h => h) (Nat.le_refl _) (by rfl) hS ?_
        simp only [List.getElem_toArray, List.getElem_cons_zero, List.getElem_cons_succ, Act.put, List.setIfInBounds_toArray, List.set_cons_zero, List.set_cons_succ]
        refine wpAnyU_take (i := 25) rfl (fun _ => trivial) rfl (by kernel_rfl) (by kernel_rfl) (by kernel_rfl) (fun _ _ _ h => h) (Nat.le_refl _) (by rfl) hS ?_
        simp only [List.getElem_toArray, List.getElem_cons_zero, List.getElem_cons_succ, Act.put, List.setIfInBounds_toArray, List.set_cons_zero, List.set_cons_succ]
        refine wpAnyG_one (i := 26) (by kernel_rfl) rfl (fun K hK => ?_)
        go_simp
        refine hK _ _ (.inr hS) ?_
        clear hK K
        refine wpAnyG_done (by kernel_rfl) ?_ _
        have H := hS
        clear hS
        go_wp2
        go_ret
        exact ⟨by rw [HB.out]; rfl, ⟨rd, x, by rw [HX.out]; exact HR.out.below H.below, fun i hi => .inl hi⟩, Foot.of_below H.below⟩
      by_cases b2 : Q ≤ y
      · have HB := Lib.hid (show V = false by rw [← HV.out, ← HN.out]; exact hbad (by rw [decide_eq_false (show ¬ y < Q by omega), Bool.and_false, Bool.false_and]))
        have HX : Hid ((bif V then s.mapped (C : Int) l else s) = s) := Lib.hid (by rw [HB.out]; rfl)
        have n1 : 0 ≤ y := by omega
        clear hbad hnx hyb b1
        go_wp2
        refine region_mem H 27 rfl (by kernel_rfl) (fun wr2 hS => ?_)
        clear H
        refine wpAnyR_take (i := 0) (v := (.slice (some ⟨g, o, none⟩) n cap)) rfl rfl (by kernel_rfl) (by kernel_rfl) (by kernel_rfl) (fun _ _ _ h => h) (Nat.le_refl _) ⟨by rfl, fun w _ => (by go_simp; try (first | rfl | omega)), fun _ => rfl⟩ hS ?_
        simp only [List.getElem_toArray, List.getElem_cons_zero, List.getElem_cons_succ, Act.put, List.setIfInBounds_toArray, List.set_cons_zero, List.set_cons_succ]
        refine wpAnyR_take (i := 1) (v := (.int .i64 (k : Int))) rfl rfl (by kernel_rfl) (by kernel_rfl) (by kernel_rfl) (fun _ _ _ h => h) (Nat.le_refl _) ⟨by rfl, fun w _ => (by go_simp; try (first | rfl | omega)), fun _ => rfl⟩ hS ?_
        simp only [List.getElem_toArray, List.getElem_cons_zero, List.getElem_cons_succ, Act.put, List.setIfInBounds_toArray, List.set_cons_zero, List.set_cons_succ]
        refine wpAnyR_take (i := 2) (v := (.pointer (some ⟨g, o + k, none⟩))) rfl rfl (by kernel_rfl) (by kernel_rfl) (by kernel_rfl) (fun _ _ _ h => h) (Nat.le_refl _) ⟨by rfl, fun w _ => (by go_simp; try (first | rfl | omega)), fun _ => rfl⟩ hS ?_
        simp only [List.getElem_toArray, List.getElem_cons_zero, List.getElem_cons_succ, Act.put, List.setIfInBounds_toArray, List.set_cons_zero, List.set_cons_succ]
        refine wpAnyR_take (i := 3) (v := (.int .i64 y)) rfl rfl (by kernel_rfl) (by kernel_rfl) (by kernel_rfl) (fun _ _ _ h => h) (Nat.le_refl _) (yields_old qk0 hg (by exact rfl) (by exact rfl) (by exact rfl) Try.underlying3 rfl) hS ?_
        simp only [List.getElem_toArray, List.getElem_cons_zero, List.getElem_cons_succ, Act.put, List.setIfInBounds_toArray, List.set_cons_zero, List.set_cons_succ]
        refine wpAnyR_take (i := 4) (v := (.bool false)) rfl rfl (by kernel_rfl) (by kernel_rfl) (by kernel_rfl) (fun _ _ _ h => h) (Nat.le_refl _) ⟨by rfl, fun w _ => (by go_simp; try (first | rfl | omega)), fun _ => rfl⟩ hS ?_
        simp only [List.getElem_toArray, List.getElem_cons_zero, List.getElem_cons_succ, Act.put, List.setIfInBounds_toArray, List.set_cons_zero, List.set_cons_succ]
        refine wpAnyR_take (i := 5) (v := (.bool false)) rfl rfl (by kernel_rfl) (by kernel_rfl) (by kernel_rfl) (fun _ _ _ h => h) (Nat.le_refl _) ⟨by rfl, fun w _ => (by go_simp; try (first | rfl | omega)), fun _ => rfl⟩ hS ?_
        simp only [List.getElem_toArray, List.getElem_cons_zero, List.getElem_cons_succ, Act.put, List.setIfInBounds_toArray, List.set_cons_zero, List.set_cons_succ]
        refine wpAnyR_take (i := 6) (v := (.slice (some ⟨g, o, none⟩) n cap)) rfl rfl (by kernel_rfl) (by kernel_rfl) (by kernel_rfl) (fun _ _ _ h => h) (Nat.le_refl _) ⟨by rfl, fun w _ => (by go_simp; try (first | rfl | omega)), fun _ => rfl⟩ hS ?_
        simp only [List.getElem_toArray, List.getElem_cons_zero, List.getElem_cons_succ, Act.put, List.setIfInBounds_toArray, List.set_cons_zero, List.set_cons_succ]
        refine wpAnyR_take (i := 7) (v := (.int .i64 (k : Int))) rfl rfl (by kernel_rfl) (by kernel_rfl) (by kernel_rfl) (fun _ _ _ h => h) (Nat.le_refl _) ⟨by rfl, fun w _ => (by go_simp; try (first | rfl | omega)), fun _ => rfl⟩ hS ?_
        simp only [List.getElem_toArray, List.getElem_cons_zero, List.getElem_cons_succ, Act.put, List.setIfInBounds_toArray, List.set_cons_zero, List.set_cons_succ]
        refine wpAnyR_take (i := 8) (v := (.pointer (some ⟨g, o + k, none⟩))) rfl rfl (by kernel_rfl) (by kernel_rfl) (by kernel_rfl) (fun _ _ _ h => h) (Nat.le_refl _) ⟨by rfl, fun w _ => (by go_simp; try (first | rfl | omega)), fun _ => rfl⟩ hS ?_
        simp only [List.getElem_toArray, List.getElem_cons_zero, List.getElem_cons_succ, Act.put, List.setIfInBounds_toArray, List.set_cons_zero, List.set_cons_succ]
        refine wpAnyR_take (i := 9) (v := (.int .i64 y)) rfl rfl (by kernel_rfl) (by kernel_rfl) (by kernel_rfl) (fun _ _ _ h => h) (Nat.le_refl _) (yields_old qk0 hg (by exact rfl) (by exact rfl) (by exact rfl) Try.underlying3 rfl) hS ?_
        simp only [List.getElem_toArray, List.getElem_cons_zero, List.getElem_cons_succ, Act.put, List.setIfInBounds_toArray, List.set_cons_zero, List.set_cons_succ]
        refine wpAnyR_take (i := 10) (v := (.pointer (some ⟨p, 0, none⟩))) rfl rfl (by kernel_rfl) (by kernel_rfl) (by kernel_rfl) (fun _ _ _ h => h) (Nat.le_refl _) ⟨by rfl, fun w _ => (by go_simp; try (first | rfl | omega)), fun _ => rfl⟩ hS ?_
        simp only [List.getElem_toArray, List.getElem_cons_zero, List.getElem_cons_succ, Act.put, List.setIfInBounds_toArray, List.set_cons_zero, List.set_cons_succ]
        refine wpAnyR_take (i := 11) (v := (.pointer (some ⟨p, 0, none⟩))) rfl rfl (by kernel_rfl) (by kernel_rfl) (by kernel_rfl) (fun _ _ _ h => h) (Nat.le_refl _) ⟨by rfl, fun w _ => (by go_simp; try (first | rfl | omega)), fun _ => rfl⟩ hS ?_
        simp only [List.getElem_toArray, List.getElem_cons_zero, List.getElem_cons_succ, Act.put, List.setIfInBounds_toArray, List.set_cons_zero, List.set_cons_succ]
        refine wpAnyR_take (i := 12) (v := (.pointer (some ⟨p, 0, none⟩))) rfl rfl (by kernel_rfl) (by kernel_rfl) (by kernel_rfl) (fun _ _ _ h => h) (Nat.le_refl _) ⟨by rfl, fun w _ => (by go_simp; try (first | rfl | omega)), fun _ => rfl⟩ hS ?_
        simp only [List.getElem_toArray, List.getElem_cons_zero, List.getElem_cons_succ, Act.put, List.setIfInBounds_toArray, List.set_cons_zero, List.set_cons_succ]
        refine wpAnyR_take (i := 13) (v := (.pointer (some ⟨p, 0, none⟩))) rfl rfl (by kernel_rfl) (by kernel_rfl) (by kernel_rfl) (fun _ _ _ h => h) (Nat.le_refl _) ⟨by rfl, fun w _ => (by go_simp; try (first | rfl | omega)), fun _ => rfl⟩ hS ?_
        simp only [List.getElem_toArray, List.getElem_cons_zero, List.getElem_cons_succ, Act.put, List.setIfInBounds_toArray, List.set_cons_zero, List.set_cons_succ]
        refine wpAnyR_take (i := 14) (v := (.int .i64 Q)) rfl rfl (by kernel_rfl) (by kernel_rfl) (by kernel_rfl) (fun _ _ _ h => h) (Nat.le_refl _) (yields_old q0 hp (by exact rfl) (by exact rfl) (by exact rfl) Try.underlying3 rfl) hS ?_
        simp only [List.getElem_toArray, List.getElem_cons_zero, List.getElem_cons_succ, Act.put, List.setIfInBounds_toArray, List.set_cons_zero, List.set_cons_succ]
        refine wpAnyR_take (i := 15) (v := (.bool true)) rfl rfl (by kernel_rfl) (by kernel_rfl) (by kernel_rfl) (fun _ _ _ h => h) (Nat.le_refl _) ⟨by rfl, fun w _ => (by go_simp; try (first | rfl | omega)), fun _ => rfl⟩ hS ?_
        simp only [List.getElem_toArray, List.getElem_cons_zero, List.getElem_cons_succ, Act.put, List.setIfInBounds_toArray, List.set_cons_zero, List.set_cons_succ]
        refine wpAnyR_take (i := 16) (v := (.bool true)) rfl rfl (by kernel_rfl) (by kernel_rfl) (by kernel_rfl) (fun _ _ _ h => h) (Nat.le_refl _) ⟨by rfl, fun w _ => (by go_simp; try (first | rfl | omega)), fun _ => rfl⟩ hS ?_
        simp only [List.getElem_toArray, List.getElem_cons_zero, List.getElem_cons_succ, Act.put, List.setIfInBounds_toArray, List.set_cons_zero, List.set_cons_succ]
        refine wpAnyR_take (i := 17) (v := (.bool true)) rfl rfl (by kernel_rfl) (by kernel_rfl) (by kernel_rfl) (fun _ _ _ h => h) (Nat.le_refl _) ⟨by rfl, fun w _ => (by go_simp; try (first | rfl | omega)), fun _ => rfl⟩ hS ?_
        simp only [List.getElem_toArray, List.getElem_cons_zero, List.getElem_cons_succ, Act.put, List.setIfInBounds_toArray, List.set_cons_zero, List.set_cons_succ]
        refine wpAnyU_take (i := 18) rfl (fun _ => trivial) rfl (by kernel_rfl) (by kernel_rfl) (by kernel_rfl) (fun _ _ _ h => h) (Nat.le_refl _) (by rfl) hS ?_
        simp only [List.getElem_toArray, List.getElem_cons_zero, List.getElem_cons_succ, Act.put, List.setIfInBounds_toArray, List.set_cons_zero, List.set_cons_succ]
        refine wpAnyU_take (i := 19) rfl (fun _ => trivial) rfl (by kernel_rfl) (by kernel_rfl) (by kernel_rfl) (fun _ _ _ h => h) (Nat.le_refl _) (by rfl) hS ?_
        simp only [List.getElem_toArray, List.getElem_cons_zero, List.getElem_cons_succ, Act.put, List.setIfInBounds_toArray, List.set_cons_zero, List.set_cons_succ]
        refine wpAnyU_take (i := 20) rfl (fun _ => trivial) rfl (by kernel_rfl) (by kernel_rfl) (by kernel_rfl) (fun _ _ _ h => h) (Nat.le_refl _) (by rfl) hS ?_
        simp only [List.getElem_toArray, List.getElem_cons_zero, List.getElem_cons_succ, Act.put, List.setIfInBounds_toArray, List.set_cons_zero, List.set_cons_succ]
        refine wpAnyU_take (i := 21) rfl (fun _ => trivial) rfl (by kernel_rfl) (by kernel_rfl) (by kernel_rfl) (fun _ _ _ h => h) (Nat.le_refl _) (by rfl) hS ?_
        simp only [List.getElem_toArray, List.getElem_cons_zero, List.getElem_cons_succ, Act.put, List.setIfInBounds_toArray, List.set_cons_zero, List.set_cons_succ]
        refine wpAnyU_take (i := 22) rfl (fun _ => trivial) rfl (by kernel_rfl) (by kernel_rfl) (by kernel_rfl) (fun _ _ _ h => h) (Nat.le_refl _) (by rfl) hS ?_
        simp only [List.getElem_toArray, List.getElem_cons_zero, List.getElem_cons_succ, Act.put, List.setIfInBounds_toArray, List.set_cons_zero, List.set_cons_succ]
        refine wpAnyU_take (i := 23) rfl (fun _ => trivial) rfl (by kernel_rfl) (by kernel_rfl) (by kernel_rfl) (fun _ _ _ h => h) (Nat.le_refl _) (by rfl) hS ?_
        simp only [List.getElem_toArray, List.getElem_cons_zero, List.getElem_cons_succ, Act.put, List.setIfInBounds_toArray, List.set_cons_zero, List.set_cons_succ]
        refine wpAnyU_take (i := 24) rfl (fun _ => trivial) rfl (by kernel_rfl) (by kernel_rfl) (by kernel_rfl) (fun _ _ _ h => h) (Nat.le_refl _) (by rfl) hS ?_
        simp only [List.getElem_toArray, List.getElem_cons_zero, List.getElem_cons_succ, Act.put, List.setIfInBounds_toArray, List.set_cons_zero, List.set_cons_succ]
        refine wpAnyU_take (i := 25) rfl (fun _ => trivial) rfl (by kernel_rfl) (by kernel_rfl) (by kernel_rfl) (fun _ _ _ h => h) (Nat.le_refl _) (by rfl) hS ?_
        simp only [List.getElem_toArray, List.getElem_cons_zero, List.getElem_cons_succ, Act.put, List.setIfInBounds_toArray, List.set_cons_zero, List.set_cons_succ]
        refine wpAnyG_one (i := 26) (by kernel_rfl) rfl (fun K hK => ?_)
        go_simp
        refine hK _ _ (.inr hS) ?_
        clear hK K
        refine wpAnyG_done (by kernel_rfl) ?_ _
        have H := hS
        clear hS
        go_wp2
        go_ret
        exact ⟨by rw [HB.out]; rfl, ⟨rd, x, by rw [HX.out]; exact HR.out.below H.below, fun i hi => .inl hi⟩, Foot.of_below H.below⟩
      have kh := fun (w : World) (h : RowI w.heap.size w (some ⟨g, o, none⟩) (l.take k)) => has9_r (some ⟨g, o, none⟩) k cap (l.take k) y w (by rw [List.length_take]; have := HN.out; omega) h (by omega) (by unfold maxLen; omega)
      have kh2 := fun (w : World) (hb : Below W.heap.size W w) => kh w (((HRW.out.take k).same hb.block).mono hb.size)
      rcases hm : decide (y ∈ l.take k) with _ | _
      all_goals rw [hm] at kh2 hbad hnx
      · have HNX := Lib.hid (show okTo Q l (k + 1) = true by rw [hnx, hok.out, decide_eq_true (show 0 ≤ y by omega), decide_eq_true (show y < Q by omega)]; rfl)
        have n1 : 0 ≤ y := by omega
        have n2 : y < Q := by omega
        clear hbad hnx hyb b1 b2 hm kh
        go_wp2
        refine region_mem H 27 rfl (by kernel_rfl) (fun wr2 hS => ?_)
        clear H
        refine wpAnyR_take (i := 0) (v := (.slice (some ⟨g, o, none⟩) n cap)) rfl rfl (by kernel_rfl) (by kernel_rfl) (by kernel_rfl) (fun _ _ _ h => h) (Nat.le_refl _) ⟨by rfl, fun w _ => (by go_simp; try (first | rfl | omega)), fun _ => rfl⟩ hS ?_
        simp only [List.getElem_toArray, List.getElem_cons_zero, List.getElem_cons_succ, Act.put, List.setIfInBounds_toArray, List.set_cons_zero, List.set_cons_succ]
        refine wpAnyR_take (i := 1) (v := (.int .i64 (k : Int))) rfl rfl (by kernel_rfl) (by kernel_rfl) (by kernel_rfl) (fun _ _ _ h => h) (Nat.le_refl _) ⟨by rfl, fun w _ => (by go_simp; try (first | rfl | omega)), fun _ => rfl⟩ hS ?_
        simp only [List.getElem_toArray, List.getElem_cons_zero, List.getElem_cons_succ, Act.put, List.setIfInBounds_toArray, List.set_cons_zero, List.set_cons_succ]
        refine wpAnyR_take (i := 2) (v := (.pointer (some ⟨g, o + k, none⟩))) rfl rfl (by kernel_rfl) (by kernel_rfl) (by kernel_rfl) (fun _ _ _ h => h) (Nat.le_refl _) ⟨by rfl, fun w _ => (by go_simp; try (first | rfl | omega)), fun _ => rfl⟩ hS ?_
        simp only [List.getElem_toArray, List.getElem_cons_zero, List.getElem_cons_succ, Act.put, List.setIfInBounds_toArray, List.set_cons_zero, List.set_cons_succ]
        refine wpAnyR_take (i := 3) (v := (.int .i64 y)) rfl rfl (by kernel_rfl) (by kernel_rfl) (by kernel_rfl) (fun _ _ _ h => h) (Nat.le_refl _) (yields_old qk0 hg (by exact rfl) (by exact rfl) (by exact rfl) Try.underlying3 rfl) hS ?_
        simp only [List.getElem_toArray, List.getElem_cons_zero, List.getElem_cons_succ, Act.put, List.setIfInBounds_toArray, List.set_cons_zero, List.set_cons_succ]
        refine wpAnyR_take (i := 4) (v := (.bool false)) rfl rfl (by kernel_rfl) (by kernel_rfl) (by kernel_rfl) (fun _ _ _ h => h) (Nat.le_refl _) ⟨by rfl, fun w _ => (by go_simp; try (first | rfl | omega)), fun _ => rfl⟩ hS ?_
        simp only [List.getElem_toArray, List.getElem_cons_zero, List.getElem_cons_succ, Act.put, List.setIfInBounds_toArray, List.set_cons_zero, List.set_cons_succ]
        refine wpAnyR_take (i := 5) (v := (.bool false)) rfl rfl (by kernel_rfl) (by kernel_rfl) (by kernel_rfl) (fun _ _ _ h => h) (Nat.le_refl _) ⟨by rfl, fun w _ => (by go_simp; try (first | rfl | omega)), fun _ => rfl⟩ hS ?_
        simp only [List.getElem_toArray, List.getElem_cons_zero, List.getElem_cons_succ, Act.put, List.setIfInBounds_toArray, List.set_cons_zero, List.set_cons_succ]
        refine wpAnyR_take (i := 6) (v := (.slice (some ⟨g, o, none⟩) n cap)) rfl rfl (by kernel_rfl) (by kernel_rfl) (by kernel_rfl) (fun _ _ _ h => h) (Nat.le_refl _) ⟨by rfl, fun w _ => (by go_simp; try (first | rfl | omega)), fun _ => rfl⟩ hS ?_
        simp only [List.getElem_toArray, List.getElem_cons_zero, List.getElem_cons_succ, Act.put, List.setIfInBounds_toArray, List.set_cons_zero, List.set_cons_succ]
        refine wpAnyR_take (i := 7) (v := (.int .i64 (k : Int))) rfl rfl (by kernel_rfl) (by kernel_rfl) (by kernel_rfl) (fun _ _ _ h => h) (Nat.le_refl _) ⟨by rfl, fun w _ => (by go_simp; try (first | rfl | omega)), fun _ => rfl⟩ hS ?_
        simp only [List.getElem_toArray, List.getElem_cons_zero, List.getElem_cons_succ, Act.put, List.setIfInBounds_toArray, List.set_cons_zero, List.set_cons_succ]
        refine wpAnyR_take (i := 8) (v := (.pointer (some ⟨g, o + k, none⟩))) rfl rfl (by kernel_rfl) (by kernel_rfl) (by kernel_rfl) (fun _ _ _ h => h) (Nat.le_refl _) ⟨by rfl, fun w _ => (by go_simp; try (first | rfl | omega)), fun _ => rfl⟩ hS ?_
        simp only [List.getElem_toArray, List.getElem_cons_zero, List.getElem_cons_succ, Act.put, List.setIfInBounds_toArray, List.set_cons_zero, List.set_cons_succ]
        refine wpAnyR_take (i := 9) (v := (.int .i64 y)) rfl rfl (by kernel_rfl) (by kernel_rfl) (by kernel_rfl) (fun _ _ _ h => h) (Nat.le_refl _) (yields_old qk0 hg (by exact rfl) (by exact rfl) (by exact rfl) Try.underlying3 rfl) hS ?_
        simp only [List.getElem_toArray, List.getElem_cons_zero, List.getElem_cons_succ, Act.put, List.setIfInBounds_toArray, List.set_cons_zero, List.set_cons_succ]
        refine wpAnyR_take (i := 10) (v := (.pointer (some ⟨p, 0, none⟩))) rfl rfl (by kernel_rfl) (by kernel_rfl) (by kernel_rfl) (fun _ _ _ h => h) (Nat.le_refl _) ⟨by rfl, fun w _ => (by go_simp; try (first | rfl | omega)), fun _ => rfl⟩ hS ?_
        simp only [List.getElem_toArray, List.getElem_cons_zero, List.getElem_cons_succ, Act.put, List.setIfInBounds_toArray, List.set_cons_zero, List.set_cons_succ]
        refine wpAnyR_take (i := 11) (v := (.pointer (some ⟨p, 0, none⟩))) rfl rfl (by kernel_rfl) (by kernel_rfl) (by kernel_rfl) (fun _ _ _ h => h) (Nat.le_refl _) ⟨by rfl, fun w _ => (by go_simp; try (first | rfl | omega)), fun _ => rfl⟩ hS ?_
        simp only [List.getElem_toArray, List.getElem_cons_zero, List.getElem_cons_succ, Act.put, List.setIfInBounds_toArray, List.set_cons_zero, List.set_cons_succ]
        refine wpAnyR_take (i := 12) (v := (.pointer (some ⟨p, 0, none⟩))) rfl rfl (by kernel_rfl) (by kernel_rfl) (by kernel_rfl) (fun _ _ _ h => h) (Nat.le_refl _) ⟨by rfl, fun w _ => (by go_simp; try (first | rfl | omega)), fun _ => rfl⟩ hS ?_
        simp only [List.getElem_toArray, List.getElem_cons_zero, List.getElem_cons_succ, Act.put, List.setIfInBounds_toArray, List.set_cons_zero, List.set_cons_succ]
        refine wpAnyR_take (i := 13) (v := (.pointer (some ⟨p, 0, none⟩))) rfl rfl (by kernel_rfl) (by kernel_rfl) (by kernel_rfl) (fun _ _ _ h => h) (Nat.le_refl _) ⟨by rfl, fun w _ => (by go_simp; try (first | rfl | omega)), fun _ => rfl⟩ hS ?_
        simp only [List.getElem_toArray, List.getElem_cons_zero, List.getElem_cons_succ, Act.put, List.setIfInBounds_toArray, List.set_cons_zero, List.set_cons_succ]
        refine wpAnyR_take (i := 14) (v := (.int .i64 Q)) rfl rfl (by kernel_rfl) (by kernel_rfl) (by kernel_rfl) (fun _ _ _ h => h) (Nat.le_refl _) (yields_old q0 hp (by exact rfl) (by exact rfl) (by exact rfl) Try.underlying3 rfl) hS ?_
        simp only [List.getElem_toArray, List.getElem_cons_zero, List.getElem_cons_succ, Act.put, List.setIfInBounds_toArray, List.set_cons_zero, List.set_cons_succ]
        refine wpAnyR_take (i := 15) (v := (.bool false)) rfl rfl (by kernel_rfl) (by kernel_rfl) (by kernel_rfl) (fun _ _ _ h => h) (Nat.le_refl _) ⟨by rfl, fun w _ => (by go_simp; try (first | rfl | omega)), fun _ => rfl⟩ hS ?_
        simp only [List.getElem_toArray, List.getElem_cons_zero, List.getElem_cons_succ, Act.put, List.setIfInBounds_toArray, List.set_cons_zero, List.set_cons_succ]
        refine wpAnyR_take (i := 16) (v := (.bool false)) rfl rfl (by kernel_rfl) (by kernel_rfl) (by kernel_rfl) (fun _ _ _ h => h) (Nat.le_refl _) ⟨by rfl, fun w _ => (by go_simp; try (first | rfl | omega)), fun _ => rfl⟩ hS ?_
        simp only [List.getElem_toArray, List.getElem_cons_zero, List.getElem_cons_succ, Act.put, List.setIfInBounds_toArray, List.set_cons_zero, List.set_cons_succ]
        refine wpAnyR_take (i := 17) (v := (.bool false)) rfl rfl (by kernel_rfl) (by kernel_rfl) (by kernel_rfl) (fun _ _ _ h => h) (Nat.le_refl _) ⟨by rfl, fun w _ => (by go_simp; try (first | rfl | omega)), fun _ => rfl⟩ hS ?_
        simp only [List.getElem_toArray, List.getElem_cons_zero, List.getElem_cons_succ, Act.put, List.setIfInBounds_toArray, List.set_cons_zero, List.set_cons_succ]
        refine wpAnyR_take (i := 18) (v := (.slice (some ⟨g, o, none⟩) n cap)) rfl rfl (by kernel_rfl) (by kernel_rfl) (by kernel_rfl) (fun _ _ _ h => h) (Nat.le_refl _) ⟨by rfl, fun w _ => (by go_simp; try (first | rfl | omega)), fun _ => rfl⟩ hS ?_
        simp only [List.getElem_toArray, List.getElem_cons_zero, List.getElem_cons_succ, Act.put, List.setIfInBounds_toArray, List.set_cons_zero, List.set_cons_succ]
        refine wpAnyR_take (i := 19) (v := (.int .i64 (k : Int))) rfl rfl (by kernel_rfl) (by kernel_rfl) (by kernel_rfl) (fun _ _ _ h => h) (Nat.le_refl _) ⟨by rfl, fun w _ => (by go_simp; try (first | rfl | omega)), fun _ => rfl⟩ hS ?_
        simp only [List.getElem_toArray, List.getElem_cons_zero, List.getElem_cons_succ, Act.put, List.setIfInBounds_toArray, List.set_cons_zero, List.set_cons_succ]
        refine wpAnyR_take (i := 20) (v := (.slice (some ⟨g, o, none⟩) k cap)) rfl rfl (by kernel_rfl) (by kernel_rfl) (by kernel_rfl) (fun _ _ _ h => h) (Nat.le_refl _) ⟨by rfl, fun w _ => (by go_simp; try (first | rfl | omega)), fun _ => rfl⟩ hS ?_
        simp only [List.getElem_toArray, List.getElem_cons_zero, List.getElem_cons_succ, Act.put, List.setIfInBounds_toArray, List.set_cons_zero, List.set_cons_succ]
        refine wpAnyR_take (i := 21) (v := (.slice (some ⟨g, o, none⟩) n cap)) rfl rfl (by kernel_rfl) (by kernel_rfl) (by kernel_rfl) (fun _ _ _ h => h) (Nat.le_refl _) ⟨by rfl, fun w _ => (by go_simp; try (first | rfl | omega)), fun _ => rfl⟩ hS ?_
        simp only [List.getElem_toArray, List.getElem_cons_zero, List.getElem_cons_succ, Act.put, List.setIfInBounds_toArray, List.set_cons_zero, List.set_cons_succ]
        refine wpAnyR_take (i := 22) (v := (.int .i64 (k : Int))) rfl rfl (by kernel_rfl) (by kernel_rfl) (by kernel_rfl) (fun _ _ _ h => h) (Nat.le_refl _) ⟨by rfl, fun w _ => (by go_simp; try (first | rfl | omega)), fun _ => rfl⟩ hS ?_
        simp only [List.getElem_toArray, List.getElem_cons_zero, List.getElem_cons_succ, Act.put, List.setIfInBounds_toArray, List.set_cons_zero, List.set_cons_succ]
        refine wpAnyR_take (i := 23) (v := (.pointer (some ⟨g, o + k, none⟩))) rfl rfl (by kernel_rfl) (by kernel_rfl) (by kernel_rfl) (fun _ _ _ h => h) (Nat.le_refl _) ⟨by rfl, fun w _ => (by go_simp; try (first | rfl | omega)), fun _ => rfl⟩ hS ?_
        simp only [List.getElem_toArray, List.getElem_cons_zero, List.getElem_cons_succ, Act.put, List.setIfInBounds_toArray, List.set_cons_zero, List.set_cons_succ]
        refine wpAnyR_take (i := 24) (v := (.int .i64 y)) rfl rfl (by kernel_rfl) (by kernel_rfl) (by kernel_rfl) (fun _ _ _ h => h) (Nat.le_refl _) (yields_old qk0 hg (by exact rfl) (by exact rfl) (by exact rfl) Try.underlying3 rfl) hS ?_
        simp only [List.getElem_toArray, List.getElem_cons_zero, List.getElem_cons_succ, Act.put, List.setIfInBounds_toArray, List.set_cons_zero, List.set_cons_succ]
        refine wpAnyG_one (i := 25) (by kernel_rfl) rfl (fun K hK => ?_)
        go_simp
        refine ⟨trivial, (callsIn_wide.2 (kh2 _ hS.below)).mono ?_⟩
        rintro e w5 ⟨rfl, hb⟩
        have hS5 := hS.call hb
        refine hK _ _ (.inr hS5) ?_
        clear hK K hS hb
        have hS := hS5
        clear hS5
        try simp only [List.getElem_toArray, List.getElem_cons_zero, List.getElem_cons_succ, Act.put, List.setIfInBounds_toArray, List.set_cons_zero, List.set_cons_succ]
        refine wpAnyG_one (i := 26) (by kernel_rfl) rfl (fun K hK => ?_)
        go_simp
        refine hK _ _ (.inr hS) ?_
        clear hK K
        refine wpAnyG_done (by kernel_rfl) ?_ _
        have H := hS
        clear hS
        go_wp2
        go_roundw
        case rel => exact ⟨k + 1, by omega, by go_num, HNX, H⟩
        case measure => simp [intOf]; omega
      · have HB := Lib.hid (show V = false by rw [← HV.out, ← HN.out]; exact hbad (by rw [Bool.not_true, Bool.and_false]))
        have HX : Hid ((bif V then s.mapped (C : Int) l else s) = s) := Lib.hid (by rw [HB.out]; rfl)
        have n1 : 0 ≤ y := by omega
        have n2 : y < Q := by omega
        clear hbad hnx hyb b1 b2 hm kh
        go_wp2
        refine region_mem H 27 rfl (by kernel_rfl) (fun wr2 hS => ?_)
        clear H
        refine wpAnyR_take (i := 0) (v := (.slice (some ⟨g, o, none⟩) n cap)) rfl rfl (by kernel_rfl) (by kernel_rfl) (by kernel_rfl) (fun _ _ _ h => h) (Nat.le_refl _) ⟨by rfl, fun w _ => (by go_simp; try (first | rfl | omega)), fun _ => rfl⟩ hS ?_
        simp only [List.getElem_toArray, List.getElem_cons_zero, List.getElem_cons_succ, Act.put, List.setIfInBounds_toArray, List.set_cons_zero, List.set_cons_succ]
        refine wpAnyR_take (i := 1) (v := (.int .i64 (k : Int))) rfl rfl (by kernel_rfl) (by kernel_rfl) (by kernel_rfl) (fun _ _ _ h => h) (Nat.le_refl _) ⟨by rfl, fun w _ => (by go_simp; try (first | rfl | omega)), fun _ => rfl⟩ hS ?_
        simp only [List.getElem_toArray, List.getElem_cons_zero, List.getElem_cons_succ, Act.put, List.setIfInBounds_toArray, List.set_cons_zero, List.set_cons_succ]
        refine wpAnyR_take (i := 2) (v := (.pointer (some ⟨g, o + k, none⟩))) rfl rfl (by kernel_rfl) (by kernel_rfl) (by kernel_rfl) (fun _ _ _ h => h) (Nat.le_refl _) ⟨by rfl, fun w _ => (by go_simp; try (first | rfl | omega)), fun _ => rfl⟩ hS ?_
        simp only [List.getElem_toArray, List.getElem_cons_zero, List.getElem_cons_succ, Act.put, List.setIfInBounds_toArray, List.set_cons_zero, List.set_cons_succ]
        refine wpAnyR_take (i := 3) (v := (.int .i64 y)) rfl rfl (by kernel_rfl) (by kernel_rfl) (by kernel_rfl) (fun _ _ _ h => h) (Nat.le_refl _) (yields_old qk0 hg (by exact rfl) (by exact rfl) (by exact rfl) Try.underlying3 rfl) hS ?_
        simp only [List.getElem_toArray, List.getElem_cons_zero, List.getElem_cons_succ, Act.put, List.setIfInBounds_toArray, List.set_cons_zero, List.set_cons_succ]
        refine wpAnyR_take (i := 4) (v := (.bool false)) rfl rfl (by kernel_rfl) (by kernel_rfl) (by kernel_rfl) (fun _ _ _ h => h) (Nat.le_refl _) ⟨by rfl, fun w _ => (by go_simp; try (first | rfl | omega)), fun _ => rfl⟩ hS ?_
        simp only [List.getElem_toArray, List.getElem_cons_zero, List.getElem_cons_succ, Act.put, List.setIfInBounds_toArray, List.set_cons_zero, List.set_cons_succ]
        refine wpAnyR_take (i := 5) (v := (.bool false)) rfl rfl (by kernel_rfl) (by kernel_rfl) (by kernel_rfl) (fun _ _ _ h => h) (Nat.le_refl _) ⟨by rfl, fun w _ => (by go_simp; try (first | rfl | omega)), fun _ => rfl⟩ hS ?_
        simp only [List.getElem_toArray, List.getElem_cons_zero, List.getElem_cons_succ, Act.put, List.setIfInBounds_toArray, List.set_cons_zero, List.set_cons_succ]
        refine wpAnyR_take (i := 6) (v := (.slice (some ⟨g, o, none⟩) n cap)) rfl rfl (by kernel_rfl) (by kernel_rfl) (by kernel_rfl) (fun _ _ _ h => h) (Nat.le_refl _) ⟨by rfl, fun w _ => (by go_simp; try (first | rfl | omega)), fun _ => rfl⟩ hS ?_
        simp only [List.getElem_toArray, List.getElem_cons_zero, List.getElem_cons_succ, Act.put, List.setIfInBounds_toArray, List.set_cons_zero, List.set_cons_succ]
        refine wpAnyR_take (i := 7) (v := (.int .i64 (k : Int))) rfl rfl (by kernel_rfl) (by kernel_rfl) (by kernel_rfl) (fun _ _ _ h => h) (Nat.le_refl _) ⟨by rfl, fun w _ => (by go_simp; try (first | rfl | omega)), fun _ => rfl⟩ hS ?_
        simp only [List.getElem_toArray, List.getElem_cons_zero, List.getElem_cons_succ, Act.put, List.setIfInBounds_toArray, List.set_cons_zero, List.set_cons_succ]
        refine wpAnyR_take (i := 8) (v := (.pointer (some ⟨g, o + k, none⟩))) rfl rfl (by kernel_rfl) (by kernel_rfl) (by kernel_rfl) (fun _ _ _ h => h) (Nat.le_refl _) ⟨by rfl, fun w _ => (by go_simp; try (first | rfl | omega)), fun _ => rfl⟩ hS ?_
        simp only [List.getElem_toArray, List.getElem_cons_zero, List.getElem_cons_succ, Act.put, List.setIfInBounds_toArray, List.set_cons_zero, List.set_cons_succ]
        refine wpAnyR_take (i := 9) (v := (.int .i64 y)) rfl rfl (by kernel_rfl) (by kernel_rfl) (by kernel_rfl) (fun _ _ _ h => h) (Nat.le_refl _) (yields_old qk0 hg (by exact rfl) (by exact rfl) (by exact rfl) Try.underlying3 rfl) hS ?_
        simp only [List.getElem_toArray, List.getElem_cons_zero, List.getElem_cons_succ, Act.put, List.setIfInBounds_toArray, List.set_cons_zero, List.set_cons_succ]
        refine wpAnyR_take (i := 10) (v := (.pointer (some ⟨p, 0, none⟩))) rfl rfl (by kernel_rfl) (by kernel_rfl) (by kernel_rfl) (fun _ _ _ h => h) (Nat.le_refl _) ⟨by rfl, fun w _ => (by go_simp; try (first | rfl | omega)), fun _ => rfl⟩ hS ?_
        simp only [List.getElem_toArray, List.getElem_cons_zero, List.getElem_cons_succ, Act.put, List.setIfInBounds_toArray, List.set_cons_zero, List.set_cons_succ]
        refine wpAnyR_take (i := 11) (v := (.pointer (some ⟨p, 0, none⟩))) rfl rfl (by kernel_rfl) (by kernel_rfl) (by kernel_rfl) (fun _ _ _ h => h) (Nat.le_refl _) ⟨by rfl, fun w _ => (by go_simp; try (first | rfl | omega)), fun _ => rfl⟩ hS ?_
        simp only [List.getElem_toArray, List.getElem_cons_zero, List.getElem_cons_succ, Act.put, List.setIfInBounds_toArray, List.set_cons_zero, List.set_cons_succ]
        refine wpAnyR_take (i := 12) (v := (.pointer (some ⟨p, 0, none⟩))) rfl rfl (by kernel_rfl) (by kernel_rfl) (by kernel_rfl) (fun _ _ _ h => h) (Nat.le_refl _) ⟨by rfl, fun w _ => (by go_simp; try (first | rfl | omega)), fun _ => rfl⟩ hS ?_
        simp only [List.getElem_toArray, List.getElem_cons_zero, List.getElem_cons_succ, Act.put, List.setIfInBounds_toArray, List.set_cons_zero, List.set_cons_succ]
        refine wpAnyR_take (i := 13) (v := (.pointer (some ⟨p, 0, none⟩))) rfl rfl (by kernel_rfl) (by kernel_rfl) (by kernel_rfl) (fun _ _ _ h => h) (Nat.le_refl _) ⟨by rfl, fun w _ => (by go_simp; try (first | rfl | omega)), fun _ => rfl⟩ hS ?_
        simp only [List.getElem_toArray, List.getElem_cons_zero, List.getElem_cons_succ, Act.put, List.setIfInBounds_toArray, List.set_cons_zero, List.set_cons_succ]
        refine wpAnyR_take (i := 14) (v := (.int .i64 Q)) rfl rfl (by kernel_rfl) (by kernel_rfl) (by kernel_rfl) (fun _ _ _ h => h) (Nat.le_refl _) (yields_old q0 hp (by exact rfl) (by exact rfl) (by exact rfl) Try.underlying3 rfl) hS ?_
        simp only [List.getElem_toArray, List.getElem_cons_zero, List.getElem_cons_succ, Act.put, List.setIfInBounds_toArray, List.set_cons_zero, List.set_cons_succ]
        refine wpAnyR_take (i := 15) (v := (.bool false)) rfl rfl (by kernel_rfl) (by kernel_rfl) (by kernel_rfl) (fun _ _ _ h => h) (Nat.le_refl _) ⟨by rfl, fun w _ => (by go_simp; try (first | rfl | omega)), fun _ => rfl⟩ hS ?_
        simp only [List.getElem_toArray, List.getElem_cons_zero, List.getElem_cons_succ, Act.put, List.setIfInBounds_toArray, List.set_cons_zero, List.set_cons_succ]
        refine wpAnyR_take (i := 16) (v := (.bool false)) rfl rfl (by kernel_rfl) (by kernel_rfl) (by kernel_rfl) (fun _ _ _ h => h) (Nat.le_refl _) ⟨by rfl, fun w _ => (by go_simp; try (first | rfl | omega)), fun _ => rfl⟩ hS ?_
        simp only [List.getElem_toArray, List.getElem_cons_zero, List.getElem_cons_succ, Act.put, List.setIfInBounds_toArray, List.set_cons_zero, List.set_cons_succ]
        refine wpAnyR_take (i := 17) (v := (.bool false)) rfl rfl (by kernel_rfl) (by kernel_rfl) (by kernel_rfl) (fun _ _ _ h => h) (Nat.le_refl _) ⟨by rfl, fun w _ => (by go_simp; try (first | rfl | omega)), fun _ => rfl⟩ hS ?_
        simp only [List.getElem_toArray, List.getElem_cons_zero, List.getElem_cons_succ, Act.put, List.setIfInBounds_toArray, List.set_cons_zero, List.set_cons_succ]
        refine wpAnyR_take (i := 18) (v := (.slice (some ⟨g, o, none⟩) n cap)) rfl rfl (by kernel_rfl) (by kernel_rfl) (by kernel_rfl) (fun _ _ _ h => h) (Nat.le_refl _) ⟨by rfl, fun w _ => (by go_simp; try (first | rfl | omega)), fun _ => rfl⟩ hS ?_
        simp only [List.getElem_toArray, List.getElem_cons_zero, List.getElem_cons_succ, Act.put, List.setIfInBounds_toArray, List.set_cons_zero, List.set_cons_succ]
        refine wpAnyR_take (i := 19) (v := (.int .i64 (k : Int))) rfl rfl (by kernel_rfl) (by kernel_rfl) (by kernel_rfl) (fun _ _ _ h => h) (Nat.le_refl _) ⟨by rfl, fun w _ => (by go_simp; try (first | rfl | omega)), fun _ => rfl⟩ hS ?_
        simp only [List.getElem_toArray, List.getElem_cons_zero, List.getElem_cons_succ, Act.put, List.setIfInBounds_toArray, List.set_cons_zero, List.set_cons_succ]
        refine wpAnyR_take (i := 20) (v := (.slice (some ⟨g, o, none⟩) k cap)) rfl rfl (by kernel_rfl) (by kernel_rfl) (by kernel_rfl) (fun _ _ _ h => h) (Nat.le_refl _) ⟨by rfl, fun w _ => (by go_simp; try (first | rfl | omega)), fun _ => rfl⟩ hS ?_
        simp only [List.getElem_toArray, List.getElem_cons_zero, List.getElem_cons_succ, Act.put, List.setIfInBounds_toArray, List.set_cons_zero, List.set_cons_succ]
        refine wpAnyR_take (i := 21) (v := (.slice (some ⟨g, o, none⟩) n cap)) rfl rfl (by kernel_rfl) (by kernel_rfl) (by kernel_rfl) (fun _ _ _ h => h) (Nat.le_refl _) ⟨by rfl, fun w _ => (by go_simp; try (first | rfl | omega)), fun _ => rfl⟩ hS ?_
        simp only [List.getElem_toArray, List.getElem_cons_zero, List.getElem_cons_succ, Act.put, List.setIfInBounds_toArray, List.set_cons_zero, List.set_cons_succ]
        refine wpAnyR_take (i := 22) (v := (.int .i64 (k : Int))) rfl rfl (by kernel_rfl) (by kernel_rfl) (by kernel_rfl) (fun _ _ _ h => h) (Nat.le_refl _) ⟨by rfl, fun w _ => (by go_simp; try (first | rfl | omega)), fun _ => rfl⟩ hS ?_
        simp only [List.getElem_toArray, List.getElem_cons_zero, List.getElem_cons_succ, Act.put, List.setIfInBounds_toArray, List.set_cons_zero, List.set_cons_succ]
        refine wpAnyR_take (i := 23) (v := (.pointer (some ⟨g, o + k, none⟩))) rfl rfl (by kernel_rfl) (by kernel_rfl) (by kernel_rfl) (fun _ _ _ h => h) (Nat.le_refl _) ⟨by rfl, fun w _ => (by go_simp; try (first | rfl | omega)), fun _ => rfl⟩ hS ?_
        simp only [List.getElem_toArray, List.getElem_cons_zero, List.getElem_cons_succ, Act.put, List.setIfInBounds_toArray, List.set_cons_zero, List.set_cons_succ]
        refine wpAnyR_take (i := 24) (v := (.int .i64 y)) rfl rfl (by kernel_rfl) (by kernel_rfl) (by kernel_rfl) (fun _ _ _ h => h) (Nat.le_refl _) (yields_old qk0 hg (by exact rfl) (by exact rfl) (by exact rfl) Try.underlying3 rfl) hS ?_
        simp only [List.getElem_toArray, List.getElem_cons_zero, List.getElem_cons_succ, Act.put, List.setIfInBounds_toArray, List.set_cons_zero, List.set_cons_succ]
        refine wpAnyG_one (i := 25) (by kernel_rfl) rfl (fun K hK => ?_)
        go_simp
        refine ⟨trivial, (callsIn_wide.2 (kh2 _ hS.below)).mono ?_⟩
        rintro e w5 ⟨rfl, hb⟩
        have hS5 := hS.call hb
        refine hK _ _ (.inr hS5) ?_
        clear hK K hS hb
        have hS := hS5
        clear hS5
        try simp only [List.getElem_toArray, List.getElem_cons_zero, List.getElem_cons_succ, Act.put, List.setIfInBounds_toArray, List.set_cons_zero, List.set_cons_succ]
        refine wpAnyG_one (i := 26) (by kernel_rfl) rfl (fun K hK => ?_)
        go_simp
        refine hK _ _ (.inr hS) ?_
        clear hK K
        refine wpAnyG_done (by kernel_rfl) ?_ _
        have H := hS
        clear hS
        go_wp2
        go_ret
        exact ⟨by rw [HB.out]; rfl, ⟨rd, x, by rw [HX.out]; exact HR.out.below H.below, fun i hi => .inl hi⟩, Foot.of_below H.below⟩
    · obtain rfl : k = n := by omega
      have HVt := Lib.hid (show V = true from HV.out.symm.trans hok.out)
      have HV2 := Lib.hid (show okTo Q l l.length = true by rw [HN.out]; exact hok.out)
      have hVt := HVt.out
      subst hVt
      clear HV hok hlt
      rcases A with _ | ad
      · obtain rfl := hnil rfl
        obtain rfl : k = 0 := by omega
        go_upto_region 10 with (first
          | (at_builtin; refine wpList_append_own_none rfl _ _ 29 rfl 0 3 i0 1 Try.underlying29 hi (.slice none 0 0) 0 [] rfl (World.ownsRow_nil wr 0 3 1) rfl ?_))
        have hl0 : Hid (l = []) := Lib.hid (List.eq_nil_of_length_eq_zero HN.out)
        have hown2 : wr.ownsRow wr.heap.size 3 1 (.slice none 0 0) l.length (ints l) := by
          rw [hl0.out]
          exact World.ownsRow_nil _ _ _ _
        have H4 := H
        have R1 := HR.out.below H4.below
        have hp1 := R1.plt
        obtain ⟨_, _, hL1, _⟩ := R1.cell
        have cp := hL1 C hC
        have fz := R1.box.frozen (4 + C)
        have hs := sli_own (L := l) hown2
        have h64' : l.length ≤ 64 ∧ ∀ q, q ∈ l → 0 ≤ q ∧ q < 64 := ⟨by have := HN.out; omega, fun q hq' => by
          have := okTo_all (HV2.out) q hq'
          omega⟩
        have hnew : ∀ i, blk (.slice none 0 0) i → ¬ own i ∧ i < wr.heap.size := fun i hi => ⟨fun ho => by
          have h1 := (hs.2 i hi).1
          have h2 := HR.out.lt i (HR.out.or i ho)
          have := H.below.size
          omega, (hs.2 i hi).2⟩
        have R2 := R1.mapset hC hs.1 hnew h64'
        have HF := Lib.hid (And.intro R2 (And.intro H4 hs.2))
        clear R1 hL1 hs h64' hnew R2 H4 hown2
        go_wp2
        skip
        go_ret
        have hsub : ∀ i, (rd i ∨ blk (.slice none 0 0) i) → rd i ∨ W.heap.size ≤ i := fun i hi => by
          rcases hi with hi | hi
          · exact .inl hi
          · have h1 := (HF.out.2.2 i hi).1
            have := H.below.size
            exact .inr (by omega)
        have hft : Foot own W _ := (Foot.of_below HF.out.2.1.below).setCell (p := ⟨p, 4 + C, none⟩) (fun _ => hop) (.slice none 0 0)
        first
          | exact ⟨rfl, ⟨_, _, HF.out.1, hsub⟩, hft⟩
          | exact ⟨rfl, ⟨_, ⟨_, HF.out.1⟩, hsub⟩, hft⟩
      · have hcells : ∀ j u, (ints l)[j]? = some u → wr.cell? (ad.add j) = some u := rowI_cells ((HRW.out.same H.below.block).mono H.below.size)
        have hone : ∀ u ∈ ints l, u.oneCell' = true := fun u hu => by
          obtain ⟨y, _, rfl⟩ := List.mem_map.1 hu
          rfl
        have hlen : (ints l).length = k * 1 := by simp [ints]; exact HN.out
        go_upto_region 10 with (first
          | (at_builtin; refine wpList_append_own _ rfl _ _ 29 rfl wr.heap.size 3 i0 (.int .i64 0) 1 8 Try.underlying29 hi hz0 hz1 hz2 rfl (by decide) (.slice none 0 0) 0 [] rfl (World.ownsRow_nil wr wr.heap.size 3 1) ad k cap (ints l) rfl hlen hcells hone (by simp [maxLen]; omega) (by omega) (Nat.le_refl _) ?_; intro v' w1 hown' hgrow _))
        have hown2 : w1.ownsRow wr.heap.size 3 1 v' l.length (ints l) := by
          rw [HN.out]
          simpa using hown'
        have H4 : Mem W w1 [] := H.grown hgrow (B := wr.heap.size) (fun r hr => by cases hr) (fun p hp => by cases hp) H.below.size
        clear hcells hone hlen hown' hgrow
        obtain ⟨Av, cv, rfl⟩ := ownsRow_len hown2
        have R1 := HR.out.below H4.below
        have hp1 := R1.plt
        obtain ⟨_, _, hL1, _⟩ := R1.cell
        have cp := hL1 C hC
        have fz := R1.box.frozen (4 + C)
        have hs := sli_own (L := l) hown2
        have h64' : l.length ≤ 64 ∧ ∀ q, q ∈ l → 0 ≤ q ∧ q < 64 := ⟨by have := HN.out; omega, fun q hq' => by
          have := okTo_all (HV2.out) q hq'
          omega⟩
        have hnew : ∀ i, blk (.slice Av l.length cv) i → ¬ own i ∧ i < w1.heap.size := fun i hi => ⟨fun ho => by
          have h1 := (hs.2 i hi).1
          have h2 := HR.out.lt i (HR.out.or i ho)
          have := H.below.size
          omega, (hs.2 i hi).2⟩
        have R2 := R1.mapset hC hs.1 hnew h64'
        have HF := Lib.hid (And.intro R2 (And.intro H4 hs.2))
        clear R1 hL1 hs h64' hnew R2 H4 hown2
        go_wp2
        skip
        go_ret
        have hsub : ∀ i, (rd i ∨ blk (.slice Av l.length cv) i) → rd i ∨ W.heap.size ≤ i := fun i hi => by
          rcases hi with hi | hi
          · exact .inl hi
          · have h1 := (HF.out.2.2 i hi).1
            have := H.below.size
            exact .inr (by omega)
        have hft : Foot own W _ := (Foot.of_below HF.out.2.1.below).setCell (p := ⟨p, 4 + C, none⟩) (fun _ => hop) (.slice Av l.length cv)
        first
          | exact ⟨rfl, ⟨_, _, HF.out.1, hsub⟩, hft⟩
          | exact ⟨rfl, ⟨_, ⟨_, HF.out.1⟩, hsub⟩, hft⟩
end Go.Proofs.Ytaoaapbbadipfaa
end
