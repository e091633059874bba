/-
  The document's Read and Note. Conditions: the tally lies where its pointer says. The document's Note. Conditions: the tally lies where its pointer says. The document's Sum. Conditions: the tally lies where its pointer says.
-/
import Derived.Test.YtdhjdkhhhdcjdaaMGd
import Derived.Test.YtdhjdkhhhdcjdaaMGc
/- The document's Read and Note. Conditions: the tally lies where its pointer says. -/
section
namespace Go.Proofs.Ytdhjdkhhhdcjdaa.Ta
set_option linter.unusedSimpArgs false
set_option linter.unusedVariables false
set_option maxRecDepth 100000
open Go.Joins Go.Deep Go.ChangeShapes Go.WideShapes Go.ChangeAt Go.RowKit

theorem read_r (W : World) (own : Nat → Prop) (p : Nat) (X : TS) (N : Nat) (q : Int) (hN : N ≤ 1000000) (h : DocAt W own p X N) : Calls Try.prog 37 #[.pointer (some ⟨p, 0, none⟩), .int .i64 q] W (DidF DocAt W own p X N (.tuple #[cv (readV X q), .int .i64 (openE X q)])) := by
  obtain ⟨o1, o2, bc, bs, cap, rb, h⟩ := h
  have HB := Lib.hid (Below.refl W.heap.size W)
  have HD := Lib.hid h
  have hnot : ∀ (x : Bool) (w : World), (Op.unary .not (.bool x)).run Try.prog w = .ok (.bool (!x)) w := fun _ _ => rfl
  have k1 := fun w (hw : Below W.heap.size W w) => is_r w o1 p bc bs cap rb X N q (h.d.on fun i hi => hw.block i (h.d.lt i hi))
  have H := Mem.start W
  cases hq : hasQ X q with
  | false =>
    rw [hq] at k1
    have e1 : openE X q = 2 := by rw [openE, if_pos hq]
    have e2 : readV X q = zero6 := by rw [readV, e1]; rfl
    rw [e1, e2]
    clear e1 e2 h hq
    go_enter Try.func37, Try.ntmps37
    go_upto_region 1 with (first
    | ((with_reducible show wpList _ _ _ _ _ (World.alloc _ (.cells _ _))); refine mem_newb (l := []) H ?_; intro bx w3 hbk H2; try rw [← hbk]; clear hbk H; have H := H2; clear H2; simp only [List.cons_append, List.nil_append, List.set_cons_zero, List.set_cons_succ, List.setIfInBounds_toArray] at H))
    go_wp2_with (first
    | go_skip
    | (go_at_call 53; refine (k1 _ H.below).mono ?_; rintro e w2 ⟨rfl, hw⟩; rw [hw]; clear hw w2)
    | ((with_reducible show wpList _ _ _ (⟨_, .store 42 _ _, _, _, _, _⟩ :: _) _ _); refine mem_store (i := 0) H (by first | exact wanted_none rfl | exact wanted_some rfl rfl rfl rfl) (by exact rfl) (by exact rfl) (by exact rfl) (by exact rfl) (by exact cInfo) (by exact rfl) (by exact rfl) ?_; intro w2 H2; clear H; have H := H2; clear H2; simp only [List.cons_append, List.nil_append, List.set_cons_zero, List.set_cons_succ, List.setIfInBounds_toArray] at H))
    exact ret_held2 (H.at 0 rfl) rfl rfl Try.underlying42 rfl cInfo (HD.out.same (Nat.le_refl _) rfl H.below)
  | true =>
    rw [hq] at k1
    obtain ⟨k, rfl, hk⟩ := has_at hq
    have hne : ¬ hasQ X (k : Int) = false := by rw [hq]; decide
    have hb1 : W.cell? ⟨p, 1, none⟩ = some (sl bs X.s) := h.d.box.cell 1
    obtain ⟨ts, hts⟩ := h.d.hs
    have g0 := Held.num hts (sq_at hk)
    have z0 : W.frozen? ⟨bs, k, none⟩ = false := hts.frozen k
    have lp := h.d.box.lt
    have lb := hts.lt
    have t0 : ¬ ((k : Int) < 0) := by omega
    have t2 : ¬ X.s.length ≤ k := by omega
    have hs := h.d.fits.sq hk
    have n64 := h.d.fits.n64
    have c0 : W.cell? ⟨p, 0, none⟩ = some (.slice (some ⟨bc, 0, none⟩) X.s.length cap) := h.d.box.cell 0
    have cr := DAt.row W o1 p bc bs cap rb X N h.d hk
    obtain ⟨tr, htr⟩ := h.d.hr k hk
    have lr := htr.lt
    obtain ⟨tc, ccs, htc, -⟩ := h.d.hc
    have lc := htc.lt
    have kc := fun w (hw : Below W.heap.size W w) => counts_r (rb k) 6 (kq X (k : Int)) w (Nat.lt_of_lt_of_le lr hw.size) (fun j hj => Held.six (htr.below hw lr) hj)
    by_cases ho : sq X (k : Int) % 2 = 1
    · have e1 : openE X (k : Int) = 111 := by rw [openE, if_neg hne, if_pos ho]
      have e2 : readV X (k : Int) = zero6 := by rw [readV, e1]; rfl
      rw [e1, e2]
      have tq : ((sq X (k : Int)).tmod 2 == 1) = true := by rw [Int.tmod_eq_emod_of_nonneg hs.1]; simpa using ho
      have tq2 : (sq X (k : Int) % 2 == 1) = true := by simpa using ho
      clear e1 e2 h hq hne hts htr htc kc
      rw [sl] at hb1
      generalize X.s.length = n at *
      generalize sq X (k : Int) = s at *
      go_enter Try.func37, Try.ntmps37
      go_upto_region 1 with (first
    | ((with_reducible show wpList _ _ _ _ _ (World.alloc _ (.cells _ _))); refine mem_newb (l := []) H ?_; intro bx w3 hbk H2; try rw [← hbk]; clear hbk H; have H := H2; clear H2; simp only [List.cons_append, List.nil_append, List.set_cons_zero, List.set_cons_succ, List.setIfInBounds_toArray] at H))
      go_wp2_with (first
    | go_skip
    | (go_at_call 53; refine (k1 _ H.below).mono ?_; rintro e w2 ⟨rfl, hw⟩; rw [hw]; clear hw w2)
    | ((with_reducible show wpList _ _ _ (⟨_, .load _ _, _, _, _, _⟩ :: _) _ _); refine mem_loado H hb1 lp (by first | exact wanted_none rfl | exact wanted_some rfl rfl rfl rfl) (by exact rfl) (by exact rfl) (by first | exact Try.underlying2 | exact Try.underlying68 | exact Try.underlying35 | exact Try.underlying69) rfl ?_)
    | ((with_reducible show wpList _ _ _ (⟨_, .load _ _, _, _, _, _⟩ :: _) _ _); refine mem_loado H g0 lb (by first | exact wanted_none rfl | exact wanted_some rfl rfl rfl rfl) (by exact rfl) (by exact rfl) (by first | exact Try.underlying2 | exact Try.underlying68 | exact Try.underlying35 | exact Try.underlying69) rfl ?_)
    | ((with_reducible show wpList _ _ _ (⟨_, .load _ _, _, _, _, _⟩ :: _) _ _); refine mem_loado H c0 lp (by first | exact wanted_none rfl | exact wanted_some rfl rfl rfl rfl) (by exact rfl) (by exact rfl) (by first | exact Try.underlying2 | exact Try.underlying68 | exact Try.underlying35 | exact Try.underlying69) rfl ?_)
    | ((with_reducible show wpList _ _ _ (⟨_, .load _ _, _, _, _, _⟩ :: _) _ _); refine mem_loado H cr lc (by first | exact wanted_none rfl | exact wanted_some rfl rfl rfl rfl) (by exact rfl) (by exact rfl) (by first | exact Try.underlying2 | exact Try.underlying68 | exact Try.underlying35 | exact Try.underlying69) rfl ?_)
    | ((with_reducible show wpList _ _ _ (⟨_, .store 42 _ _, _, _, _, _⟩ :: _) _ _); refine mem_store (i := 0) H (by first | exact wanted_none rfl | exact wanted_some rfl rfl rfl rfl) (by exact rfl) (by exact rfl) (by exact rfl) (by exact rfl) (by exact cInfo) (by exact rfl) (by exact rfl) ?_; intro w2 H2; clear H; have H := H2; clear H2; simp only [List.cons_append, List.nil_append, List.set_cons_zero, List.set_cons_succ, List.setIfInBounds_toArray] at H))
      exact ret_held2 (H.at 0 rfl) rfl rfl Try.underlying42 rfl cInfo (HD.out.same (Nat.le_refl _) rfl H.below)
    · have e1 : openE X (k : Int) = 0 := by rw [openE, if_neg hne, if_neg ho]
      have e2 : readV X (k : Int) = kq X (k : Int) := by rw [readV, if_pos e1]
      rw [e1, e2]
      have tq : ((sq X (k : Int)).tmod 2 == 1) = false := by rw [Int.tmod_eq_emod_of_nonneg hs.1]; simpa using ho
      have tq2 : (sq X (k : Int) % 2 == 1) = false := by simpa using ho
      clear e1 e2 h hq hne hts htr htc
      rw [sl] at hb1
      generalize X.s.length = n at *
      generalize sq X (k : Int) = s at *
      go_enter Try.func37, Try.ntmps37
      go_upto_region 1 with (first
    | ((with_reducible show wpList _ _ _ _ _ (World.alloc _ (.cells _ _))); refine mem_newb (l := []) H ?_; intro bx w3 hbk H2; try rw [← hbk]; clear hbk H; have H := H2; clear H2; simp only [List.cons_append, List.nil_append, List.set_cons_zero, List.set_cons_succ, List.setIfInBounds_toArray] at H))
      go_wp2_with (first
    | go_skip
    | (go_at_call 53; refine (k1 _ H.below).mono ?_; rintro e w2 ⟨rfl, hw⟩; rw [hw]; clear hw w2)
    | (go_at_call 32; refine (kc _ H.below).mono ?_; rintro e w2 ⟨rfl, hb⟩; have H2 := H.call hb; clear H hb; have H := H2; clear H2)
    | ((with_reducible show wpList _ _ _ (⟨_, .load _ _, _, _, _, _⟩ :: _) _ _); refine mem_loado H hb1 lp (by first | exact wanted_none rfl | exact wanted_some rfl rfl rfl rfl) (by exact rfl) (by exact rfl) (by first | exact Try.underlying2 | exact Try.underlying68 | exact Try.underlying35 | exact Try.underlying69) rfl ?_)
    | ((with_reducible show wpList _ _ _ (⟨_, .load _ _, _, _, _, _⟩ :: _) _ _); refine mem_loado H g0 lb (by first | exact wanted_none rfl | exact wanted_some rfl rfl rfl rfl) (by exact rfl) (by exact rfl) (by first | exact Try.underlying2 | exact Try.underlying68 | exact Try.underlying35 | exact Try.underlying69) rfl ?_)
    | ((with_reducible show wpList _ _ _ (⟨_, .load _ _, _, _, _, _⟩ :: _) _ _); refine mem_loado H c0 lp (by first | exact wanted_none rfl | exact wanted_some rfl rfl rfl rfl) (by exact rfl) (by exact rfl) (by first | exact Try.underlying2 | exact Try.underlying68 | exact Try.underlying35 | exact Try.underlying69) rfl ?_)
    | ((with_reducible show wpList _ _ _ (⟨_, .load _ _, _, _, _, _⟩ :: _) _ _); refine mem_loado H cr lc (by first | exact wanted_none rfl | exact wanted_some rfl rfl rfl rfl) (by exact rfl) (by exact rfl) (by first | exact Try.underlying2 | exact Try.underlying68 | exact Try.underlying35 | exact Try.underlying69) rfl ?_)
    | ((with_reducible show wpList _ _ _ (⟨_, .store 42 _ _, _, _, _, _⟩ :: _) _ _); refine mem_store (i := 0) H (by first | exact wanted_none rfl | exact wanted_some rfl rfl rfl rfl) (by exact rfl) (by exact rfl) (by exact rfl) (by exact rfl) (by exact cInfo) (by exact rfl) (by exact rfl) ?_; intro w2 H2; clear H; have H := H2; clear H2; simp only [List.cons_append, List.nil_append, List.set_cons_zero, List.set_cons_succ, List.setIfInBounds_toArray] at H))
      exact ret_held2 (H.at 0 rfl) rfl rfl Try.underlying42 rfl cInfo (HD.out.same (Nat.le_refl _) rfl H.below)
end Go.Proofs.Ytdhjdkhhhdcjdaa.Ta
end
/- The document's Note. Conditions: the tally lies where its pointer says. -/
section
namespace Go.Proofs.Ytdhjdkhhhdcjdaa.Ta
set_option linter.unusedSimpArgs false
set_option linter.unusedVariables false
set_option maxRecDepth 100000
open Go.Joins Go.Deep Go.ChangeShapes Go.WideShapes Go.ChangeAt Go.RowKit

theorem putk_two {X : TS} {k : Nat} (a b : C6) : (X.putk k a).putk k b = X.putk k b := by simp [TS.putk]
theorem kq_of {X : TS} {k : Nat} (hk : k < X.k.length) (a : C6) : kq (X.putk k a) (k : Int) = a := by rw [kq_putk hk, if_pos rfl]
theorem putk_self {X : TS} {N k : Nat} (hf : FitsT X N) (hk : k < X.s.length) : X.putk k (kq X (k : Int)) = X := by
  have h := kq_at hf hk
  have : X.k.set k (kq X (k : Int)) = X.k := List.ext_getElem? fun j => by
    rw [List.getElem?_set]
    by_cases e : k = j
    · subst e
      rw [if_pos rfl, if_pos (List.getElem?_eq_some_iff.1 h).1]
      exact h.symm
    · rw [if_neg e]
  simp only [TS.putk, Int.toNat_natCast, this]
set_option maxHeartbeats 4000000 in
theorem note_r (W : World) (own : Nat → Prop) (p : Nat) (X : TS) (N : Nat) (q : Int) (c : C6) (hc : c.Fits) (hN : N ≤ 1000000) (h : DocAt W own p X N) : Calls Try.prog 36 #[.pointer (some ⟨p, 0, none⟩), .int .i64 q, cv c] W (DidF DocAt W own p (noteS X q c) (N + 2) (.int .i64 (openE X q))) := by
  obtain ⟨o1, o2, bc, bs, cap, rb, h⟩ := h
  have HB := Lib.hid (Below.refl W.heap.size W)
  have HD := Lib.hid h
  have hnot : ∀ (x : Bool) (w : World), (Op.unary .not (.bool x)).run Try.prog w = .ok (.bool (!x)) w := fun _ _ => rfl
  have k1 := fun w (hw : Below W.heap.size W w) => is_r w o1 p bc bs cap rb X N q (h.d.on fun i hi => hw.block i (h.d.lt i hi))
  have H := Mem.start W
  cases hq : hasQ X q with
  | false =>
    rw [hq] at k1
    have e1 : openE X q = 2 := by rw [openE, if_pos hq]
    have e2 : noteS X q c = X := by rw [noteS, e1]; rfl
    rw [e1, e2]
    clear e1 e2 h hq
    go_enter Try.func36, Try.ntmps36
    go_upto_region 1 with (first
    | ((with_reducible show wpList _ _ _ _ _ (World.alloc _ (.cells _ _))); refine mem_newb (l := []) H ?_; intro bx w3 hbk H2; try rw [← hbk]; clear hbk H; have H := H2; clear H2; simp only [List.cons_append, List.nil_append, List.set_cons_zero, List.set_cons_succ, List.setIfInBounds_toArray] at H))
    go_wp2_with (first
    | go_skip
    | (go_at_call 53; refine (k1 _ H.below).mono ?_; rintro e w2 ⟨rfl, hw⟩; rw [hw]; clear hw w2))
    go_ret
    exact HD.out.same (by omega) rfl H.below
  | true =>
    rw [hq] at k1
    obtain ⟨k, rfl, hk⟩ := has_at hq
    have hne : ¬ hasQ X (k : Int) = false := by rw [hq]; decide
    have hb1 : W.cell? ⟨p, 1, none⟩ = some (sl bs X.s) := h.d.box.cell 1
    obtain ⟨ts, hts⟩ := h.d.hs
    have g0 := Held.num hts (sq_at hk)
    have z0 : W.frozen? ⟨bs, k, none⟩ = false := hts.frozen k
    have lp := h.d.box.lt
    have lb := hts.lt
    have t0 : ¬ ((k : Int) < 0) := by omega
    have t2 : ¬ X.s.length ≤ k := by omega
    have hs := h.d.fits.sq hk
    have n64 := h.d.fits.n64
    by_cases ho : sq X (k : Int) % 2 = 1
    · have e1 : openE X (k : Int) = 111 := by rw [openE, if_neg hne, if_pos ho]
      have e2 : noteS X (k : Int) c = X := by rw [noteS, e1]; rfl
      rw [e1, e2]
      have tq : ((sq X (k : Int)).tmod 2 == 1) = true := by rw [Int.tmod_eq_emod_of_nonneg hs.1]; simpa using ho
      have tq2 : (sq X (k : Int) % 2 == 1) = true := by simpa using ho
      clear e1 e2 h hq hne hts
      rw [sl] at hb1
      generalize X.s.length = n at *
      generalize sq X (k : Int) = s at *
      go_enter Try.func36, Try.ntmps36
      go_upto_region 1 with (first
    | ((with_reducible show wpList _ _ _ _ _ (World.alloc _ (.cells _ _))); refine mem_newb (l := []) H ?_; intro bx w3 hbk H2; try rw [← hbk]; clear hbk H; have H := H2; clear H2; simp only [List.cons_append, List.nil_append, List.set_cons_zero, List.set_cons_succ, List.setIfInBounds_toArray] at H))
      go_wp2_with (first
    | go_skip
    | (go_at_call 53; refine (k1 _ H.below).mono ?_; rintro e w2 ⟨rfl, hw⟩; rw [hw]; clear hw w2)
    | ((with_reducible show wpList _ _ _ (⟨_, .load _ _, _, _, _, _⟩ :: _) _ _); refine mem_loado H hb1 lp (by first | exact wanted_none rfl | exact wanted_some rfl rfl rfl rfl) (by exact rfl) (by exact rfl) (by first | exact Try.underlying2 | exact Try.underlying68 | exact Try.underlying35 | exact Try.underlying69) rfl ?_)
    | ((with_reducible show wpList _ _ _ (⟨_, .load _ _, _, _, _, _⟩ :: _) _ _); refine mem_loado H g0 lb (by first | exact wanted_none rfl | exact wanted_some rfl rfl rfl rfl) (by exact rfl) (by exact rfl) (by first | exact Try.underlying2 | exact Try.underlying68 | exact Try.underlying35 | exact Try.underlying69) rfl ?_))
      go_ret
      exact HD.out.same (by omega) rfl H.below
    · have e1 : openE X (k : Int) = 0 := by rw [openE, if_neg hne, if_neg ho]
      have e2 : noteS X (k : Int) c = (X.putk k ((kq X (k : Int)).add c)).puts k (sq X (k : Int) + 2) := by rw [noteS, if_pos e1]
      rw [e1, e2]
      have tq : ((sq X (k : Int)).tmod 2 == 1) = false := by rw [Int.tmod_eq_emod_of_nonneg hs.1]; simpa using ho
      have tq2 : (sq X (k : Int) % 2 == 1) = false := by simpa using ho
      obtain ⟨v, hv⟩ : ∃ v, sq X (k : Int) = v := ⟨_, rfl⟩
      obtain ⟨n, hn⟩ : ∃ n, X.s.length = n := ⟨_, rfl⟩
      have HV := Lib.hid (And.intro hv (And.intro hn hk))
      have hkl : k < X.k.length := by rw [h.d.fits.len]; exact hk
      have HKL := Lib.hid hkl
      have hkn : k < n := by rw [← hn]; exact hk
      rw [sl] at hb1
      rw [hv] at g0 hs tq tq2 ⊢
      rw [hn] at hb1 t2 n64
      clear e1 e2 h hq hne hts ho hk hkl hv hn
      go_enter Try.func36, Try.ntmps36
      go_upto_region 1 with (first
    | ((with_reducible show wpList _ _ _ _ _ (World.alloc _ (.cells _ _))); refine mem_newb (l := []) H ?_; intro bx w3 hbk H2; try rw [← hbk]; clear hbk H; have H := H2; clear H2; simp only [List.cons_append, List.nil_append, List.set_cons_zero, List.set_cons_succ, List.setIfInBounds_toArray] at H))
      go_upto_region 7 with (first
    | go_skip
    | (go_at_call 53; refine (k1 _ H.below).mono ?_; rintro e w2 ⟨rfl, hw⟩; rw [hw]; clear hw w2)
    | ((with_reducible show wpList _ _ _ (⟨_, .load 42 _, _, _, _, _⟩ :: _) _ _); refine mem_load (i := 0) H (by first | exact wanted_none rfl | exact wanted_some rfl rfl rfl rfl) (by exact rfl) (by exact rfl) (by exact rfl) Try.underlying42 rfl (by exact cInfo) ?_)
    | (go_at_call 54; refine (numbers_r c _).mono ?_; rintro e w2 ⟨bn, tn, rfl, hn, hbn, hb⟩; have H2 := H.call hb; have lbn := Nat.le_trans H.below.size hbn; clear H hb hbn; have H := H2; clear H2)
    | ((with_reducible show wpList _ _ _ (⟨_, .load _ _, _, _, _, _⟩ :: _) _ _); refine mem_loado H hb1 lp (by first | exact wanted_none rfl | exact wanted_some rfl rfl rfl rfl) (by exact rfl) (by exact rfl) (by first | exact Try.underlying2 | exact Try.underlying68 | exact Try.underlying35 | exact Try.underlying69) rfl ?_)
    | ((with_reducible show wpList _ _ _ (⟨_, .load _ _, _, _, _, _⟩ :: _) _ _); refine mem_loado H g0 lb (by first | exact wanted_none rfl | exact wanted_some rfl rfl rfl rfl) (by exact rfl) (by exact rfl) (by first | exact Try.underlying2 | exact Try.underlying68 | exact Try.underlying35 | exact Try.underlying69) rfl ?_))
      have hdd : DAt w2 o1 p bc bs cap rb (X.putk k ((kq X (k : Int)).upto c 0)) N := by
        rw [upto_zero, putk_self HD.out.d.fits (by rw [HV.out.2.1]; exact hkn)]
        exact HD.out.d.on fun i hi => H.below.block i (HD.out.d.lt i hi)
      have hff : Foot o1 W w2 := Foot.of_below H.below
      have HC := Lib.hid (And.intro hdd (And.intro hff hn))
      clear hdd hff hn H k1 g0 hb1 z0 lp lb
      go_wp2
      go_loopw [8] (fun iv wr => ∃ i : Nat, i ≤ 6 ∧ iv = .int .i64 i ∧ Hid (DAt wr o1 p bc bs cap rb (X.putk k ((kq X (k : Int)).upto c i)) N ∧ Foot o1 W wr ∧ Held wr bn tn (row6 c))) (fun iv _ => 6 - (intOf iv).toNat)
      case atStart => exact ⟨0, Nat.zero_le _, rfl, HC⟩
      case round =>
        clear HC
        obtain ⟨i, hi, rfl, HC⟩ := hrel
        obtain ⟨hd, hf, hn⟩ := HC.out
        have el : (X.putk k ((kq X (k : Int)).upto c i)).s.length = n := HV.out.2.1
        have hkX : k < (X.putk k ((kq X (k : Int)).upto c i)).s.length := by rw [el]; exact hkn
        have c0 : wr.cell? ⟨p, 0, none⟩ = some (.slice (some ⟨bc, 0, none⟩) (X.putk k ((kq X (k : Int)).upto c i)).s.length cap) := hd.box.cell 0
        have c1 : wr.cell? ⟨p, 1, none⟩ = some (sl bs (X.putk k ((kq X (k : Int)).upto c i)).s) := hd.box.cell 1
        rw [sl] at c1
        rw [el] at c0 c1
        have cr := DAt.row wr o1 p bc bs cap rb _ N hd hkX
        obtain ⟨tr, htr⟩ := hd.hr k hkX
        have lp := hd.box.lt
        have lr := htr.lt
        obtain ⟨tc, ccs, htc, -⟩ := hd.hc
        have lc := htc.lt
        have ln := hn.lt
        obtain ⟨ts2, hts2⟩ := hd.hs
        have lb := hts2.lt
        have gs := Held.num hts2 (sq_at hkX)
        rw [show sq (X.putk k ((kq X (k : Int)).upto c i)) (k : Int) = v from HV.out.1] at gs
        have zs : wr.frozen? ⟨bs, k, none⟩ = false := hts2.frozen k
        by_cases h6 : i < 6
        · have t6 : decide ((i : Int) < 6) = true := decide_eq_true (by omega)
          have i0 : ¬ ((i : Int) < 0) := by omega
          have i1 : ¬ (6 : Nat) ≤ i := by omega
          have cg := Held.six htr h6
          rw [kq_of HKL.out, upto_get _ _ _ h6] at cg
          have zg : wr.frozen? ⟨rb k, i, none⟩ = false := htr.frozen i
          have cn : wr.cell? ⟨bn, i, none⟩ = some (.int .u64 (c.get i)) := Held.six hn h6
          have hnew := hd.putk hkX h6 (w64_in ((kq X (k : Int)).get i + c.get i))
          rw [kq_of HKL.out, putk_two, upto_next] at hnew
          have hne : bn ≠ rb k := by
            have := HD.out.d.lt (rb k) ((HD.out.d.own (rb k)).2 (.inr (.inr (.inr ⟨k, by rw [HV.out.2.1]; exact hkn, rfl⟩))))
            omega
          have hown : o1 (rb k) := (HD.out.d.own (rb k)).2 (.inr (.inr (.inr ⟨k, by rw [HV.out.2.1]; exact hkn, rfl⟩)))
          have HN := Lib.hid (And.intro hnew (And.intro hne (And.intro hown (And.intro hf hn))))
          clear hnew hne hown hd hf hn htr htc hts2 el hkX gs zs c1 HC lb lbn
          generalize hz : (kq X (k : Int)).get i = g at *
          generalize hy : c.get i = y at *
          obtain ⟨z, hzz⟩ : ∃ z, IntKind.u64.wrap (g + y) = z := ⟨_, rfl⟩
          have hz2 : w64 (g + y) = z := hzz
          rw [hz2] at HN
          clear hz hy hz2
          generalize hrb : rb k = r at *
          clear hrb
          go_wp2
          go_region
          go_wp2
          go_roundw
          case rel => exact ⟨i + 1, by omega, by go_num, Lib.hid ⟨HN.out.1.on (W' := World.drew _) (fun _ _ => rfl), (HN.out.2.2.2.1.setCell (fun _ => HN.out.2.2.1) _).drew, HN.out.2.2.2.2.other HN.out.2.1 _ _⟩⟩
          case measure => simp [intOf]; omega
        · obtain rfl : i = 6 := by omega
          have t6 : decide (((6 : Nat) : Int) < 6) = false := by decide
          have hnew := hd.puts hkX (v := v + 2) (M := N + 2) (by omega) ⟨by omega, by omega⟩
          rw [upto_six] at hnew
          have w1 : IntKind.i64.wrap (v + 2) = v + 2 := wrap_id (by omega) (by omega)
          have hown : o1 bs := (HD.out.d.own bs).2 (.inr (.inr (.inl rfl)))
          have HN := Lib.hid (And.intro hnew (And.intro hown hf))
          clear hnew hown hd hf hn htr htc hts2 el hkX c0 HC lbn cr lr lc ln hkn
          go_wp2
          go_region
          go_wp2
          go_ret
          exact HD.out.dput (HN.out.1.on (W' := World.drew _) (fun _ _ => rfl)) (HN.out.2.2.setCell (fun _ => HN.out.2.1) _).drew rfl rfl
end Go.Proofs.Ytdhjdkhhhdcjdaa.Ta
end
/- The document's Sum. Conditions: the tally lies where its pointer says. -/
section
namespace Go.Proofs.Ytdhjdkhhhdcjdaa.Ta
set_option linter.unusedSimpArgs false
set_option linter.unusedVariables false
set_option maxRecDepth 100000
open Go.Joins Go.Deep Go.ChangeShapes Go.WideShapes Go.ChangeAt Go.RowKit

theorem infoU : (Try.prog.info? 40).map (fun i => (i.zero, i.size, i.bytes)) = some (some (.int .u64 0), 1, 8) := by kernel_rfl
theorem made_zero (n : Nat) : madeCells (Value.int .u64 0).cells n = nums (List.replicate n 0) := by
  apply Array.ext
  · simp [madeCells, Value.cells, nums]
  · intro i h1 h2
    simp [madeCells, Value.cells, nums, Nat.mod_one]
theorem make_six (W : World) : (Instr.makeSlice 35 (.int .i64 6) (.int .i64 6)).run Try.prog W = .ok (.slice (some ⟨W.heap.size, 0, none⟩) 6 6) (W.alloc (.cells (row6 zero6) 40)) := by
  obtain ⟨i0, hi, hz0, hz1, hz2⟩ := info_parts infoU
  have h := run_makeSlice (P := Try.prog) W 35 40 i0 _ Try.underlying35 hi hz0 .i64 .i64 6 6 (by omega) (by omega) (by rw [hz1]; omega) (by rw [hz2]; omega) (by omega)
  rw [hz1] at h
  have e : madeCells (Value.int .u64 0).cells 6 = row6 zero6 := made_zero 6
  simp only [show Int.toNat 6 = 6 from rfl, Nat.mul_one, e] at h
  exact h
def part6 (X : TS) (i : Nat) : C6 := (X.k.take i).foldl C6.add zero6
theorem part6_next {X : TS} {N i : Nat} (hf : FitsT X N) (hi : i < X.s.length) : (part6 X i).add (kq X (i : Int)) = part6 X (i + 1) := by
  rw [part6, part6, List.take_add_one, kq_at hf hi, List.foldl_append]
  rfl
theorem odd_at {X : TS} {i : Nat} (hi : i < X.s.length) (ho : sq X (i : Int) % 2 = 1) : anyOdd X = true := by
  rw [anyOdd, List.any_eq_true]
  exact ⟨_, List.mem_of_getElem? (sq_at hi), decide_eq_true ho⟩
theorem odd_no {X : TS} (h : ∀ j : Nat, j < X.s.length → ¬ sq X (j : Int) % 2 = 1) : anyOdd X = false := by
  rw [anyOdd, List.any_eq_false]
  intro v hv
  obtain ⟨j, hj, rfl⟩ := List.getElem_of_mem hv
  have := sq_at hj
  rw [List.getElem?_eq_getElem hj] at this
  have e : X.s[j] = sq X (j : Int) := by simpa using this
  rw [e]
  simpa using h j hj
theorem part6_all {X : TS} {N : Nat} (hf : FitsT X N) (h : anyOdd X = false) : sumV X = part6 X X.s.length ∧ sumE X = 0 := by
  refine ⟨?_, by rw [sumE, h]; rfl⟩
  rw [sumV, h, part6, List.take_of_length_le (by rw [hf.len]; exact Nat.le_refl _)]
  rfl
set_option maxHeartbeats 4000000 in
theorem sum_r (W : World) (own : Nat → Prop) (p : Nat) (X : TS) (N : Nat) (hN : N ≤ 1000000) (h : DocAt W own p X N) : Calls Try.prog 38 #[.pointer (some ⟨p, 0, none⟩)] W (DidF DocAt W own p X N (.tuple #[cv (sumV X), .int .i64 (sumE X)])) := by
  obtain ⟨o1, o2, bc, bs, cap, rb, h⟩ := h
  have HB := Lib.hid (Below.refl W.heap.size W)
  have HD := Lib.hid h
  have hnot : ∀ (x : Bool) (w : World), (Op.unary .not (.bool x)).run Try.prog w = .ok (.bool (!x)) w := fun _ _ => rfl
  have H := Mem.start W
  have hm := make_six
  obtain ⟨n, hn⟩ : ∃ n, X.s.length = n := ⟨_, rfl⟩
  have n64 : n ≤ 64 := by rw [← hn]; exact h.d.fits.n64
  have HNN := Lib.hid hn
  clear h hn
  go_enter Try.func38, Try.ntmps38
  go_upto_region 1 with (first
    | ((with_reducible show wpList _ _ _ _ _ (World.alloc _ (.cells _ _))); refine mem_newb (l := []) H ?_; intro bx w3 hbk H2; try rw [← hbk]; clear hbk H; have H := H2; clear H2; simp only [List.cons_append, List.nil_append, List.set_cons_zero, List.set_cons_succ, List.setIfInBounds_toArray] at H))
  go_upto_region 2 with fail
  have H2 := H.alloc 40 (row6 zero6)
  have hbo := H.below.size
  clear H
  have H := H2
  clear H2
  generalize hb0 : w3.heap.size = bo at H hbo ⊢
  generalize w3.alloc (.cells (row6 zero6) 40) = w4 at H ⊢
  simp only [List.cons_append, List.nil_append] at H
  clear hb0 hm
  go_wp2
  go_loopw [5] (fun iv wr => ∃ i : Nat, i ≤ n ∧ iv = .int .i64 i ∧ Hid (∀ j : Nat, j < i → ¬ sq X (j : Int) % 2 = 1) ∧ Mem W wr [(bx, 42, #[.int .u64 0, .int .u64 0, .int .u64 0, .int .u64 0, .int .u64 0, .int .u64 0]), (bo, 40, row6 (part6 X i))]) (fun iv _ => n - (intOf iv).toNat)
  case atStart => exact ⟨0, Nat.zero_le _, rfl, Lib.hid (fun j hj => by omega), H⟩
  case round =>
    clear H
    obtain ⟨i, hi, rfl, HO, H⟩ := hrel
    have hd := HD.out.d.on (W' := wr) fun j hj => H.below.block j (HD.out.d.lt j hj)
    have c1 : wr.cell? ⟨p, 1, none⟩ = some (sl bs X.s) := hd.box.cell 1
    have c0 : wr.cell? ⟨p, 0, none⟩ = some (.slice (some ⟨bc, 0, none⟩) X.s.length cap) := hd.box.cell 0
    rw [sl] at c1
    rw [HNN.out] at c1 c0
    have lp := hd.box.lt
    obtain ⟨ts, hts⟩ := hd.hs
    have lb := hts.lt
    obtain ⟨tc, ccs, htc, -⟩ := hd.hc
    have lc := htc.lt
    by_cases hlt : i < n
    · have t1 : decide ((i : Int) < (n : Int)) = true := decide_eq_true (by omega)
      have i0 : ¬ ((i : Int) < 0) := by omega
      have i1 : ¬ n ≤ i := by omega
      have hin : i < X.s.length := by rw [HNN.out]; exact hlt
      have gs := Held.num hts (sq_at hin)
      have hs := HD.out.d.fits.sq hin
      have hne : rb i ≠ bo := by
        have := HD.out.d.lt (rb i) ((HD.out.d.own (rb i)).2 (.inr (.inr (.inr ⟨i, hin, rfl⟩))))
        omega
      by_cases ho : sq X (i : Int) % 2 = 1
      · have e1 := odd_at hin ho
        have e2 : sumE X = 111 := by rw [sumE, if_pos e1]
        have e3 : sumV X = zero6 := by rw [sumV, if_pos e1]
        rw [e2, e3]
        have tq : ((sq X (i : Int)).tmod 2 == 1) = true := by rw [Int.tmod_eq_emod_of_nonneg hs.1]; simpa using ho
        have tq2 : (sq X (i : Int) % 2 == 1) = true := by simpa using ho
        clear e1 e2 e3 hin hd hts htc hne c0 lc
        generalize sq X (i : Int) = v at *
        go_wp2_with (first
    | go_skip
    | ((with_reducible show wpList _ _ _ (⟨_, .store 42 _ _, _, _, _, _⟩ :: _) _ _); refine mem_store (i := 0) H (by first | exact wanted_none rfl | exact wanted_some rfl rfl rfl rfl) (by exact rfl) (by exact rfl) (by exact rfl) (by exact rfl) (by exact cInfo) (by exact rfl) (by exact rfl) ?_; intro w2 H2; clear H; have H := H2; clear H2; simp only [List.cons_append, List.nil_append, List.set_cons_zero, List.set_cons_succ, List.setIfInBounds_toArray] at H))
        exact ret_held2 (H.at 0 rfl) rfl rfl Try.underlying42 rfl cInfo (HD.out.same (Nat.le_refl _) rfl H.below)
      · have tq : ((sq X (i : Int)).tmod 2 == 1) = false := by rw [Int.tmod_eq_emod_of_nonneg hs.1]; simpa using ho
        have tq2 : (sq X (i : Int) % 2 == 1) = false := by simpa using ho
        have HO2 : Hid (∀ j : Nat, j < i + 1 → ¬ sq X (j : Int) % 2 = 1) := Lib.hid fun j hj => by
          by_cases e : j = i
          · rw [e]; exact ho
          · exact HO.out j (by omega)
        have HN := Lib.hid (part6_next HD.out.d.fits hin)
        have HIN := Lib.hid hin
        have H1 := H
        rw [← upto_zero (part6 X i) (kq X (i : Int))] at H1
        clear hin hd hts htc ho HO H c0 lc
        generalize hv : sq X (i : Int) = v at *
        clear hv
        go_wp2
        go_loopw [6] (fun jv wr => ∃ j : Nat, j ≤ 6 ∧ jv = .int .i64 j ∧ Mem W wr [(bx, 42, #[.int .u64 0, .int .u64 0, .int .u64 0, .int .u64 0, .int .u64 0, .int .u64 0]), (bo, 40, row6 ((part6 X i).upto (kq X (i : Int)) j))]) (fun jv _ => 6 - (intOf jv).toNat)
        case atStart => exact ⟨0, Nat.zero_le _, rfl, H1⟩
        case round =>
          clear H1 gs c1
          obtain ⟨j, hj, rfl, H⟩ := hrel
          by_cases h6 : j < 6
          · have t6 : decide ((j : Int) < 6) = true := decide_eq_true (by omega)
            have j0 : ¬ ((j : Int) < 0) := by omega
            have j1 : ¬ (6 : Nat) ≤ j := by omega
            have hd := HD.out.d.on (W' := wr) fun x hx => H.below.block x (HD.out.d.lt x hx)
            have c0 : wr.cell? ⟨p, 0, none⟩ = some (.slice (some ⟨bc, 0, none⟩) X.s.length cap) := hd.box.cell 0
            rw [HNN.out] at c0
            have lp2 := hd.box.lt
            obtain ⟨tc, ccs, htc, -⟩ := hd.hc
            have lc2 := htc.lt
            have cr := DAt.row wr o1 p bc bs cap rb X N hd HIN.out
            obtain ⟨tr, htr⟩ := hd.hr i HIN.out
            have lr2 := htr.lt
            have cg := Held.six htr h6
            have gO := H.at 1 rfl
            have lo2 := gO.lt
            have co := Held.six gO h6
            rw [upto_get _ _ _ h6] at co
            have zo : wr.frozen? ⟨bo, j, none⟩ = false := gO.frozen j
            have h1 := H.set 1 rfl (Foot.cell wr ⟨bo, j, none⟩ (.int .u64 (w64 ((part6 X i).get j + (kq X (i : Int)).get j)))) (gO.set j (.int .u64 (w64 ((part6 X i).get j + (kq X (i : Int)).get j))))
            rw [row6_set _ h6, upto_next] at h1
            have H1 := Lib.hid h1
            clear h1 hd htc htr gO H lp lb
            generalize hx : (part6 X i).get j = x at *
            generalize hy : (kq X (i : Int)).get j = y at *
            obtain ⟨z, hzz⟩ : ∃ z, IntKind.u64.wrap (x + y) = z := ⟨_, rfl⟩
            have hz2 : w64 (x + y) = z := hzz
            rw [hz2] at H1
            clear hx hy hz2
            generalize rb i = r at *
            go_wp2
            go_region
            go_wp2
            go_roundw
            case rel => exact ⟨j + 1, by omega, by go_num, (H1.out.drew)⟩
            case measure => simp [intOf]; omega
          · obtain rfl : j = 6 := by omega
            have t6 : decide (((6 : Nat) : Int) < 6) = false := by decide
            rw [upto_six, HN.out] at H
            clear lp lb hne
            go_wp2
            go_roundw
            case rel => exact ⟨i + 1, by omega, by go_num, HO2, H⟩
            case measure => simp [intOf]; omega
    · obtain rfl : i = n := by omega
      have t1 : decide ((i : Int) < (i : Int)) = false := decide_eq_false (by omega)
      have e1 := odd_no (X := X) (by rw [HNN.out]; exact HO.out)
      obtain ⟨e2, e3⟩ := part6_all HD.out.d.fits e1
      rw [HNN.out] at e2
      have HE := Lib.hid (And.intro e2 e3)
      have gO := H.at 1 rfl
      have kc := counts_r bo 6 (part6 X i) wr gO.lt (fun j hj => Held.six gO hj)
      clear e1 e2 e3 gO hd hts htc c0 lb lc
      go_wp2_with (first
    | go_skip
    | (go_at_call 32; refine kc.mono ?_; rintro e w2 ⟨rfl, hb⟩; have H2 := H.call hb; clear H hb; have H := H2; clear H2)
    | ((with_reducible show wpList _ _ _ (⟨_, .store 42 _ _, _, _, _, _⟩ :: _) _ _); refine mem_store (i := 0) H (by first | exact wanted_none rfl | exact wanted_some rfl rfl rfl rfl) (by exact rfl) (by exact rfl) (by exact rfl) (by exact rfl) (by exact cInfo) (by exact rfl) (by exact rfl) ?_; intro w2 H2; clear H; have H := H2; clear H2; simp only [List.cons_append, List.nil_append, List.set_cons_zero, List.set_cons_succ, List.setIfInBounds_toArray] at H))
      exact ret_held2 (H.at 0 rfl) rfl rfl Try.underlying42 rfl cInfo (HD.out.same (Nat.le_refl _) (by rw [HE.out.1, HE.out.2]; rfl) H.below)
end Go.Proofs.Ytdhjdkhhhdcjdaa.Ta
end
