/-
  The program's Open, Shut, Add. Conditions: the tally lies where its pointer says. The program's Add; noting. Conditions: the tally lies where its pointer says. The program's Note. Conditions: the tally lies where its pointer says.
-/
import Derived.Test.YtdhjdkhhhdcjdaaMGs
import Derived.Test.YtdhjdkhhhdcjdaaMGa
import Derived.Test.YtdhjdkhhhdcjdaaMGb
/- The program's Open, Shut, Add. Conditions: the tally lies where its pointer says. -/
section
namespace Go.Proofs.Ytdhjdkhhhdcjdaa.Ta
set_option linter.unusedSimpArgs false
set_option linter.unusedVariables false
set_option maxRecDepth 100000
open Go.ChangeShapes Go.WideShapes Go.ChangeAt Go.RowKit

/-- the tally has become this by a call of its cells -/
def D2 (W : World) (own oc : Nat → Prop) (p b : Nat) (X' : TS) (N' : Nat) (w' : World) : Prop := ∃ own' oc', TAt w' own' oc' p b X' N' ∧ (∀ i, own' i → own i ∨ W.heap.size ≤ i) ∧ Foot oc W w'
section
variable {W w w' : World} {own oc : Nat → Prop} {p b N N' : Nat} {X X' : TS}
theorem TAt.d2 (h : TAt W own oc p b X N) (hd : D2 W own oc p b X' N' w') {v : Value} {e : Ending} (he : e = .returned v) : DidF PAt12 W own p X' N' v e w' := by
  obtain ⟨own', oc', h1, h2, h3⟩ := hd
  exact ⟨he, ⟨own', ⟨oc', b, h1⟩, h2⟩, h.foot h3⟩
theorem chg (h : TAt w own oc p b X N) {q : Int} (hi : I64 q) (hN : N ≤ 2000000) : Calls Try.prog 43 #[.pointer (some ⟨b, 0, none⟩), .int .i64 q] w fun e w' => e = .returned (.int .i64 (openE X q)) ∧ D2 w own oc p b (openS X q) (N + 1) w' := by
  have k := Ce.changeOP w oc b (cc X []) N q hi hN h.cells
  rw [cc_open, cc_openS] at k
  exact k.mono fun e w' hd => h.did2 hd rfl (openS_len q) (openS_rd q) (openS_fits h.fits q)
theorem stl (h : TAt w own oc p b X N) {q : Int} (hi : I64 q) (hN : N ≤ 2000000) : Calls Try.prog 46 #[.pointer (some ⟨b, 0, none⟩), .int .i64 q] w fun e w' => e = .returned (.int .i64 (if hasQ X q = false then 2 else if sq X q % 2 = 0 then 111 else 0)) ∧ D2 w own oc p b (shutS X q) (N + 1) w' := by
  have k := Ce.settleOP w oc b (cc X []) N q hi hN h.cells
  rw [cc_shut, cc_shutS] at k
  exact k.mono fun e w' hd => h.did2 hd rfl (shutS_len q) (shutS_rd q) (shutS_fits h.fits q)
theorem bgn (h : TAt w own oc p b X N) {q : Int} (hi : I64 q) (hN : N ≤ 2000000) : Calls Try.prog 49 #[.pointer (some ⟨b, 0, none⟩), .int .i64 q] w fun e w' => e = .returned (.tuple #[.int .i64 (Ce.beginV (cc X []) q), .int .i64 (openE X q)]) ∧ D2 w own oc p b X N w' := by
  have k := Ce.beginOP w oc b (cc X []) N q hi hN h.cells
  rw [cc_begin] at k
  exact k.mono fun e w' hd => h.did2 hd rfl rfl rfl h.fits
theorem lod (h : TAt w own oc p b X N) {q f : Nat} (hq : q < X.s.length) (hf : f < 6) (hN : N ≤ 2000000) : Calls Try.prog 50 #[.pointer (some ⟨b, 0, none⟩), .int .i64 ((6 * q + f : Nat) : Int)] w fun e w' => e = .returned (.tuple #[.int .i64 (s64 ((kq X (q : Int)).get f)), .int .i64 0]) ∧ D2 w own oc p b X N w' := by
  have n64 := h.fits.n64
  have k := Ce.loadOP w oc b (cc X []) N ((6 * q + f : Nat) : Int) ⟨by omega, by omega⟩ hN h.cells
  rw [cc_load h.fits hq hf, cc_has h.fits hq hf] at k
  exact k.mono fun e w' hd => h.did2 hd rfl rfl rfl h.fits
theorem fin (h : TAt w own oc p b X N) {q : Nat} (hq : q < X.s.length) {a : Int} (ha : I64 a) (hN : N ≤ 2000000) : Calls Try.prog 52 #[.pointer (some ⟨b, 0, none⟩), .int .i64 (q : Int), .int .i64 a] w fun e w' => e = .returned (.tuple #[.bool (decide (sq X (q : Int) = a)), .int .i64 0]) ∧ D2 w own oc p b X N w' := by
  have n64 := h.fits.n64
  have k := Ce.finOP w oc b (cc X []) N (q : Int) a ⟨by omega, by omega⟩ ha hN h.cells
  rw [cc_end (has_of hq), cc_has_s, has_of hq] at k
  exact k.mono fun e w' hd => h.did2 hd rfl rfl rfl h.fits
theorem ads (h : TAt w own oc p b X N) {q f : Nat} (hq : q < X.s.length) (hf : f < 6) (v : Int) (hN : N ≤ 2000000) : Calls Try.prog 56 #[.pointer (some ⟨b, 0, none⟩), .int .i64 ((6 * q + f : Nat) : Int), .int .i64 (s64 v)] w fun e w' => (∃ u, e = .returned u) ∧ D2 w own oc p b (X.putk (q : Int) ((kq X (q : Int)).put f (w64 ((kq X (q : Int)).get f + v)))) N w' := by
  have n64 := h.fits.n64
  have k := Ce.addOP w oc b (cc X []) N ((6 * q + f : Nat) : Int) (s64 v) ⟨by omega, by omega⟩ (s64_i64 v) hN h.cells
  rw [cc_add h.fits hq hf] at k
  exact k.mono fun e w' hd => ⟨⟨_, hd.1⟩, (h.did2 hd rfl rfl rfl (h.fits.putk _ ((h.fits.kq hq).put f (w64_in _)))).2⟩
end
theorem openP (W : World) (own : Nat → Prop) (p : Nat) (X : TS) (N : Nat) (q : Int) (hi : I64 q) (hN : N ≤ 2000000) (h : PAt12 W own p X N) : Calls Try.prog 19 #[.pointer (some ⟨p, 0, none⟩), .int .i64 q] W (DidF PAt12 W own p (openS X q) (N + 1) (.int .i64 (openE X q))) := by
  obtain ⟨oc, b, h⟩ := h
  have HD := Lib.hid h
  have hnot : ∀ (x : Bool) (w : World), (Op.unary .not (.bool x)).run Try.prog w = .ok (.bool (!x)) w := fun _ _ => rfl
  cases hh : hasQ X q with
  | false =>
    have k1 := lacks_none W own oc p b X N q h (.slice none 0 0) hh
    have e2 : openE X q = 2 := by rw [openE, if_pos hh]
    have e1 : openS X q = X := by rw [openS, e2]; rfl
    rw [e1, e2]
    clear h hh e1 e2
    go_enter Try.func19, Try.ntmps19
    go_wp2_with (first
    | go_skip
    | (go_at_call 26; refine (k1).mono ?_; rintro e w2 ⟨rfl, hb⟩))
    go_ret
    exact (HD.out.same rfl hb).up (by omega)
  | true =>
    have k1 := lacks_one W own oc p b X N q h hh
    clear h hh
    go_enter Try.func19, Try.ntmps19
    go_wp2_with (first
    | go_skip
    | (go_at_call 26; refine (k1).mono ?_; rintro e w2 ⟨rfl, hb⟩; have h2 := HD.out.below hb; have c1 : w2.cell? ⟨p, 1, none⟩ = some (.pointer (some ⟨b, 0, none⟩)) := h2.box.cell 1; have H2 := Lib.hid h2; clear h2)
    | (go_at_call 43; refine (chg H2.out hi hN).mono ?_; rintro e w3 ⟨rfl, hd⟩))
    go_ret
    exact ((H2.out.d2 hd rfl).from hb).up (by omega)
theorem shutP (W : World) (own : Nat → Prop) (p : Nat) (X : TS) (N : Nat) (q : Int) (hi : I64 q) (hN : N ≤ 2000000) (h : PAt12 W own p X N) : Calls Try.prog 21 #[.pointer (some ⟨p, 0, none⟩), .int .i64 q] W (DidF PAt12 W own p (shutS X q) (N + 1) (.int .i64 (shutE X q))) := by
  obtain ⟨oc, b, h⟩ := h
  have HD := Lib.hid h
  have hnot : ∀ (x : Bool) (w : World), (Op.unary .not (.bool x)).run Try.prog w = .ok (.bool (!x)) w := fun _ _ => rfl
  cases hh : hasQ X q with
  | false =>
    have k1 := lacks_none W own oc p b X N q h (.slice none 0 0) hh
    have e2 : shutE X q = 2 := by rw [shutE, if_pos hh]
    have e1 : shutS X q = X := by rw [shutS, e2]; rfl
    rw [e1, e2]
    clear h hh e1 e2
    go_enter Try.func21, Try.ntmps21
    go_wp2_with (first
    | go_skip
    | (go_at_call 26; refine (k1).mono ?_; rintro e w2 ⟨rfl, hb⟩))
    go_ret
    exact (HD.out.same rfl hb).up (by omega)
  | true =>
    have k1 := lacks_one W own oc p b X N q h hh
    have hne : ¬ hasQ X q = false := by rw [hh]; decide
    by_cases hx : sq X q % 2 = 0
    · have e2 : shutE X q = 120 := by rw [shutE, if_neg hne, if_pos hx]
      have k2 := fun w (h : TAt w own oc p b X N) => stl h hi hN
      rw [if_neg hne, if_pos hx] at k2
      rw [e2]
      clear h hh e2 hne hx
      go_enter Try.func21, Try.ntmps21
      go_wp2_with (first
    | go_skip
    | (go_at_call 26; refine (k1).mono ?_; rintro e w2 ⟨rfl, hb⟩; have h2 := HD.out.below hb; have c1 : w2.cell? ⟨p, 1, none⟩ = some (.pointer (some ⟨b, 0, none⟩)) := h2.box.cell 1; have H2 := Lib.hid h2; clear h2)
    | (go_at_call 46; refine (k2 _ H2.out).mono ?_; rintro e w3 ⟨rfl, hd⟩))
      go_ret
      exact ((H2.out.d2 hd rfl).from hb).up (by omega)
    · have e2 : shutE X q = 0 := by rw [shutE, if_neg hne, if_neg hx]
      have k2 := fun w (h : TAt w own oc p b X N) => stl h hi hN
      rw [if_neg hne, if_neg hx] at k2
      rw [e2]
      clear h hh e2 hne hx
      go_enter Try.func21, Try.ntmps21
      go_wp2_with (first
    | go_skip
    | (go_at_call 26; refine (k1).mono ?_; rintro e w2 ⟨rfl, hb⟩; have h2 := HD.out.below hb; have c1 : w2.cell? ⟨p, 1, none⟩ = some (.pointer (some ⟨b, 0, none⟩)) := h2.box.cell 1; have H2 := Lib.hid h2; clear h2)
    | (go_at_call 46; refine (k2 _ H2.out).mono ?_; rintro e w3 ⟨rfl, hd⟩))
      go_ret
      exact ((H2.out.d2 hd rfl).from hb).up (by omega)
theorem isOpen_p (W : World) (own oc : Nat → Prop) (p b : Nat) (X : TS) (N : Nat) (q : Int) (r : Bool) (hi : I64 q) (hN : N ≤ 2000000) (h : TAt W own oc p b X N) (hr : (openE X q == 111) = r) : Calls Try.prog 44 #[.pointer (some ⟨p, 0, none⟩), .int .i64 q] W fun e w' => e = .returned (.bool r) ∧ D2 W own oc p b X N w' := by
  have c1 : W.cell? ⟨p, 1, none⟩ = some (.pointer (some ⟨b, 0, none⟩)) := h.box.cell 1
  have k2 := bgn h hi hN
  generalize openE X q = x at *
  clear h
  go_enter Try.func44, Try.ntmps44
  go_wp2_with (first
    | go_skip
    | (go_at_call 49; refine k2.mono ?_; rintro e w3 ⟨rfl, hd⟩))
  go_ret
  exact ⟨rfl, hd⟩
theorem cellOf_b (q f : Nat) (hq : q ≤ 64) (hf : f < 6) (W : World) : Calls Try.prog 51 #[.int .i64 (q : Int), .int .i64 (f : Int)] W fun e w' => e = .returned (.int .i64 ((6 * q + f : Nat) : Int)) ∧ Below W.heap.size W w' := (cellOf_p q f hq hf W).mono fun e w' h => ⟨h.1, by rw [h.2]; exact Below.refl _ _⟩
theorem raise_p (W : World) (own oc : Nat → Prop) (p b : Nat) (X : TS) (N q f : Nat) (v : Int) (hq : q < X.s.length) (hf : f < 6) (hN : N ≤ 2000000) (h : TAt W own oc p b X N) : Calls Try.prog 45 #[.pointer (some ⟨p, 0, none⟩), .int .i64 (q : Int), .int .i64 (f : Int), .int .u64 v] W fun e w' => e = .returned (.tuple #[]) ∧ D2 W own oc p b (X.putk (q : Int) ((kq X (q : Int)).put f (w64 ((kq X (q : Int)).get f + v)))) N w' := by
  have c1 : W.cell? ⟨p, 1, none⟩ = some (.pointer (some ⟨b, 0, none⟩)) := h.box.cell 1
  have lp := h.box.lt
  have n64 := h.fits.n64
  have k1 := fun W => cellOf_b q f (by omega) hf W
  have k2 := fun w (h : TAt w own oc p b X N) => ads h hq hf v hN
  have HD := Lib.hid h
  have H := Mem.start W
  clear h hq hf n64
  go_enter Try.func45, Try.ntmps45
  refine region_memk H 9 10 rfl (by kernel_rfl) (fun wr0 hcl hS => ?_)
  clear H
  refine wpAnyG_pure (i := 0) (v := .pointer (some ⟨p, 0, none⟩)) rfl rfl (by kernel_rfl) (by kernel_rfl) (by kernel_rfl) (fun _ _ _ h => h) (by decide) ⟨by rfl, fun w _ => (by go_simp; try (first | (simp only [IntKind.wrap_u32]; done) | rfl)), fun _ => rfl⟩ (.inr hS) ?_
  have hc1 := hcl.step (i := 0) (by kernel_rfl)
  clear hcl; have hcl := hc1; clear hc1; simp only [List.getElem_toArray, List.getElem_cons_zero, List.getElem_cons_succ, Act.put, List.setIfInBounds_toArray, List.set_cons_zero, List.set_cons_succ]
  refine wpAnyG_pure (i := 1) (v := .pointer (some ⟨p, 0, none⟩)) rfl rfl (by kernel_rfl) (by kernel_rfl) (by kernel_rfl) (fun _ _ _ h => h) (by decide) ⟨by rfl, fun w _ => (by go_simp; try (first | (simp only [IntKind.wrap_u32]; done) | rfl)), fun _ => rfl⟩ (.inr hS) ?_
  have hc1 := hcl.step (i := 1) (by kernel_rfl)
  clear hcl; have hcl := hc1; clear hc1; simp only [List.getElem_toArray, List.getElem_cons_zero, List.getElem_cons_succ, Act.put, List.setIfInBounds_toArray, List.set_cons_zero, List.set_cons_succ]
  refine wpAnyG_pure (i := 2) (v := .pointer (some ⟨p, 1, none⟩)) rfl rfl (by kernel_rfl) (by kernel_rfl) (by kernel_rfl) (fun _ _ _ h => h) (by decide) ⟨by rfl, fun w _ => (by go_simp; try (first | (simp only [IntKind.wrap_u32]; done) | rfl)), fun _ => rfl⟩ (.inr hS) ?_
  have hc1 := hcl.step (i := 2) (by kernel_rfl)
  clear hcl; have hcl := hc1; clear hc1; simp only [List.getElem_toArray, List.getElem_cons_zero, List.getElem_cons_succ, Act.put, List.setIfInBounds_toArray, List.set_cons_zero, List.set_cons_succ]
  refine wpAnyG_take (i := 3) 24 (v := .pointer (some ⟨b, 0, none⟩)) rfl rfl (by kernel_rfl) (by kernel_rfl) (by kernel_rfl) (fun _ _ _ h => h) (by kernel_rfl) (by decide) hcl (yields_old c1 lp (by exact rfl) (by exact rfl) (by exact rfl) (by first | exact Try.underlying63 | exact Try.underlying24 | exact Try.underlying3 | exact Try.underlying2 | exact Try.underlying40) rfl) hS (fun hc1 => ?_)
  clear hcl; have hcl := hc1; clear hc1; simp only [List.getElem_toArray, List.getElem_cons_zero, List.getElem_cons_succ, Act.put, List.setIfInBounds_toArray, List.set_cons_zero, List.set_cons_succ]
  refine wpAnyG_pure (i := 4) (v := .int .i64 (q : Int)) rfl rfl (by kernel_rfl) (by kernel_rfl) (by kernel_rfl) (fun _ _ _ h => h) (by decide) ⟨by rfl, fun w _ => (by go_simp; try (first | (simp only [IntKind.wrap_u32]; done) | rfl)), fun _ => rfl⟩ (.inr hS) ?_
  have hc1 := hcl.step (i := 4) (by kernel_rfl)
  clear hcl; have hcl := hc1; clear hc1; simp only [List.getElem_toArray, List.getElem_cons_zero, List.getElem_cons_succ, Act.put, List.setIfInBounds_toArray, List.set_cons_zero, List.set_cons_succ]
  refine wpAnyG_pure (i := 5) (v := .int .i64 (f : Int)) rfl rfl (by kernel_rfl) (by kernel_rfl) (by kernel_rfl) (fun _ _ _ h => h) (by decide) ⟨by rfl, fun w _ => (by go_simp; try (first | (simp only [IntKind.wrap_u32]; done) | rfl)), fun _ => rfl⟩ (.inr hS) ?_
  have hc1 := hcl.step (i := 5) (by kernel_rfl)
  clear hcl; have hcl := hc1; clear hc1; simp only [List.getElem_toArray, List.getElem_cons_zero, List.getElem_cons_succ, Act.put, List.setIfInBounds_toArray, List.set_cons_zero, List.set_cons_succ]
  refine wpAnyG_pure (i := 7) (v := .int .u64 v) rfl rfl (by kernel_rfl) (by kernel_rfl) (by kernel_rfl) (fun _ _ _ h => h) (by decide) ⟨by rfl, fun w _ => (by go_simp; try (first | (simp only [IntKind.wrap_u32]; done) | rfl)), fun _ => rfl⟩ (.inr hS) ?_
  have hc1 := hcl.step (i := 7) (by kernel_rfl)
  clear hcl; have hcl := hc1; clear hc1; simp only [List.getElem_toArray, List.getElem_cons_zero, List.getElem_cons_succ, Act.put, List.setIfInBounds_toArray, List.set_cons_zero, List.set_cons_succ]
  refine wpAnyG_pure (i := 8) (v := .int .i64 (s64 v)) rfl rfl (by kernel_rfl) (by kernel_rfl) (by kernel_rfl) (fun _ _ _ h => h) (by decide) ⟨by rfl, fun w _ => (by go_simp; try (first | (simp only [IntKind.wrap_u32]; done) | rfl)), fun _ => rfl⟩ (.inr hS) ?_
  have hc1 := hcl.step (i := 8) (by kernel_rfl)
  clear hcl; have hcl := hc1; clear hc1; simp only [List.getElem_toArray, List.getElem_cons_zero, List.getElem_cons_succ, Act.put, List.setIfInBounds_toArray, List.set_cons_zero, List.set_cons_succ]
  refine wpAnyG_one (i := 6) (by kernel_rfl) rfl (fun K hK => ?_)
  go_simp
  refine ⟨trivial, (callsIn_wide.2 (k1 _)).mono ?_⟩
  rintro e w5 ⟨rfl, hb⟩
  have hS5 := hS.call hb
  clear hb hS
  have hS := hS5
  clear hS5
  refine hK _ _ (.inr hS) ?_
  clear hK K
  have hc1 := hcl.step (i := 6) (by kernel_rfl)
  clear hcl; have hcl := hc1; clear hc1
  refine wpAnyG_one (i := 9) (by kernel_rfl) rfl (fun K hK => ?_)
  go_simp
  refine ⟨trivial, (callsIn_wide.2 (k2 _ (HD.out.below hS.below))).mono ?_⟩
  rintro e w5 ⟨⟨u, rfl⟩, hd⟩
  have HB := Lib.hid hS.below
  clear hS
  refine hK _ _ (.inl (by kernel_rfl)) ?_
  clear hK K hcl
  try simp only [List.getElem_toArray, List.getElem_cons_zero, List.getElem_cons_succ, Act.put, List.setIfInBounds_toArray, List.set_cons_zero, List.set_cons_succ]
  refine wpAnyG_done (by kernel_rfl) ?_ _
  go_wp2
  go_end0
  obtain ⟨own', oc', q1, q2, q3⟩ := hd
  have hz := HB.out.size
  exact ⟨rfl, own', oc', q1, fun i hi => (q2 i hi).imp id fun h => by omega, (Foot.of_below HB.out).trans' q3⟩
end Go.Proofs.Ytdhjdkhhhdcjdaa.Ta
end
/- The program's Add; noting. Conditions: the tally lies where its pointer says. -/
section
namespace Go.Proofs.Ytdhjdkhhhdcjdaa.Ta
set_option linter.unusedSimpArgs false
set_option linter.unusedVariables false
set_option maxRecDepth 100000
open Go.ChangeShapes Go.WideShapes Go.ChangeAt Go.RowKit

theorem TAt.alloc {W : World} {own oc : Nat → Prop} {p b N : Nat} {X : TS} (h : TAt W own oc p b X N) (o : Obj) : TAt (W.alloc o) own oc p b X N := h.below ((Below.refl _ _).alloc (Nat.le_refl _) _)
theorem below_al {W w : World} {o : Obj} (hb : Below (W.alloc o).heap.size (W.alloc o) w) : Below W.heap.size W w := ((Below.refl W.heap.size W).alloc (Nat.le_refl _) o).trans (hb.mono (by simp))
theorem hasF_at {f : Int} (h : hasF f = true) : ∃ k : Nat, f = k ∧ k < 6 := by
  simp only [hasF, Bool.and_eq_true, decide_eq_true_eq] at h
  exact ⟨f.toNat, by omega, by omega⟩
theorem D2.then {W w2 w3 : World} {own oc own' oc' : Nat → Prop} {p b N N' : Nat} {X X' : TS} (hz : W.heap.size ≤ w2.heap.size) (ho : ∀ i, own' i → own i ∨ W.heap.size ≤ i) (h2 : TAt w2 own' oc' p b X N) (hf : Foot oc W w2) (hs : ∀ i, oc' i → oc i ∨ W.heap.size ≤ i) (hd : D2 w2 own' oc' p b X' N' w3) : D2 W own oc p b X' N' w3 := by
  obtain ⟨o3, c3, q1, q2, q3⟩ := hd
  refine ⟨o3, c3, q1, fun i hi => ?_, hf.trans q3 fun i hi e => (hs i e).elim id fun h => by omega⟩
  rcases q2 i hi with e | e
  · exact ho i e
  · exact .inr (by omega)
theorem DidF.chain {P : PT} {W w2 w3 : World} {own own' : Nat → Prop} {p N N' : Nat} {X X' : TS} {v0 v : Value} {e0 e : Ending} (_ : DidF P W own p X N v0 e0 w2) (ho : ∀ i, own' i → own i ∨ W.heap.size ≤ i) (hf : Foot own W w2) (hd : DidF P w2 own' p X' N' v e w3) : DidF P W own p X' N' v e w3 := by
  obtain ⟨he, ⟨o3, q1, q2⟩, q3⟩ := hd
  have hz := hf.size
  refine ⟨he, ⟨o3, q1, fun i hi => ?_⟩, hf.trans q3 fun i hi e => (ho i e).elim id fun h => by omega⟩
  rcases q2 i hi with e | e
  · exact ho i e
  · exact .inr (by omega)
theorem addP (W : World) (own : Nat → Prop) (p : Nat) (X : TS) (N : Nat) (q f v : Int) (hi : I64 q) (hf : I64 f) (hv : 0 ≤ v ∧ v ≤ 4294967295) (hN : N ≤ 2000000) (h : PAt12 W own p X N) : Calls Try.prog 20 #[.pointer (some ⟨p, 0, none⟩), .int .i64 q, .int .i64 f, .int .u32 v] W (DidF PAt12 W own p (addS X q f v) N (.int .i64 (addE X q f))) := by
  obtain ⟨oc, b, h⟩ := h
  have HD := Lib.hid h
  have hnot : ∀ (x : Bool) (w : World), (Op.unary .not (.bool x)).run Try.prog w = .ok (.bool (!x)) w := fun _ _ => rfl
  have hz : Foot own W W := Foot.refl _ _
  have wv : IntKind.u64.wrap v = v := w64_id ⟨by omega, by omega⟩
  clear hz
  cases hh : hasQ X q with
  | false =>
    have k1 := fun o v => lacks_none (W.alloc o) own oc p b X N q (h.alloc o) v hh
    have e2 : addE X q f = 2 := by rw [addE, hh]; rfl
    have e1 : addS X q f v = X := by rw [addS, e2]; rfl
    rw [e1, e2]
    clear h hh e1 e2
    go_enter Try.func20, Try.ntmps20
    go_wp2_with (first
    | go_skip
    | (go_at_call 26; refine (k1 _ _).mono ?_; rintro e w2 ⟨rfl, hb0⟩; have hb := below_al hb0; clear hb0))
    go_ret
    exact HD.out.same rfl hb
  | true =>
    cases hg : hasF f with
    | false =>
      have k1 := lacks_ff (W.alloc (.cells #[.int .i64 f] 3)) own oc p b X N q (h.alloc _) f _ _ (Held.new W _ _) hh hg
      have e2 : addE X q f = 2 := by rw [addE, hh, hg]; rfl
      have e1 : addS X q f v = X := by rw [addS, e2]; rfl
      rw [e1, e2]
      clear h hh hg e1 e2
      go_enter Try.func20, Try.ntmps20
      go_wp2_with (first
    | go_skip
    | (go_at_call 26; refine (k1).mono ?_; rintro e w2 ⟨rfl, hb0⟩; have hb := below_al hb0; clear hb0))
      go_ret
      exact HD.out.same rfl hb
    | true =>
      have k1 := lacks_ft (W.alloc (.cells #[.int .i64 f] 3)) own oc p b X N q (h.alloc _) f _ _ (Held.new W _ _) hh hg
      have HH := Lib.hid (And.intro hh hg)
      have hne : ¬ (hasQ X q && hasF f) = false := by rw [hh, hg]; decide
      have hne2 : ¬ hasQ X q = false := by rw [hh]; decide
      by_cases hx : sq X q % 2 = 0
      · have e2 : addE X q f = 120 := by rw [addE, if_neg hne, if_pos hx]
        have e1 : addS X q f v = X := by rw [addS, e2]; rfl
        have e3 : (openE X q == 111) = false := by rw [openE, if_neg hne2, if_neg (by omega)]; rfl
        have k2 := fun w (h : TAt w own oc p b X N) => isOpen_p w own oc p b X N q false hi hN h e3
        rw [e1, e2]
        clear h hh hg e1 e2 e3 hne hne2 hx
        go_enter Try.func20, Try.ntmps20
        go_wp2_with (first
    | go_skip
    | (go_at_call 26; refine (k1).mono ?_; rintro e w2 ⟨rfl, hb0⟩; have hb := below_al hb0; clear hb0; have h2 := HD.out.below hb; have c1 : w2.cell? ⟨p, 1, none⟩ = some (.pointer (some ⟨b, 0, none⟩)) := h2.box.cell 1; have H2 := Lib.hid h2; clear h2)
    | (go_at_call 44; refine (k2 _ H2.out).mono ?_; rintro e w3 ⟨rfl, hd⟩))
        go_ret
        exact (H2.out.d2 hd rfl).from hb
      · obtain ⟨k, rfl, hk⟩ := has_at hh
        obtain ⟨j, rfl, hj⟩ := hasF_at hg
        have e2 : addE X k j = 0 := by rw [addE, if_neg hne, if_neg hx]
        have e1 : addS X k j v = X.putk k ((kq X k).put j (w64 ((kq X k).get j + v))) := by rw [addS, if_pos e2]; rfl
        have e3 : (openE X k == 111) = true := by rw [openE, if_neg hne2, if_pos (by omega)]; rfl
        have k2 := fun w (h : TAt w own oc p b X N) => isOpen_p w own oc p b X N k true hi hN h e3
        have k3 := fun w own oc (h : TAt w own oc p b X N) => raise_p w own oc p b X N k j v hk hj hN h
        rw [e1, e2]
        clear h hh hg e1 e2 e3 hne hne2 hx
        go_enter Try.func20, Try.ntmps20
        go_wp2_with (first
    | go_skip
    | (go_at_call 26; refine (k1).mono ?_; rintro e w2 ⟨rfl, hb0⟩; have hb := below_al hb0; clear hb0; have h2 := HD.out.below hb; have c1 : w2.cell? ⟨p, 1, none⟩ = some (.pointer (some ⟨b, 0, none⟩)) := h2.box.cell 1; have H2 := Lib.hid h2; clear h2)
    | (go_at_call 44; refine (k2 _ H2.out).mono ?_; rintro e w3 ⟨rfl, hd⟩; obtain ⟨own', oc', h3, q2, q3⟩ := hd; have H3 := Lib.hid h3; clear h3)
    | (go_at_call 45; refine (k3 _ _ _ H3.out).mono ?_; rintro e w4 ⟨rfl, hd⟩))
        go_ret
        exact DidF.from hb (DidF.chain (H2.out.d2 ⟨own', oc', H3.out, q2, q3⟩ (rfl : Ending.returned (.int .i64 0) = _)) q2 (H2.out.foot q3) (H3.out.d2 hd rfl))
end Go.Proofs.Ytdhjdkhhhdcjdaa.Ta
end
/- The program's Note. Conditions: the tally lies where its pointer says. -/
section
namespace Go.Proofs.Ytdhjdkhhhdcjdaa.Ta
set_option linter.unusedSimpArgs false
set_option linter.unusedVariables false
set_option maxRecDepth 100000
open Go.ChangeShapes Go.WideShapes Go.ChangeAt Go.RowKit

abbrev rowS (b : Nat) : Value := .slice (some ⟨b, 0, none⟩) 6 6
theorem valuesOf_p (c : C6) (W : World) : Calls Try.prog 42 #[cv c] W fun e w' => ∃ b t, e = .returned (rowS b) ∧ Held w' b t (row6 c) ∧ W.heap.size ≤ b ∧ Below W.heap.size W w' := by
  have H := Mem.start W
  go_enter Try.func42, Try.ntmps42
  go_upto_region 1 with (first
    | ((with_reducible show wpList _ _ _ _ _ (World.alloc _ (.cells _ _))); refine mem_newb (l := []) H ?_; intro bc w3 hbk H2; try rw [← hbk]; clear hbk H; have H := H2; clear H2; simp only [List.cons_append, List.nil_append, List.set_cons_zero, List.set_cons_succ, List.setIfInBounds_toArray] at H))
  go_wp2_with (first
    | go_skip
    | ((with_reducible show wpList _ _ _ (⟨_, .load _ _, _, _, _, _⟩ :: _) _ _); refine mem_loadf (i := 0) H (by first | exact wanted_none rfl | exact wanted_some rfl rfl rfl rfl) (by exact rfl) (by exact rfl) (by exact rfl) (by first | exact Try.underlying3 | exact Try.underlying39 | exact Try.underlying40) rfl (by exact rfl) ?_))
  go_ret
  exact ⟨_, _, rfl, Held.new _ _ _, H.below.size, H.below.alloc H.below.size _⟩
/-- the tally, and a box of one's own beside it -/
structure Now (W : World) (own : Nat → Prop) (bx : Nat) (t : TypeId) (cs : Array Value) (p : Nat) (X : TS) (N : Nat) (w : World) : Prop where
  at' : ∃ own', PAt12 w own' p X N ∧ (∀ i, own' i → own i ∨ W.heap.size ≤ i) ∧ ¬ own' bx
  foot : Foot own W w
  new : W.heap.size ≤ bx
  box : Held w bx t cs
section
variable {W W1 w w' : World} {own : Nat → Prop} {bx p N N' : Nat} {t : TypeId} {cs : Array Value} {X X' : TS}
theorem Now.start (h : PAt12 W own p X N) (hb : Below W.heap.size W W1) (hn : W.heap.size ≤ bx) (hx : Held W1 bx t cs) : Now W own bx t cs p X N W1 :=
  ⟨⟨own, PAt12.pt.on h (fun i hi => hb.block i (PAt12.pt.lt h i hi)) hb.size, fun i hi => .inl hi, fun e => by have := PAt12.pt.lt h _ e; omega⟩, Foot.of_below hb, hn, hx⟩
theorem Now.step (h : Now W own bx t cs p X N w) {own' : Nat → Prop} (h1 : ∀ i, own' i → own i ∨ W.heap.size ≤ i) (h2 : ¬ own' bx) {v : Value} {e : Ending} (hd : DidF PAt12 w own' p X' N' v e w') : e = .returned v ∧ Now W own bx t cs p X' N' w' := by
  obtain ⟨he, ⟨o2, q1, q2⟩, q3⟩ := hd
  have hz := h.foot.size
  have hl := h.box.lt
  refine ⟨he, ⟨o2, q1, fun i hi => ?_, fun e => ?_⟩, h.foot.trans q3 fun i hi e => (h1 i e).elim id fun h => by omega, h.new, h.box.foot q3 h2⟩
  · rcases q2 i hi with e | e
    · exact h1 i e
    · exact .inr (by omega)
  · rcases q2 _ e with e | e
    · exact h2 e
    · omega
/-- a call -/
theorem Now.call (h : Now W own bx t cs p X N w) {f : Nat} {args : Array Value} {v : Value} (hc : ∀ own', PAt12 w own' p X N → Calls Try.prog f args w (DidF PAt12 w own' p X' N' v)) : Calls Try.prog f args w fun e w' => e = .returned v ∧ Now W own bx t cs p X' N' w' := by
  obtain ⟨own', h0, h1, h2⟩ := h.at'
  exact (hc own' h0).mono fun e w' hd => h.step h1 h2 hd
theorem Now.below (h : Now W own bx t cs p X N w) (hb : Below w.heap.size w w') : Now W own bx t cs p X N w' := by
  obtain ⟨own', h0, h1, h2⟩ := h.at'
  exact ⟨⟨own', PAt12.pt.on h0 (fun i hi => hb.block i (PAt12.pt.lt h0 i hi)) hb.size, h1, h2⟩, h.foot.then_below hb, h.new, h.box.below hb h.box.lt⟩
theorem Now.did (h : Now W own bx t cs p X N w) {v : Value} {e : Ending} (he : e = .returned v) : DidF PAt12 W own p X N v e w := by
  obtain ⟨own', h0, h1, h2⟩ := h.at'
  exact ⟨he, ⟨own', h0, h1⟩, h.foot⟩
/-- another box -/
theorem Now.rebox (h : Now W own bx t cs p X N w) (hb : Below w.heap.size w w') {b2 : Nat} {t2 : TypeId} {c2 : Array Value} (hn : w.heap.size ≤ b2) (hx : Held w' b2 t2 c2) : Now W own b2 t2 c2 p X N w' := by
  have hz := h.foot.size
  obtain ⟨own', h0, h1, h2⟩ := h.at'
  exact ⟨⟨own', PAt12.pt.on h0 (fun i hi => hb.block i (PAt12.pt.lt h0 i hi)) hb.size, h1, fun e => by have := PAt12.pt.lt h0 _ e; omega⟩, h.foot.then_below hb, by omega, hx⟩
/-- what the box holds is changed -/
theorem Now.put (h : Now W own bx t cs p X N w) (hf : Foot (· = bx) w w') {c2 : Array Value} (hx : Held w' bx t c2) : Now W own bx t c2 p X N w' := by
  obtain ⟨own', h0, h1, h2⟩ := h.at'
  have hn := h.new
  exact ⟨⟨own', PAt12.pt.on h0 (fun i hi => hf.block i (PAt12.pt.lt h0 i hi) fun e => h2 (by rw [← show i = bx from e]; exact hi)) hf.size, h1, h2⟩, h.foot.trans hf fun i hi e => by have : i = bx := e; omega, h.new, hx⟩
end
theorem raise_d (W : World) (own : Nat → Prop) (p : Nat) (X : TS) (N q f : Nat) (v : Int) (hq : q < X.s.length) (hf : f < 6) (hN : N ≤ 2000000) (h : PAt12 W own p X N) : Calls Try.prog 45 #[.pointer (some ⟨p, 0, none⟩), .int .i64 (q : Int), .int .i64 (f : Int), .int .u64 v] W (DidF PAt12 W own p (X.putk (q : Int) ((kq X (q : Int)).put f (w64 ((kq X (q : Int)).get f + v)))) N (.tuple #[])) := by
  obtain ⟨oc, b, h⟩ := h
  exact (raise_p W own oc p b X N q f v hq hf hN h).mono fun e w' hd => h.d2 hd.2 hd.1
theorem note_next {X : TS} {N q : Nat} {c : C6} (hf : FitsT X N) (hq : q < X.s.length) {j : Nat} (hj : j < 6) :
    (noteY X q c j).putk (q : Int) ((kq (noteY X q c j) (q : Int)).put j (w64 ((kq (noteY X q c j) (q : Int)).get j + c.get j))) = noteY X q c (j + 1) := by
  rw [noteY_kq hf hq, show w64 (((kq X (q : Int)).upto c j).get j + c.get j) = w64 ((kq X (q : Int)).get j + c.get j) by rw [upto_get _ _ _ hj], upto_next]
  simp only [noteY, TS.putk, List.set_set]
theorem note_last {X : TS} {N q : Nat} {c : C6} (hf : FitsT X N) (hq : q < X.s.length) (h0 : openE X (q : Int) = 0) : shutE (noteY X q c 6) (q : Int) = 0 ∧ shutS (noteY X q c 6) (q : Int) = noteS X (q : Int) c := by
  have hev : sq X (q : Int) % 2 = 0 := by
    rw [openE] at h0
    split at h0
    · omega
    · split at h0 <;> omega
  have hh : hasQ (noteY X q c 6) (q : Int) = true := has_of (by rw [noteY_len]; exact hq)
  have e2 : shutE (noteY X q c 6) (q : Int) = 0 := by rw [shutE, hh, if_neg (by simp), noteY_sq hq, if_neg (by omega)]
  refine ⟨e2, ?_⟩
  rw [shutS, if_pos e2, noteY_sq hq, noteS, if_pos h0, ← upto_six]
  simp only [noteY, TS.puts, TS.putk, List.set_set, Int.add_assoc]
  rfl
set_option maxHeartbeats 4000000 in
theorem noteP (W : World) (own : Nat → Prop) (p : Nat) (X : TS) (N : Nat) (q : Int) (c : C6) (hi : I64 q) (hc : c.Fits) (hN : N ≤ 1000000) (h : PAt12 W own p X N) : Calls Try.prog 22 #[.pointer (some ⟨p, 0, none⟩), .int .i64 q, cv c] W (DidF PAt12 W own p (noteS X q c) (N + 2) (.int .i64 (openE X q))) := by
  have HF := Lib.hid (show FitsT X N from by obtain ⟨oc, b, h⟩ := h; exact h.fits)
  have HP := Lib.hid h
  have H := Mem.start W
  clear h
  by_cases e0 : openE X q = 0
  · have hh : hasQ X q = true := by
      cases hq : hasQ X q with
      | true => rfl
      | false => rw [openE, if_pos hq] at e0; exact absurd e0 (by decide)
    obtain ⟨k, rfl, hk⟩ := has_at hh
    have e1 := e0
    have HK := Lib.hid (And.intro hk (And.intro e0 hc))
    rw [e0]
    clear hh e0 hk hc
    go_enter Try.func22, Try.ntmps22
    go_upto_region 1 with (first
    | ((with_reducible show wpList _ _ _ _ _ (World.alloc _ (.cells _ _))); refine mem_newb (l := []) H ?_; intro bx w3 hbk H2; try rw [← hbk]; clear hbk H; have H := H2; clear H2; simp only [List.cons_append, List.nil_append, List.set_cons_zero, List.set_cons_succ, List.setIfInBounds_toArray] at H))
    have hn := Now.start HP.out H.below (H.held _ List.mem_cons_self).1 (H.at 0 rfl)
    have HW := Lib.hid hn
    clear hn H HP
    go_upto_region 4 with (first
    | (go_at_call 19; refine (HW.out.call (fun own' h => openP _ own' p X N k hi (by omega) h)).mono ?_; rintro e w3 ⟨he, hn⟩; rw [e1] at he; subst he; have HW3 := Lib.hid hn; clear hn))
    go_upto_region 5 with (first
    | ((with_reducible show wpList _ _ _ (⟨_, .load 42 _, _, _, _, _⟩ :: _) _ _); refine load_held HW3.out.box (by first | exact wanted_none rfl | exact wanted_some rfl rfl rfl rfl) (by exact rfl) (by exact rfl) Try.underlying42 rfl cInfo ?_)
    | (go_at_call 42; refine (valuesOf_p c _).mono ?_; rintro e w4 ⟨bs, ts, rfl, hs, hbs, hb⟩; have hn := HW3.out.rebox hb hbs hs; have HW4 := Lib.hid hn; clear hn hs hbs hb HW3))
    have hn4 := HW4.out
    rw [noteY_zero (c := c) HF.out HK.out.1 HK.out.2.1] at hn4
    have HW := Lib.hid hn4
    clear hn4 HW4 e1
    go_loopw [19] (fun iv wr => ∃ j : Nat, j ≤ 6 ∧ iv = .int .i64 j ∧ Hid (Now W own bs ts (row6 c) p (noteY X k c j) (N + 1) wr)) (fun iv _ => 6 - (intOf iv).toNat)
    case atStart => exact ⟨0, Nat.zero_le _, rfl, HW⟩
    case round =>
      clear HW
      obtain ⟨j, hj, rfl, HW⟩ := hrel
      have t0 : ¬ ((j : Int) < 0) := by omega
      by_cases hlt : (j : Int) < 6
      · have hj6 : j < 6 := by omega
        have g0 : wr.cell? ⟨bs, j, none⟩ = some (.int .u64 (c.get j)) := (HW.out.box.cell j).trans (row6_get c hj6)
        have t2 : ¬ 6 ≤ j := by omega
        have tl : decide ((j : Int) < 6) = true := decide_eq_true hlt
        go_wp2_with (first
    | go_skip
    | (go_at_call 45; refine (HW.out.call (fun own' h => raise_d _ own' p (noteY X k c j) (N + 1) k j (c.get j) (by rw [noteY_len]; exact HK.out.1) hj6 (by omega) h)).mono ?_; rintro e w5 ⟨rfl, hn⟩; rw [note_next HF.out HK.out.1 hj6] at hn; have HW5 := Lib.hid hn; clear hn HW))
        go_roundw
        case rel => exact ⟨j + 1, by omega, by go_num, HW5⟩
        case measure => simp [intOf]; omega
      · obtain rfl : j = 6 := by omega
        have hl := note_last (c := c) HF.out HK.out.1 HK.out.2.1
        have HL := Lib.hid hl
        clear hl
        go_wp2_with (first
    | go_skip
    | (go_at_call 21; refine (HW.out.call (fun own' h => shutP _ own' p (noteY X k c 6) (N + 1) k hi (by omega) h)).mono ?_; rintro e w5 ⟨he, hn⟩; rw [HL.out.1] at he; rw [HL.out.2] at hn; subst he; have HW5 := Lib.hid hn; clear hn HW))
        go_ret
        exact HW5.out.did rfl
  · have e2 : openS X q = X := by rw [openS, if_neg e0]
    have e3 : noteS X q c = X := by rw [noteS, if_neg e0]
    obtain ⟨x, e1⟩ : ∃ x, openE X q = x := ⟨_, rfl⟩
    rw [e1] at e0 ⊢
    rw [e3]
    have tx : (x != 0) = true := by simpa using e0
    clear hc e0
    go_enter Try.func22, Try.ntmps22
    go_upto_region 1 with (first
    | ((with_reducible show wpList _ _ _ _ _ (World.alloc _ (.cells _ _))); refine mem_newb (l := []) H ?_; intro bx w3 hbk H2; try rw [← hbk]; clear hbk H; have H := H2; clear H2; simp only [List.cons_append, List.nil_append, List.set_cons_zero, List.set_cons_succ, List.setIfInBounds_toArray] at H))
    have hn := Now.start HP.out H.below (H.held _ List.mem_cons_self).1 (H.at 0 rfl)
    have HW := Lib.hid hn
    clear hn H HP
    go_wp2_with (first
    | go_skip
    | (go_at_call 19; refine (HW.out.call (fun own' h => openP _ own' p X N q hi (by omega) h)).mono ?_; rintro e w3 ⟨he, hn⟩; rw [e1] at he; subst he; have HW3 := Lib.hid hn; clear hn))
    go_ret
    have hn3 := HW3.out
    rw [e2] at hn3
    exact (hn3.did rfl).up (by omega)
end Go.Proofs.Ytdhjdkhhhdcjdaa.Ta
end
