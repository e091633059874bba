/-
  The program's Holder. Conditions: the cells lie where their pointer says. The program's Holder of nil. Conditions: none.
-/
import Derived.Test.YtoajgaljccaccaaMGg
import Derived.Test.YtoajgaljccaccaaMGf
/- The program's Holder. Conditions: the cells lie where their pointer says. -/
section
namespace Go.Proofs.Ytoajgaljccaccaa.Ce
set_option linter.unusedSimpArgs false
set_option linter.unusedVariables false
set_option maxRecDepth 100000
attribute [local go_sem] Oper.semAt_some
open Go.ChangeShapes Go.WideShapes Go.ChangeAt Go.RowKit Go.Maps Go.Shelf

theorem keepsFrom_footC {D : Nat} {B : Nat → Prop} {W W' : World} (h : Foot B W W') (hb : ∀ i, B i → i < D) : KeepsFrom D W W' := ⟨h.size, fun k o hB hk _ => (h.block k (Array.getElem?_eq_some_iff.1 hk).1 (fun e => by have := hb k e; omega)).trans hk⟩
theorem results_c {fn : Func} {p : Tmp} {ty : TypeId} (h : fn.results = #[.cell p ty]) {tmps : Array Value} {P : Program} {w : World} {a : Addr} (hp : tmps.getD p undef = .pointer (some a)) {u : Value} (hu : (loadVar ty a).run P w = .ok u w) :
    (results fn tmps).run P w = .ok u w := by
  have hp' := hp
  simp only [Array.getD_eq_getD_getElem?] at hp'
  simp only [results, h]
  simp [Sem.run_bind, Result.andThen, asAddr, hp', hu]
theorem load_int {w : World} {b : Nat} {e : Int} (h : Held w b 3 #[.int .i64 e]) : (loadVar 3 ⟨b, 0, none⟩).run Try.prog w = .ok (.int .i64 e) w := by
  have hc : w.cell? ⟨b, 0, none⟩ = some (.int .i64 e) := h.cell 0
  have hagg : (isAgg 3).run Try.prog w = .ok false w := by
    unfold isAgg
    rw [Sem.run_bind, run_underlying Try.underlying3 w]
    rfl
  simp only [loadVar, Sem.run_bind, hagg, Result.andThen_ok]
  simp [go_sem, hc]
/-- the visit of locks, as the caller of a range over it sees it -/
structure HI (W : World) (own : Nat → Prop) (p : Nat) (s : CC) (N : Nat) (w : World) (bi br : Nat) (i x : Int) (V : World) : Prop where
  gh : GH w own p s N V
  sz : w.heap.size ≤ V.heap.size
  f : Foot own W V
  gi : Held V bi 3 #[.int .i64 i]
  gr : Held V br 3 #[.int .i64 x]
section
variable {W w : World} {own : Nat → Prop} {p N bi br : Nat} {s : CC} {i x : Int} {X Y : World}
theorem HI.rel (h : HI W own p s N w bi br i x X) (hi : ¬ own bi) (hr : ¬ own br) (r : RelH w own p s N X Y) : HI W own p s N w bi br i x Y :=
  ⟨r.2 h.gh, Nat.le_trans h.sz r.1.size, h.f.trans' r.1, h.gi.foot r.1 hi, h.gr.foot r.1 hr⟩
theorem HI.foot (h : HI W own p s N w bi br i x X) (hW : W.heap.size ≤ w.heap.size) (hi : bi < w.heap.size) (hr : br < w.heap.size) (ho : ∀ i, own i → i < W.heap.size) {b : Nat} (hb : w.heap.size ≤ b) (hb2 : b < w.heap.size + 2) (hf : Foot (· = b) X Y) : HI W own p s N w bi br i x Y :=
  ⟨h.gh.foot hf (fun e => by have := ho _ e; omega) hb2, Nat.le_trans h.sz hf.size, h.f.trans hf (fun j hj (e : j = b) => by omega), h.gi.foot hf (fun e => by have : bi = b := e; omega), h.gr.foot hf (fun e => by have : br = b := e; omega)⟩
theorem HI.put (h : HI W own p s N w bi br i x X) (hr : W.heap.size ≤ br) (hr2 : br < w.heap.size) (hne : bi ≠ br) (ho : ∀ i, own i → i < W.heap.size) (y : Int) : HI W own p s N w bi br i y (X.setCell ⟨br, 0, none⟩ (.int .i64 y)) := by
  have hf : Foot (· = br) X (X.setCell ⟨br, 0, none⟩ (.int .i64 y)) := Foot.cell X ⟨br, 0, none⟩ _
  exact ⟨h.gh.foot hf (fun e => by have := ho _ e; omega) (by omega), Nat.le_trans h.sz hf.size, h.f.trans hf (fun j hj (e : j = br) => by omega), h.gi.foot hf hne, h.gr.set 0 _⟩
theorem HI.did (h : HI W own p s N w bi br i x X) (hW : W.heap.size ≤ w.heap.size) {v : Value} {e : Ending} (he : e = .returned v) : DidF PAt11 W own p s N v e X := by
  obtain ⟨own', h1, h2⟩ := h.gh
  exact ⟨he, ⟨own', h1, fun j hj => (h2 j hj).imp id fun h => by omega⟩, h.f⟩
end
/-- no lock that is held has been the one so far -/
def Past (s : CC) (i : Int) (k : Nat) : Prop := ∀ j : Nat, j < k → ¬ lk s j = 0 → (j : Int) < i
theorem lk_val (s : CC) (k : Nat) : lk s k = val s.l k := rfl
theorem holder_no {s : CC} {i : Int} (h : ∀ j : Nat, j < s.l.length → (j : Int) = i → lk s j = 0) : holder s i = -1 := by
  unfold holder
  split
  · rename_i hh
    obtain ⟨k, rfl, hk, _⟩ := has_at hh
    have := h k hk rfl
    rw [lk_val] at this
    rw [this]
    rfl
  · rfl
theorem holder_at {s : CC} {k : Nat} (h : k < s.l.length) : holder s (k : Int) = lk s k - 1 := by
  unfold holder
  rw [if_pos (by simp [has, h]), lk_val]
theorem past_end {s : CC} {i : Int} (h : Past s i s.l.length) : holder s i = -1 := holder_no fun j hj e => by
  by_cases h0 : lk s j = 0
  · exact h0
  · have := h j hj h0
    omega
theorem past_over {s : CC} {i : Int} {k : Nat} (h : Past s i k) (hk : i < (k : Int)) : holder s i = -1 := holder_no fun j hj e => by
  by_cases h0 : lk s j = 0
  · exact h0
  · have := h j (by omega) h0
    omega
theorem past_next {s : CC} {i : Int} {k : Nat} (h : Past s i k) (hk : ¬ lk s k = 0 → (k : Int) < i) : Past s i (k + 1) := fun j hj h0 => by
  by_cases e : j = k
  · subst e
    exact hk h0
  · exact h j (by omega) h0
set_option maxHeartbeats 4000000 in
theorem holderOP (W : World) (own : Nat → Prop) (p : Nat) (s : CC) (N : Nat) (i : Int) (hi : I64 i) (hN : N ≤ 1000000) (h : PAt11 W own p s N) : Calls Try.prog 16 #[.pointer (some ⟨p, 0, none⟩), .int .i64 i] W (DidF PAt11 W own p s N (.int .i64 (holder s i))) := by
  obtain ⟨oc, ol, os, bc, bl, bs, h⟩ := h
  have HD := Lib.hid h
  have HO := Lib.hid h.lt
  have HS := Lib.hid (fun w hb => holders_seq 5 (by omega) own oc ol os p bc bl bs s N w (h.below hb))
  have H := Mem.start W
  clear h
  refine (callsIn_wide (n := 6)).1 ?_
  refine callsIn_of_wp_marks Try.func16 rfl trivial ?_ rfl
  simp only [Try.ntmps16, List.size_toArray, List.length_cons, List.length_nil, Nat.reduceAdd, Nat.reduceSub, Array.replicate_succ, Array.replicate_zero, List.push_toArray, List.append_toArray, List.nil_append, List.cons_append]
  refine wpIn_wide.2 ?_
  go_upto_region 1 with (first | ((with_reducible show wpList _ _ _ _ _ (World.alloc _ (.cells _ _))); refine mem_newb (l := []) H ?_; intro bi w3 hbk H2; try rw [← hbk]; clear hbk H; have H := H2; clear H2; simp only [List.cons_append, List.nil_append, List.set_cons_zero, List.set_cons_succ, List.setIfInBounds_toArray] at H) | ((with_reducible show wpList _ _ _ _ _ (World.alloc _ (.cells _ _))); refine mem_newb (l := [_]) H ?_; intro br w3 hbk H2; try rw [← hbk]; clear hbk H; have H := H2; clear H2; simp only [List.cons_append, List.nil_append, List.set_cons_zero, List.set_cons_succ, List.setIfInBounds_toArray] at H))
  refine wp_scope_straight ?_
  go_wp2_with fail
  refine wp_label ?_
  go_wp2_with fail
  have g1 := H.at 0 rfl
  have g2 := H.at 1 rfl
  have l1 := g1.lt
  have l2 := g2.lt
  have hge1 : W.heap.size ≤ bi := (H.held _ (List.mem_of_getElem? (i := 0) rfl)).1
  have hge2 : W.heap.size ≤ br := (H.held _ (List.mem_of_getElem? (i := 1) rfl)).1
  have hne : bi ≠ br := by
    have := H.inc
    simp at this
    exact this
  have hWs := H.below.size
  have n1 : ¬ own bi := fun e => by have := HO.out _ e; omega
  have n2 : ¬ own br := fun e => by have := HO.out _ e; omega
  have hi0 : HI W own p s N w3 bi br i 0 w3 := ⟨⟨own, ⟨oc, ol, os, bc, bl, bs, HD.out.below H.below⟩, fun j hj => .inl hj⟩, Nat.le_refl _, Foot.of_below H.below, g1, g2⟩
  have hsq := Lib.hid (HS.out w3 H.below)
  have hft : ∀ x b X Y, w3.heap.size ≤ b → b < w3.heap.size + 2 → HI W own p s N w3 bi br i x X → Foot (· = b) X Y → HI W own p s N w3 bi br i x Y := fun x b X Y h1 h2 h hf => h.foot hWs l1 l2 HO.out h1 h2 hf
  have hpt : ∀ x V, HI W own p s N w3 bi br i 0 V → HI W own p s N w3 bi br i x (V.setCell ⟨br, 0, none⟩ (.int .i64 x)) := fun x V h => h.put hge2 l2 hne HO.out x
  have HP := Lib.hid (And.intro hft hpt)
  clear hft hpt H g1 g2 HS HD
  refine (wpIn_wide (n := 6)).1 ?_
  refine wpIn_rangeRel (n := 6) (F := Fence.wide) rfl (by omega) (gf := 37) (ra := #[.pointer (some ⟨p, 0, none⟩)]) rfl trivial (enters_of Try.func37 (by kernel_rfl) rfl)
    hsq.out (fun _ => rfl) (B := own) (fun X Y r => r.1) (fun j hj => Nat.lt_of_lt_of_le (HO.out j hj) hWs) (fun X Y hb => RelH.below X Y hb)
    (fun k V => Past s i k ∧ HI W own p s N w3 bi br i 0 V)
    (fun c k V => (c = .ret ∧ HI W own p s N w3 bi br i (holder s i) V) ∨ (c = .exit 0 ∧ holder s i = -1 ∧ HI W own p s N w3 bi br i 0 V))
    (fun k X Y h r => ⟨h.1, h.2.rel n1 n2 r⟩)
    (fun k X Y h hf => ⟨h.1, HP.out.1 _ _ _ _ (by omega) (by omega) h.2 hf⟩)
    (fun c k X Y h hf => h.imp (fun h => ⟨h.1, HP.out.1 _ _ _ _ (by omega) (by omega) h.2 hf⟩) (fun h => ⟨h.1, h.2.1, HP.out.1 _ _ _ _ (by omega) (by omega) h.2.2 hf⟩))
    (fun k V hk ha h => ⟨past_next h.1 (fun h0 => absurd h0 ha), h.2⟩)
    ⟨(fun j hj => by omega), hi0⟩
    (fun k => { tmps := #[.pointer (some ⟨p, 0, none⟩), .int .i64 i, undef, .pointer (some ⟨bi, 0, none⟩), .pointer (some ⟨br, 0, none⟩), .int .i64 (k : Int), .int .i64 (lk s k - 1), .pointer (some ⟨p, 0, none⟩), .func (.func 37) #[.pointer (some ⟨p, 0, none⟩)] #[], .int .i64 (k : Int), .int .i64 (lk s k - 1), undef, undef, undef, undef, undef, undef, undef, undef, undef], defers := [] })
    ?assign ?body ?done ?stop
  case assign =>
    intro l x V K hx hK
    gi_wp2
    exact hK
  case body =>
    rintro l k V hk ha hsz2 ⟨hp, hI⟩
    have c1 : V.cell? ⟨bi, 0, none⟩ = some (.int .i64 i) := hI.gi.cell 0
    have c2 : V.cell? ⟨br, 0, none⟩ = some (.int .i64 0) := hI.gr.cell 0
    have z2 : V.frozen? ⟨br, 0, none⟩ = false := hI.gr.frozen 0
    have HQ := Lib.hid (And.intro hk (And.intro hp hI))
    clear hI hp hi0 hsq ha hk
    by_cases e : (k : Int) = i
    · have t1 : ((k : Int) == i) = true := by simpa using e
      gi_wp2
      have e2 : holder s i = lk s k - 1 := by rw [← e]; exact holder_at HQ.out.1
      refine ⟨keepsFrom_footC (Foot.cell V ⟨br, 0, none⟩ _) (fun j (hj : j = br) => by omega), .inl ⟨rfl, ?_⟩⟩
      rw [e2]
      exact HP.out.2 _ _ HQ.out.2.2
    · have t1 : ((k : Int) == i) = false := by simpa using e
      by_cases e2 : i < (k : Int)
      · have t2 : decide ((k : Int) > i) = true := decide_eq_true e2
        gi_wp2
        exact ⟨⟨Nat.le_refl _, fun _ _ _ h _ => h⟩, .inr ⟨rfl, past_over HQ.out.2.1 e2, HQ.out.2.2⟩⟩
      · have t2 : decide ((k : Int) > i) = false := decide_eq_false e2
        gi_wp2
        exact ⟨⟨Nat.le_refl _, fun _ _ _ h _ => h⟩, Foot.refl _ _, past_next HQ.out.2.1 (fun _ => by omega), HQ.out.2.2⟩
  case done =>
    rintro D V hD ⟨hp, hI⟩ hdef
    have hh := past_end hp
    have c2 : V.cell? ⟨br, 0, none⟩ = some (.int .i64 0) := hI.gr.cell 0
    have z2 : V.frozen? ⟨br, 0, none⟩ = false := hI.gr.frozen 0
    have h2 := HP.out.2 (-1) V hI
    have hDl : D < V.heap.size := (Array.getElem?_eq_some_iff.1 hdef).1
    have hdef2 := ((Foot.cell V ⟨br, 0, none⟩ (.int .i64 (-1))).block D hDl (fun e => by have : D = br := e; omega)).trans hdef
    have HQ := Lib.hid (And.intro h2 (And.intro hdef2 hh))
    clear hI hp hi0 hsq hdef h2 hdef2 hh
    go_wp2
    refine ⟨by simp, .inl ⟨_, _, rfl, run_takeDeferred HQ.out.2.1, ?_⟩⟩
    have h3 := fun o => HP.out.1 _ D _ _ (by omega) (by omega) HQ.out.1 (foot_putG _ D o)
    exact ⟨_, results_c rfl rfl (load_int (h3 _).gr), (h3 _).did hWs (by rw [HQ.out.2.2])⟩
  case stop =>
    rintro D c k V hD hk (⟨rfl, hI⟩ | ⟨rfl, hh, hI⟩) hdef
    · clear hi0 hsq
      gi_wp2
      refine ⟨by simp, .inl ⟨_, _, rfl, run_takeDeferred hdef, ?_⟩⟩
      have h3 := fun o => HP.out.1 _ D _ _ (by omega) (by omega) hI (foot_putG _ D o)
      exact ⟨_, results_c rfl rfl (load_int (h3 _).gr), (h3 _).did hWs rfl⟩
    · have c2 : V.cell? ⟨br, 0, none⟩ = some (.int .i64 0) := hI.gr.cell 0
      have z2 : V.frozen? ⟨br, 0, none⟩ = false := hI.gr.frozen 0
      have h2 := HP.out.2 (-1) V hI
      have hDl : D < V.heap.size := (Array.getElem?_eq_some_iff.1 hdef).1
      have hdef2 := ((Foot.cell V ⟨br, 0, none⟩ (.int .i64 (-1))).block D hDl (fun e => by have : D = br := e; omega)).trans hdef
      have HQ := Lib.hid (And.intro h2 (And.intro hdef2 hh))
      clear hI hi0 hsq hdef h2 hdef2 hh
      gi_wp2
      go_wp2
      refine ⟨by simp, .inl ⟨_, _, rfl, run_takeDeferred HQ.out.2.1, ?_⟩⟩
      have h3 := fun o => HP.out.1 _ D _ _ (by omega) (by omega) HQ.out.1 (foot_putG _ D o)
      exact ⟨_, results_c rfl rfl (load_int (h3 _).gr), (h3 _).did hWs (by rw [HQ.out.2.2])⟩
end Go.Proofs.Ytoajgaljccaccaa.Ce
end
/- The program's Holder of nil. Conditions: none. -/
section
namespace Go.Proofs.Ytoajgaljccaccaa.Ce
set_option linter.unusedSimpArgs false
set_option linter.unusedVariables false
set_option maxRecDepth 100000
attribute [local go_sem] Oper.semAt_some
open Go.ChangeShapes Go.WideShapes Go.ChangeAt Go.RowKit Go.Maps Go.Shelf

theorem holders_nil (n : Nat) (hn : 2 ≤ n) (w : World) : SeqRel (fun X Y => Below X.heap.size X Y) (fun _ => True) Fence.wide n Try.prog 37 #[.pointer none] (fun _ => #[.int .i64 0, .int .i64 0]) 0 w := by
  intro l J Jx W hW hl hsz hJ hskip hY h0
  have k1 := missing_nil W
  clear hskip hY
  refine callsIn_of_wp Try.func37 rfl trivial ?_ rfl
  simp only [Try.ntmps37, List.size_toArray, List.length_cons, List.length_nil, Nat.reduceAdd, Nat.reduceSub, Array.replicate_succ, Array.replicate_zero, List.push_toArray, List.append_toArray, List.nil_append, List.cons_append]
  gi_wp2_with (first
    | (refine ⟨trivial, fun _ => by omega, ?_⟩; gi_at_call 52; refine (callsIn_wide.2 (k1)).mono ?_; rintro e w2 ⟨rfl, hw⟩; rw [hw]; clear hw w2))
  refine bodyPost_ret (results_none rfl _ _ _) rfl ?_
  exact ⟨⟨_, rfl⟩, .inl h0⟩
/-- the result's box -/
structure HN (W w : World) (br : Nat) (x : Int) (V : World) : Prop where
  b : Below W.heap.size W V
  sz : w.heap.size ≤ V.heap.size
  gr : Held V br 3 #[.int .i64 x]
theorem HN.below {W w X Y : World} {br : Nat} {x : Int} (h : HN W w br x X) (hb : Below X.heap.size X Y) : HN W w br x Y :=
  ⟨h.b.trans (hb.mono h.b.size), Nat.le_trans h.sz hb.size, h.gr.below hb h.gr.lt⟩
theorem HN.foot {W w X Y : World} {br : Nat} {x : Int} (h : HN W w br x X) (hW : W.heap.size ≤ w.heap.size) (hr : br < w.heap.size) {b : Nat} (hb : w.heap.size ≤ b) (hf : Foot (· = b) X Y) : HN W w br x Y :=
  ⟨h.b.trans (hf.below h.b.size (fun j (hj : j = b) => by omega)), Nat.le_trans h.sz hf.size, h.gr.foot hf (fun e => by have : br = b := e; omega)⟩
theorem HN.put {W w X : World} {br : Nat} {x : Int} (h : HN W w br x X) (hr : W.heap.size ≤ br) (y : Int) : HN W w br y (X.setCell ⟨br, 0, none⟩ (.int .i64 y)) := by
  have hf : Foot (· = br) X (X.setCell ⟨br, 0, none⟩ (.int .i64 y)) := Foot.cell X ⟨br, 0, none⟩ _
  exact ⟨h.b.trans (hf.below h.b.size (fun j (hj : j = br) => by omega)), Nat.le_trans h.sz hf.size, h.gr.set 0 _⟩
set_option maxHeartbeats 4000000 in
theorem holderON (W : World) (i : Int) : Calls Try.prog 16 #[.pointer none, .int .i64 i] W fun e w' => e = .returned (.int .i64 (-1)) ∧ Below W.heap.size W w' := by
  have HS := Lib.hid (fun w => holders_nil 5 (by omega) w)
  have H := Mem.start W
  refine (callsIn_wide (n := 6)).1 ?_
  refine callsIn_of_wp_marks Try.func16 rfl trivial ?_ rfl
  simp only [Try.ntmps16, List.size_toArray, List.length_cons, List.length_nil, Nat.reduceAdd, Nat.reduceSub, Array.replicate_succ, Array.replicate_zero, List.push_toArray, List.append_toArray, List.nil_append, List.cons_append]
  refine wpIn_wide.2 ?_
  go_upto_region 1 with (first | ((with_reducible show wpList _ _ _ _ _ (World.alloc _ (.cells _ _))); refine mem_newb (l := []) H ?_; intro bi w3 hbk H2; try rw [← hbk]; clear hbk H; have H := H2; clear H2; simp only [List.cons_append, List.nil_append, List.set_cons_zero, List.set_cons_succ, List.setIfInBounds_toArray] at H) | ((with_reducible show wpList _ _ _ _ _ (World.alloc _ (.cells _ _))); refine mem_newb (l := [_]) H ?_; intro br w3 hbk H2; try rw [← hbk]; clear hbk H; have H := H2; clear H2; simp only [List.cons_append, List.nil_append, List.set_cons_zero, List.set_cons_succ, List.setIfInBounds_toArray] at H))
  refine wp_scope_straight ?_
  go_wp2_with fail
  refine wp_label ?_
  go_wp2_with fail
  have g2 := H.at 1 rfl
  have l2 := g2.lt
  have hge2 : W.heap.size ≤ br := (H.held _ (List.mem_of_getElem? (i := 1) rfl)).1
  have hWs := H.below.size
  have hi0 : HN W w3 br 0 w3 := ⟨H.below, Nat.le_refl _, g2⟩
  have hsq := Lib.hid (HS.out w3)
  clear H g2 HS
  refine (wpIn_wide (n := 6)).1 ?_
  refine wpIn_rangeRel (n := 6) (F := Fence.wide) rfl (by omega) (gf := 37) (ra := #[.pointer none]) rfl trivial (enters_of Try.func37 (by kernel_rfl) rfl)
    hsq.out (fun _ => rfl) (B := fun _ => False) (fun X Y r => Foot.of_below r) (fun j hj => hj.elim) (fun X Y hb => hb)
    (fun k V => HN W w3 br 0 V)
    (fun c k V => False)
    (fun k X Y h r => h.below r)
    (fun k X Y h hf => h.foot hWs l2 (by omega) hf)
    (fun c k X Y h hf => h.elim)
    (fun k V hk ha h => h)
    hi0
    (fun k => { tmps := #[], defers := [] })
    ?assign ?body ?done ?stop
  case assign =>
    intro l x V K hx hK
    omega
  case body =>
    rintro l k V hk ha hsz2 hI
    omega
  case done =>
    rintro D V hD hI hdef
    have c2 : V.cell? ⟨br, 0, none⟩ = some (.int .i64 0) := hI.gr.cell 0
    have z2 : V.frozen? ⟨br, 0, none⟩ = false := hI.gr.frozen 0
    have h2 := hI.put hge2 (-1)
    have hDl : D < V.heap.size := (Array.getElem?_eq_some_iff.1 hdef).1
    have hdef2 := ((Foot.cell V ⟨br, 0, none⟩ (.int .i64 (-1))).block D hDl (fun e => by have : D = br := e; omega)).trans hdef
    have HQ := Lib.hid (And.intro h2 hdef2)
    clear hI hi0 hsq hdef h2 hdef2
    go_wp2
    refine ⟨by simp, .inl ⟨_, _, rfl, run_takeDeferred HQ.out.2, ?_⟩⟩
    have h3 := fun o => HQ.out.1.foot hWs l2 (b := D) (by omega) (foot_putG _ D o)
    exact ⟨_, results_c rfl rfl (load_int (h3 _).gr), rfl, (h3 _).b⟩
  case stop => exact fun _ _ _ _ _ _ h => h.elim
theorem pcells : PCells PAt11 where
  pt := PAt11.pt
  ok := fun ⟨_, _, _, _, _, _, h⟩ => h.fits
  new_no := fun n m k _ _ _ h W => newP_no n m k h W
  new_yes := fun n m k h W => newP_yes n m k h W
  load := fun W own p s N i hi hN h => loadOP W own p s N i hi hN h
  store := fun W own p s N i a hi ha hN h => storeOP W own p s N i a hi ha hN h
  add := fun W own p s N i a hi ha hN h => addOP W own p s N i a hi ha hN h
  swap := fun W own p s N i a b hi ha hb hN h => swapOP W own p s N i a b hi ha hb hN h
  lock := fun W own p s N i a hi ha hN h => lockOP W own p s N i a hi ha hN h
  unlock := fun W own p s N i a hi ha hN h => unlockOP W own p s N i a hi ha hN h
  holder := fun W own p s N i hi hN h => holderOP W own p s N i hi hN h
  change := fun W own p s N i hi hN h => changeOP W own p s N i hi hN h
  settle := fun W own p s N i hi hN h => settleOP W own p s N i hi hN h
  begin := fun W own p s N i hi hN h => beginOP W own p s N i hi hN h
  fin := fun W own p s N i a hi ha hN h => finOP W own p s N i a hi ha hN h
  nload := loadON
  nstore := storeON
  nadd := addON
  nswap := swapON
  nlock := lockON
  nunlock := unlockON
  nholder := holderON
  nchange := changeON
  nsettle := settleON
  nbegin := beginON
  nfin := finON
end Go.Proofs.Ytoajgaljccaccaa.Ce
end
