/-
  The contract of wheel's Turn. Conditions: those that each theorem names.
-/
import Derived.Test.YtbnfjppidmiheaaWheelW
import Derived.Stop.RegionWithIn
namespace Go.Proofs.Ytbnfjppidmiheaa
set_option linter.unusedSimpArgs false
set_option linter.unusedVariables false
open Go.ChangeShapes Go.WideShapes Go.ChangeAt Go.RowKit Go.Maps Go.Shelf
attribute [local go_sem] Oper.semAt_some

theorem ptrInfo : (Try.prog.info? 25).map (·.size) = some 1 := by kernel_rfl
/-- one step of two results behind a loop -/
theorem results_tmps {fn : Func} {p q : Tmp} (h : fn.results = #[.tmp p, .tmp q]) (tmps : Array Value) (P : Program) (w : World) : (results fn tmps).run P w = .ok (.tuple #[tmps.getD p undef, tmps.getD q undef]) w := by
  simp [results, h, Sem.run_bind, Result.andThen]
/-- between two rounds of Turn: the wheel without those that have come, all of them due -/
structure TI (W : World) (p m bw : Nat) (l : List Tm) (now : Int) (k : Nat) (X : World) : Prop where
  box : Held X bw 25 #[.pointer (some ⟨p, 0, none⟩)]
  wh : WhP X p m ⟨l.drop k, now⟩
  due : ∀ j t, j < k → l[j]? = some t → t.1 ≤ now
  foot : Foot (PM p m) W X
theorem TI.keep {W : World} {p m bw D : Nat} {l : List Tm} {now : Int} {k : Nat} {X Y : World} {B : Nat → Prop} (h : TI W p m bw l now k X) (hf : Foot B X Y) (hB : ∀ b, b < D → ¬ B b) (hW : W.heap.size ≤ D) (hp : p < D) (hm : m < D) (hb : bw < D) : TI W p m bw l now k Y :=
  ⟨h.box.foot hf (hB _ hb), h.wh.foot hf (hB _ hp) (hB _ hm), h.due, h.foot.trans hf fun i hi e => absurd e (hB i (by omega))⟩
theorem wo_drop {s : WS} (hok : s.Ok) {k : Nat} {t : Tm} (h : s.l[k]? = some t) : Tm.wo (s.l.drop k) t.2 = s.l.drop (k + 1) := by
  rw [drop_one h]
  have hn : ∀ x, x ∈ s.l.drop (k + 1) → x.2 ≠ t.2 := fun x hx e => by
    have hx' := List.mem_of_mem_drop hx
    have ht := List.mem_of_getElem? h
    have exx := hok.keys x hx' t ht e
    subst exx
    have hs : Tm.Srt (s.l.drop k) := List.Pairwise.sublist (List.drop_sublist _ _) hok.srt
    rw [drop_one h] at hs
    have := (List.pairwise_cons.1 hs).1 x hx
    rw [Tm.bef_irrefl] at this
    cases this
  unfold Tm.wo
  rw [List.filter_cons_of_neg (by simp), List.filter_eq_self.2 (fun x hx => by simpa using hn x hx)]
theorem ok_drop {s : WS} (hok : s.Ok) (k : Nat) {now : Int} (hn : 0 ≤ now ∧ now ≤ 18446744073709551615) : WS.Ok ⟨s.l.drop k, now⟩ :=
  ⟨List.Pairwise.sublist (List.drop_sublist _ _) hok.srt, fun a ha b hb => hok.keys a (List.mem_of_mem_drop ha) b (List.mem_of_mem_drop hb), by have := hok.len; show (s.l.drop k).length ≤ 1000; rw [List.length_drop]; omega, fun t ht => hok.ats t (List.mem_of_mem_drop ht), hn⟩
theorem turn_adv {W w3 w2 : World} {p m bw : Nat} {s : WS} {now : Int} (h : WhP W p m s) (H : Mem W w3 [(bw, 25, #[.pointer (some ⟨p, 0, none⟩)])]) (hw2 : w2 = w3.setCell ⟨p, 0, none⟩ (.int .u64 now)) (lp : p < W.heap.size) (lm : m < W.heap.size) :
    WhP w2 p m ⟨s.l, now⟩ ∧ Foot (PM p m) W w2 ∧ Held w2 bw 25 #[.pointer (some ⟨p, 0, none⟩)] ∧ W.heap.size ≤ bw := by
  have h3 := h.call H.below
  have hb := (H.held _ (List.mem_of_getElem? (i := 0) rfl)).1
  simp only at hb
  subst hw2
  refine ⟨⟨h3.box.set 0 _, ?_, h.rng⟩, (Foot.of_below H.below).setCell (p := ⟨p, 0, none⟩) (fun _ => .inl rfl) _, (H.at 0 rfl).other (by omega) _ _, hb⟩
  obtain ⟨D, h4, h5⟩ := h3.map
  exact ⟨D, h4.setCell (fun e => h3.ne e.symm) _, h5⟩
set_option maxRecDepth 100000 in
set_option maxHeartbeats 2000000 in
theorem turn_no (W : World) (p m : Nat) (s : WS) (h : WhP W p m s) (now : Int) (hn : now < s.clk ∨ 9223372036854775807 < now) : Calls Try.prog 16 #[.pointer (some ⟨p, 0, none⟩), .int .u64 now] W fun e w' =>
    e = .returned (.tuple #[.slice none 0 0, .int .i64 50]) ∧ Below W.heap.size W w' := by
  have H := Mem.start W
  refine (callsIn_wide (n := 6)).1 ?_
  refine callsIn_of_wp_marks Try.func16 rfl trivial ?_ rfl
  simp only [Try.ntmps16, List.size_toArray, List.length_cons, List.length_nil, Nat.reduceAdd, Nat.reduceSub, Array.replicate_succ, Array.replicate_zero, List.push_toArray, List.append_toArray, List.nil_append, List.cons_append]
  refine wpIn_wide.2 ?_
  go_upto_region 1 with ((with_reducible show wpList _ _ _ _ _ (World.alloc _ (.cells _ _))); refine mem_newb (l := []) H ?_; intro bw w3 hbk H2; try rw [← hbk]; clear hbk H; have H := H2; clear H2; simp only [List.cons_append, List.nil_append, List.set_cons_zero, List.set_cons_succ, List.setIfInBounds_toArray] at H)
  refine wp_scope_straight ?_
  go_wp2_with (first
    | go_skip
    | ((with_reducible show wpList _ _ _ (⟨_, .load 25 _, _, _, _, _⟩ :: _) _ _); refine mem_loadf (i := 0) H (by exact wanted_none rfl) (by exact rfl) (by exact rfl) (by exact rfl) Try.underlying25 rfl (by exact rfl) ?_)
    | (go_at_call 23; refine (missing_no _ p m s (h.call H.below)).mono ?_; rintro e w2 ⟨rfl, rfl⟩)
    | (go_at_call 26; refine (advance_no _ p now s.clk ((h.call H.below).box.cell 0) hn).mono ?_; rintro e w2 ⟨rfl, rfl⟩))
  exact ⟨_, results_tmps rfl _ _ _, rfl, H.below⟩
set_option maxRecDepth 100000 in
set_option maxHeartbeats 2000000 in
theorem turn_yes (W : World) (p m : Nat) (s : WS) (h : WhP W p m s) (hok : s.Ok) (now : Int) (hn1 : s.clk ≤ now) (hn2 : now ≤ 9223372036854775807) : Calls Try.prog 16 #[.pointer (some ⟨p, 0, none⟩), .int .u64 now] W fun e w' =>
    ∃ v, e = .returned (.tuple #[v, .int .i64 0]) ∧ w'.ownsRow W.heap.size 41 2 v (Tm.due s.l now).length (tmCs (Tm.due s.l now)) ∧ WhP w' p m ⟨Tm.later s.l now, now⟩ ∧ Foot (PM p m) W w' := by
  have H := Mem.start W
  obtain ⟨i0, hi, hz0, hz1, hz2⟩ := infoTm_parts
  have lp := h.lt
  have lm := h.ltm
  have hck := hok.clk
  refine (callsIn_wide (n := 6)).1 ?_
  refine callsIn_of_wp_marks Try.func16 rfl trivial ?_ rfl
  simp only [Try.ntmps16, List.size_toArray, List.length_cons, List.length_nil, Nat.reduceAdd, Nat.reduceSub, Array.replicate_succ, Array.replicate_zero, List.push_toArray, List.append_toArray, List.nil_append, List.cons_append]
  refine wpIn_wide.2 ?_
  go_upto_region 1 with ((with_reducible show wpList _ _ _ _ _ (World.alloc _ (.cells _ _))); refine mem_newb (l := []) H ?_; intro bw w3 hbk H2; try rw [← hbk]; clear hbk H; have H := H2; clear H2; simp only [List.cons_append, List.nil_append, List.set_cons_zero, List.set_cons_succ, List.setIfInBounds_toArray] at H)
  refine wp_scope_straight ?_
  go_wp2_with (first
    | go_skip
    | ((with_reducible show wpList _ _ _ (⟨_, .load 25 _, _, _, _, _⟩ :: _) _ _); refine mem_loadf (i := 0) H (by exact wanted_none rfl) (by exact rfl) (by exact rfl) (by exact rfl) Try.underlying25 rfl (by exact rfl) ?_)
    | (go_at_call 23; refine (missing_no _ p m s (h.call H.below)).mono ?_; rintro e w2 ⟨rfl, rfl⟩)
    | (go_at_call 26; refine (advance_yes _ p now s.clk ((h.call H.below).box.cell 0) ((h.call H.below).box.frozen 0) hn1 hn2).mono ?_; rintro e w2 ⟨rfl, hw2⟩; have hA := turn_adv h H hw2 lp lm; clear hw2 H; obtain ⟨hA1, hA2, hA3, hA5⟩ := hA; have H := Mem.start w2; have hA4 := hA3.cell 0))
  clear H
  have H := (Mem.start w2).alloc 28 #[.slice none 0 0]
  obtain ⟨w4, hw4e⟩ : ∃ x, w2.alloc (.cells #[.slice none 0 0] 28) = x := ⟨_, rfl⟩
  obtain ⟨bd, hbde⟩ : ∃ x, w2.heap.size = x := ⟨_, rfl⟩
  rw [hw4e, hbde] at H ⊢
  simp only [List.nil_append] at H
  clear hw4e
  refine wp_label ?_
  go_wp2_with ((with_reducible show wpList _ _ _ (⟨_, .load 25 _, _, _, _, _⟩ :: _) _ _); refine load_fld (j := 0) (hA3.below H.below hA3.lt) (by exact wanted_none rfl) (by exact rfl) (by exact rfl) Try.underlying25 rfl (by exact rfl) ?_)
  have hw4 : WhP w4 p m ⟨s.l, now⟩ := hA1.call H.below
  have hbd := (H.at 0 rfl).lt
  have hbd' := (H.held _ (List.mem_of_getElem? (i := 0) rfl)).1
  simp only at hbd'
  have hl := hok.len
  have hs2 := hA2.size
  have hs4 := H.below.size
  have hbw := hA3.lt
  have hok' : WS.Ok ⟨s.l, now⟩ := by
    have := ok_drop hok 0 (now := now) (by omega)
    rwa [List.drop_zero] at this
  have hTI : TI W p m bw s.l now 0 w4 := ⟨hA3.below H.below hbw, by rw [List.drop_zero]; exact hw4, (fun j t hj => by omega), hA2.then_below H.below⟩
  refine (wpIn_wide (n := 6)).1 ?_
  refine wpIn_rangeOwn (n := 6) (F := Fence.wide) rfl (by omega) (gf := 27) (ra := #[.pointer (some ⟨p, 0, none⟩)]) rfl trivial (enters_of Try.func27 (by kernel_rfl) rfl)
    (inOrder_own 5 (by omega) p m ⟨s.l, now⟩ w4 hw4 hok') (fun _ => rfl)
    (fun g k X => Acc W w4.heap.size bd g k s.l X ∧ TI W p m bw s.l now k X) (fun c k X => c = .exit 0 ∧ ¬ (kth s.l k).1 ≤ now ∧ TI W p m bw s.l now k X ∧ ∃ v, Held X bd 28 #[v] ∧ X.ownsRow (w4.heap.size + 2) 41 2 v k (tmCs (s.l.take k)))
    (fun g b k X Y h hb hf => ⟨h.1.foot hb hf, h.2.keep (D := w4.heap.size) hf (fun i hi e => by have := h.1.gD; rcases hb with rfl | rfl <;> omega) (by omega) (by omega) (by omega) (by omega)⟩)
    (fun c k X Y h hf => ⟨h.1, h.2.1, by
      obtain ⟨v, hv1, hv2⟩ := h.2.2.2
      rcases hf with hf | hf
      · refine ⟨h.2.2.1.keep (D := w4.heap.size) hf (fun i hi e => by omega) (by omega) (by omega) (by omega) (by omega), v, hv1.foot hf (by omega), hv2.kept (foot_grownBy hf) ?_⟩
        rcases hv : v.ownBlock with _ | r
        · exact .inl rfl
        · refine .inr fun e => ?_
          cases e
          have := (hv2.lt _ hv).1
          omega
      · refine ⟨h.2.2.1.keep (B := fun _ => False) (D := w4.heap.size) (Foot.of_below hf) (fun i hi e => e) (by omega) (by omega) (by omega) (by omega), v, hv1.below hf hv1.lt, hv2.kept (row := none) ⟨hf.os, hf.tape, hf.output, hf.size, fun j hj _ => hf.block j hj⟩ ?_⟩
        rcases hv : v.ownBlock with _ | r
        · exact .inl rfl
        · exact .inr (by simp)⟩)
    (fun g k X h => h.1.gl)
    (fun g X hg1 hg2 hb => ⟨⟨hg2, hg1, hbd, .slice none 0 0, (H.at 0 rfl).below hb hbd, World.ownsRow_nil _ _ _ _, (fun _ h => by cases h)⟩, hTI.keep (B := fun _ => False) (D := w4.heap.size) (Foot.of_below hb) (fun i hi e => e) (by omega) (by omega) (by omega) (by omega)⟩)
    (fun k y => { tmps := #[.pointer (some ⟨p, 0, none⟩), .int .u64 now, .pointer (some ⟨bw, 0, none⟩), undef, .slice none 0 0, .int .i64 0, .pointer (some ⟨bd, 0, none⟩), .pointer (some ⟨y, 0, none⟩), .pointer (some ⟨p, 0, none⟩), .bool false, .pointer (some ⟨p, 0, none⟩), .pointer (some ⟨p, 0, none⟩), .pointer (some ⟨p, 0, none⟩), .int .u64 now, .bool true, .bool false, .pointer (some ⟨p, 0, none⟩), .func (.func 27) #[.pointer (some ⟨p, 0, none⟩)] #[], tm (kth s.l k), undef, undef, undef, undef, undef, undef, undef, undef, undef, undef, undef, undef, undef, undef, undef, undef, undef, undef], defers := [] })
    (BoxT w4.heap.size s.l) (fun k y X Y h hf => h.foot hf) ?assign ?body ?done ?stop
  case assign =>
    intro l x V K hx hsz hK
    gi_wp2
    exact hK _ _ ⟨hsz, Held.new V _ _⟩ ((Below.refl _ _).alloc (Nat.le_refl _) _)
  case body =>
    rintro l g k y V hk hg ⟨hy1, hy2⟩ ⟨⟨gl, gD, lt, v, hv1, hv2, hv3⟩, ⟨hb1, hb2, hb3, hb4⟩⟩
    have htk := take_kth hk
    have hkt := kth_get hk
    generalize hkt0 : kth s.l k = t at *
    have y0 := hy2.cell 0
    have y1 := hy2.cell 1
    have cw := hb1.cell 0
    have c0 := hb2.box.cell 0
    have c1 := hb2.box.cell 1
    simp only [List.getElem?_toArray, List.getElem?_cons_zero, List.getElem?_cons_succ] at y0 y1 cw c0 c1
    have hre := fun (w : World) (c : w.cell? ⟨p, 0, none⟩ = some (.int .u64 now)) => reached_p w p t.1 now c
    by_cases hle : t.1 ≤ now
    · have e1 : decide (t.1 ≤ now) = true := decide_eq_true hle
      rw [e1] at hre
      obtain ⟨a0, c9, rfl⟩ := ownsRow_len hv2
      obtain ⟨D0, hown, hD0⟩ := hb2.map
      have hkey := keyOf_int_mk Try.underlying3 (hb2.rng t (by show t ∈ s.l.drop k; rw [drop_one hkt]; exact List.mem_cons_self ..))
      have hdel := hD0.del (s := ⟨s.l.drop k, now⟩) (ok_drop hok k (by omega)) (hown.tidy law) t.2
      have hsz : w4.heap.size + 2 ≤ V.heap.size := by omega
      have lpV := hb2.lt
      have lmV := hb2.ltm
      have hpm := hb2.ne
      have HV := Lib.hid (And.intro hv1 (And.intro hv2 (And.intro hv3 (And.intro htk (And.intro hkt (And.intro hb1 (And.intro hb2 (And.intro hb3 (And.intro hb4 (And.intro hdel hy2))))))))))
      clear hv1 hv2 hv3 htk hkt hb1 hb2 hb3 hb4 hdel hD0 hy2
      gi_wp2_with fail
      refine wpIn_mono (Q := fun e a w => e = .normal ∧ a = ({ tmps := #[.pointer (some ⟨p, 0, none⟩), .int .u64 now, .pointer (some ⟨bw, 0, none⟩), undef, .slice none 0 0, .int .i64 0, .pointer (some ⟨bd, 0, none⟩), .pointer (some ⟨y, 0, none⟩), .pointer (some ⟨p, 0, none⟩), .bool false, .pointer (some ⟨p, 0, none⟩), .pointer (some ⟨p, 0, none⟩), .pointer (some ⟨p, 0, none⟩), .int .u64 now, .bool true, .bool false, .pointer (some ⟨p, 0, none⟩), .func (.func 27) #[.pointer (some ⟨p, 0, none⟩)] #[], tm t, .pointer (some ⟨p, 0, none⟩), .pointer (some ⟨p, 0, none⟩), .pointer (some ⟨p, 0, none⟩), .pointer (some ⟨y, 0, none⟩), .int .u64 t.1, .bool true, .bool false, undef, undef, undef, undef, undef, undef, undef, undef, undef, undef, undef], defers := [] } : Act) ∧ w = V.drew) ?_ ?_
      · gi_region_with (refine ⟨trivial, ?_⟩; gi_at_call 28; refine (CallsIn.inRound l (callsIn_wide.2 (hre _ (by exact c0)))).mono ?_; rintro e V1 ⟨rfl, rfl⟩)
        all_goals exact ⟨rfl, rfl, rfl⟩
      rintro e a w ⟨rfl, rfl, rfl⟩
      gi_wp2_with fail
      obtain ⟨w9, hrun, hown9, hturn9⟩ := World.ownsMap.drop (w := V.drew.drew) hown law Try.underlying55 hkey 0
      have hg9 : V.grownBy w9 (some m) := ⟨hturn9.grown.os, hturn9.grown.tape, hturn9.grown.output, hturn9.grown.size, hturn9.grown.block⟩
      clear hturn9
      refine wpIn_mono (Q := fun e a w => e = .normal ∧ a = ({ tmps := #[.pointer (some ⟨p, 0, none⟩), .int .u64 now, .pointer (some ⟨bw, 0, none⟩), undef, .slice none 0 0, .int .i64 0, .pointer (some ⟨bd, 0, none⟩), .pointer (some ⟨y, 0, none⟩), .pointer (some ⟨p, 0, none⟩), .bool false, .pointer (some ⟨p, 0, none⟩), .pointer (some ⟨p, 0, none⟩), .pointer (some ⟨p, 0, none⟩), .int .u64 now, .bool true, .bool false, .pointer (some ⟨p, 0, none⟩), .func (.func 27) #[.pointer (some ⟨p, 0, none⟩)] #[], tm t, .pointer (some ⟨p, 0, none⟩), .pointer (some ⟨p, 0, none⟩), .pointer (some ⟨p, 0, none⟩), .pointer (some ⟨y, 0, none⟩), .int .u64 t.1, .bool true, .bool false, .pointer (some ⟨p, 0, none⟩), .pointer (some ⟨p, 0, none⟩), .pointer (some ⟨p, 1, none⟩), .map (some m), .pointer (some ⟨y, 1, none⟩), .int .i64 t.2, undef, undef, undef, undef, undef], defers := [] } : Act) ∧ w = w9) ?_ ?_
      · gi_region
        all_goals exact ⟨rfl, rfl, rfl⟩
      rintro e a w ⟨rfl, rfl, rfl⟩
      clear hrun hre c0 c1 cw y0 y1
      obtain ⟨hv1, hv2, hv3, htk, hkt, hb1, hb2, hb3, hb4, hdel, hy2⟩ := HV.out
      have g1 : Held w bd 28 #[.slice a0 k c9] := (hg9.block bd hv1.lt (fun e => by cases e; omega)).trans hv1
      have g2 : Held w y 41 #[.int .u64 t.1, .int .i64 t.2] := (hg9.block y hy2.lt (fun e => by cases e; omega)).trans hy2
      have g3 : w.ownsRow (w4.heap.size + 2) 41 2 (.slice a0 k c9) k (tmCs (s.l.take k)) := hv2.kept hg9 (by
        rcases hv : (Value.slice a0 k c9).ownBlock with _ | r
        · exact .inl rfl
        · refine .inr fun e => ?_
          cases e
          have := (hv2.lt _ hv).1
          omega)
      have g4 : WhP w p m ⟨s.l.drop (k + 1), now⟩ := ⟨(hg9.block p lpV (fun e => hpm (by cases e; rfl))).trans hb2.box, ⟨_, hown9, by
        have := wo_drop hok hkt
        rw [← this]
        exact hdel⟩, fun x hx => hb2.rng x (by show x ∈ s.l.drop k; rw [drop_one hkt]; exact List.mem_cons_of_mem _ hx)⟩
      have g5 : Held w bw 25 #[.pointer (some ⟨p, 0, none⟩)] := (hg9.block bw hb1.lt (fun e => by cases e; omega)).trans hb1
      have g6 : w.heap[g]? = V.heap[g]? := hg9.block g gl (fun e => by cases e; omega)
      have g7 : ∀ j t', j < k + 1 → s.l[j]? = some t' → t'.1 ≤ now := fun j t' hj hjt => by
        by_cases ejk : j = k
        · subst ejk
          rw [hkt] at hjt
          cases hjt
          exact hle
        · exact hb3 j t' (by omega) hjt
      have gl9 : g < w.heap.size := Nat.lt_of_lt_of_le gl hg9.size
      have g8 : Foot (PM p m) W w := hb4.grown hg9 (fun j ej _ => by cases ej; exact .inr rfl)
      have g9 : KeepsFrom w4.heap.size V w := KeepsFrom.of_grownBy hg9 (fun j ej => by cases ej; omega)
      have d0 := g1.cell 0
      have y0 := g2.cell 0
      have y1 := g2.cell 1
      simp only [List.getElem?_toArray, List.getElem?_cons_zero, List.getElem?_cons_succ] at d0 y0 y1
      have hgr := fun (o : Obj) (w8 : World) (hg : (w.alloc o).grownBy w8 (Value.slice a0 k c9).ownBlock) => held_grown lt g1 g3 hg
      have HG := Lib.hid (And.intro g1 (And.intro hv3 (And.intro htk (And.intro g4 (And.intro g5 (And.intro g6 (And.intro g7 (And.intro g8 g9))))))))
      clear hv1 hv2 hv3 htk hkt hb1 hb2 hb3 hb4 hdel hy2 g1 g2 g4 g5 g6 g7 g8 g9 HV hown hown9
      gi_wp2_with (gi_at_builtin; refine wpListIn_append_own_at _ rfl _ _ 28 rfl (w4.heap.size + 2) 41 i0 _ 2 16 Try.underlying28 hi hz0 hz1 hz2 rfl (by decide) _ _ _ rfl (g3.alloc _) ⟨w.heap.size, 0, none⟩ 1 1 (tmC t) rfl rfl (fun j u hu => by rw [addr_add]; exact ((Held.new w 41 #[.int .u64 t.1, .int .i64 t.2]).cell j).trans (by simpa [tmC] using hu)) (fun u hu => tmCs_one [t] u (by simpa [tmCs] using hu)) (by simp [maxLen]; omega) (by omega) (by simp; omega) ?_; intro v' w8 hown' hgrow hnil hloc; obtain ⟨a1, c2, rfl⟩ := ownsRow_len hown'; have hv8 := hgr _ _ hgrow; have d8 := hv8.cell 0; have f8 := hv8.frozen 0; simp only [List.getElem?_toArray, List.getElem?_cons_zero] at d8)
      obtain ⟨g1, hv3, htk, g4, g5, g6, g7, g8, g9⟩ := HG.out
      obtain ⟨q1, q2, q3, q4⟩ := acc_step (W := W) gl9 gD lt g1 g3 hv3 htk hgrow hown' hloc
      exact ⟨g9.trans q1, q2.trans g6, q3, ⟨g5.foot q4 (by omega), g4.foot q4 (by omega) (by omega), g7, g8.trans q4 (fun i hi e => by rcases e with rfl | e <;> omega)⟩⟩
    · have e1 : decide (t.1 ≤ now) = false := decide_eq_false hle
      rw [e1] at hre
      have HV := Lib.hid (And.intro hv1 (And.intro hv2 (And.intro (TI.mk hb1 hb2 hb3 hb4 : TI W p m bw s.l now k V) hle)))
      clear hv1 hv2 hv3 hb1 hb2 hb3 hb4 hy2 htk hkt
      gi_wp2_with fail
      refine wpIn_mono (Q := fun e a w => e = .normal ∧ a = ({ tmps := #[.pointer (some ⟨p, 0, none⟩), .int .u64 now, .pointer (some ⟨bw, 0, none⟩), undef, .slice none 0 0, .int .i64 0, .pointer (some ⟨bd, 0, none⟩), .pointer (some ⟨y, 0, none⟩), .pointer (some ⟨p, 0, none⟩), .bool false, .pointer (some ⟨p, 0, none⟩), .pointer (some ⟨p, 0, none⟩), .pointer (some ⟨p, 0, none⟩), .int .u64 now, .bool true, .bool false, .pointer (some ⟨p, 0, none⟩), .func (.func 27) #[.pointer (some ⟨p, 0, none⟩)] #[], tm t, .pointer (some ⟨p, 0, none⟩), .pointer (some ⟨p, 0, none⟩), .pointer (some ⟨p, 0, none⟩), .pointer (some ⟨y, 0, none⟩), .int .u64 t.1, .bool false, .bool true, undef, undef, undef, undef, undef, undef, undef, undef, undef, undef, undef], defers := [] } : Act) ∧ w = V.drew) ?_ ?_
      · gi_region_with (refine ⟨trivial, ?_⟩; gi_at_call 28; refine (CallsIn.inRound l (callsIn_wide.2 (hre _ (by exact c0)))).mono ?_; rintro e V1 ⟨rfl, rfl⟩)
        all_goals exact ⟨rfl, rfl, rfl⟩
      rintro e a w ⟨rfl, rfl, rfl⟩
      gi_wp2
      refine ⟨keepsFrom_below ((Below.refl _ V).drew), rfl, by rw [hkt0]; omega, HV.out.2.2.1.keep (B := fun _ => False) (D := w4.heap.size) ((Foot.refl _ V).drew) (fun i hi e => e) (by omega) (by omega) (by omega) (by omega), _, HV.out.1, HV.out.2.1⟩
  case done =>
    intro D V hD hor hdef
    obtain ⟨v, hv1, hv2, hT⟩ : ∃ v, Held V bd 28 #[v] ∧ V.ownsRow (w4.heap.size + 2) 41 2 v s.l.length (tmCs (s.l.take s.l.length)) ∧ TI W p m bw s.l now s.l.length V := by
      rcases hor with ⟨hN, hb⟩ | ⟨g, ⟨_, _, _, v, h1, h2, _⟩, hT⟩
      · have hN' : s.l.length = 0 := hN
        refine ⟨.slice none 0 0, (H.at 0 rfl).below hb hbd, ?_, ?_⟩
        · rw [hN', List.take_zero]
          exact World.ownsRow_nil _ _ _ _
        · rw [hN']
          exact hTI.keep (B := fun _ => False) (D := w4.heap.size) (Foot.of_below hb) (fun i hi e => e) (by omega) (by omega) (by omega) (by omega)
      · exact ⟨v, h1, h2, hT⟩
    obtain ⟨q1, q2⟩ := due_take hT.due (fun t ht => by rw [List.getElem?_eq_none (Nat.le_refl _)] at ht; cases ht)
    obtain ⟨a0, c0, rfl⟩ := ownsRow_len hv2
    have d0 := hv1.cell 0
    simp only [List.getElem?_toArray, List.getElem?_cons_zero] at d0
    have HH := Lib.hid (And.intro hv2 (And.intro hT (And.intro q1 q2)))
    clear H hv1 hv2 hT q1 q2 hor hTI hA1 hA2 hA3 hA4
    go_wp2
    obtain ⟨hv2, hT, q1, q2⟩ := HH.out
    refine ⟨by simp, .inl ⟨_, _, rfl, run_takeDeferred hdef, ?_⟩⟩
    exact ⟨_, results_tmps rfl _ _ _, _, rfl, by rw [q1]; exact row_put (row_base (by rw [List.length_take, Nat.min_self]; exact hv2) (by omega)) hdef rfl, by rw [q2]; exact hT.wh.foot (foot_put V D _) (by omega) (by omega), hT.foot.trans (foot_put V D _) (fun i hi e => by omega)⟩
  case stop =>
    rintro D c k V hD hk ⟨rfl, hgt, hT, v, hv1, hv2⟩ hdef
    have hk' : k < s.l.length := hk
    obtain ⟨q1, q2⟩ := due_take hT.due (fun t ht => by rw [kth_get hk'] at ht; cases ht; exact hgt)
    obtain ⟨a0, c0, rfl⟩ := ownsRow_len hv2
    have d0 := hv1.cell 0
    simp only [List.getElem?_toArray, List.getElem?_cons_zero] at d0
    have HH := Lib.hid (And.intro hv2 (And.intro hT (And.intro q1 q2)))
    clear H hv1 hv2 hT q1 q2 hTI hA1 hA2 hA3 hA4
    gi_wp2
    go_wp2
    obtain ⟨hv2, hT, q1, q2⟩ := HH.out
    refine ⟨by simp, .inl ⟨_, _, rfl, run_takeDeferred hdef, ?_⟩⟩
    exact ⟨_, results_tmps rfl _ _ _, _, rfl, by rw [q1]; exact row_put (row_base (by rw [List.length_take, Nat.min_eq_left (by omega)]; exact hv2) (by omega)) hdef rfl, by rw [q2]; exact hT.wh.foot (foot_put V D _) (by omega) (by omega), hT.foot.trans (foot_put V D _) (fun i hi e => by omega)⟩
set_option maxRecDepth 100000 in
set_option maxHeartbeats 2000000 in
theorem turn_nil (W : World) (now : Int) : Calls Try.prog 16 #[.pointer none, .int .u64 now] W fun e w' =>
    e = .returned (.tuple #[.slice none 0 0, .int .i64 1]) ∧ Below W.heap.size W w' := by
  have H := Mem.start W
  refine (callsIn_wide (n := 6)).1 ?_
  refine callsIn_of_wp_marks Try.func16 rfl trivial ?_ rfl
  simp only [Try.ntmps16, List.size_toArray, List.length_cons, List.length_nil, Nat.reduceAdd, Nat.reduceSub, Array.replicate_succ, Array.replicate_zero, List.push_toArray, List.append_toArray, List.nil_append, List.cons_append]
  refine wpIn_wide.2 ?_
  go_upto_region 1 with ((with_reducible show wpList _ _ _ _ _ (World.alloc _ (.cells _ _))); refine mem_newb (l := []) H ?_; intro bw w3 hbk H2; try rw [← hbk]; clear hbk H; have H := H2; clear H2; simp only [List.cons_append, List.nil_append, List.set_cons_zero, List.set_cons_succ, List.setIfInBounds_toArray] at H)
  refine wp_scope_straight ?_
  go_wp2_with (first
    | go_skip
    | ((with_reducible show wpList _ _ _ (⟨_, .load 25 _, _, _, _, _⟩ :: _) _ _); refine mem_loadf (i := 0) H (by exact wanted_none rfl) (by exact rfl) (by exact rfl) (by exact rfl) Try.underlying25 rfl (by exact rfl) ?_)
    | (go_at_call 23; refine (missing_yes _).mono ?_; rintro e w2 ⟨rfl, rfl⟩))
  exact ⟨_, results_tmps rfl _ _ _, rfl, H.below⟩
/-- Turn, in all -/
theorem turn_p (W : World) (p m : Nat) (s : WS) (h : WhP W p m s) (hok : s.Ok) (now : Int) (hn : 0 ≤ now) : Calls Try.prog 16 #[.pointer (some ⟨p, 0, none⟩), .int .u64 now] W fun e w' =>
    ∃ v, e = .returned (.tuple #[v, .int .i64 (s.turnE now)]) ∧ w'.ownsRow W.heap.size 41 2 v (s.turned now).length (tmCs (s.turned now)) ∧ WhP w' p m (s.turn now) ∧ Foot (PM p m) W w' := by
  by_cases he : s.turnE now = 0
  · obtain ⟨h1, h2⟩ := WS.turnE_0 he
    have e1 : s.turn now = ⟨Tm.later s.l now, now⟩ := if_pos he
    have e2 : s.turned now = Tm.due s.l now := if_pos he
    rw [e1, e2, he]
    exact turn_yes W p m s h hok now h1 h2
  · have e1 : s.turn now = s := if_neg he
    have e2 : s.turned now = [] := if_neg he
    have hb : now < s.clk ∨ 9223372036854775807 < now := by
      unfold WS.turnE at he
      split at he
      · rename_i hh
        exact hh
      · exact absurd rfl he
    have e3 : s.turnE now = 50 := if_pos hb
    rw [e1, e2, e3]
    refine (turn_no W p m s h now hb).mono ?_
    rintro e w' ⟨rfl, hB⟩
    exact ⟨_, rfl, World.ownsRow_nil _ _ _ _, h.call hB, Foot.of_below hB⟩
end Go.Proofs.Ytbnfjppidmiheaa
