/-
  The program's owners. Conditions: the table lies where its value says, its spans are within its queues.
-/
import Derived.Test.YtaoaapbbadipfaaMGj
/- The program's owners. Conditions: the table lies where its value says, its spans are within its queues. -/
section
namespace Go.Proofs.Ytaoaapbbadipfaa
set_option linter.unusedSimpArgs false
set_option linter.unusedVariables false
set_option maxRecDepth 100000
open Go.ChangeShapes Go.WideShapes Go.ChangeAt Go.RowKit Go.Shelf
attribute [local go_sem] Oper.semAt_some

theorem infoInt1 : (Try.prog.info? 3).map (·.size) = some 1 := by kernel_rfl
theorem infoBool : (Try.prog.info? 4).map (·.size) = some 1 := by kernel_rfl
theorem infoBy (f : Nat → Int) : (Try.prog.info? 118).map (·.size) = some (byV f).size := by
  rw [byV_size]
  kernel_rfl
theorem keepsFrom_below {B : Nat} {W W' : World} (h : Below W.heap.size W W') : KeepsFrom B W W' := ⟨h.size, fun k o _ hk _ => (h.block k (Array.getElem?_eq_some_iff.1 hk).1).trans hk⟩
theorem keepsFrom_foot {B b : Nat} {W W' : World} (h : Foot (· = b) W W') (hb : b < B) : KeepsFrom B W W' := ⟨h.size, fun k o hB hk _ => (h.block k (Array.getElem?_eq_some_iff.1 hk).1 (by omega)).trans hk⟩
/-- a span that may be, as natural numbers -/
theorem spK_nat {t : TB} (hs : t.sp.all (spanOk t.q) = true) {k : Nat} (hk : k < t.sp.length) : ∃ o c : Nat, spK t.sp k = ((o : Int), (c : Int)) ∧ (o : Int) + c ≤ t.q := by
  have h := List.all_eq_true.1 hs _ (List.mem_of_getElem? (spK_get hk))
  simp only [spanOk, Bool.and_eq_true, decide_eq_true_eq] at h
  obtain ⟨o, ho⟩ := Int.eq_ofNat_of_zero_le (show 0 ≤ (spK t.sp k).1 by omega)
  obtain ⟨c, hc⟩ := Int.eq_ofNat_of_zero_le (show 0 ≤ (spK t.sp k).2 by omega)
  exact ⟨o, c, by rw [← ho, ← hc], by omega⟩
/-- an array and a truth are returned out of their boxes -/
theorem ret_by {fn : Func} {p u : Tmp} (h : fn.results = #[.cell p 118, .cell u 4]) {tmps : Array Value} {w : World} {b b' : Nat} {f : Nat → Int} {v : Bool} (g : Held w b 118 (byV f)) (g' : Held w b' 4 #[.bool v])
    (hp : tmps.getD p undef = .pointer (some ⟨b, 0, none⟩)) (hp' : tmps.getD u undef = .pointer (some ⟨b', 0, none⟩)) : (results fn tmps).run Try.prog w = .ok (.tuple #[.agg (byV f), .bool v]) w := by
  have hc : w.cell? ⟨b', 0, none⟩ = some (.bool v) := g'.cell 0
  have hagg : (isAgg 4).run Try.prog w = .ok false w := by
    unfold isAgg
    rw [Sem.run_bind, run_underlying Try.underlying4 w]
    rfl
  have h1 : (loadVar 4 ⟨b', 0, none⟩).run Try.prog w = .ok (.bool v) w := by
    simp only [loadVar, Sem.run_bind, hagg, Result.andThen_ok]
    simp [go_sem, hc]
  have h2 := run_loadVar_row w b 118 118 (byV f) (0, 0) _ g Try.underlying118 rfl (infoBy f)
  have hp1 : tmps[p]?.getD undef = .pointer (some ⟨b, 0, none⟩) := by simpa using hp
  have hp2 : tmps[u]?.getD undef = .pointer (some ⟨b', 0, none⟩) := by simpa using hp'
  simp [results, h, hp1, hp2, asAddr, Sem.run_bind, h1, h2]
section
variable {F : Fence} {n : Nat} {P : Program} {ops : Array Oper} {o : Oper} {a : Act} {w0 w : World} {Q : Exit → Act → World → Prop} {l : List (Nat × TypeId × Array Value)} {t : TypeId} {cs : Array Value}
/-- a region that draws its order, whose boxes lie as they lay all along, and a block beside them -/
theorem region_memD {id D : Nat} {ob : Obj} (H : Mem w0 w l) (hD : w.heap[D]? = some ob) (m : Nat) (hsz : ops.size = m) (hm : P.follows .mixedOrders = true)
    (h : ∀ w2, (Mem w0 w2 l ∧ w2.heap[D]? = some ob) → wpAnyG Fence.wide 6 P .any ops Q (fun wx => Mem w0 wx l ∧ wx.heap[D]? = some ob) m m (Array.replicate m false) a w2) : (Code.region id ops true).wp P Q a w :=
  (wpIn_wide (n := 6)).1 (wpIn_region_G (fun wx => Mem w0 wx l ∧ wx.heap[D]? = some ob) m m hsz hm fun _ => h w.drew ⟨H.drew, hD⟩)
theorem wpIn_store_memF {b i : Nat} {ty : TypeId} {vs : Array Value} {x y : Operand} {K : Act → World → Prop} (H : Mem w0 w l) (ho : o.op = .store ty x y) (hx : opnd a x = some (.pointer (some ⟨b, 0, none⟩))) (hm : l[i]? = some (b, t, cs)) (hy : opnd a y = some (.agg vs))
    (hi : (P.info? ty).map (·.size) = some vs.size) (hs : cs.size = vs.size) (h1' : vs.toList.all (·.oneCell') = true)
    (h : ∀ w', Mem w0 w' (l.set i (b, t, vs)) → Foot (· = b) w w' → K (a.put o.dst undef) w') : o.wpIn F n P a w K Q := by
  have g := H.at i hm
  refine ⟨by simp [Oper.about, ho], ?_⟩
  rw [Oper.semAt_plain F _ _ (by rw [ho]; intro c hc'; cases hc')]
  have h0 : o.wp P a w (fun a' w' => K a' w' ∧ a' = a.put o.dst undef) Q := wp_store_row ty x y ho b vs (opnd_eval hx) (opnd_eval hy) t cs g hi hs (by rw [← Array.all_toList]; exact h1') ⟨h _ (H.set i hm (Foot.setRow w b vs) (g.setRow vs)) (Foot.setRow w b vs), rfl⟩
  unfold Oper.wp at h0
  unfold execOp at h0 ⊢
  simp only [ho, opnd_eval hx, opnd_eval hy, Instr.storeAt, Instr.sureAddr, Sem.run_bind, Sem.run_pure, Result.andThen_ok] at h0 ⊢
  rcases hr : (storeVar ty ⟨b, 0, none⟩ (.agg vs)).run P w with ⟨_, w'⟩ | ⟨hlt, w'⟩
  · rw [hr] at h0
    exact h0.1
  · rw [hr] at h0
    cases hlt <;> first | exact h0 | exact h0.elim
end
/-- two boxes are two -/
theorem mem_ne {w0 W : World} {l : List (Nat × TypeId × Array Value)} (h : Mem w0 W l) {i j : Nat} (hij : i < j) {b b' : Nat} {t t' : TypeId} {cs cs' : Array Value} (hi : l[i]? = some (b, t, cs)) (hj : l[j]? = some (b', t', cs'))  : b ≠ b' := by
  have hp := h.inc
  obtain ⟨hi1, hi2⟩ := List.getElem?_eq_some_iff.1 hi
  obtain ⟨hj1, hj2⟩ := List.getElem?_eq_some_iff.1 hj
  have := List.pairwise_iff_getElem.1 hp i j hi1 hj1 hij
  rw [hi2, hj2] at this
  exact this
/-- the loop's own box -/
def BoxS (D : Nat) (t : TB) (k y : Nat) (X : World) : Prop := D + 2 ≤ y ∧ Held X y 59 #[.int .i64 (spK t.sp k).1, .int .i64 (spK t.sp k).2]
/-- between two rounds -/
def OI (w : World) (D bt by' ap bx : Nat) (A1 A2 : Option Addr) (c1 c2 : Nat) (t : TB) (k : Nat) (V : World) : Prop :=
  D ≤ V.heap.size ∧ Apart (t.sp.take k) ∧ Mem w V [(bt, 32, tbC A1 A2 c1 c2 t), (by', 118, byV (ownK t.sp k)), (ap, 4, #[.bool true]), (bx, 32, tbC A1 A2 c1 c2 t)]
/-- a round has left -/
def OX (w : World) (D bt by' ap bx : Nat) (A1 A2 : Option Addr) (c1 c2 : Nat) (t : TB) (c : Code) (k : Nat) (V : World) : Prop :=
  c = .exit 2 ∧ ∃ (f : Nat → Int) (q : Nat), (q : Int) < t.q ∧ onceB t.sp q = false ∧ Mem w V [(bt, 32, tbC A1 A2 c1 c2 t), (by', 118, byV f), (ap, 4, #[.bool false]), (bx, 32, tbC A1 A2 c1 c2 t)]
/-- what owners gives -/
def GivesBy (w : World) (t : TB) (e : Ending) (w' : World) : Prop := ∃ f v, e = .returned (.tuple #[.agg (byV f), .bool v]) ∧ OwnsAll t.sp t.q.toNat f v ∧ Below w.heap.size w w'
set_option maxRecDepth 100000 in
set_option maxHeartbeats 4000000 in
theorem owners_p (A1 A2 : Option Addr) (c1 c2 : Nat) (t : TB) (w : World) (ht : TbAt w.heap.size w A1 A2 c1 c2 t) (hq : 1 ≤ t.q ∧ t.q ≤ 64) (hs : t.sp.all (spanOk t.q) = true) :
    Calls Try.prog 69 #[.agg (tbC A1 A2 c1 c2 t)] w (GivesBy w t) := by
  have H := Mem.start w
  have T := Lib.hid ht
  have HS := Lib.hid hs
  clear ht hs
  refine (callsIn_wide (n := 6)).1 ?_
  refine callsIn_of_wp_marks Try.func69 rfl trivial ?_ rfl
  simp only [Try.ntmps69, List.size_toArray, List.length_cons, List.length_nil, Nat.reduceAdd, Nat.reduceSub, Array.replicate_succ, Array.replicate_zero, List.push_toArray, List.append_toArray, List.nil_append, List.cons_append]
  refine wpIn_wide.2 ?_
  go_wp2_with (first
    | ((with_reducible show wpList _ _ _ _ _ (World.alloc _ (.cells _ _))); refine mem_newb (l := []) H ?_; intro bt w3 hbk H2; try rw [← hbk]; clear hbk H; have H := H2; clear H2; simp only [List.cons_append, List.nil_append, List.set_cons_zero, List.set_cons_succ, List.setIfInBounds_toArray] at H)
    | ((with_reducible show wpList _ _ _ _ _ (World.alloc _ (.cells _ _))); refine mem_newb (l := [_]) H ?_; intro by' w3 hbk H2; try rw [← hbk]; clear hbk H; have H := H2; clear H2; simp only [List.cons_append, List.nil_append, List.set_cons_zero, List.set_cons_succ, List.setIfInBounds_toArray] at H)
    | ((with_reducible show wpList _ _ _ _ _ (World.alloc _ (.cells _ _))); refine mem_newb (l := [_, _]) H ?_; intro ap w3 hbk H2; try rw [← hbk]; clear hbk H; have H := H2; clear H2; simp only [List.cons_append, List.nil_append, List.set_cons_zero, List.set_cons_succ, List.setIfInBounds_toArray] at H))
  have H2 := H.alloc 4 #[.bool false]
  clear H
  generalize hbk : w3.heap.size = ap at H2 ⊢
  clear hbk
  generalize w3.alloc (.cells #[.bool false] 4) = w4 at H2 ⊢
  have H := H2
  clear H2
  simp only [List.cons_append, List.nil_append] at H
  refine wp_scope_straight ?_
  go_wp2_with fail
  have e0 : byV (fun q => if q < 0 then (-1 : Int) else 0) = #[Value.int .i64 0, Value.int .i64 0, Value.int .i64 0, Value.int .i64 0, Value.int .i64 0, Value.int .i64 0, Value.int .i64 0, Value.int .i64 0, Value.int .i64 0, Value.int .i64 0, Value.int .i64 0, Value.int .i64 0, Value.int .i64 0, Value.int .i64 0, Value.int .i64 0, Value.int .i64 0, Value.int .i64 0, Value.int .i64 0, Value.int .i64 0, Value.int .i64 0, Value.int .i64 0, Value.int .i64 0, Value.int .i64 0, Value.int .i64 0, Value.int .i64 0, Value.int .i64 0, Value.int .i64 0, Value.int .i64 0, Value.int .i64 0, Value.int .i64 0, Value.int .i64 0, Value.int .i64 0, Value.int .i64 0, Value.int .i64 0, Value.int .i64 0, Value.int .i64 0, Value.int .i64 0, Value.int .i64 0, Value.int .i64 0, Value.int .i64 0, Value.int .i64 0, Value.int .i64 0, Value.int .i64 0, Value.int .i64 0, Value.int .i64 0, Value.int .i64 0, Value.int .i64 0, Value.int .i64 0, Value.int .i64 0, Value.int .i64 0, Value.int .i64 0, Value.int .i64 0, Value.int .i64 0, Value.int .i64 0, Value.int .i64 0, Value.int .i64 0, Value.int .i64 0, Value.int .i64 0, Value.int .i64 0, Value.int .i64 0, Value.int .i64 0, Value.int .i64 0, Value.int .i64 0, Value.int .i64 0] := by rfl
  rw [← e0] at H
  clear e0
  go_loopw [8] (fun v wr => ∃ k : Nat, k ≤ 64 ∧ v = .int .i64 k ∧ Mem w wr [(bt, 32, tbC A1 A2 c1 c2 t), (by', 118, byV (fun q => if q < k then (-1 : Int) else 0)), (ap, 4, #[.bool false])]) (fun v _ => 64 - (intOf v).toNat)
  case atStart => exact ⟨0, Nat.zero_le _, rfl, H⟩
  case round =>
    clear H
    obtain ⟨k, hk, rfl, H⟩ := hrel
    by_cases hlt : k < 64
    · go_wp2_with (first
        | ((with_reducible show wpList _ _ _ (⟨_, .store 3 _ _, _, _, _, _⟩ :: _) _ _); refine mem_storef (i := 1) H (by first | exact wanted_none rfl | exact wanted_some rfl rfl rfl rfl) (by exact rfl) (by exact rfl) (by exact rfl) (by exact rfl) infoInt1 (decide_eq_true (by rw [byV_size]; omega)) (by exact rfl) ?_; intro w2 H2; clear H; have H := H2; clear H2; simp only [List.cons_append, List.nil_append, List.set_cons_zero, List.set_cons_succ, List.setIfInBounds_toArray, byV_set] at H))
      go_roundw
      case rel =>
        refine ⟨k + 1, by omega, by go_num, ?_⟩
        have e : byV (fun q => if q = k then (-1 : Int) else if q < k then -1 else 0) = byV (fun q => if q < k + 1 then -1 else 0) := byV_congr fun q _ => by
          by_cases h1 : q = k
          · rw [if_pos h1, if_pos (by omega)]
          · by_cases h2 : q < k
            · rw [if_neg h1, if_pos h2, if_pos (by omega)]
            · rw [if_neg h1, if_neg h2, if_neg (by omega)]
        rwa [← e]
      case measure => simp [intOf]; omega
    · obtain rfl : k = 64 := by omega
      have e : byV (fun q => if q < 64 then (-1 : Int) else 0) = byV (ownK t.sp 0) := byV_congr fun q hq => by rw [if_pos hq, ownK_zero]
      rw [e] at H
      clear e
      go_upto_region 7 with (first
        | ((with_reducible show wpList _ _ _ (⟨_, .store 4 _ _, _, _, _, _⟩ :: _) _ _); refine mem_storef (i := 2) H (by first | exact wanted_none rfl | exact wanted_some rfl rfl rfl rfl) (by exact rfl) (by exact rfl) (by exact rfl) (by exact rfl) infoBool (by exact rfl) (by exact rfl) ?_; intro w2 H2; clear H; have H := H2; clear H2; simp only [List.cons_append, List.nil_append, List.set_cons_zero, List.set_cons_succ, List.setIfInBounds_toArray, byV_set] at H))
      refine wp_label ?_
      go_wp2_with (first
        | go_skip
        | ((with_reducible show wpList _ _ _ (⟨_, .load 32 _, _, _, _, _⟩ :: _) _ _); refine mem_load (i := 0) H (by first | exact wanted_none rfl | exact wanted_some rfl rfl rfl rfl) (by exact rfl) (by exact rfl) (by exact rfl) Try.underlying32 rfl (by exact tbInfo) ?_)
        | (go_at_call 76; (refine (spans_p A1 A2 c1 c2 t _).mono ?_; rintro e w2 ⟨bx, rfl, hm⟩; have H2 := H.join hm; clear H hm; have H := H2; clear H2; simp only [List.cons_append, List.nil_append] at H)))
      have hbt := (H.at 0 rfl).lt
      have hby := (H.at 1 rfl).lt
      have hap := (H.at 2 rfl).lt
      have hbx := (H.at 3 rfl).lt
      have hsz := H.below.size
      have hlt0 := (H.held _ (List.mem_of_getElem? (i := 0) rfl)).1
      have hlt1 := (H.held _ (List.mem_of_getElem? (i := 1) rfl)).1
      have hlt2 := (H.held _ (List.mem_of_getElem? (i := 2) rfl)).1
      have hne1 := mem_ne H (i := 1) (j := 3) (by omega) rfl rfl
      have hne2 := mem_ne H (i := 2) (j := 3) (by omega) rfl rfl
      have gt2 : TbAt w.heap.size w2 A1 A2 c1 c2 t := T.out.below H.below
      have hfar : ∀ (X Y : World) (f : Nat → Int) (v : Bool), Mem w X [(bt, 32, tbC A1 A2 c1 c2 t), (by', 118, byV f), (ap, 4, #[.bool v]), (bx, 32, tbC A1 A2 c1 c2 t)] → Below w2.heap.size X Y → Mem w Y [(bt, 32, tbC A1 A2 c1 c2 t), (by', 118, byV f), (ap, 4, #[.bool v]), (bx, 32, tbC A1 A2 c1 c2 t)] := fun X Y f v h hb => h.far hb hsz fun z hz => by
        simp only [List.mem_cons, List.not_mem_nil, or_false] at hz
        rcases hz with rfl | rfl | rfl | rfl
        · exact hbt
        · exact hby
        · exact hap
        · exact hbx
      refine (wpIn_wide (n := 6)).1 ?_
      refine wpIn_rangeNum (n := 6) (F := Fence.wide) rfl (by omega) (gf := 82) (lb := #[.pointer (some ⟨bx, 0, none⟩)]) rfl trivial (enters_of Try.func82 (by kernel_rfl) rfl)
        (spans1_num 5 (by omega) bx w.heap.size A1 A2 c1 c2 t w2 hsz (H.at 3 rfl) gt2) (fun _ => rfl) (fun h k => h.trans k) (fun X Y _ hb => KeepsOn.below hb hsz hbx)
        (OI w w2.heap.size bt by' ap bx A1 A2 c1 c2 t) (OX w w2.heap.size bt by' ap bx A1 A2 c1 c2 t)
        (fun k X Y h hb => ⟨Nat.le_trans h.1 hb.size, h.2.1, hfar X Y _ _ h.2.2 hb⟩) (fun c k X Y ⟨hc, f, q, h1, h2, h3⟩ hb => ⟨hc, f, q, h1, h2, hfar X Y _ _ h3 hb⟩)
        ⟨Nat.le_refl _, (fun q i j s s' hij hi => by simp at hi), H⟩
        (fun k y => { tmps := #[.agg (tbC A1 A2 c1 c2 t), .pointer (some ⟨bt, 0, none⟩), .pointer (some ⟨by', 0, none⟩), .pointer (some ⟨ap, 0, none⟩), u4, .int .i64 (k : Int), .pointer (some ⟨y, 0, none⟩), undef, .int .i64 (64 : Nat), .bool false, u10, u11, u12, u13, .agg (tbC A1 A2 c1 c2 t), .func (.func 82) #[] #[.pointer (some ⟨bx, 0, none⟩)], .int .i64 (k : Int), .agg #[.int .i64 (spK t.sp k).1, .int .i64 (spK t.sp k).2],
          undef, undef, undef, undef, undef, undef, undef, undef, undef, undef, undef, undef, undef, undef, undef, undef, undef, undef, undef, undef], defers := [] })
        (BoxS w2.heap.size t) (fun k y X Y h hf => ⟨h.1, h.2.foot hf (by have := h.1; omega)⟩) ?assign ?body ?done ?stop
      case assign =>
        intro l x V K hx hsz hK
        gi_wp2
        exact hK _ _ ⟨hsz, Held.new V _ _⟩ ((Below.refl _ _).alloc (Nat.le_refl _) _)
      case body =>
        rintro l k y V hk hsz2 ⟨hy1, hy2⟩ ⟨hV, hAp, K⟩
        obtain ⟨o, c, hsc, hle⟩ := spK_nat HS.out hk
        have ho : (spK t.sp k).1 = (o : Int) := by rw [hsc]
        have hc : (spK t.sp k).2 = (c : Int) := by rw [hsc]
        simp only [ho, hc] at hy2 ⊢
        have y0 := hy2.cell 0
        simp only [List.getElem?_toArray, List.getElem?_cons_zero] at y0
        have KK : Mem w V [(bt, 32, tbC A1 A2 c1 c2 t), (by', 118, byV (ownX t.sp k o)), (ap, 4, #[.bool true]), (bx, 32, tbC A1 A2 c1 c2 t)] := by
          rw [ownX_zero ho]
          exact K
        have X := Lib.hid (And.intro hy2 (And.intro KK (And.intro hAp (And.intro hk (And.intro hsc (And.intro ho hc))))))
        clear H gt2 hfar hy2 KK K hAp hsc ho hc hk
        gi_wp2
        gi_loopw [7] (fun v wr => ∃ x : Nat, o ≤ x ∧ x ≤ o + c ∧ v = .int .i64 x ∧ Hid (∀ q : Nat, o ≤ q → q < x → ownK t.sp k q = -1) ∧ Held wr y 59 #[.int .i64 (o : Int), .int .i64 (c : Int)] ∧ Foot (· = by') V wr ∧ Mem w wr [(bt, 32, tbC A1 A2 c1 c2 t), (by', 118, byV (ownX t.sp k x)), (ap, 4, #[.bool true]), (bx, 32, tbC A1 A2 c1 c2 t)]) (fun v _ => o + c - (intOf v).toNat)
        case atStart => exact ⟨o, Nat.le_refl _, by omega, rfl, Lib.hid fun q h1 h2 => by omega, X.out.1, Foot.refl _ _, X.out.2.1⟩
        case round =>
          clear y0
          obtain ⟨x, hx1, hx2, rfl, hn, hy, hF, K⟩ := hrel
          have y0 := hy.cell 0
          have y1 := hy.cell 1
          simp only [List.getElem?_toArray, List.getElem?_cons_zero, List.getElem?_cons_succ] at y0 y1
          by_cases hlt : x < o + c
          · obtain ⟨d, hd⟩ : ∃ d, ownK t.sp k x = d := ⟨_, rfl⟩
            have hb : (byV (ownX t.sp k x)).toList[x]? = some (.int .i64 d) := by rw [byV_at _ (by omega), ownX_at, hd]
            by_cases hd1 : d = -1
            · subst hd1
              have Y := Lib.hid (And.intro hd (And.intro hF hy))
              clear hd hF hy
              gi_wp2_with (first
              | ((with_reducible show wpListIn _ _ _ _ _ (⟨_, .load 3 (.tmp 30), _, _, _, _⟩ :: _) _ _); refine mem_loadfI (i := 1) K (by first | exact wanted_none rfl | exact wanted_some rfl rfl rfl rfl) (by exact rfl) (by exact rfl) (by exact rfl) Try.underlying3 rfl (by exact hb) ?_)
              | ((with_reducible show wpListIn _ _ _ _ _ (⟨_, .store 3 _ _, _, _, _, _⟩ :: _) _ _); refine mem_storefI (i := 1) K (by first | exact wanted_none rfl | exact wanted_some rfl rfl rfl rfl) (by exact rfl) (by exact rfl) (by exact rfl) (by exact rfl) infoInt1 (decide_eq_true (by rw [byV_size]; omega)) (by exact rfl) ?_; intro V2 K2 F2; clear K; have K := K2; clear K2; simp only [List.cons_append, List.nil_append, List.set_cons_zero, List.set_cons_succ, List.setIfInBounds_toArray, byV_set] at K))
              rw [ownX_next X.out.2.2.2.2.2.1 hx1] at K
              have hy3 := Y.out.2.2.foot F2 (by omega)
              have hF3 := Y.out.2.1.trans' F2
              go_roundw
              case rel =>
                refine ⟨x + 1, by omega, by omega, by go_num, Lib.hid fun q h1 h2 => ?_, hy3, hF3, K⟩
                by_cases e : q = x
                · rw [e]
                  exact Y.out.1
                · exact hn.out q h1 (by omega)
              case measure => simp [intOf]; omega
            · have hneq : ownK t.sp k x ≠ -1 := by rw [hd]; exact hd1
              have t1 : (d == -1) = false := by simpa using hd1
              have hin : inB x (spK t.sp k) = true := by
                rw [X.out.2.2.2.2.1]
                simp only [inB, Bool.and_eq_true, decide_eq_true_eq]
                omega
              have Y := Lib.hid (And.intro (twice X.out.2.2.2.1 hin hneq) (And.intro hF hy))
              clear hd hF hy hneq hin hd1
              gi_wp2_with (first
              | ((with_reducible show wpListIn _ _ _ _ _ (⟨_, .load 3 (.tmp 30), _, _, _, _⟩ :: _) _ _); refine mem_loadfI (i := 1) K (by first | exact wanted_none rfl | exact wanted_some rfl rfl rfl rfl) (by exact rfl) (by exact rfl) (by exact rfl) Try.underlying3 rfl (by exact hb) ?_)
              | ((with_reducible show wpListIn _ _ _ _ _ (⟨_, .store 4 _ _, _, _, _, _⟩ :: _) _ _); refine mem_storefI (i := 2) K (by first | exact wanted_none rfl | exact wanted_some rfl rfl rfl rfl) (by exact rfl) (by exact rfl) (by exact rfl) (by exact rfl) infoBool (by exact rfl) (by exact rfl) ?_; intro V2 K2 F2; clear K; have K := K2; clear K2; simp only [List.cons_append, List.nil_append, List.set_cons_zero, List.set_cons_succ, List.setIfInBounds_toArray, byV_set] at K))
              exact ⟨(keepsFrom_foot Y.out.2.1 hby).trans (keepsFrom_foot F2 hap), rfl, _, x, by omega, Y.out.1, K⟩
          · obtain rfl : x = o + c := by omega
            have hnn : ∀ q : Nat, inB q (spK t.sp k) = true → ownK t.sp k q = -1 := fun q h => by
              rw [X.out.2.2.2.2.1] at h
              simp only [inB, Bool.and_eq_true, decide_eq_true_eq] at h
              exact hn.out q (by omega) (by omega)
            have e := ownX_all X.out.2.2.2.1 X.out.2.2.2.2.2.1 X.out.2.2.2.2.2.2 hnn
            rw [e] at K
            have hap3 := apart_next X.out.2.2.2.1 X.out.2.2.1 hnn
            have Y := Lib.hid (And.intro hF (And.intro K (And.intro hap3 hy)))
            clear e hnn hF K hap3 hy
            gi_wp2
            exact ⟨keepsFrom_foot Y.out.1 hby, KeepsOn.foot Y.out.1 hlt1 (by omega) (by omega) (by omega), by have := Y.out.1.size; omega, Y.out.2.2.1, Y.out.2.1⟩
      case done =>
        rintro D V hD ⟨_, hAp, K⟩ hK
        have hO : OwnsAll t.sp t.q.toNat (ownK t.sp t.sp.length) true := ownsAll_yes hAp
        generalize ownK t.sp t.sp.length = f at hO K
        obtain ⟨v, hv⟩ : ∃ v, v = true := ⟨_, rfl⟩
        rw [← hv] at hO K
        clear hv
        have HO := Lib.hid hO
        have H := K
        clear K hO
        go_wp2_with fail
        refine (wpIn_wide (n := 6)).1 (wpIn_mono (Q := fun e a w5 => e = .normal ∧ a = ({ tmps := #[.agg (tbC A1 A2 c1 c2 t), .pointer (some ⟨bt, 0, none⟩), .pointer (some ⟨by', 0, none⟩), .pointer (some ⟨ap, 0, none⟩), u4, undef, undef, undef, .int .i64 64, .bool false, u10, u11, u12, u13, .agg (tbC A1 A2 c1 c2 t), .func (.func 82) #[] #[.pointer (some ⟨bx, 0, none⟩)], undef, undef, undef, undef, undef, undef, undef, undef, undef, undef, undef, undef, undef, undef, undef, undef, undef, undef, undef, undef, .agg (byV f), .bool v], defers := [{ target := .collected D, args := #[] }] } : Act) ∧ Mem w w5 [(bt, 32, tbC A1 A2 c1 c2 t), (by', 118, byV f), (ap, 4, #[.bool v]), (bx, 32, tbC A1 A2 c1 c2 t)] ∧ w5.heap[D]? = some (.deferred (some []))) ((wpIn_wide (n := 6)).2 ?_) ?_)
        case refine_2 =>
          rintro e a w8 ⟨rfl, rfl, hS8⟩
          go_wp2_with fail
          refine ⟨by simp, .inl ⟨_, _, rfl, run_takeDeferred hS8.2, ?_⟩⟩
          have hB := hS8.1.below.trans (below_put (l := D) (B := w.heap.size) (by omega) w8 (.deferred none))
          have g1 : Held (w8.putObj D (.deferred none)) by' 118 (byV f) := (World.putObj_heap_other (by omega)).trans (hS8.1.at 1 rfl)
          have g2 : Held (w8.putObj D (.deferred none)) ap 4 #[.bool v] := (World.putObj_heap_other (by omega)).trans (hS8.1.at 2 rfl)
          exact ⟨_, ret_by rfl g1 g2 rfl rfl, f, v, rfl, HO.out, hB⟩
        refine region_memD H hK 4 rfl (by kernel_rfl) (fun wr hS => ?_)
        clear H hK
        refine wpAnyR_take (i := 0) (v := .agg (byV f)) rfl rfl (by kernel_rfl) (by kernel_rfl) (by kernel_rfl) (fun _ _ _ h => by cases h.1) (Nat.le_refl _) (yields_held (fun w h => h.1.at 1 rfl) (by exact rfl) (by exact rfl) (by exact rfl) Try.underlying118 rfl (infoBy f)) hS ?_
        simp only [List.getElem_toArray, List.getElem_cons_zero, List.getElem_cons_succ, Act.put, List.setIfInBounds_toArray, List.set_cons_zero, List.set_cons_succ]
        refine wpAnyR_take (i := 1) (v := .bool v) rfl rfl (by kernel_rfl) (by kernel_rfl) (by kernel_rfl) (fun _ _ _ h => by cases h.1) (Nat.le_refl _) (yields_fld (fun w h => h.1.at 2 rfl) (by exact rfl) (by exact rfl) (by exact rfl) Try.underlying4 rfl (by exact rfl)) hS ?_
        simp only [List.getElem_toArray, List.getElem_cons_zero, List.getElem_cons_succ, Act.put, List.setIfInBounds_toArray, List.set_cons_zero, List.set_cons_succ]
        refine wpAnyG_one (i := 2) (by kernel_rfl) rfl (fun K hK => ?_)
        rw [if_pos (by exact rfl)]
        refine wpIn_store_memF (i := 1) hS.1 (by exact rfl) (by exact rfl) (by exact rfl) (by exact rfl) (infoBy f) rfl (byV_one f) ?_
        intro w7 H7 F7
        simp only [List.set_cons_zero, List.set_cons_succ] at H7
        have hS7 : Mem w w7 [(bt, 32, tbC A1 A2 c1 c2 t), (by', 118, byV f), (ap, 4, #[.bool v]), (bx, 32, tbC A1 A2 c1 c2 t)] ∧ w7.heap[D]? = some (.deferred (some [])) := ⟨H7, (F7.block D (Array.getElem?_eq_some_iff.1 hS.2).1 (by omega)).trans hS.2⟩
        refine hK _ _ (.inr hS7) ?_
        clear hK K hS H7 F7
        simp only [List.getElem_toArray, List.getElem_cons_zero, List.getElem_cons_succ, Act.put, List.setIfInBounds_toArray, List.set_cons_zero, List.set_cons_succ]
        refine wpAnyG_one (i := 3) (by kernel_rfl) rfl (fun K hK => ?_)
        rw [if_pos (by exact rfl)]
        refine wpIn_storef_mem (i := 2) hS7.1 (by exact rfl) (by exact rfl) (by exact rfl) (by exact rfl) infoBool (by exact rfl) (by exact rfl) ?_
        intro w8 H8 F8
        simp only [List.set_cons_zero, List.set_cons_succ, List.setIfInBounds_toArray] at H8
        have hS8 : Mem w w8 [(bt, 32, tbC A1 A2 c1 c2 t), (by', 118, byV f), (ap, 4, #[.bool v]), (bx, 32, tbC A1 A2 c1 c2 t)] ∧ w8.heap[D]? = some (.deferred (some [])) := ⟨H8, (F8.block D (Array.getElem?_eq_some_iff.1 hS7.2).1 (by omega)).trans hS7.2⟩
        refine hK _ _ (.inr hS8) ?_
        clear hK K hS7 H8 F8
        refine wpAnyG_done (by kernel_rfl) ?_ _
        exact ⟨rfl, rfl, hS8⟩
      case stop =>
        rintro D c k V hD hk ⟨rfl, f, q, h1, h2, K⟩ hK
        have hO : OwnsAll t.sp t.q.toNat f false := ownsAll_no (q := q) (by omega) h2
        obtain ⟨v, hv⟩ : ∃ v, v = false := ⟨_, rfl⟩
        rw [← hv] at hO K
        clear hv
        gi_wp2
        have HO := Lib.hid hO
        have H := K
        clear K hO
        go_wp2_with fail
        refine (wpIn_wide (n := 6)).1 (wpIn_mono (Q := fun e a w5 => e = .normal ∧ a = ({ tmps := #[.agg (tbC A1 A2 c1 c2 t), .pointer (some ⟨bt, 0, none⟩), .pointer (some ⟨by', 0, none⟩), .pointer (some ⟨ap, 0, none⟩), u4, undef, undef, undef, .int .i64 64, .bool false, u10, u11, u12, u13, .agg (tbC A1 A2 c1 c2 t), .func (.func 82) #[] #[.pointer (some ⟨bx, 0, none⟩)], undef, undef, undef, undef, undef, undef, undef, undef, undef, undef, undef, undef, undef, undef, undef, undef, undef, undef, undef, undef, .agg (byV f), .bool v], defers := [{ target := .collected D, args := #[] }] } : Act) ∧ Mem w w5 [(bt, 32, tbC A1 A2 c1 c2 t), (by', 118, byV f), (ap, 4, #[.bool v]), (bx, 32, tbC A1 A2 c1 c2 t)] ∧ w5.heap[D]? = some (.deferred (some []))) ((wpIn_wide (n := 6)).2 ?_) ?_)
        case refine_2 =>
          rintro e a w8 ⟨rfl, rfl, hS8⟩
          go_wp2_with fail
          refine ⟨by simp, .inl ⟨_, _, rfl, run_takeDeferred hS8.2, ?_⟩⟩
          have hB := hS8.1.below.trans (below_put (l := D) (B := w.heap.size) (by omega) w8 (.deferred none))
          have g1 : Held (w8.putObj D (.deferred none)) by' 118 (byV f) := (World.putObj_heap_other (by omega)).trans (hS8.1.at 1 rfl)
          have g2 : Held (w8.putObj D (.deferred none)) ap 4 #[.bool v] := (World.putObj_heap_other (by omega)).trans (hS8.1.at 2 rfl)
          exact ⟨_, ret_by rfl g1 g2 rfl rfl, f, v, rfl, HO.out, hB⟩
        refine region_memD H hK 4 rfl (by kernel_rfl) (fun wr hS => ?_)
        clear H hK
        refine wpAnyR_take (i := 0) (v := .agg (byV f)) rfl rfl (by kernel_rfl) (by kernel_rfl) (by kernel_rfl) (fun _ _ _ h => by cases h.1) (Nat.le_refl _) (yields_held (fun w h => h.1.at 1 rfl) (by exact rfl) (by exact rfl) (by exact rfl) Try.underlying118 rfl (infoBy f)) hS ?_
        simp only [List.getElem_toArray, List.getElem_cons_zero, List.getElem_cons_succ, Act.put, List.setIfInBounds_toArray, List.set_cons_zero, List.set_cons_succ]
        refine wpAnyR_take (i := 1) (v := .bool v) rfl rfl (by kernel_rfl) (by kernel_rfl) (by kernel_rfl) (fun _ _ _ h => by cases h.1) (Nat.le_refl _) (yields_fld (fun w h => h.1.at 2 rfl) (by exact rfl) (by exact rfl) (by exact rfl) Try.underlying4 rfl (by exact rfl)) hS ?_
        simp only [List.getElem_toArray, List.getElem_cons_zero, List.getElem_cons_succ, Act.put, List.setIfInBounds_toArray, List.set_cons_zero, List.set_cons_succ]
        refine wpAnyG_one (i := 2) (by kernel_rfl) rfl (fun K hK => ?_)
        rw [if_pos (by exact rfl)]
        refine wpIn_store_memF (i := 1) hS.1 (by exact rfl) (by exact rfl) (by exact rfl) (by exact rfl) (infoBy f) rfl (byV_one f) ?_
        intro w7 H7 F7
        simp only [List.set_cons_zero, List.set_cons_succ] at H7
        have hS7 : Mem w w7 [(bt, 32, tbC A1 A2 c1 c2 t), (by', 118, byV f), (ap, 4, #[.bool v]), (bx, 32, tbC A1 A2 c1 c2 t)] ∧ w7.heap[D]? = some (.deferred (some [])) := ⟨H7, (F7.block D (Array.getElem?_eq_some_iff.1 hS.2).1 (by omega)).trans hS.2⟩
        refine hK _ _ (.inr hS7) ?_
        clear hK K hS H7 F7
        simp only [List.getElem_toArray, List.getElem_cons_zero, List.getElem_cons_succ, Act.put, List.setIfInBounds_toArray, List.set_cons_zero, List.set_cons_succ]
        refine wpAnyG_one (i := 3) (by kernel_rfl) rfl (fun K hK => ?_)
        rw [if_pos (by exact rfl)]
        refine wpIn_storef_mem (i := 2) hS7.1 (by exact rfl) (by exact rfl) (by exact rfl) (by exact rfl) infoBool (by exact rfl) (by exact rfl) ?_
        intro w8 H8 F8
        simp only [List.set_cons_zero, List.set_cons_succ, List.setIfInBounds_toArray] at H8
        have hS8 : Mem w w8 [(bt, 32, tbC A1 A2 c1 c2 t), (by', 118, byV f), (ap, 4, #[.bool v]), (bx, 32, tbC A1 A2 c1 c2 t)] ∧ w8.heap[D]? = some (.deferred (some [])) := ⟨H8, (F8.block D (Array.getElem?_eq_some_iff.1 hS7.2).1 (by omega)).trans hS7.2⟩
        refine hK _ _ (.inr hS8) ?_
        clear hK K hS7 H8 F8
        refine wpAnyG_done (by kernel_rfl) ?_ _
        exact ⟨rfl, rfl, hS8⟩
end Go.Proofs.Ytaoaapbbadipfaa
end
