/-
  The program's New. Conditions: the table lies where its value says. The program's flows: looked up, set; Out and Done. Conditions: the steer lies where its pointer says. The program's Done. Conditions: the steer lies where its pointer says.
-/
import Derived.Test.YtaoaapbbadipfaaMGw
import Derived.Test.YtaoaapbbadipfaaMGt
import Derived.Test.YtaoaapbbadipfaaMGy
/- The program's New. Conditions: the table lies where its value says. -/
section
namespace Go.Proofs.Ytaoaapbbadipfaa
set_option linter.unusedSimpArgs false
set_option linter.unusedVariables false
set_option maxRecDepth 100000
open Go.ChangeShapes Go.WideShapes Go.ChangeAt Go.RowKit Go.Maps

theorem cl_ex (Q : Int) (f : Nat → Int × Int) : clC Q f = #[.int .i64 Q, .int .i64 (f 0).1, .int .i64 (f 0).2, .int .i64 (f 1).1, .int .i64 (f 1).2, .int .i64 (f 2).1, .int .i64 (f 2).2, .int .i64 (f 3).1, .int .i64 (f 3).2, .int .i64 (f 4).1, .int .i64 (f 4).2, .int .i64 (f 5).1, .int .i64 (f 5).2, .int .i64 (f 6).1, .int .i64 (f 6).2, .int .i64 (f 7).1, .int .i64 (f 7).2, .int .i64 (f 8).1, .int .i64 (f 8).2, .int .i64 (f 9).1, .int .i64 (f 9).2, .int .i64 (f 10).1, .int .i64 (f 10).2, .int .i64 (f 11).1, .int .i64 (f 11).2, .int .i64 (f 12).1, .int .i64 (f 12).2, .int .i64 (f 13).1, .int .i64 (f 13).2, .int .i64 (f 14).1, .int .i64 (f 14).2, .int .i64 (f 15).1, .int .i64 (f 15).2] := rfl
theorem ps_ex (Q : Int) (f : Nat → Int × Int) (salt : Int) (m : Nat) : psC Q f salt (fun _ => .slice none 0 0) m = #[.int .i64 Q, .int .i64 (f 0).1, .int .i64 (f 0).2, .int .i64 (f 1).1, .int .i64 (f 1).2, .int .i64 (f 2).1, .int .i64 (f 2).2, .int .i64 (f 3).1, .int .i64 (f 3).2, .int .i64 (f 4).1, .int .i64 (f 4).2, .int .i64 (f 5).1, .int .i64 (f 5).2, .int .i64 (f 6).1, .int .i64 (f 6).2, .int .i64 (f 7).1, .int .i64 (f 7).2, .int .i64 (f 8).1, .int .i64 (f 8).2, .int .i64 (f 9).1, .int .i64 (f 9).2, .int .i64 (f 10).1, .int .i64 (f 10).2, .int .i64 (f 11).1, .int .i64 (f 11).2, .int .i64 (f 12).1, .int .i64 (f 12).2, .int .i64 (f 13).1, .int .i64 (f 13).2, .int .i64 (f 14).1, .int .i64 (f 14).2, .int .i64 (f 15).1, .int .i64 (f 15).2, .int .u32 salt, .slice none 0 0, .slice none 0 0, .slice none 0 0, .slice none 0 0, .slice none 0 0, .slice none 0 0, .slice none 0 0, .slice none 0 0, .slice none 0 0, .slice none 0 0, .slice none 0 0, .slice none 0 0, .slice none 0 0, .slice none 0 0, .slice none 0 0, .slice none 0 0, .slice none 0 0, .slice none 0 0, .slice none 0 0, .slice none 0 0, .slice none 0 0, .slice none 0 0, .slice none 0 0, .slice none 0 0, .slice none 0 0, .slice none 0 0, .slice none 0 0, .slice none 0 0, .slice none 0 0, .slice none 0 0, .slice none 0 0, .slice none 0 0, .slice none 0 0, .slice none 0 0, .slice none 0 0, .slice none 0 0, .slice none 0 0, .slice none 0 0, .slice none 0 0, .slice none 0 0, .slice none 0 0, .slice none 0 0, .slice none 0 0, .slice none 0 0, .slice none 0 0, .slice none 0 0, .slice none 0 0, .slice none 0 0, .slice none 0 0, .slice none 0 0, .slice none 0 0, .slice none 0 0, .slice none 0 0, .slice none 0 0, .slice none 0 0, .slice none 0 0, .slice none 0 0, .slice none 0 0, .slice none 0 0, .slice none 0 0, .slice none 0 0, .slice none 0 0, .slice none 0 0, .slice none 0 0, .map (some m)] := rfl
/-- a new steer -/
theorem QAt.new {W : World} {t : TB} (hr : t.right = true) {salt : Int} (hs : 0 ≤ salt ∧ salt ≤ 4294967295) :
    QAt ((W.alloc (.map #[] 0)).alloc (.cells (psC t.q t.spAt salt (fun _ => .slice none 0 0) W.heap.size) 77)) (fun i => i = W.heap.size ∨ i = W.heap.size + 1) (fun i => i = W.heap.size ∨ i = W.heap.size + 1) (W.heap.size + 1) (SS.new t salt) 0 ⟨W.heap.size, fun _ => .slice none 0 0⟩ := by
  have hM := (World.ownsMap_made W Try.prog 22 fwElem).alloc (.cells (psC t.q t.spAt salt (fun _ => .slice none 0 0) W.heap.size) 77)
  have hB := Held.new (W.alloc (.map #[] 0)) 77 (psC t.q t.spAt salt (fun _ => .slice none 0 0) W.heap.size)
  rw [World.size_alloc] at hB
  refine ⟨hB, ⟨_, hM, MapIs.empty⟩, fun c _ => SlI.nil _ _, (fun n q o h => by cases h), hs, hr, fun c _ => ⟨Nat.zero_le _, (fun q hq => by cases hq)⟩, .inr rfl, .inl rfl, by show W.heap.size + 1 ≠ W.heap.size; omega, fun c _ hn => absurd rfl hn, fun i hi => hi, ?_⟩
  rintro i (hi | hi) <;> rw [hi] <;> simp only [World.size_alloc] <;> omega
/-- where the program's steers lie -/
def PAt9 : PT := fun W rd own p s N => ∃ x, QAt W rd own p s N x
set_option maxHeartbeats 2000000 in
theorem newP_no (A1 A2 : Option Addr) (c1 c2 : Nat) (t : TB) (salt : Int) (W : World) (ht : TbAt W.heap.size W A1 A2 c1 c2 t) (hf : t.cl.length ≤ 20 ∧ t.sp.length ≤ 20) (hr : t.right = false) : Calls Try.prog 12 #[.agg (tbC A1 A2 c1 c2 t), .int .u32 salt] W fun e w' => e = .returned (.tuple #[.pointer none, .int .i64 80]) ∧ Below W.heap.size W w' := by
  have H := Mem.start W
  have T := Lib.hid ht
  have cr := fun w h => classesOf_no A1 A2 c1 c2 t w h hf hr
  rw [cl_zero] at cr
  clear ht hr hf
  go_enter Try.func12, Try.ntmps12
  go_upto_region 1 with (first
    | ((with_reducible show wpList _ _ _ _ _ (World.alloc _ (.cells _ _))); refine mem_newb (l := []) H ?_; intro bt w3 hbk H2; try rw [← hbk]; clear hbk H; have H := H2; clear H2; simp only [List.cons_append, List.nil_append, List.set_cons_zero, List.set_cons_succ, List.setIfInBounds_toArray] at H))
  go_wp2_with (first
    | go_skip
    | ((with_reducible show wpList _ _ _ (⟨_, .load 32 _, _, _, _, _⟩ :: _) _ _); refine mem_load (i := 0) H (by first | exact wanted_none rfl | exact wanted_some rfl rfl rfl rfl) (by exact rfl) (by exact rfl) (by exact rfl) Try.underlying32 rfl (by exact tbInfo) ?_)
    | (go_at_call 28; with_reducible refine (cr _ (T.out.mem H)).mono ?_; rintro e w2 ⟨rfl, hb⟩; have H2 := H.call hb; clear H hb; have H := H2; clear H2)
    | ((with_reducible show wpList _ _ _ _ _ (World.alloc _ (.cells _ _))); refine mem_newb (l := [_]) H ?_; intro bc w3 hbk H2; try rw [← hbk]; clear hbk H; have H := H2; clear H2; simp only [List.cons_append, List.nil_append, List.set_cons_zero, List.set_cons_succ, List.setIfInBounds_toArray] at H)
    | ((with_reducible show wpList _ _ _ (⟨_, .store 71 _ _, _, _, _, _⟩ :: _) _ _); refine mem_store (i := 1) H (by first | exact wanted_none rfl | exact wanted_some rfl rfl rfl rfl) (by exact rfl) (by exact rfl) (by exact rfl) (by exact rfl) (by exact pclInfo) (by exact rfl) (by exact rfl) ?_; intro w2 H2; clear H; have H := H2; clear H2; simp only [List.cons_append, List.nil_append, List.set_cons_zero, List.set_cons_succ, List.setIfInBounds_toArray] at H))
  refine bodyPost_ret (results_two rfl _ _ _) rfl ?_
  exact ⟨rfl, H.below⟩
set_option maxHeartbeats 2000000 in
theorem newP_yes (A1 A2 : Option Addr) (c1 c2 : Nat) (t : TB) (salt : Int) (W : World) (hs : 0 ≤ salt ∧ salt ≤ 4294967295) (ht : TbAt W.heap.size W A1 A2 c1 c2 t) (hr : t.right = true) : Calls Try.prog 12 #[.agg (tbC A1 A2 c1 c2 t), .int .u32 salt] W (NewG PAt9 W A1 A2 t salt) := by
  have H := Mem.start W
  have T := Lib.hid ht
  have cr := fun w h => classesOf_yes A1 A2 c1 c2 t w h hr
  have HN0 := fun w => QAt.new (W := w) hr hs
  obtain ⟨Q, hQ⟩ : ∃ Q, t.q = Q := ⟨_, rfl⟩
  obtain ⟨f, hf⟩ : ∃ f, t.spAt = f := ⟨_, rfl⟩
  rw [hQ, hf] at cr HN0
  rw [cl_ex] at cr
  simp only [ps_ex] at HN0
  have HN := Lib.hid HN0
  clear HN0
  have HT := Lib.hid (tbS_lt ht hr)
  clear ht hr hs hQ hf
  have hmm := @run_makeMap Try.prog
  have hzv : ∀ w, (zeroValue 77).run Try.prog w = .ok (.agg #[.int .i64 0, .int .i64 0, .int .i64 0, .int .i64 0, .int .i64 0, .int .i64 0, .int .i64 0, .int .i64 0, .int .i64 0, .int .i64 0, .int .i64 0, .int .i64 0, .int .i64 0, .int .i64 0, .int .i64 0, .int .i64 0, .int .i64 0, .int .i64 0, .int .i64 0, .int .i64 0, .int .i64 0, .int .i64 0, .int .i64 0, .int .i64 0, .int .i64 0, .int .i64 0, .int .i64 0, .int .i64 0, .int .i64 0, .int .i64 0, .int .i64 0, .int .i64 0, .int .i64 0, .int .u32 0, .slice none 0 0, .slice none 0 0, .slice none 0 0, .slice none 0 0, .slice none 0 0, .slice none 0 0, .slice none 0 0, .slice none 0 0, .slice none 0 0, .slice none 0 0, .slice none 0 0, .slice none 0 0, .slice none 0 0, .slice none 0 0, .slice none 0 0, .slice none 0 0, .slice none 0 0, .slice none 0 0, .slice none 0 0, .slice none 0 0, .slice none 0 0, .slice none 0 0, .slice none 0 0, .slice none 0 0, .slice none 0 0, .slice none 0 0, .slice none 0 0, .slice none 0 0, .slice none 0 0, .slice none 0 0, .slice none 0 0, .slice none 0 0, .slice none 0 0, .slice none 0 0, .slice none 0 0, .slice none 0 0, .slice none 0 0, .slice none 0 0, .slice none 0 0, .slice none 0 0, .slice none 0 0, .slice none 0 0, .slice none 0 0, .slice none 0 0, .slice none 0 0, .slice none 0 0, .slice none 0 0, .slice none 0 0, .slice none 0 0, .slice none 0 0, .slice none 0 0, .slice none 0 0, .slice none 0 0, .slice none 0 0, .slice none 0 0, .slice none 0 0, .slice none 0 0, .slice none 0 0, .slice none 0 0, .slice none 0 0, .slice none 0 0, .slice none 0 0, .slice none 0 0, .slice none 0 0, .map none]) w := fun w => by kernel_rfl
  go_enter Try.func12, Try.ntmps12
  go_upto_region 1 with (first
    | ((with_reducible show wpList _ _ _ _ _ (World.alloc _ (.cells _ _))); refine mem_newb (l := []) H ?_; intro bt w3 hbk H2; try rw [← hbk]; clear hbk H; have H := H2; clear H2; simp only [List.cons_append, List.nil_append, List.set_cons_zero, List.set_cons_succ, List.setIfInBounds_toArray] at H))
  go_upto_region 4 with (first
    | go_skip
    | ((with_reducible show wpList _ _ _ (⟨_, .load 32 _, _, _, _, _⟩ :: _) _ _); refine mem_load (i := 0) H (by first | exact wanted_none rfl | exact wanted_some rfl rfl rfl rfl) (by exact rfl) (by exact rfl) (by exact rfl) Try.underlying32 rfl (by exact tbInfo) ?_)
    | (go_at_call 28; with_reducible refine (cr _ (T.out.mem H)).mono ?_; rintro e w2 ⟨rfl, hb⟩; have H2 := H.call hb; clear H hb; have H := H2; clear H2)
    | ((with_reducible show wpList _ _ _ _ _ (World.alloc _ (.cells _ _))); refine mem_newb (l := [_]) H ?_; intro bc w3 hbk H2; try rw [← hbk]; clear hbk H; have H := H2; clear H2; simp only [List.cons_append, List.nil_append, List.set_cons_zero, List.set_cons_succ, List.setIfInBounds_toArray] at H)
    | ((with_reducible show wpList _ _ _ (⟨_, .store 71 _ _, _, _, _, _⟩ :: _) _ _); refine mem_store (i := 1) H (by first | exact wanted_none rfl | exact wanted_some rfl rfl rfl rfl) (by exact rfl) (by exact rfl) (by exact rfl) (by exact rfl) (by exact pclInfo) (by exact rfl) (by exact rfl) ?_; intro w2 H2; clear H; have H := H2; clear H2; simp only [List.cons_append, List.nil_append, List.set_cons_zero, List.set_cons_succ, List.setIfInBounds_toArray] at H))
  have hz := H.below.size
  go_wp2_with (first
    | ((with_reducible show wpList _ _ _ (⟨_, .load 71 _, _, _, _, _⟩ :: _) _ _); refine mem_load (i := 1) H (by first | exact wanted_none rfl | exact wanted_some rfl rfl rfl rfl) (by exact rfl) (by exact rfl) (by exact rfl) Try.underlying71 rfl (by exact pclInfo) ?_))
  refine bodyPost_ret (results_two rfl _ _ _) rfl ?_
  exact ⟨w2.heap.size + 1, _, _, rfl, ⟨_, HN.out w2⟩, ((H.skip _).skip _).below, fun i hi => by rcases hi with hi | hi <;> omega, fun i hi => .inr (by rcases hi with hi | hi <;> omega)⟩
end Go.Proofs.Ytaoaapbbadipfaa
end
/- The program's flows: looked up, set; Out and Done. Conditions: the steer lies where its pointer says. -/
section
namespace Go.Proofs.Ytaoaapbbadipfaa
set_option linter.unusedSimpArgs false
set_option linter.unusedVariables false
set_option maxRecDepth 100000
open Go.ChangeShapes Go.WideShapes Go.ChangeAt Go.RowKit Go.Maps

theorem fwInfo : (Try.prog.info? 84).map (·.size) = some 2 := by kernel_rfl
theorem zeroF (w : World) : (zeroValue 84).run Try.prog w = .ok (fwV 0 0) w := by kernel_rfl
theorem fO_eq (s : SS) (n : Int) : fO s.fl n = s.outN n := rfl
theorem keyN {n : Int} (h : 0 ≤ n ∧ n ≤ 4294967295) : keyOf Try.prog 22 (.int .u32 n) = some (knL n) := keyOf_int_mk Try.underlying22 (WalkArith.wf_u32 h)
theorem QAt.look {W : World} {rd own : Nat → Prop} {p : Nat} {s : SS} {N : Nat} {x : PParts} (h : QAt W rd own p s N x) {n : Int} (hn : 0 ≤ n ∧ n ≤ 4294967295) :
    (Instr.lookup 74 (.map (some x.m)) (.int .u32 n) false).run Try.prog W = .ok (fwV (fQ s.fl n) (fO s.fl n)) W := by
  obtain ⟨D, hown, hD⟩ := h.map
  obtain ⟨v, ps, hrun, hv⟩ := hown.lookup lawF Try.underlying74 (zeroF W) (fwElem_mk 0 0) (keyN hn)
  rw [hD.look n] at hv
  obtain ⟨q, o, rfl, e⟩ := fwElem_inv hv
  cases e
  exact hrun
theorem QAt.look2 {W : World} {rd own : Nat → Prop} {p : Nat} {s : SS} {N : Nat} {x : PParts} (h : QAt W rd own p s N x) {n : Int} (hn : 0 ≤ n ∧ n ≤ 4294967295) :
    (Instr.lookup 74 (.map (some x.m)) (.int .u32 n) true).run Try.prog W = .ok (.tuple #[fwV (fQ s.fl n) (fO s.fl n), .bool (s.fl n).isSome]) W := by
  obtain ⟨D, hown, hD⟩ := h.map
  obtain ⟨v, ps, hrun, hv⟩ := hown.look_ok lawF Try.underlying74 (zeroF W) (fwElem_mk 0 0) (keyN hn)
  rw [hD.look n] at hv
  obtain ⟨q, o, rfl, e⟩ := fwElem_inv hv
  cases e
  rw [(hD n).1] at hrun
  exact hrun
/-- a flow is set -/
theorem QAt.fset {W W' : World} {rd own : Nat → Prop} {p : Nat} {s : SS} {N M : Nat} {x : PParts} (h : QAt W rd own p s N x) {D : DataW Unit} (hD : MapIs D s.fl) (hT : Tidy D) {K : Nat} {n q o : Int} (hown : W'.ownsMap Try.prog 22 fwElem x.m K (D.put (knL n) (fe q o))) (ht : W.mapTurned W' x.m) (hM : Maps.size (D.put (knL n) (fe q o)) ≤ M) (hNM : N ≤ M) (hb : I64 q ∧ 0 ≤ o ∧ o ≤ M) :
    QAt W' rd own p (s.set n q o) M x := by
  have hne : ∀ i, i < W.heap.size → i ≠ x.m → W'.heap[i]? = W.heap[i]? := fun i hi hm => ht.grown.block i hi (fun e => by cases e; exact hm rfl)
  refine ⟨(hne p h.plt h.ne).trans h.box, ⟨_, own_tightF hown hM, hD.put hT n q o⟩, fun c hc => (h.lists c hc).on0 (fun hn i hi => hne i (h.lt i (h.rl c hc hn i hi).1) (fun e => (h.rl c hc hn i hi).2 (e ▸ h.om))) ht.grown.size, fun n' q' o' h' => ?_, h.salt, h.right, h.m64, h.op, h.om, h.ne, h.rl, h.or, fun i hi => Nat.lt_of_lt_of_le (h.lt i hi) ht.grown.size⟩
  have h2 : (if n' = n then some (q, o) else s.fl n') = some (q', o') := h'
  split at h2
  · cases h2
    exact hb
  · obtain ⟨a, b, c⟩ := h.out n' q' o' h2
    exact ⟨a, b, by omega⟩
/-- an element is set, inside a fence -/
theorem wpIn_mapset {F : Fence} {n : Nat} {P : Program} {o : Oper} {a : Act} {w w' : World} {Q : Exit → Act → World → Prop} {t : TypeId} {m x v : Operand} {b : Nat} {key val : Value} {K : Act → World → Prop} (ho : o.op = .mapUpdate t m x v) (hm : opnd a m = some (.map (some b))) (hx : opnd a x = some key) (hv : opnd a v = some val)
    (hrun : (Instr.mapUpdate t (.map (some b)) key val).run P w = .ok () w') (h : K (a.put o.dst undef) w') : o.wpIn F n P a w K Q := by
  refine ⟨by simp [Oper.about, ho], ?_⟩
  rw [Oper.semAt_plain F _ _ (by rw [ho]; intro c hc'; cases hc')]
  unfold execOp
  simp only [ho, opnd_eval hm, opnd_eval hx, opnd_eval hv, Sem.run_bind, hrun, Result.andThen_ok]
  exact h
set_option maxHeartbeats 2000000 in
theorem outP_nil (d : Hs.FV) (W : World) (hd : d.Fits) : Calls Try.prog 16 #[.pointer none, Hs.fv d] W fun e w' => e = .returned (.tuple #[.int .i64 (-1), .int .i64 0]) ∧ Below W.heap.size W w' := by
  have H := Mem.start W
  go_enter Try.func16, Try.ntmps16
  go_wp2_with (first
    | ((with_reducible show wpList _ _ _ _ _ (World.alloc _ (.cells _ _))); refine mem_newb H ?_; intro bf w3 hbk H2; try rw [← hbk]; clear hbk H; have H := H2; clear H2; simp only [List.cons_append, List.nil_append, List.set_cons_zero, List.set_cons_succ, List.setIfInBounds_toArray] at H)
    | (go_at_call 33; refine (miss_yes _).mono ?_; rintro e w5 ⟨rfl, hw⟩; rw [hw]; clear hw w5))
  refine bodyPost_ret (results_two rfl _ _ _) rfl ?_
  exact ⟨rfl, H.below⟩
set_option maxHeartbeats 2000000 in
theorem doneP_nil (d : Hs.FV) (W : World) (hd : d.Fits) : Calls Try.prog 22 #[.pointer none, Hs.fv d] W fun e w' => e = .returned (.int .i64 1) ∧ Below W.heap.size W w' := by
  have H := Mem.start W
  go_enter Try.func22, Try.ntmps22
  go_wp2_with (first
    | ((with_reducible show wpList _ _ _ _ _ (World.alloc _ (.cells _ _))); refine mem_newb H ?_; intro bf w3 hbk H2; try rw [← hbk]; clear hbk H; have H := H2; clear H2; simp only [List.cons_append, List.nil_append, List.set_cons_zero, List.set_cons_succ, List.setIfInBounds_toArray] at H)
    | (go_at_call 33; refine (miss_yes _).mono ?_; rintro e w5 ⟨rfl, hw⟩; rw [hw]; clear hw w5))
  go_ret
  exact ⟨rfl, H.below⟩
section
variable (W : World) (rd own : Nat → Prop) (p : Nat) (s : SS) (N : Nat) (h : PAt9 W rd own p s N)
include h
set_option maxHeartbeats 2000000 in
theorem outP_p (d : Hs.FV) (hd : d.Fits) : Calls Try.prog 16 #[.pointer (some ⟨p, 0, none⟩), Hs.fv d] W fun e w' => e = .returned (.tuple #[.int .i64 (s.outQ (hashI d s.salt)), .int .i64 (s.outN (hashI d s.salt))]) ∧ Below W.heap.size W w' := by
  obtain ⟨x, h⟩ := h
  have H := Mem.start W
  have hp := h.plt
  obtain ⟨_, c98, _⟩ := h.cell
  have hmi := fun w (hb : Below W.heap.size W w) => miss_no w rd own p s N x (h.below hb)
  obtain ⟨n, hn⟩ : ∃ n, hashI d s.salt = n := ⟨_, rfl⟩
  have hnb : 0 ≤ n ∧ n ≤ 4294967295 := by rw [← hn]; exact hashI_bd _ _
  have ko := fun w (hb : Below W.heap.size W w) => hashOf_p w rd own p s N x (h.below hb) d hd n hn
  have kl := fun w (hb : Below W.heap.size W w) => (h.below hb).look2 hnb
  rw [hn]
  have hres : s.outQ n = (bif (s.fl n).isSome then fQ s.fl n else -1) ∧ s.outN n = fO s.fl n := by
    refine ⟨?_, rfl⟩
    unfold SS.outQ fQ
    rcases s.fl n with _ | ⟨a, b⟩ <;> rfl
  rw [hres.1, hres.2]
  obtain ⟨Vq, hVq⟩ : ∃ v, fQ s.fl n = v := ⟨_, rfl⟩
  obtain ⟨Vo, hVo⟩ : ∃ v, fO s.fl n = v := ⟨_, rfl⟩
  have hV0 : (s.fl n).isSome = false → Vo = 0 := fun h0 => by
    rw [← hVo]
    unfold fO
    rcases e : s.fl n with _ | ⟨a, b⟩
    · rfl
    · rw [e] at h0; cases h0
  obtain ⟨Vb, hVb⟩ : ∃ v, (s.fl n).isSome = v := ⟨_, rfl⟩
  obtain ⟨m, hm⟩ : ∃ m, x.m = m := ⟨_, rfl⟩
  rw [hVq, hVo, hVb, hm] at kl
  rw [hVq, hVo, hVb]
  rw [hVb] at hV0
  rw [hm] at c98
  have HL := Lib.hid kl
  have HO := Lib.hid ko
  have HV := Lib.hid hV0
  clear h hn hnb hres hVq hVo hVb hm kl ko hd hV0
  go_enter Try.func16, Try.ntmps16
  go_upto_region 3 with (first
    | ((with_reducible show wpList _ _ _ _ _ (World.alloc _ (.cells _ _))); refine mem_newb H ?_; intro bf w3 hbk H2; try rw [← hbk]; clear hbk H; have H := H2; clear H2; simp only [List.cons_append, List.nil_append, List.set_cons_zero, List.set_cons_succ, List.setIfInBounds_toArray] at H)
    | (go_at_call 33; refine (hmi _ H.below).mono ?_; rintro e w5 ⟨rfl, hw⟩; rw [hw]; clear hw w5))
  refine region_mem H 14 rfl (by kernel_rfl) (fun wr hS => ?_)
  clear H
  refine wpAnyR_take (i := 0) (v := (.pointer (some ⟨p, 0, none⟩))) rfl rfl (by kernel_rfl) (by kernel_rfl) (by kernel_rfl) (fun _ _ _ h => h) (Nat.le_refl _) ⟨by rfl, fun w _ => (by go_simp; try (first | rfl | omega)), fun _ => rfl⟩ hS ?_
  simp only [List.getElem_toArray, List.getElem_cons_zero, List.getElem_cons_succ, Act.put, List.setIfInBounds_toArray, List.set_cons_zero, List.set_cons_succ]
  refine wpAnyR_take (i := 1) (v := (.pointer (some ⟨p, 0, none⟩))) rfl rfl (by kernel_rfl) (by kernel_rfl) (by kernel_rfl) (fun _ _ _ h => h) (Nat.le_refl _) ⟨by rfl, fun w _ => (by go_simp; try (first | rfl | omega)), fun _ => rfl⟩ hS ?_
  simp only [List.getElem_toArray, List.getElem_cons_zero, List.getElem_cons_succ, Act.put, List.setIfInBounds_toArray, List.set_cons_zero, List.set_cons_succ]
  refine wpAnyR_take (i := 2) (v := (.pointer (some ⟨p, 98, none⟩))) rfl rfl (by kernel_rfl) (by kernel_rfl) (by kernel_rfl) (fun _ _ _ h => h) (Nat.le_refl _) ⟨by rfl, fun w _ => (by go_simp; try (first | rfl | omega)), fun _ => rfl⟩ hS ?_
  simp only [List.getElem_toArray, List.getElem_cons_zero, List.getElem_cons_succ, Act.put, List.setIfInBounds_toArray, List.set_cons_zero, List.set_cons_succ]
  refine wpAnyR_take (i := 3) (v := (.map (some m))) rfl rfl (by kernel_rfl) (by kernel_rfl) (by kernel_rfl) (fun _ _ _ h => h) (Nat.le_refl _) (yields_old c98 hp (by exact rfl) (by exact rfl) (by exact rfl) Try.underlying74 rfl) hS ?_
  simp only [List.getElem_toArray, List.getElem_cons_zero, List.getElem_cons_succ, Act.put, List.setIfInBounds_toArray, List.set_cons_zero, List.set_cons_succ]
  refine wpAnyR_take (i := 4) (v := (.pointer (some ⟨p, 0, none⟩))) rfl rfl (by kernel_rfl) (by kernel_rfl) (by kernel_rfl) (fun _ _ _ h => h) (Nat.le_refl _) ⟨by rfl, fun w _ => (by go_simp; try (first | rfl | omega)), fun _ => rfl⟩ hS ?_
  simp only [List.getElem_toArray, List.getElem_cons_zero, List.getElem_cons_succ, Act.put, List.setIfInBounds_toArray, List.set_cons_zero, List.set_cons_succ]
  refine wpAnyR_take (i := 5) (v := (.agg #[.int .u32 d.a, .int .u32 d.b, .int .u16 d.sp, .int .u16 d.dp, .int .u8 d.q])) rfl rfl (by kernel_rfl) (by kernel_rfl) (by kernel_rfl) (fun _ _ _ h => h) (Nat.le_refl _) (yields_held (fun w h => h.at 0 rfl) (by exact rfl) (by exact rfl) (by exact rfl) Try.underlying40 rfl (by exact Hs.flowInfo)) hS ?_
  simp only [List.getElem_toArray, List.getElem_cons_zero, List.getElem_cons_succ, Act.put, List.setIfInBounds_toArray, List.set_cons_zero, List.set_cons_succ]
  refine wpAnyG_two (i := 6) (j := 11) (by kernel_rfl) rfl rfl (fun K hK => ?_) (fun K hK => ?_)
  · go_simp
    refine ⟨trivial, (callsIn_wide.2 (HO.out _ hS.below)).mono ?_⟩
    rintro e w5 ⟨rfl, hb⟩
    have hS5 := hS.call hb
    refine hK _ _ (.inr hS5) ?_
    clear hK K hS hb
    have hS := hS5
    clear hS5
    try simp only [List.getElem_toArray, List.getElem_cons_zero, List.getElem_cons_succ, Act.put, List.setIfInBounds_toArray, List.set_cons_zero, List.set_cons_succ]
    refine wpAnyR_take (i := 7) (v := (.tuple #[fwV Vq Vo, .bool Vb])) rfl rfl (by kernel_rfl) (by kernel_rfl) (by kernel_rfl) (fun _ _ _ h => h) (Nat.le_refl _) ⟨by rfl, fun w hw => (by have hl := HL.out w hw.below; go_simp; try rfl), fun _ => rfl⟩ hS ?_
    simp only [List.getElem_toArray, List.getElem_cons_zero, List.getElem_cons_succ, Act.put, List.setIfInBounds_toArray, List.set_cons_zero, List.set_cons_succ]
    refine wpAnyR_take (i := 8) (v := (.tuple #[fwV Vq Vo, .bool Vb])) rfl rfl (by kernel_rfl) (by kernel_rfl) (by kernel_rfl) (fun _ _ _ h => h) (Nat.le_refl _) ⟨by rfl, fun w _ => (by go_simp; try (first | rfl | omega)), fun _ => rfl⟩ hS ?_
    simp only [List.getElem_toArray, List.getElem_cons_zero, List.getElem_cons_succ, Act.put, List.setIfInBounds_toArray, List.set_cons_zero, List.set_cons_succ]
    refine wpAnyR_take (i := 9) (v := (fwV Vq Vo)) rfl rfl (by kernel_rfl) (by kernel_rfl) (by kernel_rfl) (fun _ _ _ h => h) (Nat.le_refl _) ⟨by rfl, fun w _ => (by go_simp; try (first | rfl | omega)), fun _ => rfl⟩ hS ?_
    simp only [List.getElem_toArray, List.getElem_cons_zero, List.getElem_cons_succ, Act.put, List.setIfInBounds_toArray, List.set_cons_zero, List.set_cons_succ]
    refine wpAnyR_take (i := 10) (v := (.bool Vb)) rfl rfl (by kernel_rfl) (by kernel_rfl) (by kernel_rfl) (fun _ _ _ h => h) (Nat.le_refl _) ⟨by rfl, fun w _ => (by go_simp; try (first | rfl | omega)), fun _ => rfl⟩ hS ?_
    simp only [List.getElem_toArray, List.getElem_cons_zero, List.getElem_cons_succ, Act.put, List.setIfInBounds_toArray, List.set_cons_zero, List.set_cons_succ]
    refine wpAnyG_one (i := 11) (by kernel_rfl) rfl (fun K hK => ?_)
    go_simp
    refine hK _ _ (.inr (hS.skip _)) ?_
    clear hK K
    have hN := hS.alloc 84 #[.int .i64 0, .int .i64 0]
    have hS5 := hS.skip (.cells #[.int .i64 0, .int .i64 0] 84)
    clear hS
    generalize hbN : w5.heap.size = bw at hN ⊢
    clear hbN
    generalize w5.alloc (.cells #[.int .i64 0, .int .i64 0] 84) = w6 at hN hS5 ⊢
    have hS := hS5
    clear hS5
    simp only [List.cons_append, List.nil_append] at hN
    try simp only [List.getElem_toArray, List.getElem_cons_zero, List.getElem_cons_succ, Act.put, List.setIfInBounds_toArray, List.set_cons_zero, List.set_cons_succ]
    refine wpAnyG_one (i := 12) (by kernel_rfl) rfl (fun K hK => ?_)
    rw [if_pos (by exact rfl)]
    refine wpIn_store_mem (i := 1) hN (by exact rfl) (by exact rfl) (by exact rfl) (by exact rfl) (by exact fwInfo) (by exact rfl) (by exact rfl) ?_
    intro w7 H
    try simp only [List.cons_append, List.nil_append, List.set_cons_zero, List.set_cons_succ, List.setIfInBounds_toArray] at H
    refine hK _ _ (.inr (H.drop 1)) ?_
    clear hK K hS hN
    have hN := H
    clear H
    have hS := hN.drop 1
    try simp only [List.getElem_toArray, List.getElem_cons_zero, List.getElem_cons_succ, Act.put, List.setIfInBounds_toArray, List.set_cons_zero, List.set_cons_succ]
    refine wpAnyG_one (i := 13) (by kernel_rfl) rfl (fun K hK => ?_)
    go_simp
    refine hK _ _ (.inr hS) ?_
    clear hK K
    refine wpAnyG_done (by kernel_rfl) ?_ _
    have H := hN
    clear hN hS
    cases Vb
    · have hv0 := HV.out rfl
      subst hv0
      go_wp2
      refine bodyPost_ret (results_two rfl _ _ _) rfl ?_
      exact ⟨rfl, H.below⟩
    · go_upto_region 6 with fail
      refine region_mem H 6 rfl (by kernel_rfl) (fun wr hS => ?_)
      clear H
      refine wpAnyR_take (i := 0) (v := (.pointer (some ⟨bw, 0, none⟩))) rfl rfl (by kernel_rfl) (by kernel_rfl) (by kernel_rfl) (fun _ _ _ h => h) (Nat.le_refl _) ⟨by rfl, fun w _ => (by go_simp; try (first | rfl | omega)), fun _ => rfl⟩ hS ?_
      simp only [List.getElem_toArray, List.getElem_cons_zero, List.getElem_cons_succ, Act.put, List.setIfInBounds_toArray, List.set_cons_zero, List.set_cons_succ]
      refine wpAnyR_take (i := 1) (v := (.int .i64 Vq)) rfl rfl (by kernel_rfl) (by kernel_rfl) (by kernel_rfl) (fun _ _ _ h => h) (Nat.le_refl _) (yields_fld (fun w h => h.at 1 rfl) (by exact rfl) (by exact rfl) (by exact rfl) Try.underlying3 rfl (by exact rfl)) hS ?_
      simp only [List.getElem_toArray, List.getElem_cons_zero, List.getElem_cons_succ, Act.put, List.setIfInBounds_toArray, List.set_cons_zero, List.set_cons_succ]
      refine wpAnyR_take (i := 2) (v := (.pointer (some ⟨bw, 1, none⟩))) rfl rfl (by kernel_rfl) (by kernel_rfl) (by kernel_rfl) (fun _ _ _ h => h) (Nat.le_refl _) ⟨by rfl, fun w _ => (by go_simp; try (first | rfl | omega)), fun _ => rfl⟩ hS ?_
      simp only [List.getElem_toArray, List.getElem_cons_zero, List.getElem_cons_succ, Act.put, List.setIfInBounds_toArray, List.set_cons_zero, List.set_cons_succ]
      refine wpAnyR_take (i := 3) (v := (.int .i64 Vo)) rfl rfl (by kernel_rfl) (by kernel_rfl) (by kernel_rfl) (fun _ _ _ h => h) (Nat.le_refl _) (yields_fld (fun w h => h.at 1 rfl) (by exact rfl) (by exact rfl) (by exact rfl) Try.underlying3 rfl (by exact rfl)) hS ?_
      simp only [List.getElem_toArray, List.getElem_cons_zero, List.getElem_cons_succ, Act.put, List.setIfInBounds_toArray, List.set_cons_zero, List.set_cons_succ]
      refine wpAnyG_one (i := 4) (by kernel_rfl) rfl (fun K hK => ?_)
      go_simp
      refine hK _ _ (.inr hS) ?_
      clear hK K
      try simp only [List.getElem_toArray, List.getElem_cons_zero, List.getElem_cons_succ, Act.put, List.setIfInBounds_toArray, List.set_cons_zero, List.set_cons_succ]
      refine wpAnyG_one (i := 5) (by kernel_rfl) rfl (fun K hK => ?_)
      go_simp
      refine hK _ _ (.inr hS) ?_
      clear hK K
      refine wpAnyG_done (by kernel_rfl) ?_ _
      have H := hS
      clear hS
      go_wp2
      refine bodyPost_ret (results_two rfl _ _ _) rfl ?_
      exact ⟨rfl, H.below⟩
  · go_simp
    refine hK _ _ (.inr (hS.skip _)) ?_
    clear hK K
    have hN := hS.alloc 84 #[.int .i64 0, .int .i64 0]
    have hS5 := hS.skip (.cells #[.int .i64 0, .int .i64 0] 84)
    clear hS
    generalize hbN : wr.heap.size = bw at hN ⊢
    clear hbN
    generalize wr.alloc (.cells #[.int .i64 0, .int .i64 0] 84) = w6 at hN hS5 ⊢
    have hS := hS5
    clear hS5
    simp only [List.cons_append, List.nil_append] at hN
    try simp only [List.getElem_toArray, List.getElem_cons_zero, List.getElem_cons_succ, Act.put, List.setIfInBounds_toArray, List.set_cons_zero, List.set_cons_succ]
    refine wpAnyG_one (i := 6) (by kernel_rfl) rfl (fun K hK => ?_)
    go_simp
    refine ⟨trivial, (callsIn_wide.2 (HO.out _ hS.below)).mono ?_⟩
    rintro e w5 ⟨rfl, hb⟩
    have hS5 := hS.call hb
    have hN5 := hN.call hb
    refine hK _ _ (.inr hS5) ?_
    clear hK K hS hb hN
    have hS := hS5
    clear hS5
    have hN := hN5
    clear hN5
    try simp only [List.getElem_toArray, List.getElem_cons_zero, List.getElem_cons_succ, Act.put, List.setIfInBounds_toArray, List.set_cons_zero, List.set_cons_succ]
    refine wpAnyR_take (i := 7) (v := (.tuple #[fwV Vq Vo, .bool Vb])) rfl rfl (by kernel_rfl) (by kernel_rfl) (by kernel_rfl) (fun _ _ _ h => h) (Nat.le_refl _) ⟨by rfl, fun w hw => (by have hl := HL.out w hw.below; go_simp; try rfl), fun _ => rfl⟩ hS ?_
    simp only [List.getElem_toArray, List.getElem_cons_zero, List.getElem_cons_succ, Act.put, List.setIfInBounds_toArray, List.set_cons_zero, List.set_cons_succ]
    refine wpAnyR_take (i := 8) (v := (.tuple #[fwV Vq Vo, .bool Vb])) rfl rfl (by kernel_rfl) (by kernel_rfl) (by kernel_rfl) (fun _ _ _ h => h) (Nat.le_refl _) ⟨by rfl, fun w _ => (by go_simp; try (first | rfl | omega)), fun _ => rfl⟩ hS ?_
    simp only [List.getElem_toArray, List.getElem_cons_zero, List.getElem_cons_succ, Act.put, List.setIfInBounds_toArray, List.set_cons_zero, List.set_cons_succ]
    refine wpAnyR_take (i := 9) (v := (fwV Vq Vo)) rfl rfl (by kernel_rfl) (by kernel_rfl) (by kernel_rfl) (fun _ _ _ h => h) (Nat.le_refl _) ⟨by rfl, fun w _ => (by go_simp; try (first | rfl | omega)), fun _ => rfl⟩ hS ?_
    simp only [List.getElem_toArray, List.getElem_cons_zero, List.getElem_cons_succ, Act.put, List.setIfInBounds_toArray, List.set_cons_zero, List.set_cons_succ]
    refine wpAnyR_take (i := 10) (v := (.bool Vb)) rfl rfl (by kernel_rfl) (by kernel_rfl) (by kernel_rfl) (fun _ _ _ h => h) (Nat.le_refl _) ⟨by rfl, fun w _ => (by go_simp; try (first | rfl | omega)), fun _ => rfl⟩ hS ?_
    simp only [List.getElem_toArray, List.getElem_cons_zero, List.getElem_cons_succ, Act.put, List.setIfInBounds_toArray, List.set_cons_zero, List.set_cons_succ]
    refine wpAnyG_one (i := 12) (by kernel_rfl) rfl (fun K hK => ?_)
    rw [if_pos (by exact rfl)]
    refine wpIn_store_mem (i := 1) hN (by exact rfl) (by exact rfl) (by exact rfl) (by exact rfl) (by exact fwInfo) (by exact rfl) (by exact rfl) ?_
    intro w7 H
    try simp only [List.cons_append, List.nil_append, List.set_cons_zero, List.set_cons_succ, List.setIfInBounds_toArray] at H
    refine hK _ _ (.inr (H.drop 1)) ?_
    clear hK K hS hN
    have hN := H
    clear H
    have hS := hN.drop 1
    try simp only [List.getElem_toArray, List.getElem_cons_zero, List.getElem_cons_succ, Act.put, List.setIfInBounds_toArray, List.set_cons_zero, List.set_cons_succ]
    refine wpAnyG_one (i := 13) (by kernel_rfl) rfl (fun K hK => ?_)
    go_simp
    refine hK _ _ (.inr hS) ?_
    clear hK K
    refine wpAnyG_done (by kernel_rfl) ?_ _
    have H := hN
    clear hN hS
    cases Vb
    · have hv0 := HV.out rfl
      subst hv0
      go_wp2
      refine bodyPost_ret (results_two rfl _ _ _) rfl ?_
      exact ⟨rfl, H.below⟩
    · go_upto_region 6 with fail
      refine region_mem H 6 rfl (by kernel_rfl) (fun wr hS => ?_)
      clear H
      refine wpAnyR_take (i := 0) (v := (.pointer (some ⟨bw, 0, none⟩))) rfl rfl (by kernel_rfl) (by kernel_rfl) (by kernel_rfl) (fun _ _ _ h => h) (Nat.le_refl _) ⟨by rfl, fun w _ => (by go_simp; try (first | rfl | omega)), fun _ => rfl⟩ hS ?_
      simp only [List.getElem_toArray, List.getElem_cons_zero, List.getElem_cons_succ, Act.put, List.setIfInBounds_toArray, List.set_cons_zero, List.set_cons_succ]
      refine wpAnyR_take (i := 1) (v := (.int .i64 Vq)) rfl rfl (by kernel_rfl) (by kernel_rfl) (by kernel_rfl) (fun _ _ _ h => h) (Nat.le_refl _) (yields_fld (fun w h => h.at 1 rfl) (by exact rfl) (by exact rfl) (by exact rfl) Try.underlying3 rfl (by exact rfl)) hS ?_
      simp only [List.getElem_toArray, List.getElem_cons_zero, List.getElem_cons_succ, Act.put, List.setIfInBounds_toArray, List.set_cons_zero, List.set_cons_succ]
      refine wpAnyR_take (i := 2) (v := (.pointer (some ⟨bw, 1, none⟩))) rfl rfl (by kernel_rfl) (by kernel_rfl) (by kernel_rfl) (fun _ _ _ h => h) (Nat.le_refl _) ⟨by rfl, fun w _ => (by go_simp; try (first | rfl | omega)), fun _ => rfl⟩ hS ?_
      simp only [List.getElem_toArray, List.getElem_cons_zero, List.getElem_cons_succ, Act.put, List.setIfInBounds_toArray, List.set_cons_zero, List.set_cons_succ]
      refine wpAnyR_take (i := 3) (v := (.int .i64 Vo)) rfl rfl (by kernel_rfl) (by kernel_rfl) (by kernel_rfl) (fun _ _ _ h => h) (Nat.le_refl _) (yields_fld (fun w h => h.at 1 rfl) (by exact rfl) (by exact rfl) (by exact rfl) Try.underlying3 rfl (by exact rfl)) hS ?_
      simp only [List.getElem_toArray, List.getElem_cons_zero, List.getElem_cons_succ, Act.put, List.setIfInBounds_toArray, List.set_cons_zero, List.set_cons_succ]
      refine wpAnyG_one (i := 4) (by kernel_rfl) rfl (fun K hK => ?_)
      go_simp
      refine hK _ _ (.inr hS) ?_
      clear hK K
      try simp only [List.getElem_toArray, List.getElem_cons_zero, List.getElem_cons_succ, Act.put, List.setIfInBounds_toArray, List.set_cons_zero, List.set_cons_succ]
      refine wpAnyG_one (i := 5) (by kernel_rfl) rfl (fun K hK => ?_)
      go_simp
      refine hK _ _ (.inr hS) ?_
      clear hK K
      refine wpAnyG_done (by kernel_rfl) ?_ _
      have H := hS
      clear hS
      go_wp2
      refine bodyPost_ret (results_two rfl _ _ _) rfl ?_
      exact ⟨rfl, H.below⟩
end
end Go.Proofs.Ytaoaapbbadipfaa
end
/- The program's Done. Conditions: the steer lies where its pointer says. -/
section
namespace Go.Proofs.Ytaoaapbbadipfaa
set_option linter.unusedSimpArgs false
set_option linter.unusedVariables false
set_option maxRecDepth 100000
open Go.ChangeShapes Go.WideShapes Go.ChangeAt Go.RowKit Go.Maps

/-- a flow that has packets out is known -/
theorem out_some {s : SS} {n : Int} (h : s.outN n ≠ 0) : s.fl n = some (fQ s.fl n, fO s.fl n) ∧ s.outQ n = fQ s.fl n := by
  unfold SS.outN at h
  unfold fQ fO SS.outQ
  rcases e : s.fl n with _ | ⟨a, b⟩
  · rw [e] at h
    exact absurd rfl h
  · exact ⟨rfl, rfl⟩
set_option maxHeartbeats 2000000 in
theorem doneP_p (W : World) (rd own : Nat → Prop) (p : Nat) (s : SS) (N : Nat) (h : PAt9 W rd own p s N) (hN : N ≤ 1000) (d : Hs.FV) (hd : d.Fits) : Calls Try.prog 22 #[.pointer (some ⟨p, 0, none⟩), Hs.fv d] W (DidG PAt9 W rd own p (s.done (hashI d s.salt)) N (fun _ => False) (.int .i64 (s.doneE (hashI d s.salt)))) := by
  obtain ⟨x, h⟩ := h
  have H := Mem.start W
  have hp := h.plt
  obtain ⟨_, c98, _⟩ := h.cell
  have hmi := fun w (hb : Below W.heap.size W w) => miss_no w rd own p s N x (h.below hb)
  obtain ⟨n, hn⟩ : ∃ n, hashI d s.salt = n := ⟨_, rfl⟩
  have hnb : 0 ≤ n ∧ n ≤ 4294967295 := by rw [← hn]; exact hashI_bd _ _
  have ko := fun w (hb : Below W.heap.size W w) => hashOf_p w rd own p s N x (h.below hb) d hd n hn
  have kl := fun w (hb : Below W.heap.size W w) => (h.below hb).look hnb
  rw [hn]
  obtain ⟨Vq, hVq⟩ : ∃ v, fQ s.fl n = v := ⟨_, rfl⟩
  obtain ⟨Vo, hVo⟩ : ∃ v, fO s.fl n = v := ⟨_, rfl⟩
  have hoN : s.outN n = Vo := hVo
  obtain ⟨m, hm⟩ : ∃ m, x.m = m := ⟨_, rfl⟩
  rw [hVq, hVo, hm] at kl
  rw [hm] at c98
  have HL := Lib.hid kl
  have HQ := Lib.hid h
  have HM := Lib.hid hm
  by_cases h0 : Vo = 0
  · have e1 : s.done n = s := by rw [SS.done, hoN, h0]; rfl
    have e2 : s.doneE n = 90 := by rw [SS.doneE, hoN, h0]; rfl
    rw [e1, e2]
    subst h0
    clear h hn hnb hVq hVo hm kl e1 e2 hd hoN
    go_enter Try.func22, Try.ntmps22
    go_upto_region 4 with (first
      | ((with_reducible show wpList _ _ _ _ _ (World.alloc _ (.cells _ _))); refine mem_newb (l := []) H ?_; intro bf w3 hbk H2; try rw [← hbk]; clear hbk H; have H := H2; clear H2; simp only [List.cons_append, List.nil_append, List.set_cons_zero, List.set_cons_succ, List.setIfInBounds_toArray] at H)
      | (go_at_call 33; refine (hmi _ H.below).mono ?_; rintro e w5 ⟨rfl, hw⟩; rw [hw]; clear hw w5)
      | ((with_reducible show wpList _ _ _ (⟨_, .load 40 _, _, _, _, _⟩ :: _) _ _); refine mem_load (i := 0) H (by first | exact wanted_none rfl | exact wanted_some rfl rfl rfl rfl) (by exact rfl) (by exact rfl) (by exact rfl) Try.underlying40 rfl (by exact Hs.flowInfo) ?_)
      | (go_at_call 34; refine (ko _ H.below).mono ?_; rintro e w5 ⟨rfl, hb⟩; have H2 := H.call hb; clear H hb; have H := H2; clear H2))
    have hl := HL.out _ H.below
    go_wp2_with (first
      | ((with_reducible show wpList _ _ _ (⟨_, .load 74 _, _, _, _, _⟩ :: _) _ _); refine mem_loado H c98 hp (by first | exact wanted_none rfl | exact wanted_some rfl rfl rfl rfl) (by exact rfl) (by exact rfl) Try.underlying74 rfl ?_)
      | ((with_reducible show wpList _ _ _ _ _ (World.alloc _ (.cells _ _))); refine mem_newb (l := [_]) H ?_; intro bw w3 hbk H2; try rw [← hbk]; clear hbk H; have H := H2; clear H2; simp only [List.cons_append, List.nil_append, List.set_cons_zero, List.set_cons_succ, List.setIfInBounds_toArray] at H)
      | ((with_reducible show wpList _ _ _ (⟨_, .store 84 _ _, _, _, _, _⟩ :: _) _ _); refine mem_store (i := 1) H (by first | exact wanted_none rfl | exact wanted_some rfl rfl rfl rfl) (by exact rfl) (by exact rfl) (by exact rfl) (by exact rfl) (by exact fwInfo) (by exact rfl) (by exact rfl) ?_; intro w2 H2; clear H; have H := H2; clear H2; simp only [List.cons_append, List.nil_append, List.set_cons_zero, List.set_cons_succ, List.setIfInBounds_toArray] at H)
      | ((with_reducible show wpList _ _ _ (⟨_, .load 3 _, _, _, _, _⟩ :: _) _ _); refine mem_loadf (i := 1) H (by first | exact wanted_none rfl | exact wanted_some rfl rfl rfl rfl) (by exact rfl) (by exact rfl) (by exact rfl) Try.underlying3 rfl (by exact rfl) ?_))
    go_ret
    exact ⟨rfl, ⟨rd, own, ⟨x, HQ.out.below H.below⟩, (fun i hi => .inl hi), (fun i hi => .inl hi)⟩, Foot.of_below H.below⟩
  · have hne : s.outN n ≠ 0 := by rw [hoN]; exact h0
    obtain ⟨hs1, hs2⟩ := out_some hne
    rw [hVq, hVo] at hs1
    rw [hVq] at hs2
    obtain ⟨b1, b2, b3⟩ := h.out n Vq Vo hs1
    have e1 : s.done n = s.set n Vq (Vo - 1) := by
      have : (s.outN n == 0) = false := by simpa using hne
      rw [SS.done, this, hs2, hoN]
      rfl
    have e2 : s.doneE n = 0 := by
      have : (s.outN n == 0) = false := by simpa using hne
      rw [SS.doneE, this]
      rfl
    rw [e1, e2]
    have t1 : (Vo == 0) = false := by simpa using h0
    have hVb : 1 ≤ Vo ∧ Vo ≤ 1000 := by omega
    have HK := Lib.hid (And.intro hs1 (And.intro hnb (And.intro b1 b3)))
    clear h hn hnb hVq hVo hm kl e1 e2 hd hoN hne h0 hs1 hs2 b1 b2 b3
    go_enter Try.func22, Try.ntmps22
    go_upto_region 4 with (first
      | ((with_reducible show wpList _ _ _ _ _ (World.alloc _ (.cells _ _))); refine mem_newb (l := []) H ?_; intro bf w3 hbk H2; try rw [← hbk]; clear hbk H; have H := H2; clear H2; simp only [List.cons_append, List.nil_append, List.set_cons_zero, List.set_cons_succ, List.setIfInBounds_toArray] at H)
      | (go_at_call 33; refine (hmi _ H.below).mono ?_; rintro e w5 ⟨rfl, hw⟩; rw [hw]; clear hw w5)
      | ((with_reducible show wpList _ _ _ (⟨_, .load 40 _, _, _, _, _⟩ :: _) _ _); refine mem_load (i := 0) H (by first | exact wanted_none rfl | exact wanted_some rfl rfl rfl rfl) (by exact rfl) (by exact rfl) (by exact rfl) Try.underlying40 rfl (by exact Hs.flowInfo) ?_)
      | (go_at_call 34; refine (ko _ H.below).mono ?_; rintro e w5 ⟨rfl, hb⟩; have H2 := H.call hb; clear H hb; have H := H2; clear H2))
    have hl := HL.out _ H.below
    go_upto_region 8 with (first
      | ((with_reducible show wpList _ _ _ (⟨_, .load 74 _, _, _, _, _⟩ :: _) _ _); refine mem_loado H c98 hp (by first | exact wanted_none rfl | exact wanted_some rfl rfl rfl rfl) (by exact rfl) (by exact rfl) Try.underlying74 rfl ?_)
      | ((with_reducible show wpList _ _ _ _ _ (World.alloc _ (.cells _ _))); refine mem_newb (l := [_]) H ?_; intro bw w3 hbk H2; try rw [← hbk]; clear hbk H; have H := H2; clear H2; simp only [List.cons_append, List.nil_append, List.set_cons_zero, List.set_cons_succ, List.setIfInBounds_toArray] at H)
      | ((with_reducible show wpList _ _ _ (⟨_, .store 84 _ _, _, _, _, _⟩ :: _) _ _); refine mem_store (i := 1) H (by first | exact wanted_none rfl | exact wanted_some rfl rfl rfl rfl) (by exact rfl) (by exact rfl) (by exact rfl) (by exact rfl) (by exact fwInfo) (by exact rfl) (by exact rfl) ?_; intro w2 H2; clear H; have H := H2; clear H2; simp only [List.cons_append, List.nil_append, List.set_cons_zero, List.set_cons_succ, List.setIfInBounds_toArray] at H)
      | ((with_reducible show wpList _ _ _ (⟨_, .load 3 _, _, _, _, _⟩ :: _) _ _); refine mem_loadf (i := 1) H (by first | exact wanted_none rfl | exact wanted_some rfl rfl rfl rfl) (by exact rfl) (by exact rfl) (by exact rfl) Try.underlying3 rfl (by exact rfl) ?_)
      | ((with_reducible show wpList _ _ _ (⟨_, .store 3 _ _, _, _, _, _⟩ :: _) _ _); refine mem_storef (i := 1) H (by first | exact wanted_none rfl | exact wanted_some rfl rfl rfl rfl) (by exact rfl) (by exact rfl) (by exact rfl) (by exact rfl) infoI1 (by exact rfl) (by exact rfl) ?_; intro w2 H2; clear H; have H := H2; clear H2; simp only [List.cons_append, List.nil_append, List.set_cons_zero, List.set_cons_succ, List.setIfInBounds_toArray] at H))
    refine region_memk H 6 7 rfl (by kernel_rfl) (fun wr0 hcl hS => ?_)
    clear H
    refine wpAnyG_pure (i := 0) (v := (.pointer (some ⟨p, 0, none⟩))) rfl rfl (by kernel_rfl) (by kernel_rfl) (by kernel_rfl) (fun _ _ _ h => h) (by decide) ⟨by rfl, fun w _ => (by go_simp; try (first | (simp only [IntKind.wrap_u32]; done) | rfl)), fun _ => rfl⟩ (.inr hS) ?_
    have hc1 := hcl.step (i := 0) (by kernel_rfl)
    clear hcl; have hcl := hc1; clear hc1; simp only [List.getElem_toArray, List.getElem_cons_zero, List.getElem_cons_succ, Act.put, List.setIfInBounds_toArray, List.set_cons_zero, List.set_cons_succ]
    refine wpAnyG_pure (i := 1) (v := (.pointer (some ⟨p, 0, none⟩))) rfl rfl (by kernel_rfl) (by kernel_rfl) (by kernel_rfl) (fun _ _ _ h => h) (by decide) ⟨by rfl, fun w _ => (by go_simp; try (first | (simp only [IntKind.wrap_u32]; done) | rfl)), fun _ => rfl⟩ (.inr hS) ?_
    have hc1 := hcl.step (i := 1) (by kernel_rfl)
    clear hcl; have hcl := hc1; clear hc1; simp only [List.getElem_toArray, List.getElem_cons_zero, List.getElem_cons_succ, Act.put, List.setIfInBounds_toArray, List.set_cons_zero, List.set_cons_succ]
    refine wpAnyG_pure (i := 2) (v := (.pointer (some ⟨p, 98, none⟩))) rfl rfl (by kernel_rfl) (by kernel_rfl) (by kernel_rfl) (fun _ _ _ h => h) (by decide) ⟨by rfl, fun w _ => (by go_simp; try (first | (simp only [IntKind.wrap_u32]; done) | rfl)), fun _ => rfl⟩ (.inr hS) ?_
    have hc1 := hcl.step (i := 2) (by kernel_rfl)
    clear hcl; have hcl := hc1; clear hc1; simp only [List.getElem_toArray, List.getElem_cons_zero, List.getElem_cons_succ, Act.put, List.setIfInBounds_toArray, List.set_cons_zero, List.set_cons_succ]
    refine wpAnyG_take (i := 3) 1 (v := (.map (some m))) rfl rfl (by kernel_rfl) (by kernel_rfl) (by kernel_rfl) (fun _ _ _ h => h) (by kernel_rfl) (by decide) hcl (yields_old c98 hp (by exact rfl) (by exact rfl) (by exact rfl) Try.underlying74 rfl) hS (fun hc1 => ?_)
    clear hcl; have hcl := hc1; clear hc1; simp only [List.getElem_toArray, List.getElem_cons_zero, List.getElem_cons_succ, Act.put, List.setIfInBounds_toArray, List.set_cons_zero, List.set_cons_succ]
    refine wpAnyG_pure (i := 4) (v := (.int .u32 n)) rfl rfl (by kernel_rfl) (by kernel_rfl) (by kernel_rfl) (fun _ _ _ h => h) (by decide) ⟨by rfl, fun w _ => (by go_simp; try (first | (simp only [IntKind.wrap_u32]; done) | rfl)), fun _ => rfl⟩ (.inr hS) ?_
    have hc1 := hcl.step (i := 4) (by kernel_rfl)
    clear hcl; have hcl := hc1; clear hc1; simp only [List.getElem_toArray, List.getElem_cons_zero, List.getElem_cons_succ, Act.put, List.setIfInBounds_toArray, List.set_cons_zero, List.set_cons_succ]
    refine wpAnyG_take (i := 5) 1 (v := (fwV Vq (Vo - 1))) rfl rfl (by kernel_rfl) (by kernel_rfl) (by kernel_rfl) (fun _ _ _ h => h) (by kernel_rfl) (by decide) hcl (yields_held (fun w h => h.at 1 rfl) (by exact rfl) (by exact rfl) (by exact rfl) Try.underlying84 rfl fwInfo) hS (fun hc1 => ?_)
    clear hcl; have hcl := hc1; clear hc1; simp only [List.getElem_toArray, List.getElem_cons_zero, List.getElem_cons_succ, Act.put, List.setIfInBounds_toArray, List.set_cons_zero, List.set_cons_succ]
    refine wpAnyG_one (i := 6) (by kernel_rfl) rfl (fun K hK => ?_)
    rw [if_pos (by exact rfl)]
    have hQ5 := HQ.out.below hS.below
    obtain ⟨D, hown, hD⟩ := hQ5.map
    rw [HM.out] at hown
    obtain ⟨w7, hrun, hown7, hturn⟩ := hown.store lawF Try.underlying74 (by simp only [maxLen]; omega) (keyN HK.out.2.1) (fwElem_mk Vq (Vo - 1))
    refine wpIn_mapset (by exact rfl) (by exact rfl) (by exact rfl) (by exact rfl) hrun ?_
    refine hK _ _ (.inl (by kernel_rfl)) ?_
    have hsz : Maps.size (D.put (knL n) (fe Vq (Vo - 1))) ≤ N := by
      have hh : Maps.has D (knL n) = true := by rw [(hD n).1, HK.out.1]; rfl
      rw [size_put (hown.tidy lawF), hh]
      exact hown.size_le
    have hQ7 := hQ5.fset hD (hown.tidy lawF) (by rw [HM.out]; exact hown7) (by rw [HM.out]; exact hturn) hsz (Nat.le_refl _) ⟨HK.out.2.2.1, by omega, by have := HK.out.2.2.2; omega⟩
    have hF7 : Foot own W w7 := (Foot.of_below hS.below).grown hturn.grown (fun k hk _ => by cases hk; rw [← HM.out]; exact HQ.out.om)
    have HF := Lib.hid (And.intro hQ7 hF7)
    clear hK K hS hQ5 hown hD hrun hown7 hturn hsz hQ7 hF7 hcl
    refine wpAnyG_done (by kernel_rfl) ?_ _
    go_wp2
    go_ret
    exact ⟨rfl, ⟨rd, own, ⟨x, HF.out.1⟩, (fun i hi => .inl hi), (fun i hi => .inl hi)⟩, HF.out.2⟩
end Go.Proofs.Ytaoaapbbadipfaa
end
