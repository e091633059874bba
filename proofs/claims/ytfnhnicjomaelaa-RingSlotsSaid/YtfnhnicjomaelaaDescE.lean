/-
  The contract of desc.read: the descriptor that sixteen bytes tell. Conditions: the text has sixteen bytes.
-/
import Derived.Test.YtfnhnicjomaelaaDescD
namespace Go.Proofs.Ytfnhnicjomaelaa
open Go.ChangeShapes Go.WideShapes Go.ChangeAt Go.RowKit Go.Shelf
attribute [local go_sem] Oper.semAt_some

/-- numbers hands back the closure over its box -/
theorem numbers_p (s : ByteArray) (w : World) : Calls Try.prog 69 #[.string s] w fun e w' =>
    e = .returned (.func (.func 71) #[] #[.pointer (some ⟨w.heap.size, 0, none⟩)]) ∧ w.alloc (.cells #[.string s] 9) = w' := by
  go_enter Try.func69, Try.ntmps69
  go_wp2
  go_ret
  exact ⟨rfl, rfl⟩

theorem numbers_stops (n : Nat) (hn : 2 ≤ n) (Bs n₁ b : Nat) (s : ByteArray) (hs : Hid (s.size = 16)) (hsn : Bs < n₁) (hsb : Bs ≠ b) (w : World) (hw : n₁ ≤ w.heap.size) (bs : Boxed w Bs 9 (.string s)) :
    SeqStopsK Fence.wide n Try.prog 71 #[.pointer (some ⟨Bs, 0, none⟩)] encs (KeepsBut n₁ b) (fun ys => ys = elts s 4) (fun pre => ∃ k, k < 4 ∧ pre = elts s (k + 1)) 4 w := fun l J Jx W hW hJ _ hY h0 =>
  numbers1_in n hn l Bs n₁ b s hs hsn hsb J Jx hY W hJ ((hW.block Bs (by omega)).trans bs) h0

theorem Held.own {β : Type} (b : Nat) (t : TypeId) (f : β → Array Value) (B : Nat) : OwnFrom B (fun s W => Held W b t (f s)) := by
  intro s X Y row hs hg hr
  refine (hg.block b hs.lt (fun e => ?_)).trans hs
  obtain ⟨_, o, ho, hc⟩ := hr b e.symm
  rw [show X.heap[b]? = _ from hs] at ho
  cases ho
  cases hc

/-- one of the three numbers -/
def Three (p : Int × Int) : Prop := p.1 = 0 ∨ p.1 = 1 ∨ p.1 = 2
def stepN (t : Int × Int × Int) (p : Int × Int) : Int × Int × Int := if p.1 = 0 then (p.2, t.2.1, t.2.2) else if p.1 = 1 then (t.1, p.2, t.2.2) else (t.1, t.2.1, p.2)
def stN (pre : List (Int × Int)) : Int × Int × Int := pre.foldl stepN (0, 0, 0)
theorem stN_snoc (pre : List (Int × Int)) (x : Int × Int) : stN (pre ++ [x]) = stepN (stN pre) x := by simp [stN]
def cellsN (dn : Bool) (t : Int × Int × Int) : Array Value := #[.int .u32 t.1, .int .u32 t.2.1, .int .u32 t.2.2, .bool dn]
/-- between two rounds -/
def ReadI (dn : Bool) (w W0 : World) (pre : List (Int × Int)) (W : World) : Prop :=
  (∀ p ∈ pre, Three p) ∧ Held W w.heap.size 35 (cellsN false (0, 0, 0)) ∧ Held W (w.heap.size + 1) 35 (cellsN dn (stN pre)) ∧ Below w.heap.size w W ∧ W0.heap.size ≤ W.heap.size
/-- a round has left -/
def ReadX (dn : Bool) (w : World) (c : Code) (pre : List (Int × Int)) (W : World) : Prop :=
  c = .exit 0 ∧ ∃ q x, pre = q ++ [x] ∧ ¬ Three x ∧ (∀ p ∈ q, Three p) ∧ Held W w.heap.size 35 (cellsN false (0, 0, 0)) ∧ Held W (w.heap.size + 1) 35 (cellsN dn (stN q)) ∧ Below w.heap.size w W
theorem readI_own (dn : Bool) (w W0 : World) (hle : w.heap.size ≤ W0.heap.size) : OwnFrom W0.heap.size (ReadI dn w W0) :=
  fun s A B row hs hg hr => ⟨hs.1, Held.own _ _ (fun _ : Unit => cellsN false (0, 0, 0)) _ () A B row hs.2.1 hg hr, Held.own _ _ (fun pre => cellsN dn (stN pre)) _ s A B row hs.2.2.1 hg hr,
    ownFrom_below (β := Unit) (Nat.le_refl _) hle () A B row hs.2.2.2.1 hg hr, Nat.le_trans hs.2.2.2.2 hg.size⟩
theorem readX_own (dn : Bool) (w W0 : World) (hle : w.heap.size ≤ W0.heap.size) (c : Code) : OwnFrom W0.heap.size (ReadX dn w c) := by
  rintro s A B row ⟨hc, q, x, h1, h2, h3, h4, h5, h6⟩ hg hr
  exact ⟨hc, q, x, h1, h2, h3, Held.own _ _ (fun _ : Unit => cellsN false (0, 0, 0)) _ () A B row h4 hg hr, Held.own _ _ (fun _ : Unit => cellsN dn (stN q)) _ () A B row h5 hg hr,
    ownFrom_below (β := Unit) (Nat.le_refl _) hle () A B row h6 hg hr⟩
theorem keepsBut_set (n b j : Nat) (W : World) (v : Value) : KeepsBut n b W (W.setCell ⟨b, j, none⟩ v) := fun _ _ hne => Below.heap_setCell _ _ _ _ hne
theorem beq_two (x : UInt8) : ((x.toNat : Int) == 2) = (x == 2) := by
  rw [Bool.eq_iff_iff]
  simp only [beq_iff_eq]
  constructor
  · intro h
    apply UInt8.toNat_inj.1
    show x.toNat = 2
    omega
  · rintro rfl; rfl
theorem three_elts (s : ByteArray) : ¬ Three (elt s 3) := by simp [Three, elt]
theorem stN_elts (s : ByteArray) : stN (elts s 3) = (numAt s 0, numAt s 4, numAt s 8) := by simp [stN, elts, List.range, List.range.loop, elt, stepN]

set_option maxRecDepth 100000 in
set_option maxHeartbeats 2000000 in
theorem read_p (s : ByteArray) (hs : Hid (s.size = 16)) (w : World) :
    Calls Try.prog 62 #[.string s] w fun e w' => e = .returned (dv (numAt s 0) (numAt s 4) (numAt s 8) (byteAt s 12 == 2)) ∧ Below w.heap.size w w' := by
  have h12 : 12 < s.size := by rw [hs.out]; omega
  have e12 : s[12].toNat = (byteAt s 12).toNat := by rw [byteAt_get]
  obtain ⟨dn, hdn⟩ : ∃ dn, (((byteAt s 12).toNat : Int) == 2) = dn := ⟨_, rfl⟩
  refine (callsIn_wide (n := 6)).1 ?_
  refine callsIn_of_wp_marks Try.func62 rfl trivial ?_ rfl
  simp only [Try.ntmps62, List.size_toArray, List.length_cons, List.length_nil, Nat.reduceAdd, Nat.reduceSub, Array.replicate_succ, Array.replicate_zero, List.push_toArray, List.append_toArray, List.nil_append, List.cons_append]
  gi_wp2
  refine scope_in ?_
  gi_wp2_with (first
    | (refine ⟨trivial, ?_⟩; gi_at_call 69; refine (callsIn_wide.2 (numbers_p _ _)).mono ?_; rintro e w' ⟨rfl, rfl⟩))
  refine wpIn_label ?_
  gi_wp2_with (refine ⟨trivial, ?_⟩; gi_at_call 69; refine (callsIn_wide.2 (numbers_p _ _)).mono ?_; rintro e w' ⟨rfl, rfl⟩)
  obtain ⟨W0, hW0⟩ : ∃ W0, ((w.alloc (.cells #[.int .u32 0, .int .u32 0, .int .u32 0, .bool false] 35)).alloc (.cells #[.int .u32 0, .int .u32 0, .int .u32 0, .bool dn] 35)).alloc (.cells #[.string s] 9) = W0 := ⟨_, rfl⟩
  have hsz : W0.heap.size = w.heap.size + 1 + 1 + 1 := by rw [← hW0]; simp
  have bR : Held W0 w.heap.size 35 (cellsN false (0, 0, 0)) := by rw [← hW0]; exact ((Held.new w _ _).alloc _).alloc _
  have bD : Held W0 (w.heap.size + 1) 35 (cellsN dn (0, 0, 0)) := by
    rw [← hW0]
    have h := Held.new (w.alloc (.cells #[.int .u32 0, .int .u32 0, .int .u32 0, .bool false] 35)) 35 (cellsN dn (0, 0, 0))
    rw [World.size_alloc] at h
    exact h.alloc _
  have bS : Boxed W0 (w.heap.size + 1 + 1) 9 (.string s) := by
    rw [← hW0]
    have h := Boxed.new ((w.alloc (.cells #[.int .u32 0, .int .u32 0, .int .u32 0, .bool false] 35)).alloc (.cells #[.int .u32 0, .int .u32 0, .int .u32 0, .bool dn] 35)) 9 (.string s)
    rw [World.size_alloc, World.size_alloc] at h
    exact h
  have hB0 : Below w.heap.size w W0 := by rw [← hW0]; go_grown
  rw [hW0]
  clear hW0
  refine wpIn_rangeFunc_ownG (n := 6) (F := Fence.wide) rfl (by omega) (gf := 71) (lb := #[.pointer (some ⟨w.heap.size + 1 + 1, 0, none⟩)]) rfl trivial (enters_of Try.func71 (by kernel_rfl) rfl)
    (numbers_stops 5 (by omega) (w.heap.size + 1 + 1) W0.heap.size (w.heap.size + 1) s hs (by omega) (by omega) W0 (Nat.le_refl _) bS)
    (fun h k => h.trans k) (KeepsBut.put (Nat.le_refl _)) (Below.refl _ _) (fun _ => rfl)
    (ReadI dn w W0) (ReadX dn w) (readI_own dn w W0 (by omega)) (readX_own dn w W0 (by omega))
    ⟨by simp, bR, bD, hB0, Nat.le_refl _⟩
    (fun x => { tmps := #[.string s, undef, .pointer (some ⟨w.heap.size, 0, none⟩), .pointer (some ⟨w.heap.size + 1, 0, none⟩), .int .i64 x.1, .int .u32 x.2, .string s, .int .u8 ((byteAt s 12).toNat : Int), .bool dn,
          .agg #[.int .u32 0, .int .u32 0, .int .u32 0, .bool dn], .string s, .func (.func 71) #[] #[.pointer (some ⟨w.heap.size + 1 + 1, 0, none⟩)], .int .i64 x.1, .int .u32 x.2,
          undef, undef, undef, undef, undef, undef, undef, undef, undef, undef, undef, undef, undef, undef], defers := [] }) ?assign ?body ?done ?stop
  case assign =>
    intro l x W K hK
    gi_wp2
    exact hK
  case body =>
    rintro l pre x W ⟨hpre, hR, hD, hB, hsW⟩ hlt
    have f0 := hD.frozen 0
    have f1 := hD.frozen 1
    have f2 := hD.frozen 2
    have c0 := hD.cell 0
    have c1 := hD.cell 1
    have c2 := hD.cell 2
    simp only [cellsN, List.getElem?_toArray, List.getElem?_cons_zero, List.getElem?_cons_succ] at c0 c1 c2
    have hmore : ∀ p ∈ pre ++ [x], Three x → Three p := by
      intro p hp h3
      rcases List.mem_append.1 hp with h | h
      · exact hpre p h
      · simp at h; subst h; exact h3
    have HM := Lib.hid hmore
    have HP := Lib.hid hpre
    clear hmore hpre
    by_cases h0 : x.1 = 0
    · have b0 : (x.1 == 0) = true := by simpa using h0
      have E := Lib.hid (show stN (pre ++ [x]) = (x.2, (stN pre).2.1, (stN pre).2.2) by rw [stN_snoc]; simp [stepN, h0])
      gi_wp2
      refine ⟨(KeepsOthers.setCell _ _ _).from _, keepsBut_set _ _ _ _ _, fun p hp => HM.out p hp (.inl h0), hR.other (by omega) _ _, ?_, hB.setCell (by simp) _, Nat.le_trans hsW (by simp [World.setCell])⟩
      have hs2 := hD.set 0 (.int .u32 x.2)
      rw [E.out]
      exact hs2
    have b0 : (x.1 == 0) = false := by simpa using h0
    by_cases h1 : x.1 = 1
    · have b1 : (x.1 == 1) = true := by simpa using h1
      have E := Lib.hid (show stN (pre ++ [x]) = ((stN pre).1, x.2, (stN pre).2.2) by rw [stN_snoc]; simp [stepN, h1])
      gi_wp2
      refine ⟨(KeepsOthers.setCell _ _ _).from _, keepsBut_set _ _ _ _ _, fun p hp => HM.out p hp (.inr (.inl h1)), hR.other (by omega) _ _, ?_, hB.setCell (by simp) _, Nat.le_trans hsW (by simp [World.setCell])⟩
      have hs2 := hD.set 1 (.int .u32 x.2)
      rw [E.out]
      exact hs2
    have b1 : (x.1 == 1) = false := by simpa using h1
    by_cases h2 : x.1 = 2
    · have b2 : (x.1 == 2) = true := by simpa using h2
      have E := Lib.hid (show stN (pre ++ [x]) = ((stN pre).1, (stN pre).2.1, x.2) by rw [stN_snoc]; simp [stepN, h2])
      gi_wp2
      refine ⟨(KeepsOthers.setCell _ _ _).from _, keepsBut_set _ _ _ _ _, fun p hp => HM.out p hp (.inr (.inr h2)), hR.other (by omega) _ _, ?_, hB.setCell (by simp) _, Nat.le_trans hsW (by simp [World.setCell])⟩
      have hs2 := hD.set 2 (.int .u32 x.2)
      rw [E.out]
      exact hs2
    have b2 : (x.1 == 2) = false := by simpa using h2
    have h3 : ¬ Three x := by
      rintro (h | h | h)
      · exact h0 h
      · exact h1 h
      · exact h2 h
    gi_wp2
    exact ⟨KeepsFrom.refl _ _, rfl, pre, x, rfl, h3, HP.out, hR, hD, hB⟩
  case done =>
    rintro D ys W hD rfl ⟨hpre, _⟩ hK
    exact absurd (hpre (elt s 3) (List.mem_map.2 ⟨3, by simp, rfl⟩)) (three_elts s)
  case stop =>
    rintro D c pre W hD ⟨k, hk, rfl⟩ ⟨rfl, q, x, hq, hx, hpre, hR, hDd, hB⟩ hK
    rw [elts_succ] at hq
    obtain ⟨rfl, hx2⟩ := List.append_inj' hq rfl
    simp at hx2
    subst hx2
    obtain rfl : k = 3 := by
      rcases (show k = 0 ∨ k = 1 ∨ k = 2 ∨ k = 3 by omega) with rfl | rfl | rfl | rfl
      · exact absurd (.inl rfl) hx
      · exact absurd (.inr (.inl rfl)) hx
      · exact absurd (.inr (.inr rfl)) hx
      · rfl
    have r0 := hR.cell 0
    have r1 := hR.cell 1
    have r2 := hR.cell 2
    have r3 := hR.cell 3
    have q0 := hR.frozen 0
    have q1 := hR.frozen 1
    have q2 := hR.frozen 2
    have q3 := hR.frozen 3
    have d0 := hDd.cell 0
    have d1 := hDd.cell 1
    have d2 := hDd.cell 2
    have d3 := hDd.cell 3
    rw [stN_elts] at d0 d1 d2 d3
    simp only [cellsN, List.getElem?_toArray, List.getElem?_cons_zero, List.getElem?_cons_succ] at r0 r1 r2 r3 d0 d1 d2 d3
    gi_wp2
    obtain ⟨V, hV⟩ : ∃ V, ((((W.setCell ⟨w.heap.size, 0, none⟩ (.int .u32 (numAt s 0))).setCell ⟨w.heap.size, 1, none⟩ (.int .u32 (numAt s 4))).setCell ⟨w.heap.size, 2, none⟩ (.int .u32 (numAt s 8))).setCell ⟨w.heap.size, 3, none⟩ (.bool dn)) = V := ⟨_, rfl⟩
    rw [hV]
    have hne : D ≠ w.heap.size := by omega
    have hKV : V.heap[D]? = some (.deferred (some [])) := by
      rw [← hV, Below.heap_setCell _ _ _ _ hne, Below.heap_setCell _ _ _ _ hne, Below.heap_setCell _ _ _ _ hne, Below.heap_setCell _ _ _ _ hne]
      exact hK
    have hRV : Held V w.heap.size 35 (cellsN dn (numAt s 0, numAt s 4, numAt s 8)) := by
      rw [← hV]
      exact (((hR.set 0 _).set 1 _).set 2 _).set 3 _
    have hBV : Below w.heap.size w V := by
      rw [← hV]
      exact (((hB.setCell (by simp) _).setCell (by simp) _).setCell (by simp) _).setCell (by simp) _
    clear hV
    refine ⟨by simp, .inl ⟨_, _, rfl, run_takeDeferred hKV, ?_⟩⟩
    have hRP : Held (V.putObj D (.deferred none)) w.heap.size 35 (cellsN dn (numAt s 0, numAt s 4, numAt s 8)) := (World.putObj_heap_other (Ne.symm hne)).trans hRV
    have p0 := hRP.cell 0
    have p1 := hRP.cell 1
    have p2 := hRP.cell 2
    have p3 := hRP.cell 3
    simp only [cellsN, List.getElem?_toArray, List.getElem?_cons_zero, List.getElem?_cons_succ] at p0 p1 p2 p3
    have hd2 : dn = (byteAt s 12 == 2) := by rw [← hdn]; exact beq_two _
    refine ⟨dv (numAt s 0) (numAt s 4) (numAt s 8) dn, by simp [results, Try.results62, go_sem, p0, p1, p2, p3], by rw [hd2], hBV.trans (belowK_b (w := w) (Nat.le_refl _) V D _ _ (by omega) hKV rfl rfl)⟩
end Go.Proofs.Ytfnhnicjomaelaa
