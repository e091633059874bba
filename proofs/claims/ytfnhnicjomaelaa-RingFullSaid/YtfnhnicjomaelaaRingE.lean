/-
  The contract of ring's Slots. Conditions: those that each theorem names.
-/
import Derived.Test.YtfnhnicjomaelaaRingD
namespace Go.Proofs.Ytfnhnicjomaelaa
set_option linter.unusedSimpArgs false
set_option linter.unusedVariables false
open Go.ChangeShapes Go.WideShapes Go.ChangeAt Go.RowKit Go.Shelf
attribute [local go_sem] Oper.semAt_some

/-- around hands back the closure over its two boxes -/
theorem raround_p (p : Nat) (m : Int) (w : World) : Calls Try.prog 36 #[.pointer (some ⟨p, 0, none⟩), .int .u32 m] w fun e w' =>
    e = .returned (.func (.func 52) #[] #[.pointer (some ⟨w.heap.size + 1, 0, none⟩), .pointer (some ⟨w.heap.size, 0, none⟩)]) ∧ (w.alloc (.cells #[.pointer (some ⟨p, 0, none⟩)] 25)).alloc (.cells #[.int .u32 m] 61) = w' := by
  go_enter Try.func36, Try.ntmps36
  go_wp2
  go_ret
  exact ⟨rfl, rfl⟩

theorem infoStr : (Try.prog.info? 9).map (fun i => (i.zero, i.size, i.bytes)) = some (some (.string ⟨#[]⟩), 1, 16) := by kernel_rfl
/-- cells of n texts -/
def strCells (n : Nat) (c : Nat → ByteArray) : Array Value := ((List.range n).map fun k => Value.string (c k)).toArray
theorem made_str (n : Nat) : madeCells (Value.string ⟨#[]⟩).cells n = strCells n (fun _ => ⟨#[]⟩) := by
  apply Array.ext
  · simp [madeCells, strCells]
  · intro i h1 h2
    simp [madeCells, strCells, Value.cells, Nat.mod_one]
theorem make_str (W : World) (n : Nat) (hn : n ≤ 4096) : (Instr.makeSlice 41 (.int .i64 n) (.int .i64 n)).run Try.prog W = .ok (.slice (some ⟨W.heap.size, 0, none⟩) n n) (W.alloc (.cells (strCells n (fun _ => ⟨#[]⟩)) 9)) := by
  obtain ⟨i0, hi, hz0, hz1, hz2⟩ := info_parts infoStr
  have h := run_makeSlice (P := Try.prog) W 41 9 i0 _ Try.underlying41 hi hz0 .i64 .i64 n n (by omega) (by omega) (by rw [hz1]; omega) (by rw [hz2]; omega) (by omega)
  rw [hz1] at h
  simp only [Int.toNat_natCast, Nat.mul_one] at h
  rw [made_str] at h
  exact h

theorem rounds_far (n : Nat) (hn : 2 ≤ n) (Br Bf p q b : Nat) (r : RS) (hpb : p ≠ b) (hqb : q ≠ b) (hrb : Br ≠ b) (w : World) (hbw : b < w.heap.size)
    (h : RingP w p q r) (br : Boxed w Br 25 (.pointer (some ⟨p, 0, none⟩))) (bf : Boxed w Bf 61 (.int .u32 (r.mark r.c))) :
    SeqFar Fence.wide n Try.prog 52 #[.pointer (some ⟨Bf, 0, none⟩), .pointer (some ⟨Br, 0, none⟩)] (encK r) (KeepC b) (fun ys => ys = List.range r.n) (fun pre => ∃ k, k < r.n ∧ pre = List.range (k + 1)) r.n w := by
  intro l J Jx W hW hJ _ hY h0
  exact rounds_in n hn l Br Bf p q b r J Jx hpb hqb hrb W (Nat.lt_of_lt_of_le hbw hW.size) hJ hY (h.below hW) ((hW.block Br br.lt).trans br) ((hW.block Bf bf.lt).trans bf) h0

theorem strNone_yes {s : ByteArray} (h : s = ⟨#[]⟩) : s.toList.isEmpty = true := by subst h; rw [ByteArray.toList_eq]; rfl
theorem strNone_no {s : ByteArray} (h : s ≠ ⟨#[]⟩) : s.toList.isEmpty = false := by
  have g := strEq_no h
  rcases hl : s.toList with _ | ⟨a, l⟩
  · rw [hl] at g; simp at g
  · rfl
/-- the texts that have come by -/
def come (r : RS) (pre : List Nat) (m : Nat) : ByteArray := if pre.any (fun k => r.slot (r.c + k) == m) then r.cont m else ⟨#[]⟩
theorem come_snoc (r : RS) (pre : List Nat) (k : Nat) : strCells r.n (come r (pre ++ [k])) = (strCells r.n (come r pre)).setIfInBounds (r.slot (r.c + k)) (.string (r.cont (r.slot (r.c + k)))) := by
  apply Array.ext
  · simp [strCells]
  · intro i h1 h2
    have hi : i < r.n := by simpa [strCells] using h1
    rw [Array.getElem_setIfInBounds (by simpa [strCells] using hi)]
    by_cases he : r.slot (r.c + k) = i
    · subst he
      simp [strCells, come]
      done
    · simp [strCells, come, he]
theorem come_all {r : RS} (h : r.Ok) {k : Nat} (hk : r.ds.length ≤ r.c + k) : strCells r.n (come r (List.range k)) = strCells r.n r.cont := by
  apply Array.ext
  · simp [strCells]
  · intro i h1 h2
    simp only [strCells, List.getElem_toArray, List.getElem_map, List.getElem_range, come]
    congr 1
    split
    · rfl
    · rename_i hn
      rcases hw : r.who i with _ | j
      · simp [RS.cont, hw]
      · obtain ⟨g1, g2, g3⟩ := RS.who_spec hw
        exfalso
        apply hn
        rw [List.any_eq_true]
        exact ⟨j - r.c, by simp; omega, by rw [show r.c + (j - r.c) = j by omega, g3]; simp⟩
theorem empty_past {r : RS} (h : r.Ok) {k : Nat} (hk : k < r.n) (he : r.cont (r.slot (r.c + k)) = ⟨#[]⟩) : r.ds.length ≤ r.c + k := by
  rw [h.window hk] at he
  split at he
  · have := congrArg ByteArray.size he
    simp only [RS.byt, encS_size] at this
    cases this
  · omega

/-- between two rounds -/
def SlotsI (r : RS) (w W0 : World) (pre : List Nat) (W : World) : Prop :=
  Held W w.heap.size 9 (strCells r.n (come r pre)) ∧ Boxed W (w.heap.size + 1) 41 (.slice (some ⟨w.heap.size, 0, none⟩) r.n r.n) ∧ Below w.heap.size w W ∧ W0.heap.size ≤ W.heap.size
/-- a round has left -/
def SlotsX (r : RS) (w W0 : World) (c : Code) (pre : List Nat) (W : World) : Prop :=
  c = .exit 0 ∧ ∃ q x, pre = q ++ [x] ∧ r.cont (r.slot (r.c + x)) = ⟨#[]⟩ ∧ SlotsI r w W0 q W
theorem slotsI_far (r : RS) (w W0 : World) (hle : w.heap.size + 2 ≤ W0.heap.size) : FarFrom W0.heap.size (SlotsI r w W0) := fun s X Y hs hb =>
  ⟨hs.1.below hb (by omega), (hb.block _ (by omega)).trans hs.2.1, hs.2.2.1.trans (hb.mono (by omega)), Nat.le_trans hs.2.2.2 hb.size⟩
theorem slotsX_far (r : RS) (w W0 : World) (hle : w.heap.size + 2 ≤ W0.heap.size) (c : Code) : FarFrom W0.heap.size (SlotsX r w W0 c) := by
  rintro s X Y ⟨hc, q, x, h1, h2, h3⟩ hb
  exact ⟨hc, q, x, h1, h2, slotsI_far r w W0 hle _ _ _ h3 hb⟩

set_option maxRecDepth 100000 in
set_option maxHeartbeats 2000000 in
theorem slots_p (W : World) (p q : Nat) (r : RS) (h : RingP W p q r) :
    Calls Try.prog 19 #[.pointer (some ⟨p, 0, none⟩)] W fun e w' => ∃ b, e = .returned (.slice (some ⟨b, 0, none⟩) r.n r.n) ∧ Held w' b 9 (strCells r.n r.cont) ∧ W.heap.size ≤ b ∧ Below W.heap.size W w' := by
  obtain ⟨⟨c0, c1, c2, c3, c4, c5⟩, _⟩ := h.ring.ring
  obtain ⟨hp1, hp2⟩ := h.ok.pos
  have lp := h.ring.lt
  have lq := h.slots.lt
  have hmk := make_str W r.n hp2
  refine (callsIn_wide (n := 6)).1 ?_
  refine callsIn_of_wp_marks Try.func19 rfl trivial ?_ rfl
  simp only [Try.ntmps19, List.size_toArray, List.length_cons, List.length_nil, Nat.reduceAdd, Nat.reduceSub, Array.replicate_succ, Array.replicate_zero, List.push_toArray, List.append_toArray, List.nil_append, List.cons_append]
  gi_wp2
  refine scope_in ?_
  gi_wp2_with (first
    | (refine ⟨trivial, ?_⟩; gi_at_call 34; refine (callsIn_wide.2 (missing_p p q r.n hp1 _ c5)).mono ?_; rintro e w' ⟨rfl, rfl⟩)
    | (refine ⟨trivial, ?_⟩; gi_at_call 36; refine (callsIn_wide.2 (raround_p _ _ _)).mono ?_; rintro e w' ⟨rfl, rfl⟩))
  refine wpIn_label ?_
  gi_wp2_with (refine ⟨trivial, ?_⟩; gi_at_call 36; refine (callsIn_wide.2 (raround_p _ _ _)).mono ?_; rintro e w' ⟨rfl, rfl⟩)
  obtain ⟨W0, hW0⟩ : ∃ W0, ((((W.alloc (.cells (strCells r.n fun _ => ⟨#[]⟩) 9)).alloc (.cells #[.slice (some ⟨W.heap.size, 0, none⟩) r.n r.n] 41)).alloc (.cells #[.pointer (some ⟨p, 0, none⟩)] 25)).alloc (.cells #[.int .u32 (r.mark r.c)] 61)) = W0 := ⟨_, rfl⟩
  have hsz : W0.heap.size = W.heap.size + 1 + 1 + 1 + 1 := by rw [← hW0]; simp
  have h0 : RingP W0 p q r := by rw [← hW0]; exact (((h.alloc _).alloc _).alloc _).alloc _
  have bS : Held W0 W.heap.size 9 (strCells r.n (come r [])) := by
    rw [← hW0]
    exact (((Held.new W _ _).alloc _).alloc _).alloc _
  have bT : Boxed W0 (W.heap.size + 1) 41 (.slice (some ⟨W.heap.size, 0, none⟩) r.n r.n) := by
    rw [← hW0]
    have e := Boxed.new (W.alloc (.cells (strCells r.n fun _ => ⟨#[]⟩) 9)) 41 (.slice (some ⟨W.heap.size, 0, none⟩) r.n r.n)
    rw [World.size_alloc] at e
    exact (e.alloc _).alloc _
  have bR : Boxed W0 (W.heap.size + 1 + 1) 25 (.pointer (some ⟨p, 0, none⟩)) := by
    rw [← hW0]
    have e := Boxed.new ((W.alloc (.cells (strCells r.n fun _ => ⟨#[]⟩) 9)).alloc (.cells #[.slice (some ⟨W.heap.size, 0, none⟩) r.n r.n] 41)) 25 (.pointer (some ⟨p, 0, none⟩))
    rw [World.size_alloc, World.size_alloc] at e
    exact e.alloc _
  have bF : Boxed W0 (W.heap.size + 1 + 1 + 1) 61 (.int .u32 (r.mark r.c)) := by
    rw [← hW0]
    have e := Boxed.new (((W.alloc (.cells (strCells r.n fun _ => ⟨#[]⟩) 9)).alloc (.cells #[.slice (some ⟨W.heap.size, 0, none⟩) r.n r.n] 41)).alloc (.cells #[.pointer (some ⟨p, 0, none⟩)] 25)) 61 (.int .u32 (r.mark r.c))
    rw [World.size_alloc, World.size_alloc, World.size_alloc] at e
    exact e
  have hB0 : Below W.heap.size W W0 := by rw [← hW0]; go_grown
  rw [hW0]
  clear hW0 hmk c0 c1 c2 c3 c4 c5
  refine wpIn_rangeFar (n := 6) (F := Fence.wide) rfl (by omega) (gf := 52) (lb := #[.pointer (some ⟨W.heap.size + 1 + 1 + 1, 0, none⟩), .pointer (some ⟨W.heap.size + 1 + 1, 0, none⟩)]) rfl trivial (enters_of Try.func52 (by kernel_rfl) rfl)
    (rounds_far 5 (by omega) (W.heap.size + 1 + 1) (W.heap.size + 1 + 1 + 1) p q W.heap.size r (by omega) (by omega) (by omega) W0 (by omega) h0 bR bF)
    (fun h k => h.trans k) (fun W l o o' _ hl ho _ => KeepC.put W l o o' hl ho) (fun _ => rfl)
    (SlotsI r W W0) (SlotsX r W W0) (slotsI_far r W W0 (by omega)) (slotsX_far r W W0 (by omega))
    ⟨bS, bT, hB0, Nat.le_refl _⟩
    (fun k => { tmps := #[.pointer (some ⟨p, 0, none⟩), undef, .slice none 0 0, .pointer (some ⟨W.heap.size + 1, 0, none⟩), .int .i64 (r.mark (r.c + k) % r.n), .string (r.cont (r.slot (r.c + k))),
          .pointer (some ⟨p, 0, none⟩), .bool false, .pointer (some ⟨p, 0, none⟩), .pointer (some ⟨p, 0, none⟩), .pointer (some ⟨p, 5, none⟩), .slice (some ⟨q, 0, none⟩) r.n r.n, .int .i64 r.n, .slice (some ⟨W.heap.size, 0, none⟩) r.n r.n,
          .pointer (some ⟨p, 0, none⟩), .pointer (some ⟨p, 0, none⟩), .pointer (some ⟨p, 0, none⟩), .pointer (some ⟨p, 0, none⟩), .pointer (some ⟨p, 0, none⟩), .int .u32 (r.mark r.c),
          .func (.func 52) #[] #[.pointer (some ⟨W.heap.size + 1 + 1 + 1, 0, none⟩), .pointer (some ⟨W.heap.size + 1 + 1, 0, none⟩)],
          .int .i64 (r.mark (r.c + k) % r.n), .string (r.cont (r.slot (r.c + k))), undef, undef, undef, undef, undef, undef, undef], defers := [] }) ?assign ?body ?done ?stop
  case assign =>
    intro l x V K hK
    gi_wp2
    exact hK
  case body =>
    rintro l pre x V ⟨hS, hT, hB, hsV⟩ hlt
    have cT := hT.cell
    have i0 := Int.emod_nonneg (r.mark (r.c + x)) (b := (r.n : Int)) (by omega)
    have i1 := Int.emod_lt_of_pos (r.mark (r.c + x)) (b := (r.n : Int)) (by omega)
    have hsl := h.ok.slot_lt (r.c + x)
    have cS : V.cell? ⟨W.heap.size, (r.mark (r.c + x) % (r.n : Int)).toNat, none⟩ = some (.string (come r pre (r.slot (r.c + x)))) := by
      refine (hS.cell (r.slot (r.c + x))).trans ?_
      simp [strCells, hsl]
    have fS : V.frozen? ⟨W.heap.size, (r.mark (r.c + x) % (r.n : Int)).toNat, none⟩ = false := hS.frozen _
    by_cases he : r.cont (r.slot (r.c + x)) = ⟨#[]⟩
    · have g1 := strNone_yes he
      have HE := Lib.hid he
      clear he
      gi_wp2
      exact ⟨KeepsFrom.refl _ _, rfl, pre, x, rfl, HE.out, hS, hT, hB, hsV⟩
    · have g1 := strNone_no he
      clear he
      gi_wp2
      refine ⟨(KeepsOthers.setCell _ _ _).from _, fun k o hk _ hne => (Below.heap_setCell _ _ _ _ hne).trans hk, ?_, (Below.heap_setCell _ _ _ _ (by simp)).trans hT, hB.setCell (by simp) _, by simpa [World.setCell] using hsV⟩
      rw [come_snoc]
      exact hS.set _ _
  case done =>
    rintro D ys V hD rfl ⟨hS, hT, hB, hsV⟩ hK
    rw [come_all h.ok h.ok.room] at hS
    have cT := hT.cell
    gi_wp2
    refine ⟨by simp, .inl ⟨_, _, rfl, run_takeDeferred hK, ?_⟩⟩
    exact ⟨.slice (some ⟨W.heap.size, 0, none⟩) r.n r.n, by simp [results, Try.results19], W.heap.size, rfl, (World.putObj_heap_other (by omega)).trans hS, Nat.le_refl _, hB.trans (below_put (by omega) V _)⟩
  case stop =>
    rintro D c pre V hD ⟨k, hk, rfl⟩ ⟨rfl, q', x, hq, hx, hS, hT, hB, hsV⟩ hK
    rw [List.range_succ] at hq
    obtain ⟨rfl, hx2⟩ := List.append_inj' hq rfl
    simp at hx2
    subst hx2
    rw [come_all h.ok (empty_past h.ok hk hx)] at hS
    have cT := hT.cell
    gi_wp2
    refine ⟨by simp, .inl ⟨_, _, rfl, run_takeDeferred hK, ?_⟩⟩
    exact ⟨.slice (some ⟨W.heap.size, 0, none⟩) r.n r.n, by simp [results, Try.results19], W.heap.size, rfl, (World.putObj_heap_other (by omega)).trans hS, Nat.le_refl _, hB.trans (below_put (by omega) V _)⟩
end Go.Proofs.Ytfnhnicjomaelaa
