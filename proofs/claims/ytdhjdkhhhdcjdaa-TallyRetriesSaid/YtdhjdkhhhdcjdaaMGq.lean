/-
  The program's numbers: where they lie, made or not; zeros. Conditions: none. The program's between, areSizes, permitted, missing; a number at an index. Conditions: the numbers lie where their pointer says. Where the program's cells lie; a cell, a lock, a count of them. Conditions: the cells lie where their pointer says.
-/
import Derived.Test.YtdhjdkhhhdcjdaaMGp
import Derived.Test.YtdhjdkhhhdcjdaaMGo
/- The program's numbers: where they lie, made or not; zeros. Conditions: none. -/
section
namespace Go.Proofs.Ytdhjdkhhhdcjdaa.Ce
set_option linter.unusedSimpArgs false
set_option linter.unusedVariables false
set_option maxRecDepth 100000
open Go.ChangeShapes Go.WideShapes Go.ChangeAt Go.RowKit

/-- numbers that nothing has been asked of -/
structure NNew (W : World) (own : Nat → Prop) (b : Nat) (l : List Int) : Prop where
  box : Held W b 114 #[.int .i64 l.length, .int .u32 0, .int .i32 0, .int .u32 0, .slice none 0 0]
  zero : l = List.replicate l.length 0
  own : ∀ i, own i ↔ i = b
  le : l.length ≤ 1000
/-- numbers that are made -/
structure NMade (W : World) (own : Nat → Prop) (b d : Nat) (l : List Int) : Prop where
  box : Held W b 114 #[.int .i64 l.length, .int .u32 1, .int .i32 0, .int .u32 0, sl d l]
  row : ∃ t, Held W d t (ints l)
  ne : b ≠ d
  own : ∀ i, own i ↔ i = b ∨ i = d
  le : l.length ≤ 1000
def NAt (W : World) (own : Nat → Prop) (b : Nat) (l : List Int) : Prop := NNew W own b l ∨ ∃ d, NMade W own b d l
section
variable {W W' : World} {own : Nat → Prop} {b d : Nat} {l : List Int}
theorem NNew.on (h : NNew W own b l) (hs : ∀ i, own i → W'.heap[i]? = W.heap[i]?) : NNew W' own b l := { h with box := (hs b ((h.own b).2 rfl)).trans h.box }
theorem NMade.on (h : NMade W own b d l) (hs : ∀ i, own i → W'.heap[i]? = W.heap[i]?) : NMade W' own b d l := by
  obtain ⟨t, ht⟩ := h.row
  exact { h with box := (hs b ((h.own b).2 (.inl rfl))).trans h.box, row := ⟨t, (hs d ((h.own d).2 (.inr rfl))).trans ht⟩ }
theorem NAt.on (h : NAt W own b l) (hs : ∀ i, own i → W'.heap[i]? = W.heap[i]?) : NAt W' own b l := by
  rcases h with h | ⟨d, h⟩
  · exact .inl (h.on hs)
  · exact .inr ⟨d, h.on hs⟩
theorem NMade.lt (h : NMade W own b d l) (i : Nat) (hi : own i) : i < W.heap.size := by
  obtain ⟨t, ht⟩ := h.row
  rcases (h.own i).1 hi with rfl | rfl
  · exact h.box.lt
  · exact ht.lt
theorem NAt.lt (h : NAt W own b l) (i : Nat) (hi : own i) : i < W.heap.size := by
  rcases h with h | ⟨d, h⟩
  · rw [(h.own i).1 hi]
    exact h.box.lt
  · exact h.lt i hi
theorem NAt.mine (h : NAt W own b l) : own b := by
  rcases h with h | ⟨d, h⟩
  · exact (h.own b).2 rfl
  · exact (h.own b).2 (.inl rfl)
theorem NAt.len (h : NAt W own b l) : W.cell? ⟨b, 0, none⟩ = some (.int .i64 l.length) := by
  rcases h with h | ⟨d, h⟩
  · exact h.box.cell 0
  · exact h.box.cell 0
theorem NAt.le (h : NAt W own b l) : l.length ≤ 1000 := by
  rcases h with h | ⟨d, h⟩
  · exact h.le
  · exact h.le
end
/-- zeros gives a box -/
def GivesN (W : World) (n : Nat) (e : Ending) (w' : World) : Prop := ∃ b, e = .returned (.pointer (some ⟨b, 0, none⟩)) ∧ Mem W w' [(b, 114, #[.int .i64 n, .int .u32 0, .int .i32 0, .int .u32 0, .slice none 0 0])]
theorem zeros_p (n : Nat) (W : World) : Calls Try.prog 48 #[.int .i64 n] W (GivesN W n) := by
  have H := Mem.start W
  go_enter Try.func48, Try.ntmps48
  go_wp2
  go_ret
  exact ⟨_, rfl, H.alloc _ _⟩
theorem all_made (W : World) (own : Nat → Prop) (b d : Nat) (l : List Int) (h : NMade W own b d l) : Calls Try.prog 69 #[.pointer (some ⟨b, 0, none⟩)] W fun e w' => e = .returned (sl d l) ∧ Below W.heap.size W w' := by
  have H := Mem.start W
  have hb := h.box.lt
  have k1 := fun F cap w (hw : Below W.heap.size W w) => once_done ⟨b, 1, none⟩ 1 (by omega) (.func (.func F) #[] cap) w ((h.box.below hw hb).cell 1)
  have c4 := h.box.cell 4
  simp only [List.getElem?_toArray, List.getElem?_cons_zero, List.getElem?_cons_succ] at c4
  clear h
  go_enter Try.func69, Try.ntmps69
  go_wp2_with (first
    | go_skip
    | ((with_reducible show wpList _ _ _ _ _ (World.alloc _ (.cells _ _))); refine mem_newb H ?_; intro bp w3 hbk H2; try rw [← hbk]; clear hbk H; have H := H2; clear H2; simp only [List.cons_append, List.nil_append, List.set_cons_zero, List.set_cons_succ, List.setIfInBounds_toArray] at H)
    | ((with_reducible show wpList _ _ _ (⟨_, .load 89 _, _, _, _, _⟩ :: _) _ _); refine mem_loadf (i := 0) H (by first | exact wanted_none rfl | exact wanted_some rfl rfl rfl rfl) (by exact rfl) (by exact rfl) (by exact rfl) (by first | exact Try.underlying89 | exact Try.underlying3 | exact Try.underlying112) rfl (by exact rfl) ?_)
    | (go_at_call 70; refine (k1 _ _ _ H.below).mono ?_; rintro e w2 ⟨rfl, rfl⟩)
    | ((with_reducible show wpList _ _ _ (⟨_, .load 112 _, _, _, _, _⟩ :: _) _ _); refine mem_loado H c4 hb (by first | exact wanted_none rfl | exact wanted_some rfl rfl rfl rfl) (by exact rfl) (by exact rfl) (by first | exact Try.underlying89 | exact Try.underlying3 | exact Try.underlying112) rfl ?_))
  go_ret
  exact ⟨rfl, H.below⟩
theorem infoN : (Try.prog.info? 125).map (fun i => (i.zero, i.size, i.bytes)) = some (some (.agg #[.int .i64 0]), 1, 8) := by kernel_rfl
theorem made_nums (n : Nat) : madeCells (Value.agg #[.int .i64 0]).cells n = ints (List.replicate n 0) := by
  rw [ints_zero]
  apply Array.ext
  · simp [madeCells, Value.cells]
  · intro i h1 h2
    simp [madeCells, Value.cells, Nat.mod_one]
theorem make_num (W : World) (n : Nat) (hn : n ≤ 4096) : (Instr.makeSlice 112 (.int .i64 n) (.int .i64 n)).run Try.prog W = .ok (.slice (some ⟨W.heap.size, 0, none⟩) n n) (W.alloc (.cells (ints (List.replicate n 0)) 125)) := by
  obtain ⟨i0, hi, hz0, hz1, hz2⟩ := info_parts infoN
  have h := run_makeSlice (P := Try.prog) W 112 125 i0 _ Try.underlying112 hi hz0 .i64 .i64 n n (by omega) (by omega) (by rw [hz1]; omega) (by rw [hz2]; omega) (by omega)
  rw [hz1] at h
  simp only [Int.toNat_natCast, Nat.mul_one] at h
  rw [made_nums] at h
  exact h
/-- the closure makes them -/
def MakesN (w : World) (b n : Nat) (x1 x2 x3 : Value) (e : Ending) (w' : World) : Prop :=
  e = .returned (.tuple #[]) ∧ ∃ d, w.heap.size ≤ d ∧ Held w' b 114 #[.int .i64 n, x1, x2, x3, .slice (some ⟨d, 0, none⟩) n n] ∧ Held w' d 125 (ints (List.replicate n 0)) ∧ Foot (· = b) w w'
theorem all_fn (w : World) (bp b n : Nat) (t : TypeId) (x1 x2 x3 x4 : Value) (hne : bp ≠ b) (g : Held w bp t #[.pointer (some ⟨b, 0, none⟩)]) (h : Held w b 114 #[.int .i64 n, x1, x2, x3, x4]) (hn : n ≤ 1000) : Calls Try.prog 71 #[.pointer (some ⟨bp, 0, none⟩)] w (MakesN w b n x1 x2 x3) := by
  have cp : w.cell? ⟨bp, 0, none⟩ = some (.pointer (some ⟨b, 0, none⟩)) := g.cell 0
  have cn : w.cell? ⟨b, 0, none⟩ = some (.int .i64 n) := h.cell 0
  have hm := fun W => make_num W n (by omega)
  have c4 : w.cell? ⟨b, 4, none⟩ = some x4 := h.cell 4
  have z4 : w.frozen? ⟨b, 4, none⟩ = false := h.frozen 4
  have hlt := h.lt
  have glt := g.lt
  have H := Lib.hid h
  clear h g
  go_enter Try.func71, Try.ntmps71
  go_region
  go_end0
  have hn := Held.new (w.setCell ⟨b, 4, none⟩ (.slice (some ⟨w.heap.size, 0, none⟩) n n)) 125 (ints (List.replicate n 0))
  rw [World.size_setCell] at hn
  exact ⟨rfl, w.heap.size, Nat.le_refl _, ((H.out.set 4 _).alloc _).drew, hn.drew, (((Foot.refl (· = b) w).setCell (fun _ => rfl) _).alloc _).drew⟩
/-- all of them, the first time -/
def GivesAll (W : World) (b : Nat) (l : List Int) (e : Ending) (w' : World) : Prop :=
  ∃ d, e = .returned (sl d l) ∧ NMade w' (fun i => i = b ∨ i = d) b d l ∧ W.heap.size ≤ d ∧ Foot (· = b) W w'
theorem all_new (W : World) (own : Nat → Prop) (b : Nat) (l : List Int) (h : NNew W own b l) : Calls Try.prog 69 #[.pointer (some ⟨b, 0, none⟩)] W (GivesAll W b l) := by
  have H := Mem.start W
  have hb := h.box.lt
  have hle := h.le
  have HZ := Lib.hid h.zero
  obtain ⟨n, hn⟩ : ∃ n, l.length = n := ⟨_, rfl⟩
  have HN := Lib.hid hn
  have g := h.box
  rw [hn] at g hle
  have G := Lib.hid g
  have k1 := fun bp w (hw : Mem W w [(bp, 89, #[.pointer (some ⟨b, 0, none⟩)])]) => once_first b 1 71 #[.pointer (some ⟨bp, 0, none⟩)] (fun _ => rfl)
    (fun V => ∃ d, w.heap.size ≤ d ∧ Held V b 114 #[.int .i64 n, .int .u32 0, .int .i32 1, .int .u32 0, .slice (some ⟨d, 0, none⟩) n n] ∧ Held V d 125 (ints (List.replicate n 0)) ∧ Foot (· = b) w V) w
    ((g.below hw.below hb).cell 1) ((g.below hw.below hb).cell 2) ((g.below hw.below hb).frozen 1) ((g.below hw.below hb).frozen 2)
    ((all_fn (w.setCell ⟨b, 2, none⟩ (.int .i32 1)) bp b n 89 (.int .u32 0) (.int .i32 1) (.int .u32 0) (.slice none 0 0)
      (by have := (hw.held _ List.mem_cons_self).1; omega) ((hw.at 0 rfl).other (by have := (hw.held _ List.mem_cons_self).1; omega) _ _) ((g.below hw.below hb).set 2 _) hle).mono (fun e V hV => ⟨hV.1, by
        obtain ⟨_, d, h1, h2, h3, h4⟩ := hV
        rw [World.size_setCell] at h1
        exact ⟨d, h1, h2, h3, (Foot.cell w ⟨b, 2, none⟩ _).trans' h4⟩⟩))
    (fun V ⟨d, _, h2, _, _⟩ => ⟨h2.cell 1, h2.cell 2, h2.frozen 1, h2.frozen 2⟩)
  clear h g hn
  go_enter Try.func69, Try.ntmps69
  go_upto_region 2 with (first
    | ((with_reducible show wpList _ _ _ _ _ (World.alloc _ (.cells _ _))); refine mem_newb H ?_; intro bp w3 hbk H2; try rw [← hbk]; clear hbk H; have H := H2; clear H2; simp only [List.cons_append, List.nil_append, List.set_cons_zero, List.set_cons_succ, List.setIfInBounds_toArray] at H)
    | ((with_reducible show wpList _ _ _ (⟨_, .load 89 _, _, _, _, _⟩ :: _) _ _); refine mem_loadf (i := 0) H (by first | exact wanted_none rfl | exact wanted_some rfl rfl rfl rfl) (by exact rfl) (by exact rfl) (by exact rfl) (by first | exact Try.underlying89 | exact Try.underlying3 | exact Try.underlying112) rfl (by exact rfl) ?_)
    | (go_at_call 70; refine (k1 _ _ H).mono ?_; rintro e w2 ⟨rfl, V, ⟨d, hd, hV, hr, hf⟩, rfl⟩))
  have hbp := (H.held _ List.mem_cons_self).1
  have hdb : d ≠ b := by have := H.below.size; omega
  have hpb : bp ≠ b := fun e => by have : W.heap.size ≤ bp := hbp; omega
  have q1 := (((H.at 0 rfl).foot hf hpb).other hpb 1 (.int .u32 1)).other hpb 2 (.int .i32 0)
  have q2 := (hV.set 1 (.int .u32 1)).set 2 (.int .i32 0)
  have q3 := (hr.other hdb 1 (.int .u32 1)).other hdb 2 (.int .i32 0)
  have q4 := (((Foot.of_below H.below).trans' hf).setCell (p := ⟨b, 1, none⟩) (fun _ => rfl) (.int .u32 1)).setCell (p := ⟨b, 2, none⟩) (fun _ => rfl) (.int .i32 0)
  have q1 := q1.drew
  have q2 := q2.drew
  have q3 := q3.drew
  have q4 := q4.drew
  have hd2 : W.heap.size ≤ d := Nat.le_trans H.below.size hd
  clear H hV hr hf k1 hd hbp
  obtain ⟨V2, hV2⟩ : ∃ V2, ((V.setCell ⟨b, 1, none⟩ (.int .u32 1)).setCell ⟨b, 2, none⟩ (.int .i32 0)).drew = V2 := ⟨_, rfl⟩
  rw [hV2] at q1 q2 q3 q4 ⊢
  have c0 : V2.cell? ⟨bp, 0, none⟩ = some (.pointer (some ⟨b, 0, none⟩)) := q1.cell 0
  have c4 : V2.cell? ⟨b, 4, none⟩ = some (.slice (some ⟨d, 0, none⟩) n n) := q2.cell 4
  have Q := Lib.hid (And.intro q2 (And.intro q3 q4))
  clear hV2 q1 q2 q3 q4
  go_wp2
  go_ret
  have hl := HZ.out
  rw [HN.out] at hl
  refine ⟨d, by rw [sl, HN.out]; rfl, ⟨by rw [sl, HN.out]; exact Q.out.1, ⟨_, by rw [hl]; exact Q.out.2.1⟩, Ne.symm hdb, fun i => Iff.rfl, by rw [HN.out]; exact hle⟩, hd2, Q.out.2.2⟩
/-- what all of them are, whether they were made or not; what is owned before may be written -/
def GotAll (W : World) (own : Nat → Prop) (b : Nat) (l : List Int) (e : Ending) (w' : World) : Prop :=
  ∃ d own', e = .returned (sl d l) ∧ NMade w' own' b d l ∧ (∀ i, own' i → own i ∨ W.heap.size ≤ i) ∧ Foot own W w'
theorem all_d (W : World) (own : Nat → Prop) (b : Nat) (l : List Int) (h : NAt W own b l) : Calls Try.prog 69 #[.pointer (some ⟨b, 0, none⟩)] W (GotAll W own b l) := by
  rcases h with h | ⟨d, h⟩
  · refine (all_new W own b l h).mono ?_
    rintro e w' ⟨d, rfl, hm, hd, hf⟩
    refine ⟨d, _, rfl, hm, fun i hi => ?_, hf.mono fun i _ hi => (h.own i).2 hi⟩
    rcases hi with rfl | rfl
    · exact .inl ((h.own _).2 rfl)
    · exact .inr hd
  · refine (all_made W own b d l h).mono ?_
    rintro e w' ⟨rfl, hb⟩
    exact ⟨d, own, rfl, h.on fun i hi => hb.block i (h.lt i hi), fun i hi => .inl hi, Foot.of_below hb⟩
end Go.Proofs.Ytdhjdkhhhdcjdaa.Ce
end
/- The program's between, areSizes, permitted, missing; a number at an index. Conditions: the numbers lie where their pointer says. -/
section
namespace Go.Proofs.Ytdhjdkhhhdcjdaa.Ce
set_option linter.unusedSimpArgs false
set_option linter.unusedVariables false
set_option maxRecDepth 100000
open Go.ChangeShapes Go.WideShapes Go.ChangeAt Go.RowKit

theorem between_p (b : Nat) (t : TypeId) (l : List Int) (lo hi : Int) (hn : l.length ≤ 1000) (W : World) (h : Held W b t (ints l)) : Calls Try.prog 57 #[.int .i64 lo, .int .i64 hi, .slice (some ⟨b, 0, none⟩) l.length l.length] W fun e w' => e = .returned (.bool (l.all fun x => decide (lo ≤ x) && decide (x ≤ hi))) ∧ w' = W := by
  have HH := Lib.hid h
  obtain ⟨n, hn0⟩ : ∃ n, l.length = n := ⟨_, rfl⟩
  rw [hn0] at hn ⊢
  have HN := Lib.hid hn0
  clear h hn0
  go_enter Try.func57, Try.ntmps57
  go_wp2
  go_loopw [11] (fun i wr => ∃ k : Nat, k ≤ n ∧ i = .int .i64 k ∧ wr = W ∧ Hid ((l.take k).all (fun x => decide (lo ≤ x) && decide (x ≤ hi)) = true)) (fun i _ => n - (intOf i).toNat)
  case atStart => exact ⟨0, Nat.zero_le _, rfl, rfl, Lib.hid (by simp)⟩
  case round =>
    obtain ⟨k, hk, rfl, rfl, HA⟩ := hrel
    by_cases hlt : (k : Int) < (n : Int)
    · obtain ⟨y, hy⟩ : ∃ y, l[k]? = some y := ⟨l[k]'(by have := HN.out; omega), List.getElem?_eq_getElem _⟩
      have g0 := Held.num HH.out hy
      have HY := Lib.hid hy
      have hlt2 : k < n := by omega
      clear hy
      by_cases h1 : y < lo
      · go_wp2
        go_ret
        refine ⟨?_, rfl⟩
        have : l.all (fun x => decide (lo ≤ x) && decide (x ≤ hi)) = false := List.all_eq_false.2 ⟨y, List.mem_of_getElem? HY.out, by simp; omega⟩
        rw [this]
        rfl
      · by_cases h2 : y > hi
        · go_wp2
          go_ret
          refine ⟨?_, rfl⟩
          have : l.all (fun x => decide (lo ≤ x) && decide (x ≤ hi)) = false := List.all_eq_false.2 ⟨y, List.mem_of_getElem? HY.out, by simp; omega⟩
          rw [this]
          rfl
        · go_wp2
          go_roundw
          case rel => exact ⟨k + 1, by omega, by go_num, by simp, Lib.hid (by rw [List.take_add_one, HY.out, List.all_append, HA.out]; simp; exact ⟨by omega, by omega⟩)⟩
          case measure => simp [intOf]; omega
    · obtain rfl : k = n := by omega
      have HA2 : l.all (fun x => decide (lo ≤ x) && decide (x ≤ hi)) = true := by have := HA.out; rwa [List.take_of_length_le (by have := HN.out; omega)] at this
      have HA3 := Lib.hid HA2
      clear HA2
      go_wp2
      go_ret
      exact ⟨by rw [HA3.out]; rfl, rfl⟩
theorem areSizes_p (b : Nat) (t : TypeId) (l : List Int) (r : Bool) (hn : l.length ≤ 1000) (W : World) (h : Held W b t (ints l)) (hr : l.all (fun x => decide (0 ≤ x) && decide (x ≤ 1000)) = r) : Calls Try.prog 47 #[.slice (some ⟨b, 0, none⟩) l.length l.length] W fun e w' => e = .returned (.bool r) ∧ w' = W := by
  have k1 := between_p b t l 0 1000 hn W h
  rw [hr] at k1
  clear hr h hn
  go_enter Try.func47, Try.ntmps47
  go_wp2_with (first
    | go_skip
    | (go_at_call 57; refine (k1).mono ?_; rintro e w2 ⟨rfl, rfl⟩))
  go_ret
  exact ⟨rfl, rfl⟩
theorem missing_nil (W : World) : Calls Try.prog 64 #[.pointer none] W fun e w' => e = .returned (.bool true) ∧ w' = W := by
  go_enter Try.func64, Try.ntmps64
  go_wp2
  go_ret
  exact ⟨rfl, rfl⟩
theorem missing_no (p q : Nat) (W : World) (hc : W.cell? ⟨p, 0, none⟩ = some (.pointer (some ⟨q, 0, none⟩))) : Calls Try.prog 64 #[.pointer (some ⟨p, 0, none⟩)] W fun e w' => e = .returned (.bool false) ∧ w' = W := by
  go_enter Try.func64, Try.ntmps64
  go_wp2
  go_ret
  exact ⟨rfl, rfl⟩
theorem at_no (W : World) (own : Nat → Prop) (b : Nat) (l : List Int) (i : Int) (h : NAt W own b l) (hh : has l i = false) : Calls Try.prog 65 #[.pointer (some ⟨b, 0, none⟩), .int .i64 i] W fun e w' => e = .returned (.tuple #[.pointer none, .int .i64 2]) ∧ Below W.heap.size W w' := by
  have H := Mem.start W
  have hle := h.le
  have c0 := h.len
  obtain ⟨n, hn⟩ : ∃ n, l.length = n := ⟨_, rfl⟩
  have hk : ([i] : List Int).all (fun x => decide (0 ≤ x) && decide (x ≤ (n : Int) - 1)) = false := by
    rw [has, hn] at hh
    have e : decide (i ≤ (n : Int) - 1) = decide (i < (n : Int)) := by simp; omega
    simpa [e] using hh
  rw [hn] at c0 hle
  have kw := fun W b t h => between_p b t [i] 0 ((n : Int) - 1) (by simp) W h
  rw [hk] at kw
  have w1 : IntKind.i64.wrap ((n : Int) - 1) = (n : Int) - 1 := wrap_id (by omega) (by omega)
  have hnot : ∀ (x : Bool) (w : World), (Op.unary .not (.bool x)).run Try.prog w = .ok (.bool (!x)) w := fun _ _ => rfl
  clear h hh hk hn
  go_enter Try.func65, Try.ntmps65
  go_wp2_with (first
    | go_skip
    | (go_at_call 57; refine (kw _ _ _ (Held.new W _ _)).mono ?_; rintro e w2 ⟨rfl, rfl⟩))
  refine bodyPost_ret (results_two rfl _ _ _) rfl ?_
  exact ⟨rfl, H.below.alloc (Nat.le_refl _) _⟩
/-- where a number lies -/
def GotAt (W : World) (own : Nat → Prop) (b : Nat) (l : List Int) (k : Nat) (e : Ending) (w' : World) : Prop :=
  ∃ d own', e = .returned (.tuple #[.pointer (some ⟨d, k, none⟩), .int .i64 0]) ∧ NMade w' own' b d l ∧ (∀ i, own' i → own i ∨ W.heap.size ≤ i) ∧ Foot own W w'
theorem at_yes (W : World) (own : Nat → Prop) (b : Nat) (l : List Int) (k : Nat) (h : NAt W own b l) (hh : has l (k : Int) = true) : Calls Try.prog 65 #[.pointer (some ⟨b, 0, none⟩), .int .i64 (k : Int)] W (GotAt W own b l k) := by
  have hle := h.le
  have c0 := h.len
  have ka := fun o => all_d (W.alloc o) own b l (h.on fun i hi => Below.heap_alloc _ _ _ (h.lt i hi))
  have HL := Lib.hid (fun i (hi : own i) => h.lt i hi)
  obtain ⟨n, hn⟩ : ∃ n, l.length = n := ⟨_, rfl⟩
  have hk : ([(k : Int)] : List Int).all (fun x => decide (0 ≤ x) && decide (x ≤ (n : Int) - 1)) = true := by
    rw [has, hn] at hh
    have e : decide ((k : Int) ≤ (n : Int) - 1) = decide ((k : Int) < (n : Int)) := by simp; omega
    simpa [e] using hh
  have hkn : k < n := by
    rw [has, hn] at hh
    simp at hh
    exact hh
  rw [hn] at c0 hle
  have kw := fun W b t h => between_p b t [(k : Int)] 0 ((n : Int) - 1) (by simp) W h
  rw [hk] at kw
  have w1 : IntKind.i64.wrap ((n : Int) - 1) = (n : Int) - 1 := wrap_id (by omega) (by omega)
  have hnot : ∀ (x : Bool) (w : World), (Op.unary .not (.bool x)).run Try.prog w = .ok (.bool (!x)) w := fun _ _ => rfl
  have t0 : ¬ ((k : Int) < 0) := by omega
  have t2 : ¬ n ≤ k := by omega
  have HN := Lib.hid hn
  clear h hh hk hn
  go_enter Try.func65, Try.ntmps65
  go_wp2_with (first
    | go_skip
    | (go_at_call 57; refine (kw _ _ _ (Held.new W _ _)).mono ?_; rintro e w2 ⟨rfl, rfl⟩)
    | (go_at_call 69; refine (ka _).mono ?_; rintro e w2 ⟨d, own', rfl, hm, ho, hf⟩; rw [sl, HN.out]))
  refine bodyPost_ret (results_two rfl _ _ _) rfl ?_
  refine ⟨d, own', rfl, hm, fun i hi => (ho i hi).imp id fun h => ?_, (Foot.of_below ((Below.refl _ _).alloc (Nat.le_refl _) _)).trans' hf⟩
  rw [World.size_alloc] at h
  omega
end Go.Proofs.Ytdhjdkhhhdcjdaa.Ce
end
/- Where the program's cells lie; a cell, a lock, a count of them. Conditions: the cells lie where their pointer says. -/
section
namespace Go.Proofs.Ytdhjdkhhhdcjdaa.Ce
set_option linter.unusedSimpArgs false
set_option linter.unusedVariables false
set_option maxRecDepth 100000
open Go.ChangeShapes Go.WideShapes Go.ChangeAt Go.RowKit

structure PAtS (W : World) (own oc ol os : Nat → Prop) (p bc bl bs : Nat) (s : CC) (N : Nat) : Prop where
  box : Held W p 92 #[.pointer (some ⟨bc, 0, none⟩), .pointer (some ⟨bl, 0, none⟩), .pointer (some ⟨bs, 0, none⟩)]
  hc : NAt W oc bc s.c
  hl : NAt W ol bl s.l
  hs : NAt W os bs s.s
  nc : ¬ oc p
  nl : ¬ ol p
  ns : ¬ os p
  cl : ∀ i, oc i → ¬ ol i
  cs : ∀ i, oc i → ¬ os i
  ls : ∀ i, ol i → ¬ os i
  own : ∀ i, own i ↔ i = p ∨ oc i ∨ ol i ∨ os i
  fits : FitsC s N
def PAt11 : PT := fun W own p s N => ∃ oc ol os bc bl bs, PAtS W own oc ol os p bc bl bs s N
theorem DidF.from {P : PT} {W0 W w' : World} {own : Nat → Prop} {p N : Nat} {s : CC} {v : Value} {e : Ending} (hb : Below W0.heap.size W0 W) (h : DidF P W own p s N v e w') : DidF P W0 own p s N v e w' := by
  obtain ⟨he, ⟨own', h1, h2⟩, hf⟩ := h
  exact ⟨he, ⟨own', h1, fun i hi => (h2 i hi).imp id fun h => Nat.le_trans hb.size h⟩, (Foot.of_below hb).trans' hf⟩
theorem NMade.set {W : World} {own : Nat → Prop} {b d : Nat} {l : List Int} (h : NMade W own b d l) (k : Nat) (x : Int) : NMade (W.setCell ⟨d, k, none⟩ (.int .i64 x)) own b d (l.set k x) := by
  obtain ⟨t, ht⟩ := h.row
  refine ⟨?_, ⟨t, ?_⟩, h.ne, h.own, by rw [List.length_set]; exact h.le⟩
  · have := h.box.other h.ne k (.int .i64 x)
    simp only [sl, List.length_set]
    exact this
  · have := ht.set k (.int .i64 x)
    rw [ints_set] at this
    exact this
section
variable {W W' w' : World} {own oc ol os oc' ol' os' : Nat → Prop} {p bc bl bs N : Nat} {s : CC}
theorem PAtS.on (h : PAtS W own oc ol os p bc bl bs s N) (hs : ∀ i, own i → W'.heap[i]? = W.heap[i]?) : PAtS W' own oc ol os p bc bl bs s N :=
  { h with
    box := (hs p ((h.own p).2 (.inl rfl))).trans h.box
    hc := h.hc.on fun i hi => hs i ((h.own i).2 (.inr (.inl hi)))
    hl := h.hl.on fun i hi => hs i ((h.own i).2 (.inr (.inr (.inl hi))))
    hs := h.hs.on fun i hi => hs i ((h.own i).2 (.inr (.inr (.inr hi)))) }
theorem PAtS.lt (h : PAtS W own oc ol os p bc bl bs s N) (i : Nat) (hi : own i) : i < W.heap.size := by
  rcases (h.own i).1 hi with rfl | hi | hi | hi
  · exact h.box.lt
  · exact h.hc.lt i hi
  · exact h.hl.lt i hi
  · exact h.hs.lt i hi
theorem PAtS.below (h : PAtS W own oc ol os p bc bl bs s N) (hb : Below W.heap.size W W') : PAtS W' own oc ol os p bc bl bs s N := h.on fun i hi => hb.block i (h.lt i hi)
theorem PAtS.same (h : PAtS W own oc ol os p bc bl bs s N) {v : Value} {e : Ending} (he : e = .returned v) (hb : Below W.heap.size W w') : DidF PAt11 W own p s N v e w' :=
  ⟨he, ⟨own, ⟨oc, ol, os, bc, bl, bs, h.below hb⟩, fun i hi => .inl hi⟩, Foot.of_below hb⟩
theorem PAtS.chc (h : PAtS W own oc ol os p bc bl bs s N) {l' : List Int} {M : Nat} (hn : NAt w' oc' bc l') (ho : ∀ i, oc' i → oc i ∨ W.heap.size ≤ i) (hf : Foot oc W w') (hfit : FitsC { s with c := l' } M) {v : Value} {e : Ending} (he : e = .returned v) : DidF PAt11 W own p { s with c := l' } M v e w' := by
  have hsub : ∀ i, oc i → own i := fun i hi => (h.own i).2 (.inr (.inl hi))
  have hp : p < W.heap.size := h.box.lt
  have nl : ∀ i, ol i → ¬ oc' i := fun i hi hj => by
    rcases ho i hj with h1 | h1
    · exact (fun i hi hj => h.cl i hj hi) i hi h1
    · have := h.hl.lt i hi
      omega
  have ns : ∀ i, os i → ¬ oc' i := fun i hi hj => by
    rcases ho i hj with h1 | h1
    · exact (fun i hi hj => h.cs i hj hi) i hi h1
    · have := h.hs.lt i hi
      omega
  refine ⟨he, ⟨fun i => i = p ∨ oc' i ∨ ol i ∨ os i, ⟨oc', ol, os, bc, bl, bs, {
      box := h.box.foot hf h.nc
      hc := hn
      hl := h.hl.on fun i hi => hf.block i (h.hl.lt i hi) ((fun i hi hj => h.cl i hj hi) i hi)
      hs := h.hs.on fun i hi => hf.block i (h.hs.lt i hi) ((fun i hi hj => h.cs i hj hi) i hi)
      nc := fun hi => by
        rcases ho p hi with h1 | h1
        · exact h.nc h1
        · omega
      nl := h.nl
      ns := h.ns
      cl := fun i hi hj => nl i hj hi
      cs := fun i hi hj => ns i hj hi
      ls := h.ls
      own := fun i => Iff.rfl
      fits := hfit }⟩, fun i hi => ?_⟩, hf.mono fun i _ hi => hsub i hi⟩
  rcases hi with rfl | hi | hi | hi
  · exact .inl ((h.own _).2 (.inl rfl))
  · exact (ho i hi).imp (fun h1 => hsub i h1) id
  · exact .inl ((h.own i).2 (.inr (.inr (.inl hi))))
  · exact .inl ((h.own i).2 (.inr (.inr (.inr hi))))
theorem PAtS.chl (h : PAtS W own oc ol os p bc bl bs s N) {l' : List Int} {M : Nat} (hn : NAt w' ol' bl l') (ho : ∀ i, ol' i → ol i ∨ W.heap.size ≤ i) (hf : Foot ol W w') (hfit : FitsC { s with l := l' } M) {v : Value} {e : Ending} (he : e = .returned v) : DidF PAt11 W own p { s with l := l' } M v e w' := by
  have hsub : ∀ i, ol i → own i := fun i hi => (h.own i).2 (.inr (.inr (.inl hi)))
  have hp : p < W.heap.size := h.box.lt
  have nc : ∀ i, oc i → ¬ ol' i := fun i hi hj => by
    rcases ho i hj with h1 | h1
    · exact h.cl i hi h1
    · have := h.hc.lt i hi
      omega
  have ns : ∀ i, os i → ¬ ol' i := fun i hi hj => by
    rcases ho i hj with h1 | h1
    · exact (fun i hi hj => h.ls i hj hi) i hi h1
    · have := h.hs.lt i hi
      omega
  refine ⟨he, ⟨fun i => i = p ∨ oc i ∨ ol' i ∨ os i, ⟨oc, ol', os, bc, bl, bs, {
      box := h.box.foot hf h.nl
      hc := h.hc.on fun i hi => hf.block i (h.hc.lt i hi) (h.cl i hi)
      hl := hn
      hs := h.hs.on fun i hi => hf.block i (h.hs.lt i hi) ((fun i hi hj => h.ls i hj hi) i hi)
      nl := fun hi => by
        rcases ho p hi with h1 | h1
        · exact h.nl h1
        · omega
      nc := h.nc
      ns := h.ns
      cl := nc
      cs := h.cs
      ls := fun i hi hj => ns i hj hi
      own := fun i => Iff.rfl
      fits := hfit }⟩, fun i hi => ?_⟩, hf.mono fun i _ hi => hsub i hi⟩
  rcases hi with rfl | hi | hi | hi
  · exact .inl ((h.own _).2 (.inl rfl))
  · exact .inl ((h.own i).2 (.inr (.inl hi)))
  · exact (ho i hi).imp (fun h1 => hsub i h1) id
  · exact .inl ((h.own i).2 (.inr (.inr (.inr hi))))
theorem PAtS.chs (h : PAtS W own oc ol os p bc bl bs s N) {l' : List Int} {M : Nat} (hn : NAt w' os' bs l') (ho : ∀ i, os' i → os i ∨ W.heap.size ≤ i) (hf : Foot os W w') (hfit : FitsC { s with s := l' } M) {v : Value} {e : Ending} (he : e = .returned v) : DidF PAt11 W own p { s with s := l' } M v e w' := by
  have hsub : ∀ i, os i → own i := fun i hi => (h.own i).2 (.inr (.inr (.inr hi)))
  have hp : p < W.heap.size := h.box.lt
  have nc : ∀ i, oc i → ¬ os' i := fun i hi hj => by
    rcases ho i hj with h1 | h1
    · exact h.cs i hi h1
    · have := h.hc.lt i hi
      omega
  have nl : ∀ i, ol i → ¬ os' i := fun i hi hj => by
    rcases ho i hj with h1 | h1
    · exact h.ls i hi h1
    · have := h.hl.lt i hi
      omega
  refine ⟨he, ⟨fun i => i = p ∨ oc i ∨ ol i ∨ os' i, ⟨oc, ol, os', bc, bl, bs, {
      box := h.box.foot hf h.ns
      hc := h.hc.on fun i hi => hf.block i (h.hc.lt i hi) (h.cs i hi)
      hl := h.hl.on fun i hi => hf.block i (h.hl.lt i hi) (h.ls i hi)
      hs := hn
      ns := fun hi => by
        rcases ho p hi with h1 | h1
        · exact h.ns h1
        · omega
      nc := h.nc
      nl := h.nl
      cl := h.cl
      cs := nc
      ls := nl
      own := fun i => Iff.rfl
      fits := hfit }⟩, fun i hi => ?_⟩, hf.mono fun i _ hi => hsub i hi⟩
  rcases hi with rfl | hi | hi | hi
  · exact .inl ((h.own _).2 (.inl rfl))
  · exact .inl ((h.own i).2 (.inr (.inl hi)))
  · exact .inl ((h.own i).2 (.inr (.inr (.inl hi))))
  · exact (ho i hi).imp (fun h1 => hsub i h1) id
end
/-- a number of them: what it is, and what may be done with it -/
structure Got (W : World) (own : Nat → Prop) (p : Nat) (s : CC) (N : Nat) (w' : World) (d k : Nat) (v : Int) (S : Int → CC) (ok : Int → Nat → Prop) : Prop where
  cell : w'.cell? ⟨d, k, none⟩ = some (.int .i64 v)
  froz : w'.frozen? ⟨d, k, none⟩ = false
  same : ∀ e r, e = .returned r → DidF PAt11 W own p s N r e w'
  set : ∀ x M e r, N ≤ M → ok x M → e = .returned r → DidF PAt11 W own p (S x) M r e (w'.setCell ⟨d, k, none⟩ (.int .i64 x))
theorem Got.from {W0 W w' : World} {own : Nat → Prop} {p N d k : Nat} {s : CC} {v : Int} {S : Int → CC} {ok : Int → Nat → Prop} (hb : Below W0.heap.size W0 W) (h : Got W own p s N w' d k v S ok) : Got W0 own p s N w' d k v S ok :=
  ⟨h.cell, h.froz, fun e r he => (h.same e r he).from hb, fun x M e r hM hx he => (h.set x M e r hM hx he).from hb⟩
def GotC (W : World) (own : Nat → Prop) (p : Nat) (s : CC) (N k : Nat) (e : Ending) (w' : World) : Prop :=
  ∃ d, e = .returned (.tuple #[.pointer (some ⟨d, k, none⟩), .int .i64 0]) ∧ Got W own p s N w' d k (val s.c k) (fun x => { s with c := put s.c k x }) (fun x M => I64 x)
theorem PAtS.gotC {W w' : World} {own oc ol os : Nat → Prop} {p bc bl bs N k : Nat} {s : CC} {e : Ending} (h : PAtS W own oc ol os p bc bl bs s N) (hh : has s.c k = true) (g : GotAt W oc bc s.c k e w') : GotC W own p s N k e w' := by
  obtain ⟨d, own', rfl, hm, ho, hf⟩ := g
  obtain ⟨t, ht⟩ := hm.row
  obtain ⟨k', hk', hlt, hv⟩ := has_at hh
  have : k' = k := by omega
  subst this
  have hl := (hm.own d).2 (.inr rfl)
  refine ⟨d, rfl, Held.num ht hv, ht.frozen _, fun e r he => h.chc (.inr ⟨d, hm⟩) ho hf h.fits he, fun x M e r hM hx he => ?_⟩
  have hd := ho d hl
  refine h.chc (l' := put s.c k' x) (.inr ⟨d, ?_⟩) ho (hf.setCell (fun h1 => hd.elim id (fun h2 => absurd h1 (by show ¬ d < _; omega))) _) ((h.fits.putc _ hx).mono hM) he
  exact hm.set k' x
def GotL (W : World) (own : Nat → Prop) (p : Nat) (s : CC) (N k : Nat) (e : Ending) (w' : World) : Prop :=
  ∃ d, e = .returned (.tuple #[.pointer (some ⟨d, k, none⟩), .int .i64 0]) ∧ Got W own p s N w' d k (val s.l k) (fun x => { s with l := put s.l k x }) (fun x M => 0 ≤ x ∧ x ≤ 64)
theorem PAtS.gotL {W w' : World} {own oc ol os : Nat → Prop} {p bc bl bs N k : Nat} {s : CC} {e : Ending} (h : PAtS W own oc ol os p bc bl bs s N) (hh : has s.l k = true) (g : GotAt W ol bl s.l k e w') : GotL W own p s N k e w' := by
  obtain ⟨d, own', rfl, hm, ho, hf⟩ := g
  obtain ⟨t, ht⟩ := hm.row
  obtain ⟨k', hk', hlt, hv⟩ := has_at hh
  have : k' = k := by omega
  subst this
  have hl := (hm.own d).2 (.inr rfl)
  refine ⟨d, rfl, Held.num ht hv, ht.frozen _, fun e r he => h.chl (.inr ⟨d, hm⟩) ho hf h.fits he, fun x M e r hM hx he => ?_⟩
  have hd := ho d hl
  refine h.chl (l' := put s.l k' x) (.inr ⟨d, ?_⟩) ho (hf.setCell (fun h1 => hd.elim id (fun h2 => absurd h1 (by show ¬ d < _; omega))) _) ((h.fits.putl _ hx).mono hM) he
  exact hm.set k' x
def GotS (W : World) (own : Nat → Prop) (p : Nat) (s : CC) (N k : Nat) (e : Ending) (w' : World) : Prop :=
  ∃ d, e = .returned (.tuple #[.pointer (some ⟨d, k, none⟩), .int .i64 0]) ∧ Got W own p s N w' d k (val s.s k) (fun x => { s with s := put s.s k x }) (fun x M => 0 ≤ x ∧ x ≤ M)
theorem PAtS.gotS {W w' : World} {own oc ol os : Nat → Prop} {p bc bl bs N k : Nat} {s : CC} {e : Ending} (h : PAtS W own oc ol os p bc bl bs s N) (hh : has s.s k = true) (g : GotAt W os bs s.s k e w') : GotS W own p s N k e w' := by
  obtain ⟨d, own', rfl, hm, ho, hf⟩ := g
  obtain ⟨t, ht⟩ := hm.row
  obtain ⟨k', hk', hlt, hv⟩ := has_at hh
  have : k' = k := by omega
  subst this
  have hl := (hm.own d).2 (.inr rfl)
  refine ⟨d, rfl, Held.num ht hv, ht.frozen _, fun e r he => h.chs (.inr ⟨d, hm⟩) ho hf h.fits he, fun x M e r hM hx he => ?_⟩
  have hd := ho d hl
  refine h.chs (l' := put s.s k' x) (.inr ⟨d, ?_⟩) ho (hf.setCell (fun h1 => hd.elim id (fun h2 => absurd h1 (by show ¬ d < _; omega))) _) (h.fits.puts hM _ hx) he
  exact hm.set k' x
theorem PAt11.pt : PtOk PAt11 := ⟨fun ⟨oc, ol, os, bc, bl, bs, h⟩ h1 _ => ⟨oc, ol, os, bc, bl, bs, h.on h1⟩, fun ⟨_, _, _, _, _, _, h⟩ i hi => h.lt i hi⟩
end Go.Proofs.Ytdhjdkhhhdcjdaa.Ce
end
