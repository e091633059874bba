/-
  Contracts of ring's New, and of all calls on a nil ring. Conditions: those that each theorem names.
-/
import Derived.Test.YtfnhnicjomaelaaRingE
namespace Go.Proofs.Ytfnhnicjomaelaa
set_option linter.unusedSimpArgs false
set_option linter.unusedVariables false
open Go.ChangeShapes Go.WideShapes Go.ChangeAt Go.RowKit Go.Shelf

theorem made_slots (n : Nat) : madeCells (Value.agg #[.int .u8 0, .int .u8 0, .int .u8 0, .int .u8 0, .int .u8 0, .int .u8 0, .int .u8 0, .int .u8 0, .int .u8 0, .int .u8 0, .int .u8 0, .int .u8 0, .int .u8 0, .int .u8 0, .int .u8 0, .int .u8 0]).cells n = (List.replicate n (Value.int .u8 0)).toArray := by
  apply Array.ext
  · simp [madeCells]
  · intro i h1 h2
    have h : i % 16 < 16 := Nat.mod_lt _ (by omega)
    simp only [madeCells, Value.cells, Array.getElem_map, Array.getElem_range, List.getElem_toArray, List.getElem_replicate, List.size_toArray, List.length_cons, List.length_nil]
    generalize i % 16 = j at h
    rcases (show j = 0 ∨ j = 1 ∨ j = 2 ∨ j = 3 ∨ j = 4 ∨ j = 5 ∨ j = 6 ∨ j = 7 ∨ j = 8 ∨ j = 9 ∨ j = 10 ∨ j = 11 ∨ j = 12 ∨ j = 13 ∨ j = 14 ∨ j = 15 by omega) with rfl | rfl | rfl | rfl | rfl | rfl | rfl | rfl | rfl | rfl | rfl | rfl | rfl | rfl | rfl | rfl <;> rfl
theorem make_slots (W : World) (n : Nat) (hn : n ≤ 4096) : (Instr.makeSlice 64 (.int .i64 n) (.int .i64 n)).run Try.prog W = .ok (.slice (some ⟨W.heap.size, 0, none⟩) n n) (W.alloc (.cells (List.replicate (n * 16) (Value.int .u8 0)).toArray 78)) := by
  obtain ⟨i0, hi, hz0, hz1, hz2⟩ := info_parts infoSlot
  have h := run_makeSlice (P := Try.prog) W 64 78 i0 _ Try.underlying64 hi hz0 .i64 .i64 n n (by omega) (by omega) (by rw [hz1]; omega) (by rw [hz2]; omega) (by omega)
  rw [hz1] at h
  simp only [Int.toNat_natCast] at h
  rw [made_slots] at h
  exact h
theorem slotsAt_new (W : World) (n : Nat) (c : Nat → ByteArray) (hc : ∀ k, c k = ⟨#[]⟩) : SlotsAt (W.alloc (.cells (List.replicate (n * 16) (Value.int .u8 0)).toArray 78)) W.heap.size n c := by
  have hcell : ∀ j, j < n * 16 → (W.alloc (.cells (List.replicate (n * 16) (Value.int .u8 0)).toArray 78)).cell? ⟨W.heap.size, j, none⟩ = some (.int .u8 0) := fun j hj => by
    rw [(Held.new W 78 (List.replicate (n * 16) (Value.int .u8 0)).toArray).cell j]
    simp [hj]
  refine ⟨by simp, fun k hk j v hv => ?_, fun j hj => ⟨by rw [Nat.zero_add, hcell j hj]; rfl, (Held.new W 78 _).frozen _⟩⟩
  have hj : j < 16 := by
    have := (List.getElem?_eq_some_iff.1 hv).1
    rwa [cellsU_length, slotL_length] at this
  rw [hcell _ (by omega), ← hv, hc k, slotL_none]
  rcases (show j = 0 ∨ j = 1 ∨ j = 2 ∨ j = 3 ∨ j = 4 ∨ j = 5 ∨ j = 6 ∨ j = 7 ∨ j = 8 ∨ j = 9 ∨ j = 10 ∨ j = 11 ∨ j = 12 ∨ j = 13 ∨ j = 14 ∨ j = 15 by omega) with rfl | rfl | rfl | rfl | rfl | rfl | rfl | rfl | rfl | rfl | rfl | rfl | rfl | rfl | rfl | rfl <;> rfl

theorem isSize_cases {n : Int} (h : isSizeB n = true) : ∃ m : Nat, n = m ∧ (m = 1 ∨ m = 2 ∨ m = 4 ∨ m = 8 ∨ m = 16 ∨ m = 32 ∨ m = 64 ∨ m = 128 ∨ m = 256 ∨ m = 512 ∨ m = 1024 ∨ m = 2048 ∨ m = 4096) := by
  have h' := of_decide_eq_true h
  refine ⟨n.toNat, ?_, ?_⟩
  all_goals
    unfold expo at h'
    repeat' (split at h')
    all_goals omega

/-- what New gives of a size -/
def NewGives (n : Nat) (f : Int) (W : World) (e : Ending) (w' : World) : Prop :=
  ∃ p q, e = .returned (.tuple #[.pointer (some ⟨p, 0, none⟩), .int .i64 0]) ∧ RingP w' p q (RS.new n f) ∧ W.heap.size ≤ p ∧ W.heap.size ≤ q ∧ Below W.heap.size W w'
theorem new_p (n : Nat) (f : Int) (hn : n = 1 ∨ n = 2 ∨ n = 4 ∨ n = 8 ∨ n = 16 ∨ n = 32 ∨ n = 64 ∨ n = 128 ∨ n = 256 ∨ n = 512 ∨ n = 1024 ∨ n = 2048 ∨ n = 4096) (h0 : 0 ≤ f) (h1 : f ≤ 4294967295) (W : World) :
    Calls Try.prog 12 #[.int .i64 n, .int .u32 f] W (NewGives n f W) := by
  have hok := RS.Ok.new hn h0 h1
  have hs : isSizeB (n : Int) = true := hok.isSize
  have hle : n ≤ 4096 := hok.pos.2
  go_enter Try.func12, Try.ntmps12
  go_wp2_with fail
  refine (size_p n _).mono ?_
  rintro e w1 ⟨rfl, hb1⟩
  have hz1 := hb1.size
  have hmk := make_slots w1 n hle
  rw [hs]
  go_wp2
  go_ret2
  refine ⟨w1.heap.size + 1, w1.heap.size, rfl, ⟨?_, ?_, by omega, hok⟩, by omega, by omega, (hb1.alloc (by omega) _).alloc (by simp; omega) _⟩
  · have e := Held.new (w1.alloc (.cells (List.replicate (n * 16) (Value.int .u8 0)).toArray 78)) 66 (rcs f f f f f w1.heap.size n)
    rw [World.size_alloc] at e
    have hm : (RS.new n f).mark 0 = f := by simp [RS.mark, RS.new]; omega
    have hc : rcells (RS.new n f) w1.heap.size = rcs f f f f f w1.heap.size n := by
      show rcs ((RS.new n f).mark 0) ((RS.new n f).mark 0) ((RS.new n f).mark 0) ((RS.new n f).mark 0) ((RS.new n f).mark 0) _ _ = _
      rw [hm]
      rfl
    rw [hc]
    exact e
  · have e := slotsAt_new w1 n (RS.new n f).cont (fun k => by simp [RS.cont, RS.who, RS.new])
    exact e.same (Below.heap_alloc _ _ _ (by simp))
theorem new_no (n f : Int) (hn : isSizeB n = false) (W : World) :
    Calls Try.prog 12 #[.int .i64 n, .int .u32 f] W fun e w' => e = .returned (.tuple #[.pointer none, .int .i64 2]) ∧ Below W.heap.size W w' := by
  go_enter Try.func12, Try.ntmps12
  go_wp2_with fail
  refine (size_p n _).mono ?_
  rintro e w1 ⟨rfl, hb1⟩
  rw [hn]
  go_wp2
  go_ret2
  exact ⟨rfl, hb1⟩

theorem post_nil (i l f : Int) (d : Bool) (W : World) : Calls Try.prog 23 #[.pointer none, dv i l f d] W fun e w' => e = .returned (.int .i64 1) ∧ Below W.heap.size W w' := by
  go_enter Try.func23, Try.ntmps23
  go_wp2_with (go_at_call 34; refine (missing_nil _).mono ?_; rintro e w' ⟨rfl, rfl⟩)
  go_ret
  exact ⟨rfl, by go_grown⟩
theorem bell_nil (W : World) : Calls Try.prog 24 #[.pointer none] W fun e w' => e = .returned (.int .i64 1) ∧ Below W.heap.size W w' := by
  go_enter Try.func24, Try.ntmps24
  go_wp2_with (go_at_call 34; refine (missing_nil _).mono ?_; rintro e w' ⟨rfl, rfl⟩)
  go_ret
  exact ⟨rfl, Below.refl _ _⟩
theorem fetch_nil (W : World) : Calls Try.prog 20 #[.pointer none] W fun e w' => e = .returned (.tuple #[dv 0 0 0 false, .int .i64 1]) ∧ Below W.heap.size W w' := by
  go_enter Try.func20, Try.ntmps20
  go_wp2_with (go_at_call 34; refine (missing_nil _).mono ?_; rintro e w' ⟨rfl, rfl⟩)
  exact bodyPost_ret (v := .tuple #[dv 0 0 0 false, .int .i64 1]) (by simp [results, Try.results20, go_sem]) rfl ⟨rfl, by go_grown⟩
theorem finish_nil (W : World) : Calls Try.prog 21 #[.pointer none] W fun e w' => e = .returned (.tuple #[dv 0 0 0 false, .int .i64 1]) ∧ Below W.heap.size W w' := by
  go_enter Try.func21, Try.ntmps21
  go_wp2_with (go_at_call 34; refine (missing_nil _).mono ?_; rintro e w' ⟨rfl, rfl⟩)
  exact bodyPost_ret (v := .tuple #[dv 0 0 0 false, .int .i64 1]) (by simp [results, Try.results21, go_sem]) rfl ⟨rfl, by go_grown⟩
theorem clean_nil (W : World) : Calls Try.prog 22 #[.pointer none] W fun e w' => e = .returned (.tuple #[dv 0 0 0 false, .int .i64 1]) ∧ Below W.heap.size W w' := by
  go_enter Try.func22, Try.ntmps22
  go_wp2_with (go_at_call 34; refine (missing_nil _).mono ?_; rintro e w' ⟨rfl, rfl⟩)
  exact bodyPost_ret (v := .tuple #[dv 0 0 0 false, .int .i64 1]) (by simp [results, Try.results22, go_sem]) rfl ⟨rfl, by go_grown⟩
theorem marks_nil (W : World) : Calls Try.prog 17 #[.pointer none] W fun e w' => e = .returned (.slice none 0 0) ∧ Below W.heap.size W w' := by
  go_enter Try.func17, Try.ntmps17
  go_wp2_with (go_at_call 34; refine (missing_nil _).mono ?_; rintro e w' ⟨rfl, rfl⟩)
  go_ret
  exact ⟨rfl, Below.refl _ _⟩
theorem slots_nil (W : World) : Calls Try.prog 19 #[.pointer none] W fun e w' => e = .returned (.slice none 0 0) ∧ Below W.heap.size W w' := by
  go_enter Try.func19, Try.ntmps19
  go_wp2
  go_step3
  go_wp2_with (go_at_call 34; refine (missing_nil _).mono ?_; rintro e w' ⟨rfl, rfl⟩)
  rw [Exit.noGoto_ret]
  go_ret
  exact ⟨rfl, Below.refl _ _⟩
end Go.Proofs.Ytfnhnicjomaelaa
