/-
  The walk of RingDoes. Conditions: the acts' numbers fit their kinds.
-/
import Derived.Test.YtfnhnicjomaelaaRingL
namespace Go.Proofs.Ytfnhnicjomaelaa
set_option linter.unusedSimpArgs false
set_option linter.unusedVariables false
open Go.ChangeShapes Go.WideShapes Go.ChangeAt Go.RowKit

theorem act_info : (Try.prog.info? 37).map (·.size) = some 5 := by kernel_rfl
/-- the acts of a slice in memory, at b from o on -/
structure ActsIn (W : World) (b o len : Nat) (acts : Nat → ActV) : Prop where
  lt : b < W.heap.size
  fits : ∀ k, k < len → (acts k).Fits
  cells : ∀ k, k < len → ∀ j v, (acts k).cells[j]? = some v → W.cell? ⟨b, o + k * 5 + j, none⟩ = some v
theorem ActsIn.range {W w : World} {b o len : Nat} {acts : Nat → ActV} (h : ActsIn W b o len acts) (hb : Below W.heap.size W w) {k : Nat} (hk : k < len) : w.rangeAt b (o + k * 5) (acts k).cells := fun j v hv => by
  rw [hb.cell (p := ⟨b, o + k * 5 + j, none⟩) h.lt]
  exact h.cells k hk j v hv
theorem cells_av (x : ActV) : Value.agg x.cells.toArray = av x.o x.i x.l x.f x.d := rfl
theorem Fits.bd {x : ActV} (h : x.Fits) : (0 ≤ x.i ∧ x.i ≤ 4294967295) ∧ (0 ≤ x.l ∧ x.l ≤ 4294967295) ∧ (0 ≤ x.f ∧ x.f ≤ 4294967295) := ⟨bd_u32 h.i, bd_u32 h.l, bd_u32 h.f⟩
/-- the five indexes, by number -/
def markF (r : RS) (j : Nat) : Int := [r.mark r.c, r.mark r.i, r.mark r.t, r.mark r.b, r.mark r.ds.length].getD j 0
theorem markF_p {W : World} {b : Nat} {r : RS} (h : Held W b 22 #[.int .u32 (r.mark r.c), .int .u32 (r.mark r.i), .int .u32 (r.mark r.t), .int .u32 (r.mark r.b), .int .u32 (r.mark r.ds.length)]) : ∀ j, j < 5 → W.cell? ⟨b, 0 + j, none⟩ = some (.int .u32 (markF r j)) := fun j hj => by
  rw [Nat.zero_add, h.cell j]
  rcases (show j = 0 ∨ j = 1 ∨ j = 2 ∨ j = 3 ∨ j = 4 by omega) with rfl | rfl | rfl | rfl | rfl <;> rfl
theorem markF_r {W : World} {p q : Nat} {r : RS} (h : RingR W p q r) : ∀ j, j < 5 → W.cell? ⟨p, 1 + j, none⟩ = some (.int .u32 (markF r j)) := fun j hj => by
  rw [h.ring.cell (1 + j)]
  rcases (show j = 0 ∨ j = 1 ∨ j = 2 ∨ j = 3 ∨ j = 4 by omega) with rfl | rfl | rfl | rfl | rfl <;> rfl
theorem strs_at {W : World} {b n : Nat} {c : Nat → ByteArray} (h : Held W b 9 (strCells n c)) : ∀ j, j < n → W.cell? ⟨b, 0 + j, none⟩ = some (.string (c j)) := fun j hj => by
  rw [Nat.zero_add, h.cell j]
  exact strCells_get hj c
/-- both rings, new, behind the row's beginning -/
structure Pair (W w : World) (p q p' q' : Nat) (r : RS) : Prop where
  both : Both w p q p' q' r
  below : Below W.heap.size W w
  n1 : W.heap.size ≤ p
  n2 : W.heap.size ≤ q
  n3 : W.heap.size ≤ p'
  n4 : W.heap.size ≤ q'
theorem Pair.step {W w w' : World} {p q p' q' : Nat} {r r' : RS} (h : Pair W w p q p' q' r) (hb : Both w' p q p' q' r') (hf : Foot (Own4 p q p' q') w w') : Pair W w' p q p' q' r' :=
  ⟨hb, hf.after h.below (fun i hi => by have := h.n1; have := h.n2; have := h.n3; have := h.n4; simp only [Own4, Own2] at hi; omega), h.n1, h.n2, h.n3, h.n4⟩
theorem Pair.on {W w w' : World} {p q p' q' : Nat} {r : RS} (h : Pair W w p q p' q' r) (hb : Below w.heap.size w w') : Pair W w' p q p' q' r := ⟨h.both.below hb, h.below.trans (hb.mono h.below.size), h.n1, h.n2, h.n3, h.n4⟩
theorem Pair.drewN {W w : World} {p q p' q' : Nat} {r : RS} (h : Pair W w p q p' q' r) (k : Nat) : Pair W (w.drewN k) p q p' q' r := ⟨h.both.drewN k, below_drewN h.below k, h.n1, h.n2, h.n3, h.n4⟩
theorem Pair.drew {W w : World} {p q p' q' : Nat} {r : RS} (h : Pair W w p q p' q' r) : Pair W w.drew p q p' q' r := ⟨h.both.drew, h.below.drew, h.n1, h.n2, h.n3, h.n4⟩

set_option maxRecDepth 100000 in
set_option maxHeartbeats 1000000 in
theorem does_w (n f : Int) (hf0 : 0 ≤ f) (hf1 : f ≤ 4294967295) (A : Option Addr) (len cap : Nat) (acts : Nat → ActV) (hl : len ≤ cap) (hc : cap ≤ maxLen) (W : World) (hA : ActsAt W A len acts) :
    Calls Try.prog 3 #[.int .i64 n, .int .u32 f, .slice A len cap] W fun e w' => e = .returned (.bool true) ∧ Below W.heap.size W w' := by
  unfold maxLen at hc
  obtain ⟨b, o, hAb, hin⟩ : ∃ b o, (0 < len → A = some ⟨b, o, none⟩) ∧ (0 < len → ActsIn W b o len acts) := by
    by_cases h0 : 0 < len
    · obtain ⟨b, o, h1, h2, h3⟩ := hA.plain h0
      exact ⟨b, o, fun _ => h1, fun _ => ⟨h2, fun k hk => (h3 k hk).1, fun k hk => (h3 k hk).2⟩⟩
    · exact ⟨0, 0, fun h => absurd h h0, fun h => absurd h h0⟩
  have HAb := Lib.hid hAb
  clear hAb hA
  have hsz := szN_size n
  go_enter Try.func3, Try.ntmps3
  go_wp2_with fail
  refine (shown3_p _).mono ?_
  rintro e w1 ⟨rfl, hb1⟩
  go_wp2_with fail
  refine (lsize_p n _).mono ?_
  rintro e w2 ⟨rfl, hb2⟩
  have hB2 := hb1.trans (hb2.mono hb1.size)
  clear hb1 hb2
  go_wp2_with fail
  refine (new_p (szN n) f hsz hf0 hf1 _).mono ?_
  rintro e w3 ⟨p, q, rfl, h3, hp3, hq3, hb3⟩
  have hB3 := hB2.trans (hb3.mono hB2.size)
  have hz2 := hB2.size
  clear hb3 hB2
  go_wp2_with fail
  refine (lsize_p n _).mono ?_
  rintro e w4 ⟨rfl, hb4⟩
  have h4 := h3.below hb4
  have hB4 := hB3.trans (hb4.mono hB3.size)
  clear hb4 hB3 h3
  go_wp2_with fail
  refine (new_r (szN n) f hsz hf0 hf1 _).mono ?_
  rintro e w5 ⟨p', q', rfl, h5, hp5, hq5, hb5⟩
  have hP : Pair W w5 p q p' q' (RS.new (szN n) f) := ⟨⟨h4.below hb5, h5, by have := h4.ring.lt; omega, by have := h4.ring.lt; omega, by have := h4.slots.lt; omega, by have := h4.slots.lt; omega⟩, hB4.trans (hb5.mono hB4.size), by omega, by omega, by have := hB4.size; omega, by have := hB4.size; omega⟩
  clear hb5 hB4 h4 h5 hp3 hq3 hp5 hq5 hz2
  go_wp2
  go_loopw [12] (fun i wr => ∃ k : Nat, k ≤ len ∧ i = .int .i64 k ∧ ∃ r, Pair W wr p q p' q' r) (fun i _ => len - (intOf i).toNat)
  case atStart => exact ⟨0, Nat.zero_le _, rfl, _, hP⟩
  case round =>
    obtain ⟨k, hk, rfl, r, hr⟩ := hrel
    clear hP
    by_cases hlt : k < len ∧ k < 80
    · obtain ⟨hlt, h80⟩ := hlt
      obtain rfl := HAb.out (by omega)
      have hrange := (hin (by omega)).range hr.below hlt
      obtain ⟨⟨a0, a1⟩, ⟨a2, a3⟩, a4, a5⟩ := Fits.bd ((hin (by omega)).fits k hlt)
      go_wp2_with (refine wpList_load_mid rfl 37 (.tmp 49) rfl b (o + k * 5) rfl _ _ hrange Try.underlying37 rfl act_info ?_; rw [cells_av])
      refine (did_p wr p q p' q' r hr.both _ _ _ _ _ a0 a1 a2 a3 a4 a5).mono ?_
      rintro e w6 ⟨rfl, hB6, hF6⟩
      have h6 := hr.step hB6 hF6
      generalize r.step (opK (acts k).o) (acts k).i (acts k).l (acts k).f (acts k).d = r6 at h6
      clear hB6 hF6 hrange hr
      have hn6 := h6.both.prog.ok.pos.2
      go_wp2_with fail
      have h7 := h6.drew
      clear h6
      have R7 := h7.both.doc.ring.ringR.1.1
      go_region_held3 (fun w' => w'.cell? ⟨p', 0, none⟩ = some (.slice (some ⟨q', 0, none⟩) r6.n r6.n)) (first | assumption | (go_keep; done))
        (first
          | (go_at_call 17; (with_reducible refine (marks_p _ p q r6 h7.both.prog).mono ?_); rintro e w8 ⟨mb, rfl, hm8, _, hb8⟩; have h8 := h7.on hb8; have R8 := h8.both.doc.ring.ringR.1.1)
          | (go_at_call 16; (with_reducible refine (sameMarks_p mb 0 p' 1 5 5 5 (markF r6) (by omega) w8 (markF_p hm8) (markF_r h8.both.doc)).mono ?_); rintro e w9 ⟨rfl, j9, hj9⟩; have h9 : Pair W w9 p q p' q' r6 := (by rw [hj9]; exact h8.drewN _); have R9 := h9.both.doc.ring.ringR.1.1; clear hj9)
          | (go_at_call 19; (with_reducible refine (slots_p _ p q r6 h9.both.prog).mono ?_); rintro e w10 ⟨sb, rfl, hs10, _, hb10⟩; have h10 := h9.on hb10; have R10 := h10.both.doc.ring.ringR.1.1)
          | (go_at_call 18; (with_reducible refine (sameSlots_p sb 0 q' 0 r6.n r6.n r6.n r6.cont hn6 w10 (strs_at hs10) (strs_at h10.both.doc.slots)).mono ?_); rintro e w11 ⟨rfl, j11, hj11⟩; have h11 : Pair W w11 p q p' q' r6 := (by rw [hj11]; exact h10.drewN _); have R11 := h11.both.doc.ring.ringR.1.1; clear hj11))
      go_wp2
      go_roundw
      case rel => exact ⟨k + 1, by omega, by go_num, r6, h11⟩
      case measure => simp [intOf]; omega
    · go_wp2
      all_goals
        go_ret
        exact ⟨rfl, hr.below⟩
end Go.Proofs.Ytfnhnicjomaelaa
