/-
  The law's own set: a wheel of some timers. Conditions: the numbers fit their kinds.
-/
import Derived.Test.YtbnfjppidmiheaaWheelLA
import Derived.Test.YtbnfjppidmiheaaBase
namespace Go.Proofs.Ytbnfjppidmiheaa
set_option linter.unusedSimpArgs false
set_option linter.unusedVariables false
open Go.ChangeShapes Go.WideShapes Go.ChangeAt Go.RowKit Go.Maps

/-- an act's cells, and that its numbers fit -/
abbrev actC (x : Int × Int × Int) : List Value := [.int .i64 x.1, .int .u64 x.2.1, .int .i64 x.2.2]
abbrev actF (x : Int × Int × Int) : Prop := (Lit.int .i64 x.1).wf = true ∧ (Lit.int .u64 x.2.1).wf = true ∧ (Lit.int .i64 x.2.2).wf = true
/-- the acts where they lie -/
structure Acts6 (w : World) (b o len : Nat) (xs : Nat → Int × Int × Int) : Prop where
  lt : b < w.heap.size
  fits : ∀ k, k < len → actF (xs k)
  cell : ∀ k, k < len → w.cell? ⟨b, o + k * 3, none⟩ = some (.int .i64 (xs k).1) ∧ w.cell? ⟨b, o + k * 3 + 1, none⟩ = some (.int .u64 (xs k).2.1) ∧ w.cell? ⟨b, o + k * 3 + 2, none⟩ = some (.int .i64 (xs k).2.2)
theorem acts_in {w : World} {A : Option Addr} {len : Nat} {xs : Nat → Int × Int × Int} (h : SliceAt w A len 3 actC actF xs) : ∃ b o, (0 < len → A = some ⟨b, o, none⟩) ∧ (0 < len → Acts6 w b o len xs) := by
  by_cases h0 : 0 < len
  · obtain ⟨b, o, h1, h2, h3⟩ := h.plain (fun _ => rfl) (by decide) h0
    exact ⟨b, o, fun _ => h1, fun _ => ⟨h2, fun k hk => (h3 k hk).1, fun k hk => ⟨(h3 k hk).2 0 _ rfl, (h3 k hk).2 1 _ rfl, (h3 k hk).2 2 _ rfl⟩⟩⟩
  · exact ⟨0, 0, fun h => absurd h h0, fun h => absurd h h0⟩
theorem Acts6.below {w w' : World} {b o len : Nat} {xs : Nat → Int × Int × Int} (h : Acts6 w b o len xs) (hb : Below w.heap.size w w') : Acts6 w' b o len xs := by
  have e : ∀ j, w'.cell? ⟨b, j, none⟩ = w.cell? ⟨b, j, none⟩ := fun j => World.cell?_of_block (hb.block b h.lt)
  refine ⟨Nat.lt_of_lt_of_le h.lt hb.size, h.fits, fun k hk => ?_⟩
  rw [e, e, e]
  exact h.cell k hk
/-- a wheel of the first k of them -/
def sets (xs : Nat → Int × Int × Int) : Nat → WS
  | 0 => ⟨[], 0⟩
  | k + 1 => (sets xs k).set (xs k).2.1 (xs k).2.2
theorem bd_u64 {a : Int} (h : (Lit.int .u64 a).wf = true) : 0 ≤ a ∧ a ≤ 18446744073709551615 := by
  simp [Lit.wf, IntKind.min, IntKind.max, IntKind.signed, IntKind.bits] at h
  omega
theorem sets_ok {xs : Nat → Int × Int × Int} {len : Nat} (h : ∀ k, k < len → actF (xs k)) : ∀ k, k ≤ len → (sets xs k).Ok
  | 0, _ => ok0
  | k + 1, hk => WS.set_ok (sets_ok h k (by omega)) (bd_u64 (h k (by omega)).2.1).1
theorem WhP.foot2 {W W' : World} {p m q r : Nat} {s : WS} (h : WhP W p m s) (hf : Foot (PM q r) W W') (h1 : p ≠ q) (h2 : p ≠ r) (h3 : m ≠ q) (h4 : m ≠ r) : WhP W' p m s :=
  h.foot hf (fun e => by rcases e with e | e; exact h1 e; exact h2 e) (fun e => by rcases e with e | e; exact h3 e; exact h4 e)
set_option maxRecDepth 100000 in
set_option maxHeartbeats 2000000 in
theorem lset_p (A : Option Addr) (b o len cap : Nat) (xs : Nat → Int × Int × Int) (hl : len ≤ cap) (hc : cap ≤ maxLen) (w : World) (hA : 0 < len → A = some ⟨b, o, none⟩) (hX : 0 < len → Acts6 w b o len xs) :
    Calls Try.prog 22 #[.slice A len cap] w fun e w' => ∃ p m, e = .returned (.pointer (some ⟨p, 0, none⟩)) ∧ w.heap.size ≤ p ∧ w.heap.size ≤ m ∧ WhP w' p m (sets xs (min len 60)) ∧ (sets xs (min len 60)).Ok ∧ Below w.heap.size w w' := by
  unfold maxLen at hc
  have HA := Lib.hid (And.intro hA hX)
  clear hA hX
  go_enter Try.func22, Try.ntmps22
  go_wp2_with (go_at_call 11; refine (new_p 0 _).mono ?_; rintro e w1 ⟨p, m, rfl, hp, hm, hW0, hB0⟩)
  go_loopw [4] (fun i wr => ∃ k : Nat, k ≤ min len 60 ∧ i = .int .i64 k ∧ WhP wr p m (sets xs k) ∧ (sets xs k).Ok ∧ Below w.heap.size w wr) (fun i _ => min len 60 - (intOf i).toNat)
  case atStart => exact ⟨0, by omega, rfl, hW0, ok0, hB0⟩
  case round =>
    clear hW0 hB0
    obtain ⟨k, hk, rfl, hW, hok, hB⟩ := hrel
    by_cases hlt : k < min len 60
    · obtain ⟨hA, hX⟩ := HA.out
      have hX1 := hX (by omega)
      obtain rfl := hA (by omega)
      obtain ⟨hf0, hf1, hf2⟩ := hX1.fits k (by omega)
      obtain ⟨x0, x1, x2⟩ := (hX1.below hB).cell k (by omega)
      have hlt0 : b < wr.heap.size := (hX1.below hB).lt
      have hE : sets xs (k + 1) = (sets xs k).set (xs k).2.1 (xs k).2.2 := rfl
      have hok' := WS.set_ok hok (at_ := (xs k).2.1) (key := (xs k).2.2) (bd_u64 hf1).1
      rw [← hE] at hok'
      obtain ⟨⟨d0, at_, key⟩, hx⟩ : ∃ x, xs k = x := ⟨_, rfl⟩
      rw [hx] at hf0 hf1 hf2 x0 x1 x2 hE
      simp only at hf0 hf1 hf2 x0 x1 x2 hE
      clear hA hX hX1 hx
      have e1 : decide ((k : Int) < len) = true := decide_eq_true (by omega)
      have e2 : decide ((k : Int) < 60) = true := decide_eq_true (by omega)
      go_upto_region 5 with (fail)
      refine region_memk (Mem.start wr) 11 12 rfl (by kernel_rfl) (fun wr0 hcl hS => ?_)
      refine wpAnyG_pure (i := 0) (v := (.pointer (some ⟨p, 0, none⟩))) rfl rfl (by kernel_rfl) (by kernel_rfl) (by kernel_rfl) (fun _ _ _ h => h) (by decide) ⟨by rfl, fun w _ => (by go_simp; try (first | rfl | omega)), fun _ => rfl⟩ (.inr hS) ?_
      have hc1 := hcl.step (i := 0) (by kernel_rfl)
      clear hcl; have hcl := hc1; clear hc1; simp only [List.getElem_toArray, List.getElem_cons_zero, List.getElem_cons_succ, Act.put, List.setIfInBounds_toArray, List.set_cons_zero, List.set_cons_succ]
      refine wpAnyG_pure (i := 1) (v := (.slice (some ⟨b, o, none⟩) len cap)) rfl rfl (by kernel_rfl) (by kernel_rfl) (by kernel_rfl) (fun _ _ _ h => h) (by decide) ⟨by rfl, fun w _ => (by go_simp; try (first | rfl | omega)), fun _ => rfl⟩ (.inr hS) ?_
      have hc1 := hcl.step (i := 1) (by kernel_rfl)
      clear hcl; have hcl := hc1; clear hc1; simp only [List.getElem_toArray, List.getElem_cons_zero, List.getElem_cons_succ, Act.put, List.setIfInBounds_toArray, List.set_cons_zero, List.set_cons_succ]
      refine wpAnyG_pure (i := 2) (v := (.int .i64 (k : Int))) rfl rfl (by kernel_rfl) (by kernel_rfl) (by kernel_rfl) (fun _ _ _ h => h) (by decide) ⟨by rfl, fun w _ => (by go_simp; try (first | rfl | omega)), fun _ => rfl⟩ (.inr hS) ?_
      have hc1 := hcl.step (i := 2) (by kernel_rfl)
      clear hcl; have hcl := hc1; clear hc1; simp only [List.getElem_toArray, List.getElem_cons_zero, List.getElem_cons_succ, Act.put, List.setIfInBounds_toArray, List.set_cons_zero, List.set_cons_succ]
      refine wpAnyG_pure (i := 3) (v := (.pointer (some ⟨b, o + k * 3, none⟩))) rfl rfl (by kernel_rfl) (by kernel_rfl) (by kernel_rfl) (fun _ _ _ h => h) (by decide) ⟨by rfl, fun w _ => (by go_simp; try (first | rfl | omega)), fun _ => rfl⟩ (.inr hS) ?_
      have hc1 := hcl.step (i := 3) (by kernel_rfl)
      clear hcl; have hcl := hc1; clear hc1; simp only [List.getElem_toArray, List.getElem_cons_zero, List.getElem_cons_succ, Act.put, List.setIfInBounds_toArray, List.set_cons_zero, List.set_cons_succ]
      refine wpAnyG_pure (i := 4) (v := (.pointer (some ⟨b, o + k * 3 + 1, none⟩))) rfl rfl (by kernel_rfl) (by kernel_rfl) (by kernel_rfl) (fun _ _ _ h => h) (by decide) ⟨by rfl, fun w _ => (by go_simp; try (first | rfl | omega)), fun _ => rfl⟩ (.inr hS) ?_
      have hc1 := hcl.step (i := 4) (by kernel_rfl)
      clear hcl; have hcl := hc1; clear hc1; simp only [List.getElem_toArray, List.getElem_cons_zero, List.getElem_cons_succ, Act.put, List.setIfInBounds_toArray, List.set_cons_zero, List.set_cons_succ]
      refine wpAnyG_take (i := 5) 11 (v := (.int .u64 at_)) rfl rfl (by kernel_rfl) (by kernel_rfl) (by kernel_rfl) (fun _ _ _ h => h) (by kernel_rfl) (by decide) hcl (yields_old x1 hlt0 (by exact rfl) (by exact rfl) (by exact rfl) Try.underlying22 rfl) hS (fun hc1 => ?_)
      clear hcl; have hcl := hc1; clear hc1; simp only [List.getElem_toArray, List.getElem_cons_zero, List.getElem_cons_succ, Act.put, List.setIfInBounds_toArray, List.set_cons_zero, List.set_cons_succ]
      refine wpAnyG_pure (i := 6) (v := (.slice (some ⟨b, o, none⟩) len cap)) rfl rfl (by kernel_rfl) (by kernel_rfl) (by kernel_rfl) (fun _ _ _ h => h) (by decide) ⟨by rfl, fun w _ => (by go_simp; try (first | rfl | omega)), fun _ => rfl⟩ (.inr hS) ?_
      have hc1 := hcl.step (i := 6) (by kernel_rfl)
      clear hcl; have hcl := hc1; clear hc1; simp only [List.getElem_toArray, List.getElem_cons_zero, List.getElem_cons_succ, Act.put, List.setIfInBounds_toArray, List.set_cons_zero, List.set_cons_succ]
      refine wpAnyG_pure (i := 7) (v := (.int .i64 (k : Int))) rfl rfl (by kernel_rfl) (by kernel_rfl) (by kernel_rfl) (fun _ _ _ h => h) (by decide) ⟨by rfl, fun w _ => (by go_simp; try (first | rfl | omega)), fun _ => rfl⟩ (.inr hS) ?_
      have hc1 := hcl.step (i := 7) (by kernel_rfl)
      clear hcl; have hcl := hc1; clear hc1; simp only [List.getElem_toArray, List.getElem_cons_zero, List.getElem_cons_succ, Act.put, List.setIfInBounds_toArray, List.set_cons_zero, List.set_cons_succ]
      refine wpAnyG_pure (i := 8) (v := (.pointer (some ⟨b, o + k * 3, none⟩))) rfl rfl (by kernel_rfl) (by kernel_rfl) (by kernel_rfl) (fun _ _ _ h => h) (by decide) ⟨by rfl, fun w _ => (by go_simp; try (first | rfl | omega)), fun _ => rfl⟩ (.inr hS) ?_
      have hc1 := hcl.step (i := 8) (by kernel_rfl)
      clear hcl; have hcl := hc1; clear hc1; simp only [List.getElem_toArray, List.getElem_cons_zero, List.getElem_cons_succ, Act.put, List.setIfInBounds_toArray, List.set_cons_zero, List.set_cons_succ]
      refine wpAnyG_pure (i := 9) (v := (.pointer (some ⟨b, o + k * 3 + 2, none⟩))) rfl rfl (by kernel_rfl) (by kernel_rfl) (by kernel_rfl) (fun _ _ _ h => h) (by decide) ⟨by rfl, fun w _ => (by go_simp; try (first | rfl | omega)), fun _ => rfl⟩ (.inr hS) ?_
      have hc1 := hcl.step (i := 9) (by kernel_rfl)
      clear hcl; have hcl := hc1; clear hc1; simp only [List.getElem_toArray, List.getElem_cons_zero, List.getElem_cons_succ, Act.put, List.setIfInBounds_toArray, List.set_cons_zero, List.set_cons_succ]
      refine wpAnyG_take (i := 10) 11 (v := (.int .i64 key)) rfl rfl (by kernel_rfl) (by kernel_rfl) (by kernel_rfl) (fun _ _ _ h => h) (by kernel_rfl) (by decide) hcl (yields_old x2 hlt0 (by exact rfl) (by exact rfl) (by exact rfl) Try.underlying3 rfl) hS (fun hc1 => ?_)
      clear hcl; have hcl := hc1; clear hc1; simp only [List.getElem_toArray, List.getElem_cons_zero, List.getElem_cons_succ, Act.put, List.setIfInBounds_toArray, List.set_cons_zero, List.set_cons_succ]
      refine wpAnyG_one (i := 11) (by kernel_rfl) rfl (fun K hK => ?_)
      go_simp
      refine ⟨trivial, (callsIn_wide.2 (set_p _ p m _ (hW.call hS.below) hok at_ key (bd_u64 hf1) hf2)).mono ?_⟩
      rintro e w5 ⟨rfl, hW5, hF5⟩
      refine hK _ _ (.inl (by kernel_rfl)) ?_
      clear hK K
      refine wpAnyG_done (by kernel_rfl) ?_ _
      have hB5 : Below w.heap.size w w5 := Foot.after (hB.trans (hS.below.mono hB.size)) hF5 (pm_old hp hm)
      clear hS hcl hF5 hB hW
      rw [← hE] at hW5
      go_wp2
      go_roundw
      case rel => exact ⟨k + 1, by omega, by go_num, hW5, hok', hB5⟩
      case measure => simp [intOf]; omega
    · have hkm : k = min len 60 := by omega
      have HK := Lib.hid hkm
      clear HA
      by_cases h1 : k < len
      · have e1 : decide ((k : Int) < len) = true := decide_eq_true (by omega)
        have e2 : decide ((k : Int) < 60) = false := decide_eq_false (by omega)
        clear hkm hlt hk
        go_wp2
        go_ret
        rw [← HK.out]
        exact ⟨p, m, rfl, hp, hm, hW, hok, hB⟩
      · have e1 : decide ((k : Int) < len) = false := decide_eq_false (by omega)
        clear hkm hlt hk
        go_wp2
        go_ret
        rw [← HK.out]
        exact ⟨p, m, rfl, hp, hm, hW, hok, hB⟩
end Go.Proofs.Ytbnfjppidmiheaa
