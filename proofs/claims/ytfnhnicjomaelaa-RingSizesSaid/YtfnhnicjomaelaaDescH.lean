/-
  Contracts of the document's Decode and Finish, and of 'shown'. Conditions: none.
-/
import Derived.Test.YtfnhnicjomaelaaDescG
namespace Go.Proofs.Ytfnhnicjomaelaa
open Go.ChangeShapes Go.WideShapes Go.ChangeAt Go.RowKit

set_option maxHeartbeats 8000000 in
/-- the sixteen bytes have the form -/
theorem decode_r_yes (s : ByteArray) (h16 : s.size = 16) (b1 b2 : Bool) (hL : Looks s b1 b2 false false false) (hb : (b1 && b2) = false) (w : World) :
    Calls Try.prog 25 #[.string s] w fun e w' =>
      e = .returned (.tuple #[bif rightB (numAt s 4) then dv (numAt s 0) (numAt s 4) (numAt s 8) (byteAt s 12 == 2) else dv 0 0 0 false, .int .i64 (bif rightB (numAt s 4) then 0 else 20)]) ∧ Below w.heap.size w w' := by
  obtain ⟨n1, n2, n3, n4, n5⟩ := hL
  obtain ⟨z13, x13⟩ := sum13 s h16
  have hi : ((s.size : Int) != 16) = false := by rw [h16]; rfl
  have h15 : 15 < s.size := by omega
  have hsum : ∀ W, Calls Try.prog 46 #[.string (s.extract 0 13)] W fun e w' => e = .returned (.int .u8 ((xorAll 90 (s.data.toList.take 13)).toNat : Int)) ∧ W = w' := fun W => by
    have h := sum_r (s.extract 0 13) z13 W
    rw [x13] at h
    exact h
  obtain ⟨c, hc⟩ : ∃ c, xorAll 90 (s.data.toList.take 13) = c := ⟨_, rfl⟩
  rw [hc] at hsum n3
  have HS := Lib.hid hsum
  have hget : ∀ (a b : Nat), b = a + 4 → b ≤ 16 → ∀ W, Calls Try.prog 47 #[.string (s.extract a b)] W fun e w' => e = .returned (.int .u32 (numAt s a)) ∧ ∃ n, w' = W.drewN n := fun a b h1 h2 W => by
    obtain ⟨g1, g2⟩ := numAt_sub s a b h16 h1 h2
    have h := get_r (s.extract a b) g1 W
    rw [g2] at h
    exact h
  have HG := Lib.hid hget
  clear hc z13 x13 h16 hsum hget
  have g12 : 12 < s.size := by omega
  have g13 : 13 < s.size := by omega
  have g14 : 14 < s.size := by omega
  have e12 : s[12].toNat = (byteAt s 12).toNat := by rw [byteAt_get]
  have e13 : s[13].toNat = (byteAt s 13).toNat := by rw [byteAt_get]
  have e14 : s[14].toNat = (byteAt s 14).toNat := by rw [byteAt_get]
  have e15 : s[15].toNat = (byteAt s 15).toNat := by rw [byteAt_get]
  have hcase : b1 = false ∨ (b1 = true ∧ b2 = false) := by
    revert hb
    cases b1 <;> cases b2 <;> simp
  clear hb
  have s4 : ∀ W, (Instr.slice 9 (.string s) none (some (.int .i64 4)) none).run Try.prog W = .ok (.string (s.extract 0 4)) W := fun W => run_slice_string_h W _ s Try.underlying9 .i64 4 (by omega) (by omega)
  have s8 : ∀ W, (Instr.slice 9 (.string s) (some (.int .i64 4)) (some (.int .i64 8)) none).run Try.prog W = .ok (.string (s.extract 4 8)) W := fun W => run_slice_string W _ s .i64 .i64 4 8 Try.underlying9 (by omega) (by omega) (by omega)
  have s12 : ∀ W, (Instr.slice 9 (.string s) (some (.int .i64 8)) (some (.int .i64 12)) none).run Try.prog W = .ok (.string (s.extract 8 12)) W := fun W => run_slice_string W _ s .i64 .i64 8 12 Try.underlying9 (by omega) (by omega) (by omega)
  rcases hcase with rfl | ⟨rfl, rfl⟩
  · go_enter Try.func25, Try.ntmps25
    go_wp2
    go_quiet ((go_at_call 46; exact Calls.quiet_of_same ((HS.out _).mono (fun _ _ ⟨a, b⟩ => ⟨a, b.symm⟩))))
    go_wp2
    have g12i : (12 : Int) < (s.size : Int) := by omega
    refine (wpIn_wide (n := 6)).1 ?_
    refine wpIn_region_G (fun _ => True) 14 15 rfl (by kernel_rfl) (fun hcl => ?_)
    refine wpAnyG_take (i := 0) 8 (v := (.string s)) rfl rfl (by kernel_rfl) (by kernel_rfl) (by kernel_rfl) (fun _ _ _ h => h) (by kernel_rfl) (by decide) hcl ⟨by rfl, fun w hR => ?hy_1, fun _ => rfl⟩ trivial (fun hc1 => ?rest_1)
    case hy_1 => go_simp; try (first | rfl | (intro h; omega))
    clear hcl; have hcl := hc1; clear hc1; simp only [Act.put, List.setIfInBounds_toArray]
    refine wpAnyG_take (i := 1) 8 (v := (.string (s.extract 0 4))) rfl rfl (by kernel_rfl) (by kernel_rfl) (by kernel_rfl) (fun _ _ _ h => h) (by kernel_rfl) (by decide) hcl ⟨by rfl, fun w hR => ?hy_2, fun _ => rfl⟩ trivial (fun hc1 => ?rest_2)
    case hy_2 => go_simp; try (first | rfl | (intro h; omega))
    clear hcl; have hcl := hc1; clear hc1; simp only [Act.put]
    refine wpAnyG_take (i := 3) 8 (v := (.string s)) rfl rfl (by kernel_rfl) (by kernel_rfl) (by kernel_rfl) (fun _ _ _ h => h) (by kernel_rfl) (by decide) hcl ⟨by rfl, fun w hR => ?hy_3, fun _ => rfl⟩ trivial (fun hc1 => ?rest_3)
    case hy_3 => go_simp; try (first | rfl | (intro h; omega))
    clear hcl; have hcl := hc1; clear hc1; simp only [Act.put]
    refine wpAnyG_take (i := 4) 8 (v := (.string (s.extract 4 8))) rfl rfl (by kernel_rfl) (by kernel_rfl) (by kernel_rfl) (fun _ _ _ h => h) (by kernel_rfl) (by decide) hcl ⟨by rfl, fun w hR => ?hy_4, fun _ => rfl⟩ trivial (fun hc1 => ?rest_4)
    case hy_4 => go_simp; try (first | rfl | (intro h; omega))
    clear hcl; have hcl := hc1; clear hc1; simp only [Act.put]
    refine wpAnyG_take (i := 6) 8 (v := (.string s)) rfl rfl (by kernel_rfl) (by kernel_rfl) (by kernel_rfl) (fun _ _ _ h => h) (by kernel_rfl) (by decide) hcl ⟨by rfl, fun w hR => ?hy_5, fun _ => rfl⟩ trivial (fun hc1 => ?rest_5)
    case hy_5 => go_simp; try (first | rfl | (intro h; omega))
    clear hcl; have hcl := hc1; clear hc1; simp only [Act.put]
    refine wpAnyG_take (i := 7) 8 (v := (.string (s.extract 8 12))) rfl rfl (by kernel_rfl) (by kernel_rfl) (by kernel_rfl) (fun _ _ _ h => h) (by kernel_rfl) (by decide) hcl ⟨by rfl, fun w hR => ?hy_6, fun _ => rfl⟩ trivial (fun hc1 => ?rest_6)
    case hy_6 => go_simp; try (first | rfl | (intro h; omega))
    clear hcl; have hcl := hc1; clear hc1; simp only [Act.put]
    refine wpAnyG_take (i := 9) 8 (v := (.string s)) rfl rfl (by kernel_rfl) (by kernel_rfl) (by kernel_rfl) (fun _ _ _ h => h) (by kernel_rfl) (by decide) hcl ⟨by rfl, fun w hR => ?hy_7, fun _ => rfl⟩ trivial (fun hc1 => ?rest_7)
    case hy_7 => go_simp; try (first | rfl | (intro h; omega))
    clear hcl; have hcl := hc1; clear hc1; simp only [Act.put]
    refine wpAnyG_take (i := 10) 8 (v := (.int .u8 ((byteAt s 12).toNat : Int))) rfl rfl (by kernel_rfl) (by kernel_rfl) (by kernel_rfl) (fun _ _ _ h => h) (by kernel_rfl) (by decide) hcl ⟨by rfl, fun w hR => ?hy_8, fun _ => rfl⟩ trivial (fun hc1 => ?rest_8)
    case hy_8 => go_simp; try (first | rfl | (intro h; omega))
    clear hcl; have hcl := hc1; clear hc1; simp only [Act.put]
    refine wpAnyG_take (i := 11) 8 (v := (.bool (((byteAt s 12).toNat : Int) == 2))) rfl rfl (by kernel_rfl) (by kernel_rfl) (by kernel_rfl) (fun _ _ _ h => h) (by kernel_rfl) (by decide) hcl ⟨by rfl, fun w hR => ?hy_9, fun _ => rfl⟩ trivial (fun hc1 => ?rest_9)
    case hy_9 => go_simp; try (first | rfl | (intro h; omega))
    clear hcl; have hcl := hc1; clear hc1; simp only [Act.put]
    refine wpAnyG_two (i := 2) (j := 13) (by kernel_rfl) rfl rfl (fun K hK => ?_) (fun K hK => ?_)
    · go_simp
      refine ⟨trivial, (callsIn_wide.2 (HG.out 0 4 rfl (by omega) _)).mono ?_⟩
      rintro e w' ⟨rfl, m2, rfl⟩
      refine hK _ _ (.inr trivial) ?_
      clear hK K
      refine wpAnyG_two (i := 5) (j := 13) (by kernel_rfl) rfl rfl (fun K hK => ?_) (fun K hK => ?_)
      · go_simp
        refine ⟨trivial, (callsIn_wide.2 (HG.out 4 8 rfl (by omega) _)).mono ?_⟩
        rintro e w' ⟨rfl, m5, rfl⟩
        refine hK _ _ (.inr trivial) ?_
        clear hK K
        refine wpAnyG_two (i := 8) (j := 13) (by kernel_rfl) rfl rfl (fun K hK => ?_) (fun K hK => ?_)
        · go_simp
          refine ⟨trivial, (callsIn_wide.2 (HG.out 8 12 rfl (by omega) _)).mono ?_⟩
          rintro e w' ⟨rfl, m8, rfl⟩
          refine hK _ _ (.inr trivial) ?_
          clear hK K
          refine wpAnyG_two (i := 12) (j := 13) (by kernel_rfl) rfl rfl (fun K hK => ?_) (fun K hK => ?_)
          · go_simp
            refine hK _ _ (.inr trivial) ?_
            clear hK K
            refine wpAnyG_one (i := 13) (by kernel_rfl) rfl (fun K hK => ?_)
            go_simp
            refine hK _ _ (.inr trivial) ?_
            clear hK K
            refine wpAnyG_one (i := 14) (by kernel_rfl) rfl (fun K hK => ?_)
            go_simp
            refine hK _ _ (.inl (by kernel_rfl)) ?_
            clear hK K
            refine wpAnyG_done (by kernel_rfl) ?_ _
            go_wp2_with fail
            refine (right_r _ _ _ _ _).mono ?_
            rintro e w2 ⟨rfl, hb2⟩
            have c0 : w2.cell? ⟨w.heap.size, 0, none⟩ = some (.int .u32 0) := by rw [hb2.cell (by simp; try omega)]; simp [go_sem]
            have c1 : w2.cell? ⟨w.heap.size, 1, none⟩ = some (.int .u32 0) := by rw [hb2.cell (by simp; try omega)]; simp [go_sem]
            have c2 : w2.cell? ⟨w.heap.size, 2, none⟩ = some (.int .u32 0) := by rw [hb2.cell (by simp; try omega)]; simp [go_sem]
            have c3 : w2.cell? ⟨w.heap.size, 3, none⟩ = some (.bool false) := by rw [hb2.cell (by simp; try omega)]; simp [go_sem]
            have q0 : w2.frozen? ⟨w.heap.size, 0, none⟩ = false := by rw [hb2.frozen (by simp; try omega)]; simp [go_sem]
            have q1 : w2.frozen? ⟨w.heap.size, 1, none⟩ = false := by rw [hb2.frozen (by simp; try omega)]; simp [go_sem]
            have q2 : w2.frozen? ⟨w.heap.size, 2, none⟩ = false := by rw [hb2.frozen (by simp; try omega)]; simp [go_sem]
            have q3 : w2.frozen? ⟨w.heap.size, 3, none⟩ = false := by rw [hb2.frozen (by simp; try omega)]; simp [go_sem]
            have d0 : w2.cell? ⟨w.heap.size + 1, 0, none⟩ = some (.int .u32 (numAt s 0)) := by rw [hb2.cell (by simp; try omega)]; simp [go_sem]
            have d1 : w2.cell? ⟨w.heap.size + 1, 1, none⟩ = some (.int .u32 (numAt s 4)) := by rw [hb2.cell (by simp; try omega)]; simp [go_sem]
            have d2 : w2.cell? ⟨w.heap.size + 1, 2, none⟩ = some (.int .u32 (numAt s 8)) := by rw [hb2.cell (by simp; try omega)]; simp [go_sem]
            have d3 : w2.cell? ⟨w.heap.size + 1, 3, none⟩ = some (.bool (((byteAt s 12).toNat : Int) == 2)) := by rw [hb2.cell (by simp; try omega)]; simp [go_sem]
            have hB2 : Below w.heap.size w w2 := Below.trans (by repeat (first | exact Below.refl _ _ | refine Below.setCell ?_ (by simp) _ | refine below_drewN ?_ _ | refine Below.drew ?_ | refine Below.alloc ?_ (by simp) _ | refine Below.alloc ?_ (by simp; omega) _)) (hb2.mono (by simp; try omega))
            clear hb2 s4 s8 s12 hi n1 n2 n3 n4 n5 e12 e13 e14 e15
            rcases hr : rightB (numAt s 4)
            · go_wp2
              refine bodyPost_ret (v := .tuple #[dv 0 0 0 false, .int .i64 20]) (by simp [results, Try.results25, go_sem, c0, c1, c2, c3]) rfl ⟨by simp [hr], ?_⟩
              exact (((hB2.setCell (by simp) _).setCell (by simp) _).setCell (by simp) _).setCell (by simp) _
            · go_wp2
              refine bodyPost_ret (v := .tuple #[dv (numAt s 0) (numAt s 4) (numAt s 8) (((byteAt s 12).toNat : Int) == 2), .int .i64 0]) (by simp [results, Try.results25, go_sem, c0, c1, c2, c3]) rfl ⟨by simp [hr, beq_two], ?_⟩
              exact (((hB2.setCell (by simp) _).setCell (by simp) _).setCell (by simp) _).setCell (by simp) _
          · go_simp
            refine hK _ _ (.inr trivial) ?_
            clear hK K
            refine wpAnyG_one (i := 12) (by kernel_rfl) rfl (fun K hK => ?_)
            go_simp
            refine hK _ _ (.inr trivial) ?_
            clear hK K
            refine wpAnyG_one (i := 14) (by kernel_rfl) rfl (fun K hK => ?_)
            go_simp
            refine hK _ _ (.inl (by kernel_rfl)) ?_
            clear hK K
            refine wpAnyG_done (by kernel_rfl) ?_ _
            go_wp2_with fail
            refine (right_r _ _ _ _ _).mono ?_
            rintro e w2 ⟨rfl, hb2⟩
            have c0 : w2.cell? ⟨w.heap.size, 0, none⟩ = some (.int .u32 0) := by rw [hb2.cell (by simp; try omega)]; simp [go_sem]
            have c1 : w2.cell? ⟨w.heap.size, 1, none⟩ = some (.int .u32 0) := by rw [hb2.cell (by simp; try omega)]; simp [go_sem]
            have c2 : w2.cell? ⟨w.heap.size, 2, none⟩ = some (.int .u32 0) := by rw [hb2.cell (by simp; try omega)]; simp [go_sem]
            have c3 : w2.cell? ⟨w.heap.size, 3, none⟩ = some (.bool false) := by rw [hb2.cell (by simp; try omega)]; simp [go_sem]
            have q0 : w2.frozen? ⟨w.heap.size, 0, none⟩ = false := by rw [hb2.frozen (by simp; try omega)]; simp [go_sem]
            have q1 : w2.frozen? ⟨w.heap.size, 1, none⟩ = false := by rw [hb2.frozen (by simp; try omega)]; simp [go_sem]
            have q2 : w2.frozen? ⟨w.heap.size, 2, none⟩ = false := by rw [hb2.frozen (by simp; try omega)]; simp [go_sem]
            have q3 : w2.frozen? ⟨w.heap.size, 3, none⟩ = false := by rw [hb2.frozen (by simp; try omega)]; simp [go_sem]
            have d0 : w2.cell? ⟨w.heap.size + 1, 0, none⟩ = some (.int .u32 (numAt s 0)) := by rw [hb2.cell (by simp; try omega)]; simp [go_sem]
            have d1 : w2.cell? ⟨w.heap.size + 1, 1, none⟩ = some (.int .u32 (numAt s 4)) := by rw [hb2.cell (by simp; try omega)]; simp [go_sem]
            have d2 : w2.cell? ⟨w.heap.size + 1, 2, none⟩ = some (.int .u32 (numAt s 8)) := by rw [hb2.cell (by simp; try omega)]; simp [go_sem]
            have d3 : w2.cell? ⟨w.heap.size + 1, 3, none⟩ = some (.bool (((byteAt s 12).toNat : Int) == 2)) := by rw [hb2.cell (by simp; try omega)]; simp [go_sem]
            have hB2 : Below w.heap.size w w2 := Below.trans (by repeat (first | exact Below.refl _ _ | refine Below.setCell ?_ (by simp) _ | refine below_drewN ?_ _ | refine Below.drew ?_ | refine Below.alloc ?_ (by simp) _ | refine Below.alloc ?_ (by simp; omega) _)) (hb2.mono (by simp; try omega))
            clear hb2 s4 s8 s12 hi n1 n2 n3 n4 n5 e12 e13 e14 e15
            rcases hr : rightB (numAt s 4)
            · go_wp2
              refine bodyPost_ret (v := .tuple #[dv 0 0 0 false, .int .i64 20]) (by simp [results, Try.results25, go_sem, c0, c1, c2, c3]) rfl ⟨by simp [hr], ?_⟩
              exact (((hB2.setCell (by simp) _).setCell (by simp) _).setCell (by simp) _).setCell (by simp) _
            · go_wp2
              refine bodyPost_ret (v := .tuple #[dv (numAt s 0) (numAt s 4) (numAt s 8) (((byteAt s 12).toNat : Int) == 2), .int .i64 0]) (by simp [results, Try.results25, go_sem, c0, c1, c2, c3]) rfl ⟨by simp [hr, beq_two], ?_⟩
              exact (((hB2.setCell (by simp) _).setCell (by simp) _).setCell (by simp) _).setCell (by simp) _
        · go_simp
          refine hK _ _ (.inr trivial) ?_
          clear hK K
          refine wpAnyG_one (i := 8) (by kernel_rfl) rfl (fun K hK => ?_)
          go_simp
          refine ⟨trivial, (callsIn_wide.2 (HG.out 8 12 rfl (by omega) _)).mono ?_⟩
          rintro e w' ⟨rfl, m8, rfl⟩
          refine hK _ _ (.inr trivial) ?_
          clear hK K
          refine wpAnyG_one (i := 12) (by kernel_rfl) rfl (fun K hK => ?_)
          go_simp
          refine hK _ _ (.inr trivial) ?_
          clear hK K
          refine wpAnyG_one (i := 14) (by kernel_rfl) rfl (fun K hK => ?_)
          go_simp
          refine hK _ _ (.inl (by kernel_rfl)) ?_
          clear hK K
          refine wpAnyG_done (by kernel_rfl) ?_ _
          go_wp2_with fail
          refine (right_r _ _ _ _ _).mono ?_
          rintro e w2 ⟨rfl, hb2⟩
          have c0 : w2.cell? ⟨w.heap.size, 0, none⟩ = some (.int .u32 0) := by rw [hb2.cell (by simp; try omega)]; simp [go_sem]
          have c1 : w2.cell? ⟨w.heap.size, 1, none⟩ = some (.int .u32 0) := by rw [hb2.cell (by simp; try omega)]; simp [go_sem]
          have c2 : w2.cell? ⟨w.heap.size, 2, none⟩ = some (.int .u32 0) := by rw [hb2.cell (by simp; try omega)]; simp [go_sem]
          have c3 : w2.cell? ⟨w.heap.size, 3, none⟩ = some (.bool false) := by rw [hb2.cell (by simp; try omega)]; simp [go_sem]
          have q0 : w2.frozen? ⟨w.heap.size, 0, none⟩ = false := by rw [hb2.frozen (by simp; try omega)]; simp [go_sem]
          have q1 : w2.frozen? ⟨w.heap.size, 1, none⟩ = false := by rw [hb2.frozen (by simp; try omega)]; simp [go_sem]
          have q2 : w2.frozen? ⟨w.heap.size, 2, none⟩ = false := by rw [hb2.frozen (by simp; try omega)]; simp [go_sem]
          have q3 : w2.frozen? ⟨w.heap.size, 3, none⟩ = false := by rw [hb2.frozen (by simp; try omega)]; simp [go_sem]
          have d0 : w2.cell? ⟨w.heap.size + 1, 0, none⟩ = some (.int .u32 (numAt s 0)) := by rw [hb2.cell (by simp; try omega)]; simp [go_sem]
          have d1 : w2.cell? ⟨w.heap.size + 1, 1, none⟩ = some (.int .u32 (numAt s 4)) := by rw [hb2.cell (by simp; try omega)]; simp [go_sem]
          have d2 : w2.cell? ⟨w.heap.size + 1, 2, none⟩ = some (.int .u32 (numAt s 8)) := by rw [hb2.cell (by simp; try omega)]; simp [go_sem]
          have d3 : w2.cell? ⟨w.heap.size + 1, 3, none⟩ = some (.bool (((byteAt s 12).toNat : Int) == 2)) := by rw [hb2.cell (by simp; try omega)]; simp [go_sem]
          have hB2 : Below w.heap.size w w2 := Below.trans (by repeat (first | exact Below.refl _ _ | refine Below.setCell ?_ (by simp) _ | refine below_drewN ?_ _ | refine Below.drew ?_ | refine Below.alloc ?_ (by simp) _ | refine Below.alloc ?_ (by simp; omega) _)) (hb2.mono (by simp; try omega))
          clear hb2 s4 s8 s12 hi n1 n2 n3 n4 n5 e12 e13 e14 e15
          rcases hr : rightB (numAt s 4)
          · go_wp2
            refine bodyPost_ret (v := .tuple #[dv 0 0 0 false, .int .i64 20]) (by simp [results, Try.results25, go_sem, c0, c1, c2, c3]) rfl ⟨by simp [hr], ?_⟩
            exact (((hB2.setCell (by simp) _).setCell (by simp) _).setCell (by simp) _).setCell (by simp) _
          · go_wp2
            refine bodyPost_ret (v := .tuple #[dv (numAt s 0) (numAt s 4) (numAt s 8) (((byteAt s 12).toNat : Int) == 2), .int .i64 0]) (by simp [results, Try.results25, go_sem, c0, c1, c2, c3]) rfl ⟨by simp [hr, beq_two], ?_⟩
            exact (((hB2.setCell (by simp) _).setCell (by simp) _).setCell (by simp) _).setCell (by simp) _
      · go_simp
        refine hK _ _ (.inr trivial) ?_
        clear hK K
        refine wpAnyG_one (i := 5) (by kernel_rfl) rfl (fun K hK => ?_)
        go_simp
        refine ⟨trivial, (callsIn_wide.2 (HG.out 4 8 rfl (by omega) _)).mono ?_⟩
        rintro e w' ⟨rfl, m5, rfl⟩
        refine hK _ _ (.inr trivial) ?_
        clear hK K
        refine wpAnyG_one (i := 8) (by kernel_rfl) rfl (fun K hK => ?_)
        go_simp
        refine ⟨trivial, (callsIn_wide.2 (HG.out 8 12 rfl (by omega) _)).mono ?_⟩
        rintro e w' ⟨rfl, m8, rfl⟩
        refine hK _ _ (.inr trivial) ?_
        clear hK K
        refine wpAnyG_one (i := 12) (by kernel_rfl) rfl (fun K hK => ?_)
        go_simp
        refine hK _ _ (.inr trivial) ?_
        clear hK K
        refine wpAnyG_one (i := 14) (by kernel_rfl) rfl (fun K hK => ?_)
        go_simp
        refine hK _ _ (.inl (by kernel_rfl)) ?_
        clear hK K
        refine wpAnyG_done (by kernel_rfl) ?_ _
        go_wp2_with fail
        refine (right_r _ _ _ _ _).mono ?_
        rintro e w2 ⟨rfl, hb2⟩
        have c0 : w2.cell? ⟨w.heap.size, 0, none⟩ = some (.int .u32 0) := by rw [hb2.cell (by simp; try omega)]; simp [go_sem]
        have c1 : w2.cell? ⟨w.heap.size, 1, none⟩ = some (.int .u32 0) := by rw [hb2.cell (by simp; try omega)]; simp [go_sem]
        have c2 : w2.cell? ⟨w.heap.size, 2, none⟩ = some (.int .u32 0) := by rw [hb2.cell (by simp; try omega)]; simp [go_sem]
        have c3 : w2.cell? ⟨w.heap.size, 3, none⟩ = some (.bool false) := by rw [hb2.cell (by simp; try omega)]; simp [go_sem]
        have q0 : w2.frozen? ⟨w.heap.size, 0, none⟩ = false := by rw [hb2.frozen (by simp; try omega)]; simp [go_sem]
        have q1 : w2.frozen? ⟨w.heap.size, 1, none⟩ = false := by rw [hb2.frozen (by simp; try omega)]; simp [go_sem]
        have q2 : w2.frozen? ⟨w.heap.size, 2, none⟩ = false := by rw [hb2.frozen (by simp; try omega)]; simp [go_sem]
        have q3 : w2.frozen? ⟨w.heap.size, 3, none⟩ = false := by rw [hb2.frozen (by simp; try omega)]; simp [go_sem]
        have d0 : w2.cell? ⟨w.heap.size + 1, 0, none⟩ = some (.int .u32 (numAt s 0)) := by rw [hb2.cell (by simp; try omega)]; simp [go_sem]
        have d1 : w2.cell? ⟨w.heap.size + 1, 1, none⟩ = some (.int .u32 (numAt s 4)) := by rw [hb2.cell (by simp; try omega)]; simp [go_sem]
        have d2 : w2.cell? ⟨w.heap.size + 1, 2, none⟩ = some (.int .u32 (numAt s 8)) := by rw [hb2.cell (by simp; try omega)]; simp [go_sem]
        have d3 : w2.cell? ⟨w.heap.size + 1, 3, none⟩ = some (.bool (((byteAt s 12).toNat : Int) == 2)) := by rw [hb2.cell (by simp; try omega)]; simp [go_sem]
        have hB2 : Below w.heap.size w w2 := Below.trans (by repeat (first | exact Below.refl _ _ | refine Below.setCell ?_ (by simp) _ | refine below_drewN ?_ _ | refine Below.drew ?_ | refine Below.alloc ?_ (by simp) _ | refine Below.alloc ?_ (by simp; omega) _)) (hb2.mono (by simp; try omega))
        clear hb2 s4 s8 s12 hi n1 n2 n3 n4 n5 e12 e13 e14 e15
        rcases hr : rightB (numAt s 4)
        · go_wp2
          refine bodyPost_ret (v := .tuple #[dv 0 0 0 false, .int .i64 20]) (by simp [results, Try.results25, go_sem, c0, c1, c2, c3]) rfl ⟨by simp [hr], ?_⟩
          exact (((hB2.setCell (by simp) _).setCell (by simp) _).setCell (by simp) _).setCell (by simp) _
        · go_wp2
          refine bodyPost_ret (v := .tuple #[dv (numAt s 0) (numAt s 4) (numAt s 8) (((byteAt s 12).toNat : Int) == 2), .int .i64 0]) (by simp [results, Try.results25, go_sem, c0, c1, c2, c3]) rfl ⟨by simp [hr, beq_two], ?_⟩
          exact (((hB2.setCell (by simp) _).setCell (by simp) _).setCell (by simp) _).setCell (by simp) _
    · go_simp
      refine hK _ _ (.inr trivial) ?_
      clear hK K
      refine wpAnyG_one (i := 2) (by kernel_rfl) rfl (fun K hK => ?_)
      go_simp
      refine ⟨trivial, (callsIn_wide.2 (HG.out 0 4 rfl (by omega) _)).mono ?_⟩
      rintro e w' ⟨rfl, m2, rfl⟩
      refine hK _ _ (.inr trivial) ?_
      clear hK K
      refine wpAnyG_one (i := 5) (by kernel_rfl) rfl (fun K hK => ?_)
      go_simp
      refine ⟨trivial, (callsIn_wide.2 (HG.out 4 8 rfl (by omega) _)).mono ?_⟩
      rintro e w' ⟨rfl, m5, rfl⟩
      refine hK _ _ (.inr trivial) ?_
      clear hK K
      refine wpAnyG_one (i := 8) (by kernel_rfl) rfl (fun K hK => ?_)
      go_simp
      refine ⟨trivial, (callsIn_wide.2 (HG.out 8 12 rfl (by omega) _)).mono ?_⟩
      rintro e w' ⟨rfl, m8, rfl⟩
      refine hK _ _ (.inr trivial) ?_
      clear hK K
      refine wpAnyG_one (i := 12) (by kernel_rfl) rfl (fun K hK => ?_)
      go_simp
      refine hK _ _ (.inr trivial) ?_
      clear hK K
      refine wpAnyG_one (i := 14) (by kernel_rfl) rfl (fun K hK => ?_)
      go_simp
      refine hK _ _ (.inl (by kernel_rfl)) ?_
      clear hK K
      refine wpAnyG_done (by kernel_rfl) ?_ _
      go_wp2_with fail
      refine (right_r _ _ _ _ _).mono ?_
      rintro e w2 ⟨rfl, hb2⟩
      have c0 : w2.cell? ⟨w.heap.size, 0, none⟩ = some (.int .u32 0) := by rw [hb2.cell (by simp; try omega)]; simp [go_sem]
      have c1 : w2.cell? ⟨w.heap.size, 1, none⟩ = some (.int .u32 0) := by rw [hb2.cell (by simp; try omega)]; simp [go_sem]
      have c2 : w2.cell? ⟨w.heap.size, 2, none⟩ = some (.int .u32 0) := by rw [hb2.cell (by simp; try omega)]; simp [go_sem]
      have c3 : w2.cell? ⟨w.heap.size, 3, none⟩ = some (.bool false) := by rw [hb2.cell (by simp; try omega)]; simp [go_sem]
      have q0 : w2.frozen? ⟨w.heap.size, 0, none⟩ = false := by rw [hb2.frozen (by simp; try omega)]; simp [go_sem]
      have q1 : w2.frozen? ⟨w.heap.size, 1, none⟩ = false := by rw [hb2.frozen (by simp; try omega)]; simp [go_sem]
      have q2 : w2.frozen? ⟨w.heap.size, 2, none⟩ = false := by rw [hb2.frozen (by simp; try omega)]; simp [go_sem]
      have q3 : w2.frozen? ⟨w.heap.size, 3, none⟩ = false := by rw [hb2.frozen (by simp; try omega)]; simp [go_sem]
      have d0 : w2.cell? ⟨w.heap.size + 1, 0, none⟩ = some (.int .u32 (numAt s 0)) := by rw [hb2.cell (by simp; try omega)]; simp [go_sem]
      have d1 : w2.cell? ⟨w.heap.size + 1, 1, none⟩ = some (.int .u32 (numAt s 4)) := by rw [hb2.cell (by simp; try omega)]; simp [go_sem]
      have d2 : w2.cell? ⟨w.heap.size + 1, 2, none⟩ = some (.int .u32 (numAt s 8)) := by rw [hb2.cell (by simp; try omega)]; simp [go_sem]
      have d3 : w2.cell? ⟨w.heap.size + 1, 3, none⟩ = some (.bool (((byteAt s 12).toNat : Int) == 2)) := by rw [hb2.cell (by simp; try omega)]; simp [go_sem]
      have hB2 : Below w.heap.size w w2 := Below.trans (by repeat (first | exact Below.refl _ _ | refine Below.setCell ?_ (by simp) _ | refine below_drewN ?_ _ | refine Below.drew ?_ | refine Below.alloc ?_ (by simp) _ | refine Below.alloc ?_ (by simp; omega) _)) (hb2.mono (by simp; try omega))
      clear hb2 s4 s8 s12 hi n1 n2 n3 n4 n5 e12 e13 e14 e15
      rcases hr : rightB (numAt s 4)
      · go_wp2
        refine bodyPost_ret (v := .tuple #[dv 0 0 0 false, .int .i64 20]) (by simp [results, Try.results25, go_sem, c0, c1, c2, c3]) rfl ⟨by simp [hr], ?_⟩
        exact (((hB2.setCell (by simp) _).setCell (by simp) _).setCell (by simp) _).setCell (by simp) _
      · go_wp2
        refine bodyPost_ret (v := .tuple #[dv (numAt s 0) (numAt s 4) (numAt s 8) (((byteAt s 12).toNat : Int) == 2), .int .i64 0]) (by simp [results, Try.results25, go_sem, c0, c1, c2, c3]) rfl ⟨by simp [hr, beq_two], ?_⟩
        exact (((hB2.setCell (by simp) _).setCell (by simp) _).setCell (by simp) _).setCell (by simp) _
  · go_enter Try.func25, Try.ntmps25
    go_wp2
    go_quiet ((go_at_call 46; exact Calls.quiet_of_same ((HS.out _).mono (fun _ _ ⟨a, b⟩ => ⟨a, b.symm⟩))))
    go_wp2
    have g12i : (12 : Int) < (s.size : Int) := by omega
    refine (wpIn_wide (n := 6)).1 ?_
    refine wpIn_region_G (fun _ => True) 14 15 rfl (by kernel_rfl) (fun hcl => ?_)
    refine wpAnyG_take (i := 0) 8 (v := (.string s)) rfl rfl (by kernel_rfl) (by kernel_rfl) (by kernel_rfl) (fun _ _ _ h => h) (by kernel_rfl) (by decide) hcl ⟨by rfl, fun w hR => ?hy_10, fun _ => rfl⟩ trivial (fun hc1 => ?rest_10)
    case hy_10 => go_simp; try (first | rfl | (intro h; omega))
    clear hcl; have hcl := hc1; clear hc1; simp only [Act.put, List.setIfInBounds_toArray]
    refine wpAnyG_take (i := 1) 8 (v := (.string (s.extract 0 4))) rfl rfl (by kernel_rfl) (by kernel_rfl) (by kernel_rfl) (fun _ _ _ h => h) (by kernel_rfl) (by decide) hcl ⟨by rfl, fun w hR => ?hy_11, fun _ => rfl⟩ trivial (fun hc1 => ?rest_11)
    case hy_11 => go_simp; try (first | rfl | (intro h; omega))
    clear hcl; have hcl := hc1; clear hc1; simp only [Act.put]
    refine wpAnyG_take (i := 3) 8 (v := (.string s)) rfl rfl (by kernel_rfl) (by kernel_rfl) (by kernel_rfl) (fun _ _ _ h => h) (by kernel_rfl) (by decide) hcl ⟨by rfl, fun w hR => ?hy_12, fun _ => rfl⟩ trivial (fun hc1 => ?rest_12)
    case hy_12 => go_simp; try (first | rfl | (intro h; omega))
    clear hcl; have hcl := hc1; clear hc1; simp only [Act.put]
    refine wpAnyG_take (i := 4) 8 (v := (.string (s.extract 4 8))) rfl rfl (by kernel_rfl) (by kernel_rfl) (by kernel_rfl) (fun _ _ _ h => h) (by kernel_rfl) (by decide) hcl ⟨by rfl, fun w hR => ?hy_13, fun _ => rfl⟩ trivial (fun hc1 => ?rest_13)
    case hy_13 => go_simp; try (first | rfl | (intro h; omega))
    clear hcl; have hcl := hc1; clear hc1; simp only [Act.put]
    refine wpAnyG_take (i := 6) 8 (v := (.string s)) rfl rfl (by kernel_rfl) (by kernel_rfl) (by kernel_rfl) (fun _ _ _ h => h) (by kernel_rfl) (by decide) hcl ⟨by rfl, fun w hR => ?hy_14, fun _ => rfl⟩ trivial (fun hc1 => ?rest_14)
    case hy_14 => go_simp; try (first | rfl | (intro h; omega))
    clear hcl; have hcl := hc1; clear hc1; simp only [Act.put]
    refine wpAnyG_take (i := 7) 8 (v := (.string (s.extract 8 12))) rfl rfl (by kernel_rfl) (by kernel_rfl) (by kernel_rfl) (fun _ _ _ h => h) (by kernel_rfl) (by decide) hcl ⟨by rfl, fun w hR => ?hy_15, fun _ => rfl⟩ trivial (fun hc1 => ?rest_15)
    case hy_15 => go_simp; try (first | rfl | (intro h; omega))
    clear hcl; have hcl := hc1; clear hc1; simp only [Act.put]
    refine wpAnyG_take (i := 9) 8 (v := (.string s)) rfl rfl (by kernel_rfl) (by kernel_rfl) (by kernel_rfl) (fun _ _ _ h => h) (by kernel_rfl) (by decide) hcl ⟨by rfl, fun w hR => ?hy_16, fun _ => rfl⟩ trivial (fun hc1 => ?rest_16)
    case hy_16 => go_simp; try (first | rfl | (intro h; omega))
    clear hcl; have hcl := hc1; clear hc1; simp only [Act.put]
    refine wpAnyG_take (i := 10) 8 (v := (.int .u8 ((byteAt s 12).toNat : Int))) rfl rfl (by kernel_rfl) (by kernel_rfl) (by kernel_rfl) (fun _ _ _ h => h) (by kernel_rfl) (by decide) hcl ⟨by rfl, fun w hR => ?hy_17, fun _ => rfl⟩ trivial (fun hc1 => ?rest_17)
    case hy_17 => go_simp; try (first | rfl | (intro h; omega))
    clear hcl; have hcl := hc1; clear hc1; simp only [Act.put]
    refine wpAnyG_take (i := 11) 8 (v := (.bool (((byteAt s 12).toNat : Int) == 2))) rfl rfl (by kernel_rfl) (by kernel_rfl) (by kernel_rfl) (fun _ _ _ h => h) (by kernel_rfl) (by decide) hcl ⟨by rfl, fun w hR => ?hy_18, fun _ => rfl⟩ trivial (fun hc1 => ?rest_18)
    case hy_18 => go_simp; try (first | rfl | (intro h; omega))
    clear hcl; have hcl := hc1; clear hc1; simp only [Act.put]
    refine wpAnyG_two (i := 2) (j := 13) (by kernel_rfl) rfl rfl (fun K hK => ?_) (fun K hK => ?_)
    · go_simp
      refine ⟨trivial, (callsIn_wide.2 (HG.out 0 4 rfl (by omega) _)).mono ?_⟩
      rintro e w' ⟨rfl, m2, rfl⟩
      refine hK _ _ (.inr trivial) ?_
      clear hK K
      refine wpAnyG_two (i := 5) (j := 13) (by kernel_rfl) rfl rfl (fun K hK => ?_) (fun K hK => ?_)
      · go_simp
        refine ⟨trivial, (callsIn_wide.2 (HG.out 4 8 rfl (by omega) _)).mono ?_⟩
        rintro e w' ⟨rfl, m5, rfl⟩
        refine hK _ _ (.inr trivial) ?_
        clear hK K
        refine wpAnyG_two (i := 8) (j := 13) (by kernel_rfl) rfl rfl (fun K hK => ?_) (fun K hK => ?_)
        · go_simp
          refine ⟨trivial, (callsIn_wide.2 (HG.out 8 12 rfl (by omega) _)).mono ?_⟩
          rintro e w' ⟨rfl, m8, rfl⟩
          refine hK _ _ (.inr trivial) ?_
          clear hK K
          refine wpAnyG_two (i := 12) (j := 13) (by kernel_rfl) rfl rfl (fun K hK => ?_) (fun K hK => ?_)
          · go_simp
            refine hK _ _ (.inr trivial) ?_
            clear hK K
            refine wpAnyG_one (i := 13) (by kernel_rfl) rfl (fun K hK => ?_)
            go_simp
            refine hK _ _ (.inr trivial) ?_
            clear hK K
            refine wpAnyG_one (i := 14) (by kernel_rfl) rfl (fun K hK => ?_)
            go_simp
            refine hK _ _ (.inl (by kernel_rfl)) ?_
            clear hK K
            refine wpAnyG_done (by kernel_rfl) ?_ _
            go_wp2_with fail
            refine (right_r _ _ _ _ _).mono ?_
            rintro e w2 ⟨rfl, hb2⟩
            have c0 : w2.cell? ⟨w.heap.size, 0, none⟩ = some (.int .u32 0) := by rw [hb2.cell (by simp; try omega)]; simp [go_sem]
            have c1 : w2.cell? ⟨w.heap.size, 1, none⟩ = some (.int .u32 0) := by rw [hb2.cell (by simp; try omega)]; simp [go_sem]
            have c2 : w2.cell? ⟨w.heap.size, 2, none⟩ = some (.int .u32 0) := by rw [hb2.cell (by simp; try omega)]; simp [go_sem]
            have c3 : w2.cell? ⟨w.heap.size, 3, none⟩ = some (.bool false) := by rw [hb2.cell (by simp; try omega)]; simp [go_sem]
            have q0 : w2.frozen? ⟨w.heap.size, 0, none⟩ = false := by rw [hb2.frozen (by simp; try omega)]; simp [go_sem]
            have q1 : w2.frozen? ⟨w.heap.size, 1, none⟩ = false := by rw [hb2.frozen (by simp; try omega)]; simp [go_sem]
            have q2 : w2.frozen? ⟨w.heap.size, 2, none⟩ = false := by rw [hb2.frozen (by simp; try omega)]; simp [go_sem]
            have q3 : w2.frozen? ⟨w.heap.size, 3, none⟩ = false := by rw [hb2.frozen (by simp; try omega)]; simp [go_sem]
            have d0 : w2.cell? ⟨w.heap.size + 1, 0, none⟩ = some (.int .u32 (numAt s 0)) := by rw [hb2.cell (by simp; try omega)]; simp [go_sem]
            have d1 : w2.cell? ⟨w.heap.size + 1, 1, none⟩ = some (.int .u32 (numAt s 4)) := by rw [hb2.cell (by simp; try omega)]; simp [go_sem]
            have d2 : w2.cell? ⟨w.heap.size + 1, 2, none⟩ = some (.int .u32 (numAt s 8)) := by rw [hb2.cell (by simp; try omega)]; simp [go_sem]
            have d3 : w2.cell? ⟨w.heap.size + 1, 3, none⟩ = some (.bool (((byteAt s 12).toNat : Int) == 2)) := by rw [hb2.cell (by simp; try omega)]; simp [go_sem]
            have hB2 : Below w.heap.size w w2 := Below.trans (by repeat (first | exact Below.refl _ _ | refine Below.setCell ?_ (by simp) _ | refine below_drewN ?_ _ | refine Below.drew ?_ | refine Below.alloc ?_ (by simp) _ | refine Below.alloc ?_ (by simp; omega) _)) (hb2.mono (by simp; try omega))
            clear hb2 s4 s8 s12 hi n1 n2 n3 n4 n5 e12 e13 e14 e15
            rcases hr : rightB (numAt s 4)
            · go_wp2
              refine bodyPost_ret (v := .tuple #[dv 0 0 0 false, .int .i64 20]) (by simp [results, Try.results25, go_sem, c0, c1, c2, c3]) rfl ⟨by simp [hr], ?_⟩
              exact (((hB2.setCell (by simp) _).setCell (by simp) _).setCell (by simp) _).setCell (by simp) _
            · go_wp2
              refine bodyPost_ret (v := .tuple #[dv (numAt s 0) (numAt s 4) (numAt s 8) (((byteAt s 12).toNat : Int) == 2), .int .i64 0]) (by simp [results, Try.results25, go_sem, c0, c1, c2, c3]) rfl ⟨by simp [hr, beq_two], ?_⟩
              exact (((hB2.setCell (by simp) _).setCell (by simp) _).setCell (by simp) _).setCell (by simp) _
          · go_simp
            refine hK _ _ (.inr trivial) ?_
            clear hK K
            refine wpAnyG_one (i := 12) (by kernel_rfl) rfl (fun K hK => ?_)
            go_simp
            refine hK _ _ (.inr trivial) ?_
            clear hK K
            refine wpAnyG_one (i := 14) (by kernel_rfl) rfl (fun K hK => ?_)
            go_simp
            refine hK _ _ (.inl (by kernel_rfl)) ?_
            clear hK K
            refine wpAnyG_done (by kernel_rfl) ?_ _
            go_wp2_with fail
            refine (right_r _ _ _ _ _).mono ?_
            rintro e w2 ⟨rfl, hb2⟩
            have c0 : w2.cell? ⟨w.heap.size, 0, none⟩ = some (.int .u32 0) := by rw [hb2.cell (by simp; try omega)]; simp [go_sem]
            have c1 : w2.cell? ⟨w.heap.size, 1, none⟩ = some (.int .u32 0) := by rw [hb2.cell (by simp; try omega)]; simp [go_sem]
            have c2 : w2.cell? ⟨w.heap.size, 2, none⟩ = some (.int .u32 0) := by rw [hb2.cell (by simp; try omega)]; simp [go_sem]
            have c3 : w2.cell? ⟨w.heap.size, 3, none⟩ = some (.bool false) := by rw [hb2.cell (by simp; try omega)]; simp [go_sem]
            have q0 : w2.frozen? ⟨w.heap.size, 0, none⟩ = false := by rw [hb2.frozen (by simp; try omega)]; simp [go_sem]
            have q1 : w2.frozen? ⟨w.heap.size, 1, none⟩ = false := by rw [hb2.frozen (by simp; try omega)]; simp [go_sem]
            have q2 : w2.frozen? ⟨w.heap.size, 2, none⟩ = false := by rw [hb2.frozen (by simp; try omega)]; simp [go_sem]
            have q3 : w2.frozen? ⟨w.heap.size, 3, none⟩ = false := by rw [hb2.frozen (by simp; try omega)]; simp [go_sem]
            have d0 : w2.cell? ⟨w.heap.size + 1, 0, none⟩ = some (.int .u32 (numAt s 0)) := by rw [hb2.cell (by simp; try omega)]; simp [go_sem]
            have d1 : w2.cell? ⟨w.heap.size + 1, 1, none⟩ = some (.int .u32 (numAt s 4)) := by rw [hb2.cell (by simp; try omega)]; simp [go_sem]
            have d2 : w2.cell? ⟨w.heap.size + 1, 2, none⟩ = some (.int .u32 (numAt s 8)) := by rw [hb2.cell (by simp; try omega)]; simp [go_sem]
            have d3 : w2.cell? ⟨w.heap.size + 1, 3, none⟩ = some (.bool (((byteAt s 12).toNat : Int) == 2)) := by rw [hb2.cell (by simp; try omega)]; simp [go_sem]
            have hB2 : Below w.heap.size w w2 := Below.trans (by repeat (first | exact Below.refl _ _ | refine Below.setCell ?_ (by simp) _ | refine below_drewN ?_ _ | refine Below.drew ?_ | refine Below.alloc ?_ (by simp) _ | refine Below.alloc ?_ (by simp; omega) _)) (hb2.mono (by simp; try omega))
            clear hb2 s4 s8 s12 hi n1 n2 n3 n4 n5 e12 e13 e14 e15
            rcases hr : rightB (numAt s 4)
            · go_wp2
              refine bodyPost_ret (v := .tuple #[dv 0 0 0 false, .int .i64 20]) (by simp [results, Try.results25, go_sem, c0, c1, c2, c3]) rfl ⟨by simp [hr], ?_⟩
              exact (((hB2.setCell (by simp) _).setCell (by simp) _).setCell (by simp) _).setCell (by simp) _
            · go_wp2
              refine bodyPost_ret (v := .tuple #[dv (numAt s 0) (numAt s 4) (numAt s 8) (((byteAt s 12).toNat : Int) == 2), .int .i64 0]) (by simp [results, Try.results25, go_sem, c0, c1, c2, c3]) rfl ⟨by simp [hr, beq_two], ?_⟩
              exact (((hB2.setCell (by simp) _).setCell (by simp) _).setCell (by simp) _).setCell (by simp) _
        · go_simp
          refine hK _ _ (.inr trivial) ?_
          clear hK K
          refine wpAnyG_one (i := 8) (by kernel_rfl) rfl (fun K hK => ?_)
          go_simp
          refine ⟨trivial, (callsIn_wide.2 (HG.out 8 12 rfl (by omega) _)).mono ?_⟩
          rintro e w' ⟨rfl, m8, rfl⟩
          refine hK _ _ (.inr trivial) ?_
          clear hK K
          refine wpAnyG_one (i := 12) (by kernel_rfl) rfl (fun K hK => ?_)
          go_simp
          refine hK _ _ (.inr trivial) ?_
          clear hK K
          refine wpAnyG_one (i := 14) (by kernel_rfl) rfl (fun K hK => ?_)
          go_simp
          refine hK _ _ (.inl (by kernel_rfl)) ?_
          clear hK K
          refine wpAnyG_done (by kernel_rfl) ?_ _
          go_wp2_with fail
          refine (right_r _ _ _ _ _).mono ?_
          rintro e w2 ⟨rfl, hb2⟩
          have c0 : w2.cell? ⟨w.heap.size, 0, none⟩ = some (.int .u32 0) := by rw [hb2.cell (by simp; try omega)]; simp [go_sem]
          have c1 : w2.cell? ⟨w.heap.size, 1, none⟩ = some (.int .u32 0) := by rw [hb2.cell (by simp; try omega)]; simp [go_sem]
          have c2 : w2.cell? ⟨w.heap.size, 2, none⟩ = some (.int .u32 0) := by rw [hb2.cell (by simp; try omega)]; simp [go_sem]
          have c3 : w2.cell? ⟨w.heap.size, 3, none⟩ = some (.bool false) := by rw [hb2.cell (by simp; try omega)]; simp [go_sem]
          have q0 : w2.frozen? ⟨w.heap.size, 0, none⟩ = false := by rw [hb2.frozen (by simp; try omega)]; simp [go_sem]
          have q1 : w2.frozen? ⟨w.heap.size, 1, none⟩ = false := by rw [hb2.frozen (by simp; try omega)]; simp [go_sem]
          have q2 : w2.frozen? ⟨w.heap.size, 2, none⟩ = false := by rw [hb2.frozen (by simp; try omega)]; simp [go_sem]
          have q3 : w2.frozen? ⟨w.heap.size, 3, none⟩ = false := by rw [hb2.frozen (by simp; try omega)]; simp [go_sem]
          have d0 : w2.cell? ⟨w.heap.size + 1, 0, none⟩ = some (.int .u32 (numAt s 0)) := by rw [hb2.cell (by simp; try omega)]; simp [go_sem]
          have d1 : w2.cell? ⟨w.heap.size + 1, 1, none⟩ = some (.int .u32 (numAt s 4)) := by rw [hb2.cell (by simp; try omega)]; simp [go_sem]
          have d2 : w2.cell? ⟨w.heap.size + 1, 2, none⟩ = some (.int .u32 (numAt s 8)) := by rw [hb2.cell (by simp; try omega)]; simp [go_sem]
          have d3 : w2.cell? ⟨w.heap.size + 1, 3, none⟩ = some (.bool (((byteAt s 12).toNat : Int) == 2)) := by rw [hb2.cell (by simp; try omega)]; simp [go_sem]
          have hB2 : Below w.heap.size w w2 := Below.trans (by repeat (first | exact Below.refl _ _ | refine Below.setCell ?_ (by simp) _ | refine below_drewN ?_ _ | refine Below.drew ?_ | refine Below.alloc ?_ (by simp) _ | refine Below.alloc ?_ (by simp; omega) _)) (hb2.mono (by simp; try omega))
          clear hb2 s4 s8 s12 hi n1 n2 n3 n4 n5 e12 e13 e14 e15
          rcases hr : rightB (numAt s 4)
          · go_wp2
            refine bodyPost_ret (v := .tuple #[dv 0 0 0 false, .int .i64 20]) (by simp [results, Try.results25, go_sem, c0, c1, c2, c3]) rfl ⟨by simp [hr], ?_⟩
            exact (((hB2.setCell (by simp) _).setCell (by simp) _).setCell (by simp) _).setCell (by simp) _
          · go_wp2
            refine bodyPost_ret (v := .tuple #[dv (numAt s 0) (numAt s 4) (numAt s 8) (((byteAt s 12).toNat : Int) == 2), .int .i64 0]) (by simp [results, Try.results25, go_sem, c0, c1, c2, c3]) rfl ⟨by simp [hr, beq_two], ?_⟩
            exact (((hB2.setCell (by simp) _).setCell (by simp) _).setCell (by simp) _).setCell (by simp) _
      · go_simp
        refine hK _ _ (.inr trivial) ?_
        clear hK K
        refine wpAnyG_one (i := 5) (by kernel_rfl) rfl (fun K hK => ?_)
        go_simp
        refine ⟨trivial, (callsIn_wide.2 (HG.out 4 8 rfl (by omega) _)).mono ?_⟩
        rintro e w' ⟨rfl, m5, rfl⟩
        refine hK _ _ (.inr trivial) ?_
        clear hK K
        refine wpAnyG_one (i := 8) (by kernel_rfl) rfl (fun K hK => ?_)
        go_simp
        refine ⟨trivial, (callsIn_wide.2 (HG.out 8 12 rfl (by omega) _)).mono ?_⟩
        rintro e w' ⟨rfl, m8, rfl⟩
        refine hK _ _ (.inr trivial) ?_
        clear hK K
        refine wpAnyG_one (i := 12) (by kernel_rfl) rfl (fun K hK => ?_)
        go_simp
        refine hK _ _ (.inr trivial) ?_
        clear hK K
        refine wpAnyG_one (i := 14) (by kernel_rfl) rfl (fun K hK => ?_)
        go_simp
        refine hK _ _ (.inl (by kernel_rfl)) ?_
        clear hK K
        refine wpAnyG_done (by kernel_rfl) ?_ _
        go_wp2_with fail
        refine (right_r _ _ _ _ _).mono ?_
        rintro e w2 ⟨rfl, hb2⟩
        have c0 : w2.cell? ⟨w.heap.size, 0, none⟩ = some (.int .u32 0) := by rw [hb2.cell (by simp; try omega)]; simp [go_sem]
        have c1 : w2.cell? ⟨w.heap.size, 1, none⟩ = some (.int .u32 0) := by rw [hb2.cell (by simp; try omega)]; simp [go_sem]
        have c2 : w2.cell? ⟨w.heap.size, 2, none⟩ = some (.int .u32 0) := by rw [hb2.cell (by simp; try omega)]; simp [go_sem]
        have c3 : w2.cell? ⟨w.heap.size, 3, none⟩ = some (.bool false) := by rw [hb2.cell (by simp; try omega)]; simp [go_sem]
        have q0 : w2.frozen? ⟨w.heap.size, 0, none⟩ = false := by rw [hb2.frozen (by simp; try omega)]; simp [go_sem]
        have q1 : w2.frozen? ⟨w.heap.size, 1, none⟩ = false := by rw [hb2.frozen (by simp; try omega)]; simp [go_sem]
        have q2 : w2.frozen? ⟨w.heap.size, 2, none⟩ = false := by rw [hb2.frozen (by simp; try omega)]; simp [go_sem]
        have q3 : w2.frozen? ⟨w.heap.size, 3, none⟩ = false := by rw [hb2.frozen (by simp; try omega)]; simp [go_sem]
        have d0 : w2.cell? ⟨w.heap.size + 1, 0, none⟩ = some (.int .u32 (numAt s 0)) := by rw [hb2.cell (by simp; try omega)]; simp [go_sem]
        have d1 : w2.cell? ⟨w.heap.size + 1, 1, none⟩ = some (.int .u32 (numAt s 4)) := by rw [hb2.cell (by simp; try omega)]; simp [go_sem]
        have d2 : w2.cell? ⟨w.heap.size + 1, 2, none⟩ = some (.int .u32 (numAt s 8)) := by rw [hb2.cell (by simp; try omega)]; simp [go_sem]
        have d3 : w2.cell? ⟨w.heap.size + 1, 3, none⟩ = some (.bool (((byteAt s 12).toNat : Int) == 2)) := by rw [hb2.cell (by simp; try omega)]; simp [go_sem]
        have hB2 : Below w.heap.size w w2 := Below.trans (by repeat (first | exact Below.refl _ _ | refine Below.setCell ?_ (by simp) _ | refine below_drewN ?_ _ | refine Below.drew ?_ | refine Below.alloc ?_ (by simp) _ | refine Below.alloc ?_ (by simp; omega) _)) (hb2.mono (by simp; try omega))
        clear hb2 s4 s8 s12 hi n1 n2 n3 n4 n5 e12 e13 e14 e15
        rcases hr : rightB (numAt s 4)
        · go_wp2
          refine bodyPost_ret (v := .tuple #[dv 0 0 0 false, .int .i64 20]) (by simp [results, Try.results25, go_sem, c0, c1, c2, c3]) rfl ⟨by simp [hr], ?_⟩
          exact (((hB2.setCell (by simp) _).setCell (by simp) _).setCell (by simp) _).setCell (by simp) _
        · go_wp2
          refine bodyPost_ret (v := .tuple #[dv (numAt s 0) (numAt s 4) (numAt s 8) (((byteAt s 12).toNat : Int) == 2), .int .i64 0]) (by simp [results, Try.results25, go_sem, c0, c1, c2, c3]) rfl ⟨by simp [hr, beq_two], ?_⟩
          exact (((hB2.setCell (by simp) _).setCell (by simp) _).setCell (by simp) _).setCell (by simp) _
    · go_simp
      refine hK _ _ (.inr trivial) ?_
      clear hK K
      refine wpAnyG_one (i := 2) (by kernel_rfl) rfl (fun K hK => ?_)
      go_simp
      refine ⟨trivial, (callsIn_wide.2 (HG.out 0 4 rfl (by omega) _)).mono ?_⟩
      rintro e w' ⟨rfl, m2, rfl⟩
      refine hK _ _ (.inr trivial) ?_
      clear hK K
      refine wpAnyG_one (i := 5) (by kernel_rfl) rfl (fun K hK => ?_)
      go_simp
      refine ⟨trivial, (callsIn_wide.2 (HG.out 4 8 rfl (by omega) _)).mono ?_⟩
      rintro e w' ⟨rfl, m5, rfl⟩
      refine hK _ _ (.inr trivial) ?_
      clear hK K
      refine wpAnyG_one (i := 8) (by kernel_rfl) rfl (fun K hK => ?_)
      go_simp
      refine ⟨trivial, (callsIn_wide.2 (HG.out 8 12 rfl (by omega) _)).mono ?_⟩
      rintro e w' ⟨rfl, m8, rfl⟩
      refine hK _ _ (.inr trivial) ?_
      clear hK K
      refine wpAnyG_one (i := 12) (by kernel_rfl) rfl (fun K hK => ?_)
      go_simp
      refine hK _ _ (.inr trivial) ?_
      clear hK K
      refine wpAnyG_one (i := 14) (by kernel_rfl) rfl (fun K hK => ?_)
      go_simp
      refine hK _ _ (.inl (by kernel_rfl)) ?_
      clear hK K
      refine wpAnyG_done (by kernel_rfl) ?_ _
      go_wp2_with fail
      refine (right_r _ _ _ _ _).mono ?_
      rintro e w2 ⟨rfl, hb2⟩
      have c0 : w2.cell? ⟨w.heap.size, 0, none⟩ = some (.int .u32 0) := by rw [hb2.cell (by simp; try omega)]; simp [go_sem]
      have c1 : w2.cell? ⟨w.heap.size, 1, none⟩ = some (.int .u32 0) := by rw [hb2.cell (by simp; try omega)]; simp [go_sem]
      have c2 : w2.cell? ⟨w.heap.size, 2, none⟩ = some (.int .u32 0) := by rw [hb2.cell (by simp; try omega)]; simp [go_sem]
      have c3 : w2.cell? ⟨w.heap.size, 3, none⟩ = some (.bool false) := by rw [hb2.cell (by simp; try omega)]; simp [go_sem]
      have q0 : w2.frozen? ⟨w.heap.size, 0, none⟩ = false := by rw [hb2.frozen (by simp; try omega)]; simp [go_sem]
      have q1 : w2.frozen? ⟨w.heap.size, 1, none⟩ = false := by rw [hb2.frozen (by simp; try omega)]; simp [go_sem]
      have q2 : w2.frozen? ⟨w.heap.size, 2, none⟩ = false := by rw [hb2.frozen (by simp; try omega)]; simp [go_sem]
      have q3 : w2.frozen? ⟨w.heap.size, 3, none⟩ = false := by rw [hb2.frozen (by simp; try omega)]; simp [go_sem]
      have d0 : w2.cell? ⟨w.heap.size + 1, 0, none⟩ = some (.int .u32 (numAt s 0)) := by rw [hb2.cell (by simp; try omega)]; simp [go_sem]
      have d1 : w2.cell? ⟨w.heap.size + 1, 1, none⟩ = some (.int .u32 (numAt s 4)) := by rw [hb2.cell (by simp; try omega)]; simp [go_sem]
      have d2 : w2.cell? ⟨w.heap.size + 1, 2, none⟩ = some (.int .u32 (numAt s 8)) := by rw [hb2.cell (by simp; try omega)]; simp [go_sem]
      have d3 : w2.cell? ⟨w.heap.size + 1, 3, none⟩ = some (.bool (((byteAt s 12).toNat : Int) == 2)) := by rw [hb2.cell (by simp; try omega)]; simp [go_sem]
      have hB2 : Below w.heap.size w w2 := Below.trans (by repeat (first | exact Below.refl _ _ | refine Below.setCell ?_ (by simp) _ | refine below_drewN ?_ _ | refine Below.drew ?_ | refine Below.alloc ?_ (by simp) _ | refine Below.alloc ?_ (by simp; omega) _)) (hb2.mono (by simp; try omega))
      clear hb2 s4 s8 s12 hi n1 n2 n3 n4 n5 e12 e13 e14 e15
      rcases hr : rightB (numAt s 4)
      · go_wp2
        refine bodyPost_ret (v := .tuple #[dv 0 0 0 false, .int .i64 20]) (by simp [results, Try.results25, go_sem, c0, c1, c2, c3]) rfl ⟨by simp [hr], ?_⟩
        exact (((hB2.setCell (by simp) _).setCell (by simp) _).setCell (by simp) _).setCell (by simp) _
      · go_wp2
        refine bodyPost_ret (v := .tuple #[dv (numAt s 0) (numAt s 4) (numAt s 8) (((byteAt s 12).toNat : Int) == 2), .int .i64 0]) (by simp [results, Try.results25, go_sem, c0, c1, c2, c3]) rfl ⟨by simp [hr, beq_two], ?_⟩
        exact (((hB2.setCell (by simp) _).setCell (by simp) _).setCell (by simp) _).setCell (by simp) _

/-- the document's Decode -/
theorem decode_r (s : ByteArray) (w : World) : Calls Try.prog 25 #[.string s] w (Dec2 s w) := by
  by_cases h16 : s.size = 16
  · obtain ⟨b1, h1⟩ : ∃ b, (((byteAt s 12).toNat : Int) != 1) = b := ⟨_, rfl⟩
    obtain ⟨b2, h2⟩ : ∃ b, (((byteAt s 12).toNat : Int) != 2) = b := ⟨_, rfl⟩
    obtain ⟨b3, h3⟩ : ∃ b, (((byteAt s 13).toNat : Int) != ((xorAll 90 (s.data.toList.take 13)).toNat : Int)) = b := ⟨_, rfl⟩
    obtain ⟨b4, h4⟩ : ∃ b, (((byteAt s 14).toNat : Int) != 0) = b := ⟨_, rfl⟩
    obtain ⟨b5, h5⟩ : ∃ b, (((byteAt s 15).toNat : Int) != 0) = b := ⟨_, rfl⟩
    have hL : Looks s b1 b2 b3 b4 b5 := ⟨h1, h2, h3, h4, h5⟩
    have hdb : decB s = (rightB (numAt s 4) && formB s) := by rw [← reS_form s h16]; simp [decB, h16]
    rw [hL.form] at hdb
    rcases hb : (b1 && b2 || b3 || b4 || b5)
    · have hz : (b1 && b2) = false ∧ b3 = false ∧ b4 = false ∧ b5 = false := by
        revert hb
        cases b1 <;> cases b2 <;> cases b3 <;> cases b4 <;> cases b5 <;> simp
      obtain ⟨h12, rfl, rfl, rfl⟩ := hz
      refine (decode_r_yes s h16 b1 b2 hL h12 w).mono ?_
      rintro e w' ⟨rfl, hw⟩
      have hd : decB s = rightB (numAt s 4) := by
        rw [hdb]
        revert h12
        cases b1 <;> cases b2 <;> simp
      exact ⟨by simp only [decV, decE, hd], hw⟩
    · refine (decode_r_no s h16 b1 b2 b3 b4 b5 hL hb w).mono ?_
      rintro e w' ⟨rfl, hw⟩
      have hd : decB s = false := by
        rw [hdb]
        revert hb
        cases b1 <;> cases b2 <;> cases b3 <;> cases b4 <;> cases b5 <;> simp
      exact ⟨by simp [decV, decE, hd], hw⟩
  · refine (decode_r_size s h16 w).mono ?_
    rintro e w' ⟨rfl, hw⟩
    have hd : decB s = false := by simp [decB, h16]
    exact ⟨by simp [decV, decE, hd], hw⟩

/-- the document's Finish -/
theorem finish_r (s : ByteArray) (w : World) : Calls Try.prog 51 #[.string s] w (Fin2 s w) := by
  obtain ⟨i0, i1⟩ := numAt_bd s 0
  obtain ⟨l0, l1⟩ := numAt_bd s 4
  obtain ⟨f0, f1⟩ := numAt_bd s 8
  rcases hd : decB s
  · have hv : decV s = dv 0 0 0 false := by simp [decV, hd]
    have he : decE s = 20 := by simp [decE, hd]
    have hf : finB s = false := by simp [finB, hd]
    clear hd
    go_enter Try.func51, Try.ntmps51
    go_wp2_with fail
    refine (decode_r s _).mono ?_
    rintro e w1 ⟨rfl, hb1⟩
    rw [hv, he]
    go_wp2
    go_ret2
    exact ⟨by simp [finT, finE, hf], hb1.alloc hb1.size _⟩
  · have hrt : rightB (numAt s 4) = true := by
      simp only [decB, Bool.and_eq_true] at hd
      exact hd.2.1
    rcases hk : (byteAt s 12 == 2)
    · have hv : decV s = dv (numAt s 0) (numAt s 4) (numAt s 8) false := by simp [decV, hd, hk]
      have he : decE s = 0 := by simp [decE, hd]
      have hf : finB s = true := by simp [finB, hd, hk]
      have ht : encT (numAt s 0) (numAt s 4) (numAt s 8) true = encS (numAt s 0) (numAt s 4) (numAt s 8) true := by simp [encT, hrt]
      have hee : encE (numAt s 4) = 0 := by simp [encE, hrt]
      clear hd hk hrt
      go_enter Try.func51, Try.ntmps51
      go_wp2_with fail
      refine (decode_r s _).mono ?_
      rintro e w1 ⟨rfl, hb1⟩
      rw [hv, he]
      clear hv he
      go_wp2_with (go_at_call 49; refine (encode_r _ _ _ _ i0 i1 l0 l1 f0 f1 _).mono ?_; rintro e w2 ⟨rfl, hb2⟩)
      go_ret2
      have hz := hb1.size
      have hz2 := hb2.size
      refine ⟨by simp [finT, finE, hf], ?_⟩
      refine Below.trans ?_ (hb2.mono (by simp; omega))
      go_grown
    · have hv : decV s = dv (numAt s 0) (numAt s 4) (numAt s 8) true := by simp [decV, hd, hk]
      have he : decE s = 0 := by simp [decE, hd]
      have hf : finB s = false := by simp [finB, hk]
      clear hd hk hrt
      go_enter Try.func51, Try.ntmps51
      go_wp2_with fail
      refine (decode_r s _).mono ?_
      rintro e w1 ⟨rfl, hb1⟩
      rw [hv, he]
      clear hv he
      go_wp2
      go_ret2
      exact ⟨by simp [finT, finE, hf], hb1.alloc hb1.size _⟩
end Go.Proofs.Ytfnhnicjomaelaa
