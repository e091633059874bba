/-
  The law WrapUnlike, walked: it returns true and leaves all that was there as it was. Conditions: each argument fits its kind.
-/
import Derived.Test.YtihplelglpgdnaaWrapD
import Derived.Deep.OwnRows
namespace Go.Proofs.Ytihplelglpgdnaa
open Go.ChangeShapes Go.WideShapes Go.ChangeAt Go.RowKit Go.Shelf

/-- the j-th slot from a on -/
def slt (a : Int) (s j : Nat) : Nat := ((a + j) % 4294967296 % s).toNat
/-- is x among the first k slots? -/
def metB (a : Int) (s k x : Nat) : Bool := (List.range k).any fun j => slt a s j == x

theorem size_dvd {n : Int} (h : isSizeB n = true) : n ∣ 4294967296 := by
  have h' := of_decide_eq_true h
  unfold expo at h'
  have h2 : n = 1 ∨ n = 2 ∨ n = 4 ∨ n = 8 ∨ n = 16 ∨ n = 32 ∨ n = 64 ∨ n = 128 ∨ n = 256 ∨ n = 512 ∨ n = 1024 ∨ n = 2048 ∨ n = 4096 := by omega
  rcases h2 with rfl | rfl | rfl | rfl | rfl | rfl | rfl | rfl | rfl | rfl | rfl | rfl | rfl <;> exact Int.dvd_of_emod_eq_zero (by decide)
theorem slt_eq (a : Int) (s j : Nat) (hs : isSizeB s = true) : ((slt a s j : Nat) : Int) = (a + j) % s := by
  obtain ⟨h1, _⟩ := isSize_bd hs
  unfold slt
  rw [Int.emod_emod_of_dvd _ (size_dvd hs), Int.toNat_of_nonneg (Int.emod_nonneg _ (by omega))]
theorem slt_cast (a : Int) (s j : Nat) (hs : isSizeB s = true) : ((slt a s j : Nat) : Int) = (a + j) % 4294967296 % s := by
  rw [slt_eq a s j hs, Int.emod_emod_of_dvd _ (size_dvd hs)]
theorem slt_lt (a : Int) (s j : Nat) (hs : isSizeB s = true) : slt a s j < s := by
  obtain ⟨h1, _⟩ := isSize_bd hs
  have := slt_eq a s j hs
  have := Int.emod_lt_of_pos (a + j) (b := s) (by omega)
  omega
theorem slt_succ (a : Int) (s j : Nat) (hs : isSizeB s = true) : (((slt a s j : Nat) : Int) + 1) % s = (slt a s (j + 1) : Nat) := by
  rw [slt_eq a s j hs, slt_eq a s (j + 1) hs, Int.emod_add_emod]
  congr 1
  omega
theorem slt_inj (a : Int) (s j k : Nat) (hs : isSizeB s = true) (hjk : j < k) (hk : k < j + s) : slt a s j ≠ slt a s k := by
  intro h
  have h1 := slt_eq a s j hs
  have h2 := slt_eq a s k hs
  rw [h, h2] at h1
  have h4 : ((a + k) - (a + j)) % (s : Int) = 0 := Int.emod_eq_emod_iff_emod_sub_eq_zero.1 h1
  rw [show (a + k) - (a + j) = ((k - j : Nat) : Int) by omega] at h4
  have h5 : (k - j) % s = 0 := by exact_mod_cast h4
  rw [Nat.mod_eq_of_lt (by omega)] at h5
  omega
theorem metB_new (a : Int) (s k : Nat) (hs : isSizeB s = true) (hk : k < s) : metB a s k (slt a s k) = false := by
  unfold metB
  rw [List.any_eq_false]
  intro j hj
  have := slt_inj a s j k hs (List.mem_range.1 hj) (by omega)
  simpa using this
theorem metB_succ (a : Int) (s k x : Nat) : Value.bool (metB a s (k + 1) x) = if x = slt a s k then .bool true else .bool (metB a s k x) := by
  unfold metB
  rw [List.range_succ, List.any_append]
  by_cases h : x = slt a s k
  · simp [h]
  · rw [if_neg h]
    simp [show ¬ slt a s k = x from fun e => h e.symm]
theorem elts_get (a : Int) (s n k : Nat) (hs : isSizeB s = true) (hk : k < n) : (slotsOf (elts a s n))[k]? = some (.int .i64 (slt a s k : Nat)) := by
  simp [slotsOf, elts, hk, elt, slt_cast a s k hs]

theorem met_step {W : World} {b : Nat} {t : TypeId} {a : Int} {s k x : Nat} (h : W.rowIs b t s (fun x => .bool (metB a s k x))) (hx : x = slt a s k) (m : Nat) :
    ((W.drewN m).setCell ⟨b, x, none⟩ (.bool true)).rowIs b t s (fun x => .bool (metB a s (k + 1) x)) :=
  (World.rowIs.set (w := W.drewN m) h x (.bool true)).congr fun i _ => by rw [metB_succ, hx]

theorem infoBool : (Try.prog.info? 4).map (fun i => (i.zero, i.size, i.bytes)) = some (some (.bool false), 1, 1) := by kernel_rfl

set_option maxRecDepth 100000 in
set_option maxHeartbeats 4000000 in
theorem unlike_ok (a : Int) (n s : Nat) (hn : n ≤ 4200) (HS : Hid (isSizeB s = true)) (hns : n ≤ s) (w : World) :
    Calls Try.prog 7 #[.int .u32 a, .int .i64 n, .int .i64 s] w fun e w' => e = .returned (.bool true) ∧ Below w.heap.size w w' := by
  obtain ⟨hs1, hs2⟩ := isSize_bd HS.out
  have HD : Hid (far a ((a + n) % 4294967296) = n) := far_to a n (by omega) (by omega)
  have hmk := run_make_row' (P := Try.prog) 37 4 (.bool false) 1 Try.underlying37 infoBool rfl .i64 .i64 s (by omega) (by omega)
  go_enter Try.func7, Try.ntmps7
  go_wp2_with (first
    | (go_at_call 10; refine (shown_p _).mono ?_; rintro e w1 ⟨rfl, hb1⟩)
    | (go_at_call 23; refine (range_ok a _ s n HS.out HD hns rfl _).mono ?_; rintro e w2 ⟨v, rfl, hr2, hb2⟩; obtain ⟨A, c, rfl, hl2⟩ := lies_of_own hr2; have HL2 := Lib.hid hl2; clear hl2 hr2)
    | (go_at_call 21; refine (size_p _ _).mono ?_; rintro e w3 ⟨rfl, hb3⟩; have hsz := HS.out))
  clear hmk hsz
  have HB3 := Lib.hid (hb1.trans ((hb2.trans (hb3.mono hb2.size)).mono hb1.size))
  have HL3 := Lib.hid (lies_below HL2.out hb3)
  clear HL2 hb1 hb2 hb3
  go_loopw [11] (fun i wr => ∃ k : Nat, k ≤ n ∧ i = .int .i64 k ∧ wr.rowIs w3.heap.size 4 s (fun x => .bool (metB a s k x)) ∧ Below w3.heap.size w3 wr) (fun i _ => n - (intOf i).toNat)
  case atStart => exact ⟨0, Nat.zero_le _, rfl, World.rowIs_made w3 (.bool false) s 4, by go_grown⟩
  case round =>
    obtain ⟨k, hk, rfl, hrow, hB⟩ := hrel
    by_cases hlt : k < n
    · obtain ⟨g, rfl, hg, hc⟩ := HL3.out.2 (by omega)
      obtain ⟨x, hx⟩ : ∃ x, x = slt a s k := ⟨_, rfl⟩
      have hxs : x < s := by rw [hx]; exact slt_lt a s k HS.out
      have hc1 : wr.cell? ⟨g, k, none⟩ = some (.int .i64 x) := by rw [hB.cell (p := ⟨g, k, none⟩) hg, hc k hlt, elts_get a s n k HS.out hlt, hx]
      have hm1 : wr.cell? ⟨w3.heap.size, x, none⟩ = some (.bool false) := by rw [hrow.cell hxs, hx, metB_new a s k HS.out (by omega)]
      have hfz : wr.frozen? ⟨w3.heap.size, x, none⟩ = false := hrow.frozen x
      have t1 : decide ((x : Int) < 0) = false := by simp
      have t2 : decide (s ≤ x) = false := by simpa using hxs
      have HX := Lib.hid hx
      have HR := Lib.hid hrow
      have HBr := Lib.hid hB
      clear hx hrow hB
      cases k with
      | zero =>
        clear hc
        go_wp2
        go_quiet (fail)
        go_wp2
        exact ⟨⟨1, by omega, rfl, met_step HR.out HX.out nq, (below_drewN HBr.out nq).setCell (p := ⟨w3.heap.size, x, none⟩) (Nat.le_refl _) _⟩, by simp [intOf]; omega⟩
      | succ k =>
        obtain ⟨y, hy⟩ : ∃ y, y = slt a s k := ⟨_, rfl⟩
        have hys : y < s := by rw [hy]; exact slt_lt a s k HS.out
        have hc2 : wr.cell? ⟨g, k, none⟩ = some (.int .i64 y) := by rw [HBr.out.cell (p := ⟨g, k, none⟩) hg, hc k (by omega), elts_get a s n k HS.out (by omega), hy]
        have hxy : ((y : Int) + 1) % s = x := by rw [hy, HX.out]; exact slt_succ a s k HS.out
        have HY := Lib.hid hy
        clear hc hy
        go_wp2
        go_quiet (fail)
        go_wp2
        exact ⟨⟨k + 1 + 1, by omega, by go_num, met_step HR.out HX.out nq, (below_drewN HBr.out nq).setCell (p := ⟨w3.heap.size, x, none⟩) (Nat.le_refl _) _⟩, by simp [intOf]; omega⟩
    · have hsz := HB3
      go_wp2
      go_ret
      exact ⟨rfl, HB3.out.trans (hB.mono HB3.out.size)⟩

set_option maxRecDepth 100000 in
set_option maxHeartbeats 1000000 in
theorem unlike_w (a n s : Int) (w : World) :
    Calls Try.prog 7 #[.int .u32 a, .int .i64 n, .int .i64 s] w fun e w' => e = .returned (.bool true) ∧ Below w.heap.size w w' := by
  by_cases hn0 : n < 0
  · go_enter Try.func7, Try.ntmps7
    go_wp2_with (go_at_call 10; refine (shown_p _).mono ?_; rintro e w1 ⟨rfl, hb1⟩)
    go_ret
    exact ⟨rfl, hb1⟩
  have hn0' : 0 ≤ n := by omega
  by_cases hn1 : 4200 < n
  · go_enter Try.func7, Try.ntmps7
    go_wp2_with (go_at_call 10; refine (shown_p _).mono ?_; rintro e w1 ⟨rfl, hb1⟩)
    go_ret
    exact ⟨rfl, hb1⟩
  have hn1' : n ≤ 4200 := by omega
  have e6 := far_to a n hn0' (by omega)
  rcases hs : isSizeB s
  · have hno : Hid (isSizeB s = false ∨ s < far a ((a + n) % 4294967296)) := .inl hs
    have hE : roomE ((a + n) % 4294967296) a s = 2 := by simp [roomE, hs]
    clear e6
    go_enter Try.func7, Try.ntmps7
    go_wp2_with (first
      | (go_at_call 10; refine (shown_p _).mono ?_; rintro e w1 ⟨rfl, hb1⟩)
      | (go_at_call 23; refine (range_no _ _ _ hno.out _).mono ?_; rintro e w2 ⟨rfl, hb2⟩)
      | (go_at_call 21; refine (size_p _ _).mono ?_; rintro e w3 ⟨rfl, hb3⟩))
    go_ret
    exact ⟨rfl, hb1.trans ((hb2.trans (hb3.mono hb2.size)).mono hb1.size)⟩
  · obtain ⟨hs1, hs2⟩ := isSize_bd hs
    by_cases hns : s < n
    · have hno : Hid (isSizeB s = false ∨ s < far a ((a + n) % 4294967296)) := .inr (by rw [e6]; exact hns)
      have hE : roomE ((a + n) % 4294967296) a s = 10 := by simp [roomE, hs, e6, show ¬ n ≤ s by omega]
      clear e6
      go_enter Try.func7, Try.ntmps7
      go_wp2_with (first
        | (go_at_call 10; refine (shown_p _).mono ?_; rintro e w1 ⟨rfl, hb1⟩)
        | (go_at_call 23; refine (range_no _ _ _ hno.out _).mono ?_; rintro e w2 ⟨rfl, hb2⟩)
        | (go_at_call 21; refine (size_p _ _).mono ?_; rintro e w3 ⟨rfl, hb3⟩))
      go_ret
      exact ⟨rfl, hb1.trans ((hb2.trans (hb3.mono hb2.size)).mono hb1.size)⟩
    · obtain ⟨m, rfl⟩ := Int.eq_ofNat_of_zero_le hn0'
      obtain ⟨t, rfl⟩ := Int.eq_ofNat_of_zero_le (show 0 ≤ s by omega)
      exact unlike_ok a m t (by omega) hs (by omega) w
end Go.Proofs.Ytihplelglpgdnaa
