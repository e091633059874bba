/-
  CellsReads, walked. Conditions: as the interface says; the acts lie where their slice says.
-/
import Derived.Test.YtoajgaljccaccaaMGl
/- CellsReads, walked. Conditions: as the interface says; the acts lie where their slice says. -/
section
namespace Go.Proofs.Ytoajgaljccaccaa.Ce
set_option linter.unusedSimpArgs false
set_option linter.unusedVariables false
set_option maxRecDepth 100000
open Go.ChangeShapes Go.WideShapes Go.ChangeAt Go.RowKit

abbrev rS (x y c : Int) : CC := ⟨[x, y], [], [c]⟩
theorem r_step0 {x y c : Int} (h : c % 2 = 0) : stepS (rS x y c) 0 0 = rS x y (c + 1) := by
  have e : stepE (rS x y c) 0 0 = 0 := by simp [stepE, has, val, h]
  rw [stepS, if_pos e]
  rfl
theorem r_step1 {x y c : Int} (h : c % 2 = 1) : stepS (rS x y c) 0 1 = rS x y (c + 1) := by
  have e : stepE (rS x y c) 0 1 = 0 := by simp [stepE, has, val, h]
  rw [stepS, if_pos e]
  rfl
theorem r_begin {x y c : Int} (h : c % 2 = 0) : beginV (rS x y c) 0 = c ∧ beginE (rS x y c) 0 = 0 := by
  constructor
  · simp [beginV, has, val, h]
  · simp [beginE, has, val, h]
theorem r_no {x y c : Int} (h : c % 2 = 1) : beginV (rS x y c) 0 = 0 ∧ beginE (rS x y c) 0 = 111 := by
  constructor
  · simp [beginV, has, val, h]
  · simp [beginE, has, val, h]
theorem r_end (x y c a : Int) : endV (rS x y c) 0 a = decide (c = a) := by simp [endV, has, val]
/-- the writer, the reader, and what lies in the cells -/
structure RJ (w r at' a b v x y c : Int) (k N : Nat) : Prop where
  wr : (w = 0 ∧ x = v ∧ y = v ∧ c = 2 * v) ∨ (w = 1 ∧ c = 2 * v - 1) ∨ (w = 2 ∧ x = v ∧ c = 2 * v - 1) ∨ (w = 3 ∧ x = v ∧ y = v ∧ c = 2 * v - 1)
  rr : r = 0 ∨ r = 1 ∨ r = 2 ∨ r = 3
  at0 : at' % 2 = 0 ∧ 0 ≤ at' ∧ at' ≤ c
  ra : 2 ≤ r → at' = c → a = x
  rb : 3 ≤ r → at' = c → b = y
  vk : 0 ≤ v ∧ v ≤ k
  nk : N ≤ k
  i1 : I64 a
  i2 : I64 b
  i3 : I64 x
  i4 : I64 y
section
variable {w r at' a b v x y c : Int} {k N : Nat}
theorem RJ.start : RJ 0 0 0 0 0 0 0 0 0 0 0 := ⟨.inl ⟨rfl, rfl, rfl, rfl⟩, .inl rfl, by omega, fun _ _ => rfl, fun _ _ => rfl, by omega, Nat.le_refl _, by omega, by omega, by omega, by omega⟩
theorem RJ.w0 (J : RJ 0 r at' a b v x y c k N) : c % 2 = 0 ∧ RJ 1 r at' a b (v + 1) x y (c + 1) (k + 1) (N + 1) := by
  obtain ⟨J1, J2, J3, J4, J5, J6, J7, i1, i2, i3, i4⟩ := J
  have e : x = v ∧ y = v ∧ c = 2 * v := by omega
  exact ⟨by omega, .inr (.inl ⟨rfl, by omega⟩), J2, by omega, fun _ _ => by omega, fun _ _ => by omega, by omega, by omega, i1, i2, i3, i4⟩
theorem RJ.w1 (J : RJ 1 r at' a b v x y c k N) (hk : k ≤ 80) : RJ 2 r at' a b v v y c (k + 1) N ∧ I64 v := by
  obtain ⟨J1, J2, J3, J4, J5, J6, J7, i1, i2, i3, i4⟩ := J
  have e : c = 2 * v - 1 := by omega
  exact ⟨⟨.inr (.inr (.inl ⟨rfl, rfl, e⟩)), J2, by omega, fun _ _ => by omega, fun _ _ => by omega, by omega, by omega, i1, i2, by omega, i4⟩, by omega⟩
theorem RJ.w2 (J : RJ 2 r at' a b v x y c k N) (hk : k ≤ 80) : RJ 3 r at' a b v x v c (k + 1) N ∧ I64 v := by
  obtain ⟨J1, J2, J3, J4, J5, J6, J7, i1, i2, i3, i4⟩ := J
  have e : x = v ∧ c = 2 * v - 1 := by omega
  exact ⟨⟨.inr (.inr (.inr ⟨rfl, e.1, rfl, e.2⟩)), J2, by omega, fun _ _ => by omega, fun _ _ => by omega, by omega, by omega, i1, i2, i3, by omega⟩, by omega⟩
theorem RJ.w3 (J : RJ 3 r at' a b v x y c k N) : c % 2 = 1 ∧ RJ 0 r at' a b v x y (c + 1) (k + 1) (N + 1) := by
  obtain ⟨J1, J2, J3, J4, J5, J6, J7, i1, i2, i3, i4⟩ := J
  have e : x = v ∧ y = v ∧ c = 2 * v - 1 := by omega
  exact ⟨by omega, .inl ⟨rfl, e.1, e.2.1, by omega⟩, J2, by omega, fun _ _ => by omega, fun _ _ => by omega, by omega, by omega, i1, i2, i3, i4⟩
theorem RJ.r0 (J : RJ w 0 at' a b v x y c k N) (h : c % 2 = 0) : RJ w 1 c a b v x y c (k + 1) N := by
  obtain ⟨J1, J2, J3, J4, J5, J6, J7, i1, i2, i3, i4⟩ := J
  exact ⟨J1, .inr (.inl rfl), by omega, fun _ _ => by omega, fun _ _ => by omega, by omega, by omega, i1, i2, i3, i4⟩
theorem RJ.more (J : RJ w r at' a b v x y c k N) : RJ w r at' a b v x y c (k + 1) N :=
  { J with vk := by have := J.vk; omega, nk := by have := J.nk; omega }
theorem RJ.r1 (J : RJ w 1 at' a b v x y c k N) : RJ w 2 at' x b v x y c (k + 1) N :=
  { J.more with rr := .inr (.inr (.inl rfl)), ra := fun _ _ => rfl, rb := fun _ _ => by omega, i1 := J.i3 }
theorem RJ.r2 (J : RJ w 2 at' a b v x y c k N) : RJ w 3 at' a y v x y c (k + 1) N :=
  { J.more with rr := .inr (.inr (.inr rfl)), ra := fun _ h => J.ra (by omega) h, rb := fun _ _ => rfl, i2 := J.i4 }
theorem RJ.r3 (J : RJ w 3 at' a b v x y c k N) : (c = at' → a = b) ∧ RJ w 0 at' a b v x y c (k + 1) N := by
  refine ⟨fun e => ?_, { J.more with rr := .inl rfl, ra := fun _ _ => by omega, rb := fun _ _ => by omega }⟩
  have h1 := J.ra (by omega) e.symm
  have h2 := J.rb (by omega) e.symm
  have h3 := J.wr
  have h4 := J.at0
  omega
theorem RJ.bd (J : RJ w r at' a b v x y c k N) (hk : k ≤ 80) : N ≤ 80 ∧ 0 ≤ v ∧ v ≤ 80 ∧ I64 at' ∧ (w = 0 ∨ w = 1 ∨ w = 2 ∨ w = 3) ∧ (c % 2 = 0 ∨ c % 2 = 1) := by
  obtain ⟨J1, J2, J3, J4, J5, J6, J7, i1, i2, i3, i4⟩ := J
  omega
end
section
variable {P : PT}
set_option maxHeartbeats 8000000 in
theorem reads_w (hP : PCells P) (A : Option Addr) (len cap : Nat) (xs : Nat → AX) (hl : len ≤ cap) (hc : cap ≤ maxLen) (w0 : World) (hA : ActsX w0 A len xs) : Calls Try.prog 6 #[.slice A len cap] w0 fun e w' => e = .returned (.bool true) ∧ Below w0.heap.size w0 w' := by
  have H := Mem.start w0
  have HA := Lib.hid hA
  unfold maxLen at hc
  clear hA
  have O := Lib.hid (St.start w0 ⟨[], [], []⟩)
  go_enter Try.func6, Try.ntmps6
  go_upto_region 2 with (first
    | (go_at_call 10; refine (shown11s hP w0 _ O.out).mono ?_; rintro e w2 ⟨rfl, O2⟩; clear O H; have O := Lib.hid O2; clear O2; have H := Mem.start w2))
  go_upto_region 3 with (first
    | (go_at_call 11; refine (O.out.newP hP NoT.pt (Kept.no _) 2 0 1 (by decide)).mono ?_; rintro e w2 ⟨p, rfl, O2⟩; clear O H; have O := Lib.hid (show SN P w0 w2 p (zeroC 2 0 1) 0 from O2); clear O2; have H := Mem.start w2))
  have HO := Lib.hid (show SN P w0 w2 p (rS 0 0 0) 0 from O.out)
  clear O
  go_wp2
  go_loopw [6, 7, 8, 9, 10, 11, 12] (fun wv rv tv av bv vv iv wr => ∃ (w r at' a b v x y c : Int) (k N : Nat), k ≤ len ∧ k ≤ 80 ∧ RJ w r at' a b v x y c k N ∧ wv = .int .i64 w ∧ rv = .int .i64 r ∧ tv = .int .i64 at' ∧ av = .int .i64 a ∧ bv = .int .i64 b ∧ vv = .int .i64 v ∧ iv = .int .i64 k ∧ Hid (SN P w0 wr p (rS x y c) N)) (fun _ _ _ _ _ _ iv _ => len - (intOf iv).toNat)
  case atStart => exact ⟨0, 0, 0, 0, 0, 0, 0, 0, 0, 0, 0, Nat.zero_le _, Nat.zero_le _, RJ.start, rfl, rfl, rfl, rfl, rfl, rfl, rfl, Lib.hid HO.out⟩
  case round =>
    clear HO H
    obtain ⟨w, r, at', a, b, v, x, y, c, k, N, hk, hk80, J, rfl, rfl, rfl, rfl, rfl, rfl, rfl, O⟩ := hrel
    have H := mem_of O.out.bel
    by_cases hlt : k < len ∧ k < 80
    · obtain ⟨bA, off, hA, hb, hx⟩ := HA.out.plain axC_len (by decide) (by omega)
      obtain ⟨hfit, hcells⟩ := hx k hlt.1
      have t1 : decide ((k : Int) < (len : Int)) = true := decide_eq_true (by omega)
      have t2 : decide ((k : Int) < 80) = true := decide_eq_true (by omega)
      have c0 : w0.cell? ⟨bA, off + k * 5, none⟩ = some (.int .i64 (xs k).d) := hcells 0 _ rfl
      generalize (xs k).d = d at *
      have HJ := Lib.hid J
      obtain ⟨b1, b2, b3, b4, b5, b6⟩ := J.bd hk80
      have b7 := J.rr
      subst hA
      clear hfit hcells hx J
      by_cases hd : d.tmod 2 = 0
      · have td : (d.tmod 2 == 0) = true := by simpa using hd
        rcases b5 with rfl | rfl | rfl | rfl
        · have X := HJ.out.w0
          have tw := wrap_id (x := v + 1) (by omega) (by omega)
          go_wp2_with (first
    | go_skip
    | ((with_reducible show wpList _ _ _ (⟨_, .load 3 _, _, _, _, _⟩ :: _) _ _); refine mem_loado H c0 hb (by first | exact wanted_none rfl | exact wanted_some rfl rfl rfl rfl) (by exact rfl) (by exact rfl) Try.underlying3 rfl ?_)
    | (go_at_call 25; refine (told (changeP hP NoT.pt (Kept.no _) O.out (by omega) 0 (by omega)) (v' := _) (R' := fun w' => SN P w0 w' p (rS (x) (y) (c + 1)) (N + 1)) (rfl) (fun _ h => by rw [r_step0 X.1] at h; exact h)).mono ?_; rintro e w2 ⟨rfl, O2⟩; clear O H; have O := Lib.hid O2; have H := mem_of O2.bel; clear O2))
          go_roundw
          case rel => exact ⟨1, r, at', a, b, v + 1, x, y, c + 1, k + 1, N + 1, by omega, by omega, X.2, by go_num, by go_num, by go_num, by go_num, by go_num, by go_num, by go_num, O⟩
          case measure => simp [intOf]; omega
        · have X := HJ.out.w1 hk80
          go_wp2_with (first
    | go_skip
    | ((with_reducible show wpList _ _ _ (⟨_, .load 3 _, _, _, _, _⟩ :: _) _ _); refine mem_loado H c0 hb (by first | exact wanted_none rfl | exact wanted_some rfl rfl rfl rfl) (by exact rfl) (by exact rfl) Try.underlying3 rfl ?_)
    | (go_at_call 22; refine (told (storeP hP NoT.pt (Kept.no _) O.out (by omega) 0 v (by omega) X.2) (v' := _) (R' := fun w' => SN P w0 w' p (rS (v) (y) (c)) (N)) (rfl) (fun _ h => h)).mono ?_; rintro e w2 ⟨rfl, O2⟩; clear O H; have O := Lib.hid O2; have H := mem_of O2.bel; clear O2))
          go_roundw
          case rel => exact ⟨2, r, at', a, b, v, v, y, c, k + 1, N, by omega, by omega, X.1, by go_num, by go_num, by go_num, by go_num, by go_num, by go_num, by go_num, O⟩
          case measure => simp [intOf]; omega
        · have X := HJ.out.w2 hk80
          go_wp2_with (first
    | go_skip
    | ((with_reducible show wpList _ _ _ (⟨_, .load 3 _, _, _, _, _⟩ :: _) _ _); refine mem_loado H c0 hb (by first | exact wanted_none rfl | exact wanted_some rfl rfl rfl rfl) (by exact rfl) (by exact rfl) Try.underlying3 rfl ?_)
    | (go_at_call 22; refine (told (storeP hP NoT.pt (Kept.no _) O.out (by omega) 1 v (by omega) X.2) (v' := _) (R' := fun w' => SN P w0 w' p (rS (x) (v) (c)) (N)) (rfl) (fun _ h => h)).mono ?_; rintro e w2 ⟨rfl, O2⟩; clear O H; have O := Lib.hid O2; have H := mem_of O2.bel; clear O2))
          go_roundw
          case rel => exact ⟨3, r, at', a, b, v, x, v, c, k + 1, N, by omega, by omega, X.1, by go_num, by go_num, by go_num, by go_num, by go_num, by go_num, by go_num, O⟩
          case measure => simp [intOf]; omega
        · have X := HJ.out.w3
          go_wp2_with (first
    | go_skip
    | ((with_reducible show wpList _ _ _ (⟨_, .load 3 _, _, _, _, _⟩ :: _) _ _); refine mem_loado H c0 hb (by first | exact wanted_none rfl | exact wanted_some rfl rfl rfl rfl) (by exact rfl) (by exact rfl) Try.underlying3 rfl ?_)
    | (go_at_call 26; refine (told (settleP hP NoT.pt (Kept.no _) O.out (by omega) 0 (by omega)) (v' := _) (R' := fun w' => SN P w0 w' p (rS (x) (y) (c + 1)) (N + 1)) (rfl) (fun _ h => by rw [r_step1 X.1] at h; exact h)).mono ?_; rintro e w2 ⟨rfl, O2⟩; clear O H; have O := Lib.hid O2; have H := mem_of O2.bel; clear O2))
          go_roundw
          case rel => exact ⟨0, r, at', a, b, v, x, y, c + 1, k + 1, N + 1, by omega, by omega, X.2, by go_num, by go_num, by go_num, by go_num, by go_num, by go_num, by go_num, O⟩
          case measure => simp [intOf]; omega
      · have td : (d.tmod 2 == 0) = false := by simpa using hd
        rcases b7 with rfl | rfl | rfl | rfl
        · rcases b6 with h | h
          · have X := HJ.out.r0 h
            go_wp2_with (first
    | go_skip
    | ((with_reducible show wpList _ _ _ (⟨_, .load 3 _, _, _, _, _⟩ :: _) _ _); refine mem_loado H c0 hb (by first | exact wanted_none rfl | exact wanted_some rfl rfl rfl rfl) (by exact rfl) (by exact rfl) Try.underlying3 rfl ?_)
    | (go_at_call 20; refine (told (beginP hP NoT.pt (Kept.no _) O.out (by omega) 0 (by omega)) (v' := .tuple #[.int .i64 c, .int .i64 0]) (R' := fun w' => SN P w0 w' p (rS (x) (y) (c)) (N)) (by rw [(r_begin h).1, (r_begin h).2]) (fun _ h => h)).mono ?_; rintro e w2 ⟨rfl, O2⟩; clear O H; have O := Lib.hid O2; have H := mem_of O2.bel; clear O2))
            go_roundw
            case rel => exact ⟨w, 1, c, a, b, v, x, y, c, k + 1, N, by omega, by omega, X, by go_num, by go_num, by go_num, by go_num, by go_num, by go_num, by go_num, O⟩
            case measure => simp [intOf]; omega
          · have X := HJ.out.more
            go_wp2_with (first
    | go_skip
    | ((with_reducible show wpList _ _ _ (⟨_, .load 3 _, _, _, _, _⟩ :: _) _ _); refine mem_loado H c0 hb (by first | exact wanted_none rfl | exact wanted_some rfl rfl rfl rfl) (by exact rfl) (by exact rfl) Try.underlying3 rfl ?_)
    | (go_at_call 20; refine (told (beginP hP NoT.pt (Kept.no _) O.out (by omega) 0 (by omega)) (v' := .tuple #[.int .i64 0, .int .i64 111]) (R' := fun w' => SN P w0 w' p (rS (x) (y) (c)) (N)) (by rw [(r_no h).1, (r_no h).2]) (fun _ h => h)).mono ?_; rintro e w2 ⟨rfl, O2⟩; clear O H; have O := Lib.hid O2; have H := mem_of O2.bel; clear O2))
            go_roundw
            case rel => exact ⟨w, 0, at', a, b, v, x, y, c, k + 1, N, by omega, by omega, X, by go_num, by go_num, by go_num, by go_num, by go_num, by go_num, by go_num, O⟩
            case measure => simp [intOf]; omega
        · have X := HJ.out.r1
          go_wp2_with (first
    | go_skip
    | ((with_reducible show wpList _ _ _ (⟨_, .load 3 _, _, _, _, _⟩ :: _) _ _); refine mem_loado H c0 hb (by first | exact wanted_none rfl | exact wanted_some rfl rfl rfl rfl) (by exact rfl) (by exact rfl) Try.underlying3 rfl ?_)
    | (go_at_call 14; refine (told (loadP hP NoT.pt (Kept.no _) O.out (by omega) 0 (by omega)) (v' := .tuple #[.int .i64 x, .int .i64 0]) (R' := fun w' => SN P w0 w' p (rS (x) (y) (c)) (N)) (rfl) (fun _ h => h)).mono ?_; rintro e w2 ⟨rfl, O2⟩; clear O H; have O := Lib.hid O2; have H := mem_of O2.bel; clear O2))
          go_roundw
          case rel => exact ⟨w, 2, at', x, b, v, x, y, c, k + 1, N, by omega, by omega, X, by go_num, by go_num, by go_num, by go_num, by go_num, by go_num, by go_num, O⟩
          case measure => simp [intOf]; omega
        · have X := HJ.out.r2
          go_wp2_with (first
    | go_skip
    | ((with_reducible show wpList _ _ _ (⟨_, .load 3 _, _, _, _, _⟩ :: _) _ _); refine mem_loado H c0 hb (by first | exact wanted_none rfl | exact wanted_some rfl rfl rfl rfl) (by exact rfl) (by exact rfl) Try.underlying3 rfl ?_)
    | (go_at_call 14; refine (told (loadP hP NoT.pt (Kept.no _) O.out (by omega) 1 (by omega)) (v' := .tuple #[.int .i64 y, .int .i64 0]) (R' := fun w' => SN P w0 w' p (rS (x) (y) (c)) (N)) (rfl) (fun _ h => h)).mono ?_; rintro e w2 ⟨rfl, O2⟩; clear O H; have O := Lib.hid O2; have H := mem_of O2.bel; clear O2))
          go_roundw
          case rel => exact ⟨w, 3, at', a, y, v, x, y, c, k + 1, N, by omega, by omega, X, by go_num, by go_num, by go_num, by go_num, by go_num, by go_num, by go_num, O⟩
          case measure => simp [intOf]; omega
        · have X := HJ.out.r3
          by_cases h : c = at'
          · have tq : (a != b) = false := by simpa using X.1 h
            go_wp2_with (first
    | go_skip
    | ((with_reducible show wpList _ _ _ (⟨_, .load 3 _, _, _, _, _⟩ :: _) _ _); refine mem_loado H c0 hb (by first | exact wanted_none rfl | exact wanted_some rfl rfl rfl rfl) (by exact rfl) (by exact rfl) Try.underlying3 rfl ?_)
    | (go_at_call 21; refine (told (finP hP NoT.pt (Kept.no _) O.out (by omega) 0 at' (by omega) b4) (v' := .tuple #[.bool true, .int .i64 0]) (R' := fun w' => SN P w0 w' p (rS (x) (y) (c)) (N)) (by rw [r_end, decide_eq_true h]; rfl) (fun _ h => h)).mono ?_; rintro e w2 ⟨rfl, O2⟩; clear O H; have O := Lib.hid O2; have H := mem_of O2.bel; clear O2))
            go_roundw
            case rel => exact ⟨w, 0, at', a, b, v, x, y, c, k + 1, N, by omega, by omega, X.2, by go_num, by go_num, by go_num, by go_num, by go_num, by go_num, by go_num, O⟩
            case measure => simp [intOf]; omega
          · skip
            go_wp2_with (first
    | go_skip
    | ((with_reducible show wpList _ _ _ (⟨_, .load 3 _, _, _, _, _⟩ :: _) _ _); refine mem_loado H c0 hb (by first | exact wanted_none rfl | exact wanted_some rfl rfl rfl rfl) (by exact rfl) (by exact rfl) Try.underlying3 rfl ?_)
    | (go_at_call 21; refine (told (finP hP NoT.pt (Kept.no _) O.out (by omega) 0 at' (by omega) b4) (v' := .tuple #[.bool false, .int .i64 0]) (R' := fun w' => SN P w0 w' p (rS (x) (y) (c)) (N)) (by rw [r_end, decide_eq_false h]; rfl) (fun _ h => h)).mono ?_; rintro e w2 ⟨rfl, O2⟩; clear O H; have O := Lib.hid O2; have H := mem_of O2.bel; clear O2))
            go_roundw
            case rel => exact ⟨w, 0, at', a, b, v, x, y, c, k + 1, N, by omega, by omega, X.2, by go_num, by go_num, by go_num, by go_num, by go_num, by go_num, by go_num, O⟩
            case measure => simp [intOf]; omega
    · by_cases hl2 : k < len
      · have t1 : decide ((k : Int) < (len : Int)) = true := decide_eq_true (by omega)
        have t2 : decide ((k : Int) < 80) = false := decide_eq_false (by omega)
        go_wp2
        go_ret
        exact ⟨by simp, O.out.bel⟩
      · have t1 : decide ((k : Int) < (len : Int)) = false := decide_eq_false (by omega)
        go_wp2
        go_ret
        exact ⟨by simp, O.out.bel⟩
end
end Go.Proofs.Ytoajgaljccaccaa.Ce
end
