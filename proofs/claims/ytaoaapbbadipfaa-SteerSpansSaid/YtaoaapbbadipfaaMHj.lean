/-
  SteerLists, walked. Conditions: as the interface says.
-/
import Derived.Test.YtaoaapbbadipfaaMHi
/- SteerLists, walked. Conditions: as the interface says. -/
section
namespace Go.Proofs.Ytaoaapbbadipfaa
set_option linter.unusedSimpArgs false
set_option linter.unusedVariables false
set_option maxRecDepth 100000
open Go.ChangeShapes Go.WideShapes Go.ChangeAt Go.RowKit

section
variable {P : PT}
theorem map_ok {s : SS} (hr : s.t.right = true) (hm : ∀ c, c < 64 → (s.maps c).length ≤ 64 ∧ ∀ q, q ∈ s.maps c → 0 ≤ q ∧ q < 64) (c : Int) (l : List Int) : (s.map c l).t.right = true ∧ ∀ k, k < 64 → ((s.map c l).maps k).length ≤ 64 ∧ ∀ q, q ∈ (s.map c l).maps k → 0 ≤ q ∧ q < 64 := by
  unfold SS.map
  rcases ho : s.mapOk c l with _ | _
  · exact ⟨hr, hm⟩
  · refine ⟨hr, fun k hk => ?_⟩
    have hq := ((TB.right_iff s.t).1 hr).q
    simp only [SS.mapOk, Bool.and_eq_true, decide_eq_true_eq] at ho
    show (if k = c.toNat then l else s.maps k).length ≤ 64 ∧ ∀ q, q ∈ (if k = c.toNat then l else s.maps k) → _
    split
    · exact ⟨ho.1.2, fun q hq' => by have := okTo_all ho.2 q hq'; omega⟩
    · exact hm k hk
theorem cand_some9 {s : SS} (hr : s.t.right = true) (hm : ∀ c, c < 64 → (s.maps c).length ≤ 64 ∧ ∀ q, q ∈ s.maps c → 0 ≤ q ∧ q < 64) {k : Nat} (hk : k < 16) (c : Int) : (SS.candE k c = 0 ∧ 1 ≤ (s.candV k c).length ∧ (s.candV k c).length ≤ 64) ∨ (SS.candE k c = 2 ∧ s.candV k c = []) := by
  rcases hc : cOk (k : Int) c with _ | _
  · exact .inr ⟨by rw [SS.candE, hc]; rfl, by rw [SS.candV, hc]; rfl⟩
  · obtain ⟨pr, C, e1, rfl, _, hC⟩ := cOk_parts hc
    have h := (cand_in hr hm (pr := (k : Int)) (by omega) hC).1
    refine .inl ⟨by rw [SS.candE, hc]; rfl, ?_⟩
    rw [SS.candV, hc]
    exact h
set_option maxHeartbeats 1000000 in
theorem lists_w (hP : PSteer P) (cpu : Int) (hcpu : I64 cpu) (A : Option Addr) (cap : Nat) (l : List Int) (w : World) (hrow : RowI w.heap.size w A l) (hl : l.length ≤ cap) (hc : cap ≤ maxLen) (hi : ∀ y, y ∈ l → I64 y) (hnil : A = none → cap = 0) : Calls Try.prog 7 #[.int .i64 cpu, .slice A l.length cap] w fun e w' => e = .returned (.bool true) ∧ Below w.heap.size w w' := by
  have H := Mem.start w
  have HK := Lib.hid (Kept.no (fun _ : Nat => False))
  have O := Lib.hid ((St.start w ss0).none NoT.pt NoT.pt)
  obtain ⟨m, hm⟩ : ∃ m, min l.length 70 = m := ⟨_, rfl⟩
  have hml : (l.take m).length = m := by rw [List.length_take]; omega
  have hmin : min (l.length : Int) 70 = (m : Int) := by omega
  have hm2 : m ≤ l.length ∧ m ≤ 70 ∧ m ≤ cap := by omega
  have HR := Lib.hid (And.intro (RowI.take hrow m) (And.intro hml (fun y (hy : y ∈ l.take m) => hi y (List.mem_of_mem_take hy))))
  have HN := Lib.hid hnil
  have hcc := hc
  unfold maxLen at hc
  obtain ⟨n, hn⟩ : ∃ n, l.length = n := ⟨_, rfl⟩
  rw [hn] at hmin hm2 hl ⊢
  clear hrow hm hml hi hnil hn
  go_enter Try.func7, Try.ntmps7
  go_upto_region 2 with (first
    | go_skip
    | (go_at_call 11; with_reducible refine (shown9 hP _).mono ?_; rintro e w2 ⟨rfl, hb⟩; have H2 := H.call hb; clear H hb; have H := H2; clear H2))
  rcases A with _ | a
  · obtain rfl : cap = 0 := HN.out rfl
    obtain rfl : n = 0 := by omega
    obtain rfl : m = 0 := by omega
    rw [show ((0 : Nat) : Int) = 0 from rfl] at hmin
    go_upto_region 3 with fail
    go_upto_region 4 with (first
        | go_skip
        | (go_at_call 13; refine ((O.out.on NoT.pt NoT.pt HK.out H.below).even NoT.pt NoT.pt HK.out 10 2).mono ?_; rintro e w2 ⟨A1, A2, c1', c2', rfl, O2⟩; clear O H; have O := Lib.hid O2; clear O2; have H := Mem.start w2)
        | (go_at_call 12; refine (((O.out.on NoT.pt NoT.pt (HK.out.tb A1 A2 c1' c2' (evT 10 2)) H.below).newP hP NoT.pt (HK.out.tb A1 A2 c1' c2' (evT 10 2)) A1 A2 c1' c2' (evT 10 2) 3 (by omega) (O.out.on NoT.pt NoT.pt (HK.out.tb A1 A2 c1' c2' (evT 10 2)) H.below).kp.2 (evT_right 10 2) (fun i hi => .inr hi))).mono ?_; rintro e w2 ⟨p, rfl, O2⟩; clear O H; have O := Lib.hid (O2.none hP.pt NoT.pt); clear O2; have H := Mem.start w2))
    go_upto_region 5 with (first
        | go_skip
        | (go_at_call 13; refine ((O.out.on hP.pt NoT.pt HK.out H.below).even hP.pt NoT.pt HK.out 10 2).mono ?_; rintro e w2 ⟨B1, B2, d1', d2', rfl, O2⟩; clear O H; have O := Lib.hid O2; clear O2; have H := Mem.start w2)
        | (go_at_call 14; refine ((O.out.on hP.pt NoT.pt (HK.out.tb B1 B2 d1' d2' (evT 10 2)) H.below).newR hP.pt (HK.out.tb B1 B2 d1' d2' (evT 10 2)) B1 B2 d1' d2' (evT 10 2) 3 (by omega) (O.out.on hP.pt NoT.pt (HK.out.tb B1 B2 d1' d2' (evT 10 2)) H.below).kp.2 (evT_right 10 2) (fun i hi => .inr hi)).mono ?_; rintro e w2 ⟨r, rfl, O2⟩; clear O H; have O := Lib.hid (O2.none hP.pt RT.pt); clear O2; have H := Mem.start w2))
    obtain ⟨s, hs⟩ : ∃ s, SS.new (evT 10 2) 3 = s := ⟨_, rfl⟩
    have hsr : s.t.right = true := by rw [← hs]; exact evT_right 10 2
    have hsm : ∀ c, c < 64 → (s.maps c).length ≤ 64 ∧ ∀ q, q ∈ s.maps c → 0 ≤ q ∧ q < 64 := fun c _ => by rw [← hs]; exact ⟨Nat.zero_le _, fun q hq => by cases hq⟩
    have O3 : St P RT w w2 (fun _ => False) (fun _ => True) p s 0 r s 0 := hs ▸ O.out
    clear O
    have O := Lib.hid O3
    clear O3
    have kM := fun W (h : St P RT w W (fun _ => False) (fun _ => True) p s 0 r s 0) => h.mapP hP RT.pt HK.out cpu none 0 (l.take 0) hcpu (by have := HR.out.2.1; omega) (by have := HR.out.2.1; omega) hcc ((HR.out.1.same h.bel.block).mono h.bel.size) HR.out.2.2 (by intro _; rfl)
    rw [HR.out.2.1] at kM
    obtain ⟨s1, hs1⟩ : ∃ x, s.map cpu (l.take 0) = x := ⟨_, rfl⟩
    obtain ⟨E, hE⟩ : ∃ x, s.mapE cpu (l.take 0) = x := ⟨_, rfl⟩
    have kR := fun W (h : St P RT w W (fun _ => False) (fun _ => True) p s1 0 r s 0) => h.mapR hP.pt HK.out cpu none 0 (l.take 0) hcpu (by have := HR.out.2.1; omega) (by have := HR.out.2.1; omega) hcc ((HR.out.1.same h.bel.block).mono h.bel.size) HR.out.2.2 (by intro _; rfl)
    rw [HR.out.2.1] at kR
    rw [hs1, hE] at kM kR
    have hm1 : s1.t.right = true ∧ ∀ c, c < 64 → (s1.maps c).length ≤ 64 ∧ ∀ q, q ∈ s1.maps c → 0 ≤ q ∧ q < 64 := by
      rw [← hs1]
      exact map_ok hsr hsm cpu _
    have HM := Lib.hid hm1
    clear hs hsr hsm hs1 hE hm1 hcc
    go_upto_region 6 with (first
        | go_skip
        | (go_at_call 21; refine (kM _ (O.out.on hP.pt RT.pt HK.out H.below)).mono ?_; rintro e w2 ⟨rfl, O2⟩; clear O H; have O := Lib.hid O2; clear O2; have H := Mem.start w2))
    go_upto_region 7 with (first
        | go_skip
        | (go_at_call 25; refine (kR _ (O.out.on hP.pt RT.pt HK.out H.below)).mono ?_; rintro e w2 ⟨rfl, O2⟩; clear O H; have O := Lib.hid O2; clear O2; have H := Mem.start w2))
    clear kM kR
    go_wp2
    go_loopw [12] (fun i wr => ∃ k : Nat, k ≤ 2 ∧ i = .int .i64 k ∧ Hid (St P RT w wr (fun _ => False) (fun _ => True) p s1 0 r s1 0)) (fun i _ => 2 - (intOf i).toNat)
    case atStart => exact ⟨0, Nat.zero_le _, rfl, Lib.hid (O.out.on hP.pt RT.pt HK.out H.below)⟩
    case round =>
      clear O H
      obtain ⟨k, hk, rfl, O⟩ := hrel
      have H := Mem.start wr
      by_cases hlt : k < 2
      · have kx := fun W h => St.candP (P := P) (P2 := RT) (W0 := w) (W := W) (T := fun _ => False) (K := fun _ => True) (p1 := p) (N1 := 0) (s1 := s1) (p2 := r) (s2 := s1) (N2 := 0) hP RT.pt HK.out h (k : Int) cpu (by unfold I64; omega) hcpu
        have hcs := cand_some9 HM.out.1 HM.out.2 (k := k) (by omega) cpu
        obtain ⟨V, hV⟩ : ∃ x, s1.candV (k : Int) cpu = x := ⟨_, rfl⟩
        obtain ⟨Ec, hEc⟩ : ∃ x, SS.candE (k : Int) cpu = x := ⟨_, rfl⟩
        rw [hV, hEc] at kx hcs
        unfold CandP at kx
        have HVE := Lib.hid (And.intro hV hEc)
        clear hV hEc
        go_upto_region 11 with (first
            | go_skip
            | (go_at_call 20; refine (kx _ (O.out.on hP.pt RT.pt HK.out H.below)).mono ?_; rintro e w2 ⟨vx, rfl, O2⟩; clear O H; have O := Lib.hid O2; clear O2; have H := Mem.start w2))
        have HKx := Lib.hid (HK.out.sl vx V)
        have ky := fun W h => St.candR (P2 := P) (W0 := w) (W := W) (p1 := r) (N1 := 0) (s1 := s1) (p2 := p) (s2 := s1) (N2 := 0) hP.pt HKx.out h (k : Int) cpu (by unfold I64; omega) hcpu
        rw [HVE.out.1, HVE.out.2] at ky
        unfold CandP at ky
        clear kx
        go_upto_region 12 with (first
            | go_skip
            | (go_at_call 26; refine (ky _ (O.out.on hP.pt RT.pt HKx.out H.below)).mono ?_; rintro e w2 ⟨vy, rfl, O2⟩; clear O H; have O := Lib.hid O2; clear O2; have H := Mem.start w2))
        have HKy := Lib.hid (HKx.out.sl vy V)
        obtain ⟨⟨_, hx⟩, hy⟩ := O.out.kp
        have hV96 : V.length ≤ 4096 := by
          rcases hcs with h | h
          · omega
          · rw [h.2]; simp
        have ks := fun W (h : Below w2.heap.size w2 W) => same_sl vx vy V W hV96 (O.out.on hP.pt RT.pt HKy.out h).kp.1.2 (O.out.on hP.pt RT.pt HKy.out h).kp.2
        obtain ⟨Ax, dx, hvx⟩ : ∃ Ax dx, vx = .slice Ax V.length dx := by
          obtain ⟨Ax, dx, e, _⟩ := hx
          exact ⟨Ax, dx, e⟩
        obtain ⟨L, hL⟩ : ∃ L, V.length = L := ⟨_, rfl⟩
        rw [hL] at hvx hcs
        have HO := Lib.hid (show ∀ W, Below w2.heap.size w2 W → St P RT w W (fun _ => False) (fun _ => True) p s1 0 r s1 0 from fun W h => (O.out.on hP.pt RT.pt HKy.out h).none hP.pt RT.pt)
        have HVX := Lib.hid hvx
        clear O HKx HKy hx hy hL ky
        rcases hcs with ⟨rfl, hL1, _⟩ | ⟨rfl, _⟩
        · have t5 : ((L : Int) == 0) = false := by simpa using (show ¬ (L : Int) = 0 by omega)
          rw [hvx] at ks ⊢
          clear hvx HVX
          go_wp2_with (first
            | (go_at_call 27; refine (ks _ H.below).mono ?_; rintro e w6 ⟨rfl, hb⟩; have H2 := H.call hb; clear H hb; have H := H2; clear H2))
          go_roundw
          case rel => exact ⟨k + 1, by omega, by go_num, Lib.hid (HO.out _ H.below)⟩
          case measure => simp [intOf]; omega
        · clear hvx
          go_wp2_with (first
            | (go_at_call 27; refine (ks _ H.below).mono ?_; rintro e w6 ⟨rfl, hb⟩; have H2 := H.call hb; clear H hb; have H := H2; clear H2))
          go_roundw
          case rel => exact ⟨k + 1, by omega, by go_num, Lib.hid (HO.out _ H.below)⟩
          case measure => simp [intOf]; omega
      · obtain rfl : k = 2 := by omega
        go_wp2
        go_ret
        exact ⟨by simp, O.out.bel⟩
  · skip
    go_upto_region 3 with fail
    have hif : (if (70 : Int) < (n : Int) then (70 : Int) else (n : Int)) = (m : Int) := by split <;> omega
    rw [hif, Int.toNat_natCast]
    clear hif
    go_upto_region 4 with (first
        | go_skip
        | (go_at_call 13; refine ((O.out.on NoT.pt NoT.pt HK.out H.below).even NoT.pt NoT.pt HK.out 10 2).mono ?_; rintro e w2 ⟨A1, A2, c1', c2', rfl, O2⟩; clear O H; have O := Lib.hid O2; clear O2; have H := Mem.start w2)
        | (go_at_call 12; refine (((O.out.on NoT.pt NoT.pt (HK.out.tb A1 A2 c1' c2' (evT 10 2)) H.below).newP hP NoT.pt (HK.out.tb A1 A2 c1' c2' (evT 10 2)) A1 A2 c1' c2' (evT 10 2) 3 (by omega) (O.out.on NoT.pt NoT.pt (HK.out.tb A1 A2 c1' c2' (evT 10 2)) H.below).kp.2 (evT_right 10 2) (fun i hi => .inr hi))).mono ?_; rintro e w2 ⟨p, rfl, O2⟩; clear O H; have O := Lib.hid (O2.none hP.pt NoT.pt); clear O2; have H := Mem.start w2))
    go_upto_region 5 with (first
        | go_skip
        | (go_at_call 13; refine ((O.out.on hP.pt NoT.pt HK.out H.below).even hP.pt NoT.pt HK.out 10 2).mono ?_; rintro e w2 ⟨B1, B2, d1', d2', rfl, O2⟩; clear O H; have O := Lib.hid O2; clear O2; have H := Mem.start w2)
        | (go_at_call 14; refine ((O.out.on hP.pt NoT.pt (HK.out.tb B1 B2 d1' d2' (evT 10 2)) H.below).newR hP.pt (HK.out.tb B1 B2 d1' d2' (evT 10 2)) B1 B2 d1' d2' (evT 10 2) 3 (by omega) (O.out.on hP.pt NoT.pt (HK.out.tb B1 B2 d1' d2' (evT 10 2)) H.below).kp.2 (evT_right 10 2) (fun i hi => .inr hi)).mono ?_; rintro e w2 ⟨r, rfl, O2⟩; clear O H; have O := Lib.hid (O2.none hP.pt RT.pt); clear O2; have H := Mem.start w2))
    obtain ⟨s, hs⟩ : ∃ s, SS.new (evT 10 2) 3 = s := ⟨_, rfl⟩
    have hsr : s.t.right = true := by rw [← hs]; exact evT_right 10 2
    have hsm : ∀ c, c < 64 → (s.maps c).length ≤ 64 ∧ ∀ q, q ∈ s.maps c → 0 ≤ q ∧ q < 64 := fun c _ => by rw [← hs]; exact ⟨Nat.zero_le _, fun q hq => by cases hq⟩
    have O3 : St P RT w w2 (fun _ => False) (fun _ => True) p s 0 r s 0 := hs ▸ O.out
    clear O
    have O := Lib.hid O3
    clear O3
    have kM := fun W (h : St P RT w W (fun _ => False) (fun _ => True) p s 0 r s 0) => h.mapP hP RT.pt HK.out cpu (some a) cap (l.take m) hcpu (by have := HR.out.2.1; omega) (by have := HR.out.2.1; omega) hcc ((HR.out.1.same h.bel.block).mono h.bel.size) HR.out.2.2 (by intro e; cases e)
    rw [HR.out.2.1] at kM
    obtain ⟨s1, hs1⟩ : ∃ x, s.map cpu (l.take m) = x := ⟨_, rfl⟩
    obtain ⟨E, hE⟩ : ∃ x, s.mapE cpu (l.take m) = x := ⟨_, rfl⟩
    have kR := fun W (h : St P RT w W (fun _ => False) (fun _ => True) p s1 0 r s 0) => h.mapR hP.pt HK.out cpu (some a) cap (l.take m) hcpu (by have := HR.out.2.1; omega) (by have := HR.out.2.1; omega) hcc ((HR.out.1.same h.bel.block).mono h.bel.size) HR.out.2.2 (by intro e; cases e)
    rw [HR.out.2.1] at kR
    rw [hs1, hE] at kM kR
    have hm1 : s1.t.right = true ∧ ∀ c, c < 64 → (s1.maps c).length ≤ 64 ∧ ∀ q, q ∈ s1.maps c → 0 ≤ q ∧ q < 64 := by
      rw [← hs1]
      exact map_ok hsr hsm cpu _
    have HM := Lib.hid hm1
    clear hs hsr hsm hs1 hE hm1 hcc
    go_upto_region 6 with (first
        | go_skip
        | (go_at_call 21; refine (kM _ (O.out.on hP.pt RT.pt HK.out H.below)).mono ?_; rintro e w2 ⟨rfl, O2⟩; clear O H; have O := Lib.hid O2; clear O2; have H := Mem.start w2))
    go_upto_region 7 with (first
        | go_skip
        | (go_at_call 25; refine (kR _ (O.out.on hP.pt RT.pt HK.out H.below)).mono ?_; rintro e w2 ⟨rfl, O2⟩; clear O H; have O := Lib.hid O2; clear O2; have H := Mem.start w2))
    clear kM kR
    go_wp2
    go_loopw [12] (fun i wr => ∃ k : Nat, k ≤ 2 ∧ i = .int .i64 k ∧ Hid (St P RT w wr (fun _ => False) (fun _ => True) p s1 0 r s1 0)) (fun i _ => 2 - (intOf i).toNat)
    case atStart => exact ⟨0, Nat.zero_le _, rfl, Lib.hid (O.out.on hP.pt RT.pt HK.out H.below)⟩
    case round =>
      clear O H
      obtain ⟨k, hk, rfl, O⟩ := hrel
      have H := Mem.start wr
      by_cases hlt : k < 2
      · have kx := fun W h => St.candP (P := P) (P2 := RT) (W0 := w) (W := W) (T := fun _ => False) (K := fun _ => True) (p1 := p) (N1 := 0) (s1 := s1) (p2 := r) (s2 := s1) (N2 := 0) hP RT.pt HK.out h (k : Int) cpu (by unfold I64; omega) hcpu
        have hcs := cand_some9 HM.out.1 HM.out.2 (k := k) (by omega) cpu
        obtain ⟨V, hV⟩ : ∃ x, s1.candV (k : Int) cpu = x := ⟨_, rfl⟩
        obtain ⟨Ec, hEc⟩ : ∃ x, SS.candE (k : Int) cpu = x := ⟨_, rfl⟩
        rw [hV, hEc] at kx hcs
        unfold CandP at kx
        have HVE := Lib.hid (And.intro hV hEc)
        clear hV hEc
        go_upto_region 11 with (first
            | go_skip
            | (go_at_call 20; refine (kx _ (O.out.on hP.pt RT.pt HK.out H.below)).mono ?_; rintro e w2 ⟨vx, rfl, O2⟩; clear O H; have O := Lib.hid O2; clear O2; have H := Mem.start w2))
        have HKx := Lib.hid (HK.out.sl vx V)
        have ky := fun W h => St.candR (P2 := P) (W0 := w) (W := W) (p1 := r) (N1 := 0) (s1 := s1) (p2 := p) (s2 := s1) (N2 := 0) hP.pt HKx.out h (k : Int) cpu (by unfold I64; omega) hcpu
        rw [HVE.out.1, HVE.out.2] at ky
        unfold CandP at ky
        clear kx
        go_upto_region 12 with (first
            | go_skip
            | (go_at_call 26; refine (ky _ (O.out.on hP.pt RT.pt HKx.out H.below)).mono ?_; rintro e w2 ⟨vy, rfl, O2⟩; clear O H; have O := Lib.hid O2; clear O2; have H := Mem.start w2))
        have HKy := Lib.hid (HKx.out.sl vy V)
        obtain ⟨⟨_, hx⟩, hy⟩ := O.out.kp
        have hV96 : V.length ≤ 4096 := by
          rcases hcs with h | h
          · omega
          · rw [h.2]; simp
        have ks := fun W (h : Below w2.heap.size w2 W) => same_sl vx vy V W hV96 (O.out.on hP.pt RT.pt HKy.out h).kp.1.2 (O.out.on hP.pt RT.pt HKy.out h).kp.2
        obtain ⟨Ax, dx, hvx⟩ : ∃ Ax dx, vx = .slice Ax V.length dx := by
          obtain ⟨Ax, dx, e, _⟩ := hx
          exact ⟨Ax, dx, e⟩
        obtain ⟨L, hL⟩ : ∃ L, V.length = L := ⟨_, rfl⟩
        rw [hL] at hvx hcs
        have HO := Lib.hid (show ∀ W, Below w2.heap.size w2 W → St P RT w W (fun _ => False) (fun _ => True) p s1 0 r s1 0 from fun W h => (O.out.on hP.pt RT.pt HKy.out h).none hP.pt RT.pt)
        have HVX := Lib.hid hvx
        clear O HKx HKy hx hy hL ky
        rcases hcs with ⟨rfl, hL1, _⟩ | ⟨rfl, _⟩
        · have t5 : ((L : Int) == 0) = false := by simpa using (show ¬ (L : Int) = 0 by omega)
          rw [hvx] at ks ⊢
          clear hvx HVX
          go_wp2_with (first
            | (go_at_call 27; refine (ks _ H.below).mono ?_; rintro e w6 ⟨rfl, hb⟩; have H2 := H.call hb; clear H hb; have H := H2; clear H2))
          go_roundw
          case rel => exact ⟨k + 1, by omega, by go_num, Lib.hid (HO.out _ H.below)⟩
          case measure => simp [intOf]; omega
        · clear hvx
          go_wp2_with (first
            | (go_at_call 27; refine (ks _ H.below).mono ?_; rintro e w6 ⟨rfl, hb⟩; have H2 := H.call hb; clear H hb; have H := H2; clear H2))
          go_roundw
          case rel => exact ⟨k + 1, by omega, by go_num, Lib.hid (HO.out _ H.below)⟩
          case measure => simp [intOf]; omega
      · obtain rfl : k = 2 := by omega
        go_wp2
        go_ret
        exact ⟨by simp, O.out.bel⟩
end
end Go.Proofs.Ytaoaapbbadipfaa
end
