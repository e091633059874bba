/-
  The walk of RingOrder. Conditions: the acts' numbers fit their kinds.
-/
import Derived.OwnWalk
import Derived.Test.YtfnhnicjomaelaaRingU
namespace Go.Proofs.Ytfnhnicjomaelaa
set_option linter.unusedSimpArgs false
set_option linter.unusedVariables false
open Go.ChangeShapes Go.WideShapes Go.ChangeAt Go.RowKit

theorem infoDesc : (Try.prog.info? 35).map (fun i => (i.zero, i.size, i.bytes)) = some (some (.agg #[.int .u32 0, .int .u32 0, .int .u32 0, .bool false]), 4, 16) := by kernel_rfl
/-- the cells of what was posted -/
def pcells (ds : List PD) : List Value := ds.flatMap fun d => [.int .u32 d.1, .int .u32 d.2.1, .int .u32 d.2.2, .bool false]
theorem pcells_length (ds : List PD) : (pcells ds).length = ds.length * 4 := by
  induction ds with
  | nil => rfl
  | cons d ds ih => simp only [pcells, List.flatMap_cons, List.length_append] at ih ⊢; rw [ih]; simp; omega
theorem pcells_snoc (ds : List PD) (d : PD) : pcells (ds ++ [d]) = pcells ds ++ (dcs d.1 d.2.1 d.2.2 false).toList := by simp [pcells]
theorem pcells_get : ∀ (ds : List PD) (k j : Nat) (v : Value), k < ds.length → (dcs (ds.getD k (0, 0, 0)).1 (ds.getD k (0, 0, 0)).2.1 (ds.getD k (0, 0, 0)).2.2 false).toList[j]? = some v → (pcells ds)[k * 4 + j]? = some v
  | d :: ds, 0, j, v, _, hv => by
    have hj : j < 4 := by
      have := (List.getElem?_eq_some_iff.1 hv).1
      simpa using this
    simp only [pcells, List.flatMap_cons, Nat.zero_mul, Nat.zero_add]
    rw [List.getElem?_append_left (by simpa using hj)]
    exact hv
  | d :: ds, k + 1, j, v, hk, hv => by
    have ih := pcells_get ds k j v (by simpa using hk) (by simpa using hv)
    simp only [pcells, List.flatMap_cons] at ih ⊢
    rw [List.getElem?_append_right (by simp; omega)]
    rw [show (k + 1) * 4 + j - [Value.int .u32 d.1, .int .u32 d.2.1, .int .u32 d.2.2, .bool false].length = k * 4 + j by simp; omega]
    exact ih
  | [], _, _, _, hk, _ => by simp at hk
theorem ownsRow_len {W : World} {base : Nat} {e : TypeId} {size : Nat} {v : Value} {n : Nat} {xs : List Value} (h : W.ownsRow base e size v n xs) : ∃ a c, v = .slice a n c := by
  rcases h.2 with ⟨rfl, rfl⟩ | ⟨g, cap, cur, rfl, _⟩
  · exact ⟨none, 0, rfl⟩
  · exact ⟨_, _, rfl⟩
theorem ownsRow_foot {W W' : World} {B : Nat → Prop} {base : Nat} {e : TypeId} {size : Nat} {v : Value} {n : Nat} {xs : List Value} (h : W.ownsRow base e size v n xs) (hf : Foot B W W') (hn : ∀ k, base ≤ k → ¬ B k) : W'.ownsRow base e size v n xs := by
  refine ⟨h.1, ?_⟩
  rcases h.2 with h0 | ⟨g, cap, cur, h1, h2, h3, h4⟩
  · exact .inl h0
  · exact .inr ⟨g, cap, cur, h1, h2, (hf.block g (Array.getElem?_eq_some_iff.1 h3).1 (hn g h2)).trans h3, h4⟩
/-- a ring, and what was posted in a row behind B0 -/
structure Logged (W w : World) (B0 p q : Nat) (r : RS) (v : Value) : Prop where
  one : One W w p q r
  row : w.ownsRow B0 35 4 v r.ds.length (pcells r.ds)
  lp : p < B0
  lq : q < B0
  le : B0 ≤ w.heap.size
  lw : W.heap.size ≤ B0
theorem Logged.own {W w : World} {B0 p q : Nat} {r : RS} {v : Value} (h : Logged W w B0 p q r v) : ∀ k, B0 ≤ k → ¬ Own2 p q k := fun k hk e => by have := h.lp; have := h.lq; simp only [Own2] at e; omega
theorem Logged.step {W w w' : World} {B0 p q : Nat} {r r' : RS} {v : Value} (h : Logged W w B0 p q r v) (hb : RingP w' p q r') (hf : Foot (Own2 p q) w w') (hd : r'.ds = r.ds) : Logged W w' B0 p q r' v :=
  ⟨h.one.step hb hf, by rw [hd]; exact ownsRow_foot h.row hf h.own, h.lp, h.lq, Nat.le_trans h.le hf.size, h.lw⟩
theorem Logged.on {W w w' : World} {B0 p q : Nat} {r : RS} {v : Value} (h : Logged W w B0 p q r v) (hb : Below w.heap.size w w') : Logged W w' B0 p q r v :=
  ⟨h.one.on hb, ownsRow_foot h.row (Foot.of_below (B := fun _ => False) hb) (fun _ _ e => e), h.lp, h.lq, Nat.le_trans h.le hb.size, h.lw⟩
theorem Logged.alloc {W w : World} {B0 p q : Nat} {r : RS} {v : Value} (h : Logged W w B0 p q r v) (o : Obj) : Logged W (w.alloc o) B0 p q r v := h.on ((Below.refl _ _).alloc (Nat.le_refl _) _)

theorem Logged.grown {W w w8 : World} {B0 p q : Nat} {r' : RS} {v v' : Value} {m : Nat} {xs : List Value} (O : One W w p q r') (R : w.ownsRow B0 35 4 v m xs) (lp : p < B0) (lq : q < B0) (le : B0 ≤ w.heap.size) (lw : W.heap.size ≤ B0)
    (hgrow : w.grownBy w8 v.ownBlock) (hown : w8.ownsRow B0 35 4 v' r'.ds.length (pcells r'.ds)) : Logged W w8 B0 p q r' v' := by
  have hb : ∀ k, v.ownBlock = some k → B0 ≤ k := fun k hk => (R.lt k hk).1
  refine ⟨⟨O.ring.same (hgrow.block p O.ring.ring.lt (fun e => by have := hb p e.symm; omega)) (hgrow.block q O.ring.slots.lt (fun e => by have := hb q e.symm; omega)), O.below.grown hgrow (by omega) (fun k hk => by have := hb k hk; omega), O.n1, O.n2⟩, hown, lp, lq, Nat.le_trans le hgrow.size, lw⟩
theorem pcells_range {W : World} {B0 : Nat} {r : RS} {g c : Nat} (h : W.ownsRow B0 35 4 (.slice (some ⟨g, 0, none⟩) r.ds.length c) r.ds.length (pcells r.ds)) {k : Nat} (hk : k < r.ds.length) : W.rangeAt g (k * 4) (dcs (r.at_ k).1 (r.at_ k).2.1 (r.at_ k).2.2 false).toList := fun j v hv => by
  have := h.cells rfl (k * 4 + j) v (pcells_get r.ds k j v hk hv)
  rwa [addr_add] at this

set_option maxRecDepth 100000 in
set_option maxHeartbeats 2000000 in
theorem order_w (n f : Int) (hf0 : 0 ≤ f) (hf1 : f ≤ 4294967295) (A : Option Addr) (len cap : Nat) (acts : Nat → ActV) (hl : len ≤ cap) (hc : cap ≤ maxLen) (W : World) (hA : ActsAt W A len acts) :
    Calls Try.prog 5 #[.int .i64 n, .int .u32 f, .slice A len cap] W fun e w' => e = .returned (.bool true) ∧ Below W.heap.size W w' := by
  unfold maxLen at hc
  obtain ⟨b, o, HAb, hin⟩ := ActsAt.open hA
  clear hA
  have hsz := szN_size n
  obtain ⟨hn1, hn2⟩ := szN_bd n
  obtain ⟨i0, hi, hz0, hz1, hz2⟩ := info_parts infoDesc
  go_enter Try.func5, Try.ntmps5
  go_wp2_with fail
  refine (shown3_p _).mono ?_
  rintro e w1 ⟨rfl, hb1⟩
  go_wp2_with fail
  refine (lsize_p n _).mono ?_
  rintro e w2 ⟨rfl, hb2⟩
  have hB2 := hb1.trans (hb2.mono hb1.size)
  clear hb1 hb2
  go_wp2_with fail
  refine (new_p (szN n) f hsz hf0 hf1 _).mono ?_
  rintro e w3 ⟨p, q, rfl, h3, hp3, hq3, hb3⟩
  have hz2' := hB2.size
  have L3 : Logged W w3 w3.heap.size p q (RS.new (szN n) f) (.slice none 0 0) := ⟨⟨h3, hB2.trans (hb3.mono hB2.size), by omega, by omega⟩, World.ownsRow_nil _ _ _ _, h3.ring.lt, h3.slots.lt, Nat.le_refl _, Nat.le_trans hz2' hb3.size⟩
  obtain ⟨B0, hB0⟩ : ∃ B0, w3.heap.size = B0 := ⟨_, rfl⟩
  rw [hB0] at L3
  clear hB0 hb3 hB2 h3 hp3 hq3 hz2'
  go_wp2
  go_loopw [10, 11, 12] (fun v c i wr => ∃ k : Nat, k ≤ len ∧ i = .int .i64 k ∧ ∃ r, r.n = szN n ∧ r.ds.length ≤ k ∧ c = .int .i64 r.c ∧ Logged W wr B0 p q r v) (fun _ _ i _ => len - (intOf i).toNat)
  case atStart => exact ⟨0, Nat.zero_le _, rfl, _, rfl, Nat.le_refl _, rfl, L3⟩
  case round =>
    obtain ⟨k, hk, rfl, r, hrn, hrk, rfl, hr⟩ := hrel
    clear L3
    by_cases hlt : k < len ∧ k < 80
    · obtain ⟨hlt, h80⟩ := hlt
      obtain rfl := HAb.out (by omega)
      have HI := hin (by omega)
      obtain ⟨⟨a0, a1⟩, ⟨a2, a3⟩, a4, a5⟩ := Fits.bd (HI.fits k hlt)
      have co : wr.cell? ⟨b, o + k * 5, none⟩ = some (.int .i64 (acts k).o) := by
        have := (HI.range hr.one.below hlt) 0 _ rfl
        rwa [Nat.add_zero] at this
      have hk5 := opK_tmod (acts k).o
      obtain ⟨pa, pc, rfl⟩ := ownsRow_len hr.row
      have HN := Lib.hid hrn
      have ok := hr.one.ring.ok
      have hci := ok.ci
      have hit := ok.it
      have htb := ok.tb
      have hbp := ok.bp
      have hroom := ok.room
      rw [hrn] at hroom
      clear hrn
      rcases opK_cases (acts k).o with ho | ho | ho | ho | ho
      · rw [ho] at hk5
        clear ho
        have HD6 := Lib.hid (HI.desc hr.one.below hlt)
        go_wp2_with (refine wpList_load_mid rfl 35 (.tmp 49) rfl b (o + k * 5 + 1) rfl _ _ HD6.out Try.underlying35 rfl desc_info ?_; (try dsimp only [Array.toArray_toList]))
        clear co HD6
        refine (post_p wr p q r hr.one.ring _ _ _ _ a0 a1 a2 a3 a4 a5).mono ?_
        rintro e w7 ⟨rfl, h7, f7⟩
        by_cases he : r.postE (acts k).l (acts k).d = 0
        · have hcond : (!rightB (acts k).l || (acts k).d) = false ∧ ¬ r.ds.length = r.c + r.n := by
            unfold RS.postE at he
            rcases hb : (!rightB (acts k).l || (acts k).d) with _ | _
            · refine ⟨rfl, fun e => ?_⟩
              rw [hb] at he
              simp only [cond_false, if_pos e] at he
              omega
            · rw [hb] at he
              simp only [cond_true] at he
              omega
          obtain ⟨hb, hne⟩ := hcond
          have hd0 : (acts k).d = false := by revert hb; cases (acts k).d <;> simp
          have hP : r.postR (acts k).i (acts k).l (acts k).f (acts k).d = r.post ((acts k).i, (acts k).l, (acts k).f) := by unfold RS.postR; rw [hb]; simp only [cond_false, if_neg hne]
          have O7 := hr.one.step h7 f7
          have R7 := ownsRow_foot hr.row f7 hr.own
          have ln7 : B0 ≤ w7.heap.size := Nat.le_trans hr.le f7.size
          have lp := hr.lp
          have lq := hr.lq
          have lw := hr.lw
          rw [hP] at O7
          rw [he]
          have HD7 := Lib.hid (HI.desc O7.below hlt)
          have hnr : (r.post ((acts k).i, (acts k).l, (acts k).f)).n = szN n := HN.out
          clear hr h7 f7 he hb hne hP
          rw [hd0] at HD7
          have HX := Lib.hid (And.intro hnr hd0)
          clear hnr hd0
          go_wp2_with (first
            | (refine wpList_load_mid rfl 35 (.tmp 57) rfl b (o + k * 5 + 1) rfl _ _ HD7.out Try.underlying35 rfl desc_info ?_; (try dsimp only [Array.toArray_toList]))
            | (at_builtin; refine wpList_append_own _ rfl _ _ 53 rfl B0 35 i0 _ 4 16 Try.underlying53 hi hz0 hz1 hz2 rfl (by decide) _ _ _ rfl (ownsRow_foot R7 (Foot.alloc (Foot.refl (fun _ => False) w7) _) (fun _ _ e => e)) ⟨w7.heap.size, 0, none⟩ 1 1 (dcs (acts k).i (acts k).l (acts k).f false).toList rfl rfl (fun j u hu => by rw [addr_add]; exact ((Held.new w7 35 (dcs (acts k).i (acts k).l (acts k).f false)).cell j).trans (by simpa using hu)) (by simp [Value.oneCell']) (by simp [maxLen]; omega) (by omega) (by simp; omega) ?_; intro v' w8 hown hgrow _; obtain ⟨g', c', rfl⟩ := ownsRow_succ hown; have L8 : Logged W w8 B0 p q (r.post ((acts k).i, (acts k).l, (acts k).f)) (.slice (some ⟨g', 0, none⟩) (r.ds.length + 1) c') := (Logged.grown (O7.alloc _) (ownsRow_foot R7 (Foot.alloc (Foot.refl (fun _ => False) w7) _) (fun _ _ e => e)) lp lq (by simp; omega) lw hgrow (by rw [show (r.post ((acts k).i, (acts k).l, (acts k).f)).ds = r.ds ++ [((acts k).i, (acts k).l, (acts k).f)] from rfl, List.length_append, pcells_snoc]; exact hown)); clear hown hgrow))
          have hroom8 : r.ds.length + 1 ≤ r.c + szN n := by
            have h1 := O7.ring.ok.room
            rw [HX.out.1] at h1
            rw [show (r.post ((acts k).i, (acts k).l, (acts k).f)).ds = r.ds ++ [((acts k).i, (acts k).l, (acts k).f)] from rfl, List.length_append] at h1
            exact h1
          clear O7 R7 HD7 ok
          go_wp2_with fail
          refine (lsize_p n _).mono ?_
          rintro e w9 ⟨rfl, hb9⟩
          have L9 := L8.on hb9
          clear L8 hb9
          go_wp2
          go_roundw
          case rel => exact ⟨k + 1, by omega, by go_num, r.post ((acts k).i, (acts k).l, (acts k).f), HX.out.1, by rw [show (r.post ((acts k).i, (acts k).l, (acts k).f)).ds = r.ds ++ [((acts k).i, (acts k).l, (acts k).f)] from rfl, List.length_append]; simp; omega, rfl, L9⟩
          case measure => simp [intOf]; omega
        · have hP : r.postR (acts k).i (acts k).l (acts k).f (acts k).d = r := by
            unfold RS.postR
            unfold RS.postE at he
            rcases hb : (!rightB (acts k).l || (acts k).d) with _ | _
            · rw [hb] at he
              simp only [cond_false] at he ⊢
              split
              · rfl
              · rename_i hne; rw [if_neg hne] at he; exact absurd rfl he
            · rfl
          rw [hP] at h7
          have L7 := hr.step h7 f7 rfl
          have he' : (r.postE (acts k).l (acts k).d == 0) = false := by simpa using he
          generalize r.postE (acts k).l (acts k).d = pe at he'
          clear hr h7 f7 he hP
          go_wp2_with fail
          refine (lsize_p n _).mono ?_
          rintro e w9 ⟨rfl, hb9⟩
          have L9 := L7.on hb9
          clear L7 hb9
          go_wp2
          go_roundw
          case rel => exact ⟨k + 1, by omega, by go_num, r, HN.out, by omega, rfl, L9⟩
          case measure => simp [intOf]; omega
      · rw [ho] at hk5
        clear ho
        go_wp2_with fail
        clear co
        refine (bell_p wr p q r hr.one.ring).mono ?_
        rintro e w7 ⟨rfl, h7, f7⟩
        have hn7 : r.bell.n = szN n := by rw [← HN.out]; rfl
        have hd7 : r.bell.ds = r.ds := by rfl
        have hc7 : r.bell.c = r.c := by rfl
        have L7 := hr.step h7 f7 hd7
        have hlen : r.bell.ds.length = r.ds.length := by rw [hd7]
        have HX := Lib.hid (And.intro hn7 (And.intro hlen hc7))
        clear hr h7 f7 hn7 hd7 hc7 hlen
        go_wp2_with fail
        refine (lsize_p n _).mono ?_
        rintro e w9 ⟨rfl, hb9⟩
        have L9 := L7.on hb9
        clear L7 hb9
        go_wp2
        go_roundw
        case rel => exact ⟨k + 1, by omega, by go_num, _, HX.out.1, by rw [HX.out.2.1]; omega, by rw [HX.out.2.2], L9⟩
        case measure => simp [intOf]; omega
      · rw [ho] at hk5
        clear ho
        go_wp2_with fail
        clear co
        refine (fetch_p wr p q r hr.one.ring).mono ?_
        rintro e w7 ⟨rfl, h7, f7⟩
        have hn7 : r.fetchR.n = szN n := by rw [← HN.out]; unfold RS.fetchR; cases r.hasFetch <;> rfl
        have hd7 : r.fetchR.ds = r.ds := by unfold RS.fetchR; cases r.hasFetch <;> rfl
        have hc7 : r.fetchR.c = r.c := by unfold RS.fetchR; cases r.hasFetch <;> rfl
        have L7 := hr.step h7 f7 hd7
        have hlen : r.fetchR.ds.length = r.ds.length := by rw [hd7]
        have HX := Lib.hid (And.intro hn7 (And.intro hlen hc7))
        clear hr h7 f7 hn7 hd7 hc7 hlen
        go_wp2_with fail
        refine (lsize_p n _).mono ?_
        rintro e w9 ⟨rfl, hb9⟩
        have L9 := L7.on hb9
        clear L7 hb9
        go_wp2
        go_roundw
        case rel => exact ⟨k + 1, by omega, by go_num, _, HX.out.1, by rw [HX.out.2.1]; omega, by rw [HX.out.2.2], L9⟩
        case measure => simp [intOf]; omega
      · rw [ho] at hk5
        clear ho
        go_wp2_with fail
        clear co
        refine (finish_p1 wr p q r hr.one.ring).mono ?_
        rintro e w7 ⟨rfl, h7, f7⟩
        have hn7 : r.finishR.n = szN n := by rw [← HN.out]; unfold RS.finishR; cases r.hasFinish <;> rfl
        have hd7 : r.finishR.ds = r.ds := by unfold RS.finishR; cases r.hasFinish <;> rfl
        have hc7 : r.finishR.c = r.c := by unfold RS.finishR; cases r.hasFinish <;> rfl
        have L7 := hr.step h7 f7 hd7
        have hlen : r.finishR.ds.length = r.ds.length := by rw [hd7]
        have HX := Lib.hid (And.intro hn7 (And.intro hlen hc7))
        clear hr h7 f7 hn7 hd7 hc7 hlen
        go_wp2_with fail
        refine (lsize_p n _).mono ?_
        rintro e w9 ⟨rfl, hb9⟩
        have L9 := L7.on hb9
        clear L7 hb9
        go_wp2
        go_roundw
        case rel => exact ⟨k + 1, by omega, by go_num, _, HX.out.1, by rw [HX.out.2.1]; omega, by rw [HX.out.2.2], L9⟩
        case measure => simp [intOf]; omega
      · rw [ho] at hk5
        clear ho
        go_wp2_with fail
        clear co
        refine (clean_p wr p q r hr.one.ring).mono ?_
        rintro e w7 ⟨rfl, h7, f7⟩
        rcases hb : r.hasClean
        · have hP : r.cleanR = r := by simp [RS.cleanR, hb]
          rw [hP] at h7
          have L7 := (hr.step h7 f7 rfl).alloc (.cells (dcs 0 0 0 false) 35)
          rw [eE1]
          dsimp only [cond_false]
          clear hr h7 f7 hP
          go_wp2
          go_roundw
          case rel => exact ⟨k + 1, by omega, by go_num, r, HN.out, by omega, rfl, L7⟩
          case measure => simp [intOf]; omega
        · have hP : r.cleanR = r.clean := by simp [RS.cleanR, hb]
          have hlt2 : r.c < r.i := by simpa [RS.hasClean] using hb
          have hlen : r.c < r.ds.length := by omega
          rw [hP] at h7
          have L7 : Logged W w7 B0 p q r.clean (.slice pa r.ds.length pc) := hr.step h7 f7 rfl
          rw [eE0]
          dsimp only [cond_true]
          have L8 := L7.alloc (.cells (dcs (r.at_ r.c).1 (r.at_ r.c).2.1 (r.at_ r.c).2.2 true) 35)
          have x8 := Held.new w7 35 (dcs (r.at_ r.c).1 (r.at_ r.c).2.1 (r.at_ r.c).2.2 true)
          obtain ⟨g', c', hpa, _, _⟩ := World.ownsRow.form L8.row (by show 0 < r.ds.length; omega)
          obtain ⟨rfl, rfl⟩ : pa = some ⟨g', 0, none⟩ ∧ pc = c' := by
            have e : Value.slice pa r.ds.length pc = .slice (some ⟨g', 0, none⟩) r.ds.length c' := hpa
            cases e
            exact ⟨rfl, rfl⟩
          have hr8 := Lib.hid (pcells_range (r := r) L8.row hlen)
          clear hr h7 f7 hP L7 hpa ok
          go_wp2_with (refine wpList_load_mid rfl 35 (.tmp 88) rfl g' (r.c * 4) rfl _ _ hr8.out Try.underlying35 rfl desc_info ?_; (try dsimp only [Array.toArray_toList]))
          have L8' := L8.alloc (.cells (dcs (r.at_ r.c).1 (r.at_ r.c).2.1 (r.at_ r.c).2.2 true) 35)
          clear L8 hr8 x8
          refine (lsize_p n _).mono ?_
          rintro e w9 ⟨rfl, hb9⟩
          have L9 := L8'.on hb9
          clear L8' hb9
          go_wp2
          go_roundw
          case rel => exact ⟨k + 1, by omega, by go_num, r.clean, HN.out, by show r.ds.length ≤ k + 1; omega, by show _ = Value.int .i64 ((r.c + 1 : Nat) : Int); go_num, L9⟩
          case measure => simp [intOf]; omega
    · go_wp2
      all_goals
        go_ret
        exact ⟨rfl, hr.one.below⟩
end Go.Proofs.Ytfnhnicjomaelaa
