/-
  The contract of hash.Words. Conditions: the words lie where the slice says, there are at most a hundred.
-/
import Derived.Test.YtaalnkcfoioeeaaHashD
namespace Go.Proofs.Ytaalnkcfoioeeaa
set_option linter.unusedSimpArgs false
set_option linter.unusedVariables false
open Go.ChangeShapes Go.WideShapes Go.ChangeAt Go.RowKit Go.Shelf
attribute [local go_sem] Oper.semAt_some

theorem infoU32 : (Try.prog.info? 22).map (·.size) = some 1 := by kernel_rfl
theorem keepsFrom_below {B : Nat} {W W' : World} (h : Below W.heap.size W W') : KeepsFrom B W W' := ⟨h.size, fun k o _ hk _ => (h.block k (Array.getElem?_eq_some_iff.1 hk).1).trans hk⟩
theorem keepsFrom_foot {B b : Nat} {W W' : World} (h : Foot (· = b) W W') (hb : b < B) : KeepsFrom B W W' := ⟨h.size, fun k o hB hk _ => (h.block k (Array.getElem?_eq_some_iff.1 hk).1 (by omega)).trans hk⟩
theorem keepsBut_below {n : Nat} {W W' : World} (h : Below W.heap.size W W') (hn : n ≤ W.heap.size) : KeepsBut n n W W' := fun k hk _ => h.block k (by omega)
theorem keepsBut_foot {n b : Nat} {W W' : World} (h : Foot (· = b) W W') (hb : n ≤ b) (hn : n ≤ W.heap.size) : KeepsBut n n W W' := fun k hk _ => h.block k (by omega) (by omega)
/-- some words mixed in, by their numbers -/
def mixL (s : BitVec 32) (f : Nat → BitVec 32) (l : List Nat) : BitVec 32 := l.foldl (fun h k => mixB h (f k)) s
theorem mixL_snoc (s : BitVec 32) (f : Nat → BitVec 32) (l : List Nat) (x : Nat) : mixL s f (l ++ [x]) = mixB (mixL s f l) (f x) := by
  unfold mixL
  rw [List.foldl_append]
  rfl
/-- between two rounds -/
def WI (s : BitVec 32) (f : Nat → BitVec 32) (A : Option Addr) (len cap bh bc bx n₀ : Nat) (w : World) (pre : List Nat) (V : World) : Prop :=
  (∀ k, k ∈ pre → k < len) ∧ n₀ ≤ V.heap.size ∧ Mem w V [(bh, 22, #[.int .u32 (u (mixL s f pre))]), (bc, 22, #[.int .u32 (pre.length : Int)]), (bx, 27, #[.slice A len cap])]
/-- a round has left -/
def WX (s : BitVec 32) (f : Nat → BitVec 32) (A : Option Addr) (len cap bh bc bx n₀ : Nat) (w : World) (c : Code) (pre : List Nat) (V : World) : Prop :=
  c = .exit 0 ∧ ∃ z x, pre = z ++ [x] ∧ ¬ x < len ∧ WI s f A len cap bh bc bx n₀ w z V
theorem WI.far {s : BitVec 32} {f : Nat → BitVec 32} {A : Option Addr} {len cap bh bc bx n₀ : Nat} {w : World} (h1 : bh < n₀) (h2 : bc < n₀) (h3 : bx < n₀) (h4 : w.heap.size ≤ n₀) : FarFrom n₀ (WI s f A len cap bh bc bx n₀ w) := fun pre X Y h hb =>
  ⟨h.1, Nat.le_trans h.2.1 hb.size, h.2.2.far hb h4 fun z hz => by
    simp only [List.mem_cons, List.not_mem_nil, or_false] at hz
    rcases hz with rfl | rfl | rfl
    · exact h1
    · exact h2
    · exact h3⟩
theorem WX.far {s : BitVec 32} {f : Nat → BitVec 32} {A : Option Addr} {len cap bh bc bx n₀ : Nat} {w : World} (h1 : bh < n₀) (h2 : bc < n₀) (h3 : bx < n₀) (h4 : w.heap.size ≤ n₀) (c : Code) : FarFrom n₀ (WX s f A len cap bh bc bx n₀ w c) := by
  rintro pre X Y ⟨hc, z, x, e, hx, hi⟩ hb
  exact ⟨hc, z, x, e, hx, WI.far h1 h2 h3 h4 z X Y hi hb⟩
set_option maxRecDepth 100000 in
set_option maxHeartbeats 2000000 in
theorem words_p (s : BitVec 32) (A : Option Addr) (len cap : Nat) (hl : len ≤ cap) (h100 : len ≤ 100) (f : Nat → BitVec 32) (w : World) (gw : WordsAt w.heap.size w A len f) :
    Calls Try.prog 18 #[.int .u32 (u s), .slice A len cap] w fun e w' => e = .returned (.int .u32 (u (wordsB s f len))) ∧ Below w.heap.size w w' := by
  have H := Mem.start w
  have G := Lib.hid gw
  clear gw
  refine (callsIn_wide (n := 6)).1 ?_
  refine callsIn_of_wp_marks Try.func18 rfl trivial ?_ rfl
  simp only [Try.ntmps18, List.size_toArray, List.length_cons, List.length_nil, Nat.reduceAdd, Nat.reduceSub, Array.replicate_succ, Array.replicate_zero, List.push_toArray, List.append_toArray, List.nil_append, List.cons_append]
  refine wpIn_wide.2 ?_
  go_wp2_with fail
  refine wp_scope_straight ?_
  go_upto_region 2 with (first
    | ((with_reducible show wpList _ _ _ _ _ (World.alloc _ (.cells _ _))); refine mem_newb (l := []) H ?_; intro bh w3 hbk H2; try rw [← hbk]; clear hbk H; have H := H2; clear H2; simp only [List.cons_append, List.nil_append, List.set_cons_zero, List.set_cons_succ, List.setIfInBounds_toArray] at H)
    | ((with_reducible show wpList _ _ _ _ _ (World.alloc _ (.cells _ _))); refine mem_newb (l := [_]) H ?_; intro bc w3 hbk H2; try rw [← hbk]; clear hbk H; have H := H2; clear H2; simp only [List.cons_append, List.nil_append, List.set_cons_zero, List.set_cons_succ, List.setIfInBounds_toArray] at H)
    | ((with_reducible show wpList _ _ _ (⟨_, .store _ _ _, _, _, _, _⟩ :: _) _ _); refine mem_storef (i := 0) H (by first | exact wanted_none rfl | exact wanted_some rfl rfl rfl rfl) (by exact rfl) (by exact rfl) (by exact rfl) (by exact rfl) infoU32 (by exact rfl) (by exact rfl) ?_; intro w2 H2; clear H; have H := H2; clear H2; simp only [List.cons_append, List.nil_append, List.set_cons_zero, List.set_cons_succ, List.setIfInBounds_toArray] at H)
    | ((with_reducible show wpList _ _ _ (⟨_, .store _ _ _, _, _, _, _⟩ :: _) _ _); refine mem_storef (i := 1) H (by first | exact wanted_none rfl | exact wanted_some rfl rfl rfl rfl) (by exact rfl) (by exact rfl) (by exact rfl) (by exact rfl) infoU32 (by exact rfl) (by exact rfl) ?_; intro w2 H2; clear H; have H := H2; clear H2; simp only [List.cons_append, List.nil_append, List.set_cons_zero, List.set_cons_succ, List.setIfInBounds_toArray] at H))
  refine wp_label ?_
  go_wp2_with (first
    | go_skip
    | (go_at_call 27; refine (each_p _ _ _ _).mono ?_; rintro e w2 ⟨bx, rfl, hm⟩; have H2 := H.join hm; clear H hm; have H := H2; clear H2; simp only [List.cons_append, List.nil_append, List.set_cons_zero, List.set_cons_succ, List.setIfInBounds_toArray] at H))
  have hbh := (H.at 0 rfl).lt
  have hbc := (H.at 1 rfl).lt
  have hbx := (H.at 2 rfl).lt
  have hsz := H.below.size
  have hlh := (H.held _ (List.mem_of_getElem? (i := 0) rfl)).1
  have hlc := (H.held _ (List.mem_of_getElem? (i := 1) rfl)).1
  have gw2 : WordsAt w.heap.size w2 A len f := G.out.below H.below
  refine (wpIn_wide (n := 6)).1 ?_
  refine wpIn_rangeFar (n := 6) (F := Fence.wide) rfl (by omega) (gf := 31) (lb := #[.pointer (some ⟨bx, 0, none⟩)]) rfl trivial (enters_of Try.func31 (by kernel_rfl) rfl)
    (each1_far 5 (by omega) bx A len cap hl h100 f w.heap.size w2 hsz (H.at 2 rfl) gw2)
    (fun h k => h.trans k) (fun W l o o' hl ho hc hw => KeepsBut.put hsz W l o o' hl ho hc hw) (fun _ => rfl)
    (WI s f A len cap bh bc bx w2.heap.size w) (WX s f A len cap bh bc bx w2.heap.size w) (WI.far hbh hbc hbx hsz) (WX.far hbh hbc hbx hsz)
    ⟨(fun k h => by cases h), Nat.le_refl _, H⟩
    (fun k => { tmps := #[.int .u32 (u s), .slice A len cap, undef, undef, .int .u32 0, .pointer (some ⟨bh, 0, none⟩), .pointer (some ⟨bc, 0, none⟩), .int .u32 (wN f len k), .bool (decide (k < len)), .int .u32 (u s), .slice A len cap, .func (.func 31) #[] #[.pointer (some ⟨bx, 0, none⟩)], .int .u32 (wN f len k), .bool (decide (k < len)),
      undef, undef, undef, undef, undef, undef, undef, undef, undef, undef, undef], defers := [] }) ?assign ?body ?done ?stop
  case assign =>
    intro l x V K hK
    gi_wp2
    exact hK
  case body =>
    rintro l pre x V ⟨hp, hV, K⟩ hlt
    clear H gw2
    by_cases hx : x < len
    · have e1 : decide (x < len) = true := decide_eq_true hx
      have e2 : wN f len x = u (f x) := if_pos hx
      rw [e1, e2]
      have P := Lib.hid hp
      clear hp e1 e2
      have hpl : (pre.length : Int) < 101 := by omega
      gi_wp2_with (first
        | ((with_reducible show wpListIn _ _ _ _ _ (⟨_, .load _ _, _, _, _, _⟩ :: _) _ _); first | refine mem_loadfI (i := 0) K (by first | exact wanted_none rfl | exact wanted_some rfl rfl rfl rfl) (by exact rfl) (by exact rfl) (by exact rfl) Try.underlying22 rfl (by exact rfl) ?_ | refine mem_loadfI (i := 1) K (by first | exact wanted_none rfl | exact wanted_some rfl rfl rfl rfl) (by exact rfl) (by exact rfl) (by exact rfl) Try.underlying22 rfl (by exact rfl) ?_)
        | (refine ⟨trivial, ?_⟩; gi_at_call 12; refine (CallsIn.inRound l (callsIn_wide.2 (mix_p _ _ V))).mono ?_; rintro e V1 ⟨rfl, hb1⟩; have K1 := K.call hb1; clear K; have K := K1; clear K1)
        | ((with_reducible show wpListIn _ _ _ _ _ (⟨_, .store _ (.tmp 5) _, _, _, _, _⟩ :: _) _ _); refine mem_storefI (i := 0) K (by first | exact wanted_none rfl | exact wanted_some rfl rfl rfl rfl) (by exact rfl) (by exact rfl) (by exact rfl) (by exact rfl) infoU32 (by exact rfl) (by exact rfl) ?_; intro V2 K2 F2; clear K; have K := K2; clear K2; simp only [List.cons_append, List.nil_append, List.set_cons_zero, List.set_cons_succ, List.setIfInBounds_toArray] at K)
        | ((with_reducible show wpListIn _ _ _ _ _ (⟨_, .store _ (.tmp 6) _, _, _, _, _⟩ :: _) _ _); refine mem_storefI (i := 1) K (by first | exact wanted_none rfl | exact wanted_some rfl rfl rfl rfl) (by exact rfl) (by exact rfl) (by exact rfl) (by exact rfl) infoU32 (by exact rfl) (by exact rfl) ?_; intro V3 K3 F3; clear K; have K := K3; clear K3; simp only [List.cons_append, List.nil_append, List.set_cons_zero, List.set_cons_succ, List.setIfInBounds_toArray] at K))
      have hs1 := hb1.size
      have hs2 := F2.size
      have hs3 := F3.size
      refine ⟨((keepsFrom_below hb1).trans (keepsFrom_foot F2 hbh)).trans (keepsFrom_foot F3 hbc), ?_, ?_, by omega, ?_⟩
      · exact ((keepsBut_below hb1 (by omega)).trans (keepsBut_foot F2 hlh (by omega))).trans (keepsBut_foot F3 hlc (by omega))
      · intro k hk
        rcases List.mem_append.1 hk with h | h
        · exact P.out k h
        · rw [List.mem_singleton.1 h]
          exact hx
      · rw [mixL_snoc, List.length_append]
        exact K
    · have e1 : decide (x < len) = false := decide_eq_false hx
      have e2 : wN f len x = 0 := if_neg hx
      rw [e1, e2]
      clear e1 e2
      gi_wp2
      exact ⟨KeepsFrom.refl _ _, rfl, pre, x, rfl, hx, hp, hV, K⟩
  case done =>
    rintro D xs V hD rfl ⟨hp, _⟩
    exact absurd (hp len (by simp)) (by omega)
  case stop =>
    rintro D c pre V hD ⟨k, hk, rfl⟩ ⟨rfl, z, x, e, hx, hp, hV, K⟩ hK
    rw [List.range_succ] at e
    obtain ⟨rfl, e2⟩ := List.append_inj' e rfl
    obtain rfl : k = x := by simpa using e2
    obtain rfl : k = len := by omega
    rw [List.length_range] at K
    have e4 : 4 * (k : Int) = u (BitVec.ofNat 32 (4 * k)) := by rw [u_lit (4 * k) (by omega)]; omega
    have hDl : D < V.heap.size := (Array.getElem?_eq_some_iff.1 hK).1
    clear e e2 hp H gw2
    have H := K
    gi_wp2
    go_wp2_with (first
      | ((with_reducible show wpList _ _ _ (⟨_, .load _ _, _, _, _, _⟩ :: _) _ _); refine mem_loadf (i := 0) H (by first | exact wanted_none rfl | exact wanted_some rfl rfl rfl rfl) (by exact rfl) (by exact rfl) (by exact rfl) Try.underlying22 rfl (by exact rfl) ?_)
      | ((with_reducible show wpList _ _ _ (⟨_, .load _ _, _, _, _, _⟩ :: _) _ _); refine mem_loadf (i := 1) H (by first | exact wanted_none rfl | exact wanted_some rfl rfl rfl rfl) (by exact rfl) (by exact rfl) (by exact rfl) Try.underlying22 rfl (by exact rfl) ?_)
      | (go_at_call 14; refine (end_p _ _ V).mono ?_; rintro e V1 ⟨rfl, hb1⟩))
    refine ⟨by simp, .inl ⟨_, _, rfl, run_takeDeferred ((hb1.block D hDl).trans hK), ?_⟩⟩
    refine ⟨_, results_tmp (t := 4) rfl _ _ _, rfl, ?_⟩
    have := K.below.size
    clear H
    exact (K.below.trans (hb1.mono this)).trans (below_put (by omega) V1 _)
end Go.Proofs.Ytaalnkcfoioeeaa
