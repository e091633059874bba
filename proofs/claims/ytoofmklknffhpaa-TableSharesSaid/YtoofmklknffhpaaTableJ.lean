/-
  The document's Even. Conditions: those that each theorem names.
-/
import Derived.Test.YtoofmklknffhpaaTableI
namespace Go.Proofs.Ytoofmklknffhpaa
set_option linter.unusedSimpArgs false
set_option linter.unusedVariables false
open Go.ChangeShapes Go.WideShapes Go.ChangeAt Go.RowKit

theorem infoSp_parts : ∃ i, Try.prog.info? 36 = some i ∧ i.zero = some (.agg #[.int .i64 0, .int .i64 0]) ∧ i.size = 2 ∧ i.bytes = 16 := by
  have h : (Try.prog.info? 36).map (fun i => (i.zero, i.size, i.bytes)) = some (some (.agg #[.int .i64 0, .int .i64 0]), 2, 16) := by kernel_rfl
  rcases hi : Try.prog.info? 36 with _ | i
  · rw [hi] at h; cases h
  · rw [hi] at h
    simp at h
    exact ⟨i, rfl, h.1, h.2.1, h.2.2⟩
theorem spCs_one (l : List (Int × Int)) : ∀ u ∈ spCs l, u.oneCell' = true := by
  intro u hu
  obtain ⟨s, _, hs⟩ := List.mem_flatMap.1 hu
  simp at hs
  rcases hs with rfl | rfl <;> rfl
theorem addr_add0 (b j : Nat) : (⟨b, 0, none⟩ : Addr).add j = ⟨b, j, none⟩ := by
  unfold Addr.add
  split
  all_goals first | (simp; done) | (simp; omega)
theorem offN_le {Q C k : Nat} (h : 1 ≤ C) (hk : k < C) : offN Q C k + cntN Q C k ≤ Q := by
  have e := offN_all (Q := Q) h
  rw [← offN_succ]
  conv => rhs; rw [← e]
  unfold offN
  have := Nat.mul_le_mul_right (Q / C) (show k + 1 ≤ C by omega)
  omega
theorem addr_add (b o j : Nat) : (⟨b, o, none⟩ : Addr).add j = ⟨b, o + j, none⟩ := by
  unfold Addr.add
  split
  all_goals first | (simp; done) | (simp; omega)
/-- one cell of a box is written, inside a fence, as an operation alone -/
theorem wpIn_storef_mem {F : Fence} {n : Nat} {P : Program} {o : Oper} {a : Act} {w0 w : World} {Q : Exit → Act → World → Prop} {l : List (Nat × TypeId × Array Value)} {t : TypeId} {cs : Array Value} {b i j : Nat} {ty : TypeId} {x y : Operand} {v : Value} {K : Act → World → Prop} (H : Mem w0 w l) (ho : o.op = .store ty x y) (hx : opnd a x = some (.pointer (some ⟨b, j, none⟩))) (hm : l[i]? = some (b, t, cs)) (hy : opnd a y = some v)
    (hi : (P.info? ty).map (·.size) = some 1) (hj' : decide (j < cs.size) = true) (h1 : v.oneCell' = true)
    (h : ∀ w', Mem w0 w' (l.set i (b, t, cs.setIfInBounds j v)) → Foot (· = b) w w' → K (a.put o.dst undef) w') : o.wpIn F n P a w K Q := by
  refine ⟨by simp [Oper.about, ho], ?_⟩
  rw [Oper.semAt_plain F _ _ (by rw [ho]; intro c hc'; cases hc')]
  have g := H.at i hm
  have hj : j < cs.size := of_decide_eq_true hj'
  have hc : w.cell? ⟨b, j, none⟩ = some cs[j] := (g.cell j).trans (by simp [hj])
  have hf := g.frozen j
  have hcs : v.cells = #[v] := by cases v <;> first | rfl | cases h1
  have hst : (storeVar ty ⟨b, j, none⟩ v).run P w = .ok () (w.setCell ⟨b, j, none⟩ v) := by
    cases hq : P.info? ty with
    | none => simp [hq] at hi
    | some i =>
      have hs : i.size = 1 := by simpa [hq] using hi
      simp [storeVar, sizeOf, typeInfo, hq, hcs, hs, storeCells, Addr.add_mid, run_store P w _ v _ h1, hc, hf]
  unfold execOp
  simp only [ho, opnd_eval hx, opnd_eval hy, Instr.storeAt, Instr.sureAddr, Sem.run_bind, Sem.run_pure, Result.andThen_ok, hst]
  exact h _ (H.set i hm (Foot.cell w ⟨b, j, none⟩ v) (g.set j v)) (Foot.cell w ⟨b, j, none⟩ v)
section
variable {P : Program} {ops : Array Oper} {rest : List Oper} {o : Oper} {a : Act} {w0 w : World} {Q : Exit → Act → World → Prop} {l : List (Nat × TypeId × Array Value)} {t : TypeId} {cs : Array Value}
/-- a whole struct is written: what else is there stays -/
theorem mem_storeF {b i : Nat} {ty : TypeId} {vs : Array Value} {x y : Operand} (H : Mem w0 w l) (hw : Region.wanted o (yielded ops a.tmps) = true) (ho : o.op = .store ty x y) (hx : opnd a x = some (.pointer (some ⟨b, 0, none⟩))) (hm : l[i]? = some (b, t, cs)) (hy : opnd a y = some (.agg vs))
    (hi : (P.info? ty).map (·.size) = some vs.size) (hs : cs.size = vs.size) (h1' : vs.toList.all (·.oneCell') = true)
    (h : ∀ w', Mem w0 w' (l.set i (b, t, vs)) → Foot (· = b) w w' → wpList P ops Q rest (a.put o.dst undef) w') : wpList P ops Q (o :: rest) a w :=
  store_held (H.at i hm) hw ho hx hy hi hs h1' fun w' g F => h w' (H.set i hm F g) F
end
/-- something is appended to a row, inside a fence, as an operation alone -/
theorem wpIn_append_own {F : Fence} {n : Nat} {P : Program} {w : World} {o : Oper} {a : Act} {Q : Exit → Act → World → Prop} {K : Act → World → Prop}
    (s x : Operand) (t : TypeId) (hop : o.op = Op.call { callee := Callee.builtin Builtin.append, args := #[s, x], argTypes := #[t, t] })
    (base : Nat) (e : TypeId) (i : TypeInfo) (z : Value) (size bytes : Nat) (h1 : P.underlying t = some (.slice e)) (h2 : P.info? e = some i) (h3 : i.zero = some z) (h4 : i.size = size) (h5 : i.bytes = bytes) (h6 : z.cells.size = size) (h7 : 0 < size)
    (v : Value) (k : Nat) (xs : List Value) (hs : opnd a s = some v) (hown : w.ownsRow base e size v k xs) (ad : Addr) (m c : Nat) (news : List Value) (hx : opnd a x = some (.slice (some ad) m c)) (hn : news.length = m * size)
    (hc : ∀ j u, news[j]? = some u → w.cell? (ad.add j) = some u) (h1c : ∀ u ∈ news, u.oneCell' = true) (b1 : k + m ≤ maxLen) (b2 : (k + m) * bytes ≤ 140737488355328) (b3 : base ≤ w.heap.size)
    (hK : ∀ v' w', w'.ownsRow base e size v' (k + m) (xs ++ news) → w.grownBy w' v.ownBlock → K (a.put o.dst v') w') : o.wpIn F n P a w K Q := by
  obtain ⟨v', w', hrun, r1, r2, r3⟩ := run_append_own (P := P) w base t o.type e i z size bytes h1 h2 h3 h4 h5 h6 h7 v k xs hown ad m c news hn hc h1c b1 b2 b3
  have hs' := opnd_eval hs
  have hx' := opnd_eval hx
  unfold Oper.wpIn
  refine ⟨?_, ?_⟩
  · simp [Oper.about, hop, resolve, Target.leads, Sem.run_pure]
  · rw [Oper.semAt_plain F _ _ (by rw [hop]; intro c hc'; cases hc')]
    simp [execOp, hop, resolve, invoke, builtin, hs', hx', hrun, Result.andThen]
    exact hK v' w' r1 r2
theorem below_drew1 (w : World) : Below w.heap.size w w.drew := ⟨rfl, rfl, rfl, Nat.le_refl _, fun _ _ => rfl⟩
set_option maxRecDepth 100000 in
set_option maxHeartbeats 2000000 in
theorem even_yes (Q C : Nat) (hQ : 1 ≤ Q ∧ Q ≤ 64) (hC : 1 ≤ C ∧ C ≤ 16 ∧ C ≤ Q) (w : World) : Calls Try.prog 25 #[.int .i64 (Q : Int), .int .i64 (C : Int)] w fun e w' =>
    ∃ A1 A2 c1 c2, e = .returned (.tuple #[.agg (tbC A1 A2 c1 c2 (evenT Q C)), .int .i64 0]) ∧ TbAt w'.heap.size w' A1 A2 c1 c2 (evenT Q C) ∧ Below w.heap.size w w' := by
  have H := Mem.start w
  have t0 : decide ((Q : Int) < 1) = false := decide_eq_false (by omega)
  have t1 : decide (64 < (Q : Int)) = false := decide_eq_false (by omega)
  have t2 : decide ((C : Int) < 1) = false := decide_eq_false (by omega)
  have t3 : decide (16 < (C : Int)) = false := decide_eq_false (by omega)
  have t4 : decide ((Q : Int) < (C : Int)) = false := decide_eq_false (by omega)
  obtain ⟨i0, hi, hz0, hz1, hz2⟩ := infoSp_parts
  obtain ⟨i1, gi, gz0, gz1, gz2⟩ := infoInt_parts
  go_enter Try.func25, Try.ntmps25
  go_upto_region 1 with (first
    | ((with_reducible show wpList _ _ _ _ _ (World.alloc _ (.cells _ _))); refine mem_newb H ?_; intro br w3 hbk H2; try rw [← hbk]; clear hbk H; have H := H2; clear H2; simp only [List.cons_append, List.nil_append, List.set_cons_zero, List.set_cons_succ, List.setIfInBounds_toArray] at H))
  go_upto_region 4 with (first
    | ((with_reducible show wpList _ _ _ _ _ (World.alloc _ (.cells _ _))); refine mem_newb (l := [_]) H ?_; intro bt w3 hbk H2; try rw [← hbk]; clear hbk H; have H := H2; clear H2; simp only [List.cons_append, List.nil_append, List.set_cons_zero, List.set_cons_succ, List.setIfInBounds_toArray] at H)
    | ((with_reducible show wpList _ _ _ (⟨_, .store 25 _ _, _, _, _, _⟩ :: _) _ _); refine mem_store (i := 1) H (by first | exact wanted_none rfl | exact wanted_some rfl rfl rfl rfl) (by exact rfl) (by exact rfl) (by exact rfl) (by exact rfl) (by exact tbInfo) (by exact rfl) (by exact rfl) ?_; intro w2 H2; clear H; have H := H2; clear H2; simp only [List.cons_append, List.nil_append, List.set_cons_zero, List.set_cons_succ, List.setIfInBounds_toArray] at H))
  clear t0 t1 t2 t3 t4
  go_wp2_with fail
  have hr0 := (H.at 0 rfl).lt
  have hr1 := (H.at 1 rfl).lt
  have hsz := H.below.size
  obtain ⟨B, hBq⟩ : ∃ B, w2.heap.size = B := ⟨_, rfl⟩
  have R : w2.ownsRow B 36 2 (.slice none 0 0) 0 (spCs (evenS Q C 0)) := World.ownsRow_nil w2 B 36 2
  have hB2 : B ≤ w2.heap.size := by omega
  have hbB : br < B ∧ bt < B ∧ w.heap.size ≤ B := by omega
  have hinB : ∀ (a c d : Array Value) (p : Nat × TypeId × Array Value), p ∈ [(br, 25, a), (bt, 25, c)] → p.1 < B := fun a c d p hp => by
    simp only [List.mem_cons, List.not_mem_nil, or_false] at hp
    rcases hp with rfl | rfl
    · exact hbB.1
    · exact hbB.2.1
  have HI := Lib.hid hinB
  clear hBq hr0 hr1 hsz hinB
  obtain ⟨D, hD⟩ : ∃ D, Q / C = D := ⟨_, rfl⟩
  obtain ⟨M, hM⟩ : ∃ M, Q % C = M := ⟨_, rfl⟩
  have d1 : (Q : Int).tdiv (C : Int) = D := by rw [Int.tdiv_eq_ediv_of_nonneg (by omega), ← hD, Int.natCast_ediv]
  have d2 : (Q : Int).tmod (C : Int) = M := by rw [Int.tmod_eq_emod_of_nonneg (by omega), ← hM, Int.natCast_emod]
  have hD64 : D ≤ 64 := by rw [← hD]; exact Nat.le_trans (Nat.div_le_self _ _) hQ.2
  have HC := Lib.hid (show ∀ k, cntN Q C k = D + (if k < M then 1 else 0) from fun k => by rw [cntN, hD, hM])
  clear hD hM
  go_loopw [7, 8] (fun off i wr => ∃ k : Nat, k ≤ C ∧ i = .int .i64 k ∧ off = .int .i64 (offN Q C k : Int) ∧ ∃ A c, wr.ownsRow B 36 2 (.slice A k c) k (spCs (evenS Q C k)) ∧ B ≤ wr.heap.size ∧ Mem w wr [(br, 25, noT), (bt, 25, #[.int .i64 (Q : Int), .slice none 0 0, .slice A k c])]) (fun _ i _ => C - (intOf i).toNat)
  case atStart => exact ⟨0, Nat.zero_le _, rfl, by rw [offN_zero]; rfl, none, 0, R, hB2, H⟩
  case round =>
    clear H R hB2
    obtain ⟨k, hk, rfl, rfl, A, c, R, hB2, H⟩ := hrel
    by_cases hlt : k < C
    · have ho := offN_le (Q := Q) hC.1 hlt
      obtain ⟨O, hO⟩ : ∃ O, offN Q C k = O := ⟨_, rfl⟩
      have hcn := HC.out k
      by_cases hkM : k < M
      · have t1 : decide ((k : Int) < (M : Int)) = true := decide_eq_true (by omega)
        rw [if_pos hkM] at hcn
        have HS := Lib.hid (And.intro (evenS_succ Q C k) (And.intro (offN_succ Q C k) (And.intro hcn hO)))
        rw [hcn, hO] at ho
        simp only [hO]
        clear hcn hO
        go_wp2_with (first
          | ((with_reducible show wpList _ _ _ (⟨_, .load _ _, _, _, _, _⟩ :: _) _ _); refine mem_loadf (i := 1) H (by first | exact wanted_none rfl | exact wanted_some rfl rfl rfl rfl) (by exact rfl) (by exact rfl) (by exact rfl) (by first | exact Try.underlying3 | exact Try.underlying22 | exact Try.underlying23) rfl (by exact rfl) ?_)
          | (at_builtin; refine wpList_append_own _ rfl _ _ 23 rfl B 36 i0 _ 2 16 Try.underlying23 hi hz0 hz1 hz2 rfl (by decide) _ _ _ rfl (R.alloc _) ⟨wr.heap.size, 0, none⟩ 1 1 [.int .i64 (O : Int), .int .i64 ((D : Int) + 1)] rfl rfl (fun j u hu => by rw [addr_add0]; exact ((Held.new wr 36 #[.int .i64 (O : Int), .int .i64 ((D : Int) + 1)]).cell j).trans (by simpa using hu)) (by simp [Value.oneCell']) (by simp [maxLen]; omega) (by omega) (by simp; omega) ?_; intro v' w1 hown' hgrow _; have hrl := row_lt R; have H4 := (H.skip _).grown hgrow (fun r hr => (hrl r hr).1) (HI.out _ _ #[]) hbB.2.2; obtain ⟨A', c', rfl⟩ := ownsRow_len hown'; have hB4 : B ≤ w1.heap.size := (by have := hgrow.size; simp at this; omega); clear H hrl; have H := H4; clear H4)
          | ((with_reducible show wpList _ _ _ (⟨_, .store _ _ _, _, _, _, _⟩ :: _) _ _); refine mem_storefF (i := 1) H (by first | exact wanted_none rfl | exact wanted_some rfl rfl rfl rfl) (by exact rfl) (by exact rfl) (by exact rfl) (by exact rfl) (by first | exact clInfo | exact ssInfo) (by exact rfl) (by exact rfl) ?_; intro w7 H7 F7; have R7 := ownsRow_foot hown' F7 (fun j hj e => by have := hbB.2.1; omega); have hB7 : B ≤ w7.heap.size := (by have := F7.size; omega); clear H; have H := H7; clear H7; simp only [List.cons_append, List.nil_append, List.set_cons_zero, List.set_cons_succ, List.setIfInBounds_toArray] at H))
        go_roundw
        case rel =>
          obtain ⟨s1, s2, s3, s4⟩ := HS.out
          refine ⟨k + 1, by omega, by go_num, by rw [s2, s3, s4]; go_num, _, _, ?_, hB7, H⟩
          rw [s1, s3, s4, spCs_append]
          exact R7
        case measure => simp [intOf]; omega
      · have t1 : decide ((k : Int) < (M : Int)) = false := decide_eq_false (by omega)
        rw [if_neg hkM] at hcn
        have HS := Lib.hid (And.intro (evenS_succ Q C k) (And.intro (offN_succ Q C k) (And.intro hcn hO)))
        rw [hcn, hO] at ho
        simp only [hO]
        clear hcn hO
        go_wp2_with (first
          | ((with_reducible show wpList _ _ _ (⟨_, .load _ _, _, _, _, _⟩ :: _) _ _); refine mem_loadf (i := 1) H (by first | exact wanted_none rfl | exact wanted_some rfl rfl rfl rfl) (by exact rfl) (by exact rfl) (by exact rfl) (by first | exact Try.underlying3 | exact Try.underlying22 | exact Try.underlying23) rfl (by exact rfl) ?_)
          | (at_builtin; refine wpList_append_own _ rfl _ _ 23 rfl B 36 i0 _ 2 16 Try.underlying23 hi hz0 hz1 hz2 rfl (by decide) _ _ _ rfl (R.alloc _) ⟨wr.heap.size, 0, none⟩ 1 1 [.int .i64 (O : Int), .int .i64 ((D : Int))] rfl rfl (fun j u hu => by rw [addr_add0]; exact ((Held.new wr 36 #[.int .i64 (O : Int), .int .i64 ((D : Int))]).cell j).trans (by simpa using hu)) (by simp [Value.oneCell']) (by simp [maxLen]; omega) (by omega) (by simp; omega) ?_; intro v' w1 hown' hgrow _; have hrl := row_lt R; have H4 := (H.skip _).grown hgrow (fun r hr => (hrl r hr).1) (HI.out _ _ #[]) hbB.2.2; obtain ⟨A', c', rfl⟩ := ownsRow_len hown'; have hB4 : B ≤ w1.heap.size := (by have := hgrow.size; simp at this; omega); clear H hrl; have H := H4; clear H4)
          | ((with_reducible show wpList _ _ _ (⟨_, .store _ _ _, _, _, _, _⟩ :: _) _ _); refine mem_storefF (i := 1) H (by first | exact wanted_none rfl | exact wanted_some rfl rfl rfl rfl) (by exact rfl) (by exact rfl) (by exact rfl) (by exact rfl) (by first | exact clInfo | exact ssInfo) (by exact rfl) (by exact rfl) ?_; intro w7 H7 F7; have R7 := ownsRow_foot hown' F7 (fun j hj e => by have := hbB.2.1; omega); have hB7 : B ≤ w7.heap.size := (by have := F7.size; omega); clear H; have H := H7; clear H7; simp only [List.cons_append, List.nil_append, List.set_cons_zero, List.set_cons_succ, List.setIfInBounds_toArray] at H))
        go_roundw
        case rel =>
          obtain ⟨s1, s2, s3, s4⟩ := HS.out
          refine ⟨k + 1, by omega, by go_num, by rw [s2, s3, s4]; go_num, _, _, ?_, hB7, H⟩
          rw [s1, s3, s4, spCs_append]
          exact R7
        case measure => simp [intOf]; omega
    · obtain rfl : k = C := by omega
      go_wp2
      obtain ⟨B2, hBq⟩ : ∃ B, wr.heap.size = B := ⟨_, rfl⟩
      have hrl := row_lt R
      have hrl2 : ∀ r, (Value.slice A k c).ownBlock = some r → r < B2 := fun r hr => by have := (hrl r hr).2; omega
      have R1 : wr.ownsRow B2 3 1 (.slice none 0 0) 0 (ints (evenC k 0)) := World.ownsRow_nil wr B2 3 1
      have hB3 : B2 ≤ wr.heap.size := by omega
      have hb2 : B ≤ B2 := by omega
      have HR := Lib.hid hrl2
      clear hBq hrl hrl2 hB2
      go_loopw [10] (fun i wr => ∃ j : Nat, j ≤ 16 ∧ i = .int .i64 j ∧ ∃ A1 c1, wr.ownsRow B2 3 1 (.slice A1 j c1) j (ints (evenC k j)) ∧ wr.ownsRow B 36 2 (.slice A k c) k (spCs (evenS Q k k)) ∧ B2 ≤ wr.heap.size ∧ Mem w wr [(br, 25, noT), (bt, 25, #[.int .i64 (Q : Int), .slice A1 j c1, .slice A k c])]) (fun i _ => 16 - (intOf i).toNat)
      case atStart => exact ⟨0, Nat.zero_le _, rfl, none, 0, R1, R, hB3, H⟩
      case round =>
        clear H R R1 hB3
        obtain ⟨j, hj, rfl, A1, c1, R1, R, hB3, H⟩ := hrel
        by_cases hlt : j < 16
        · have d3 : (j : Int).tmod (k : Int) = ((j % k : Nat) : Int) := by rw [Int.tmod_eq_emod_of_nonneg (by omega), Int.natCast_emod]
          have HE := Lib.hid (evenC_succ k j)
          have hx : ((j % k : Nat) : Int) = (j % k : Nat) := rfl
          obtain ⟨X, hX⟩ : ∃ X, j % k = X := ⟨_, rfl⟩
          rw [hX] at d3
          have HX := Lib.hid hX
          clear hx hX d1 d2
          have hk0 : ¬ ((k : Int) = 0) := by omega
          go_wp2
          refine (wpIn_wide (n := 6)).1 (wpIn_region_G (fun wx => Mem w wx [(br, 25, noT), (bt, 25, #[.int .i64 (Q : Int), .slice A1 j c1, .slice A k c])]) 8 9 rfl (by kernel_rfl) fun hcl => ?_)
          have hS := H.drew
          clear H
          refine wpAnyG_pure (i := 0) (v := .pointer (some ⟨bt, 1, none⟩)) rfl rfl (by kernel_rfl) (by kernel_rfl) (by kernel_rfl) (fun _ _ _ h => h) (by decide) ⟨by rfl, fun w _ => (by go_simp; try (first | (simp only [IntKind.wrap_u32]; done) | rfl)), fun _ => rfl⟩ (.inr hS) ?_
          have hc1 := hcl.step (i := 0) (by kernel_rfl)
          clear hcl; have hcl := hc1; clear hc1; simp only [List.getElem_toArray, List.getElem_cons_zero, List.getElem_cons_succ, Act.put, List.setIfInBounds_toArray, List.set_cons_zero, List.set_cons_succ]
          refine wpAnyG_take (i := 1) 1 (v := .slice A1 j c1) rfl rfl (by kernel_rfl) (by kernel_rfl) (by kernel_rfl) (fun _ _ _ h => h) (by kernel_rfl) (by decide) hcl (yields_fld (fun w h => h.at 1 rfl) (by exact rfl) (by exact rfl) (by exact rfl) (by first | exact Try.underlying3 | exact Try.underlying22 | exact Try.underlying23) rfl (by exact rfl)) hS (fun hc1 => ?_)
          clear hcl; have hcl := hc1; clear hc1; simp only [List.getElem_toArray, List.getElem_cons_zero, List.getElem_cons_succ, Act.put, List.setIfInBounds_toArray, List.set_cons_zero, List.set_cons_succ]
          refine wpAnyG_pure (i := 2) (v := .int .i64 (j : Int)) rfl rfl (by kernel_rfl) (by kernel_rfl) (by kernel_rfl) (fun _ _ _ h => h) (by decide) ⟨by rfl, fun w _ => (by go_simp; try (first | (simp only [IntKind.wrap_u32]; done) | rfl)), fun _ => rfl⟩ (.inr hS) ?_
          have hc1 := hcl.step (i := 2) (by kernel_rfl)
          clear hcl; have hcl := hc1; clear hc1; simp only [List.getElem_toArray, List.getElem_cons_zero, List.getElem_cons_succ, Act.put, List.setIfInBounds_toArray, List.set_cons_zero, List.set_cons_succ]
          refine wpAnyG_pure (i := 3) (v := .int .i64 (k : Int)) rfl rfl (by kernel_rfl) (by kernel_rfl) (by kernel_rfl) (fun _ _ _ h => h) (by decide) ⟨by rfl, fun w _ => (by go_simp; try (first | (simp only [IntKind.wrap_u32]; done) | rfl)), fun _ => rfl⟩ (.inr hS) ?_
          have hc1 := hcl.step (i := 3) (by kernel_rfl)
          clear hcl; have hcl := hc1; clear hc1; simp only [List.getElem_toArray, List.getElem_cons_zero, List.getElem_cons_succ, Act.put, List.setIfInBounds_toArray, List.set_cons_zero, List.set_cons_succ]
          refine wpAnyG_pure (i := 4) (v := .int .i64 (X : Int)) rfl rfl (by kernel_rfl) (by kernel_rfl) (by kernel_rfl) (fun _ _ _ h => h) (by decide) ⟨by rfl, fun w _ => (by go_simp; try (first | (simp only [IntKind.wrap_u32]; done) | rfl | omega)), fun _ => rfl⟩ (.inr hS) ?_
          have hc1 := hcl.step (i := 4) (by kernel_rfl)
          clear hcl; have hcl := hc1; clear hc1; simp only [List.getElem_toArray, List.getElem_cons_zero, List.getElem_cons_succ, Act.put, List.setIfInBounds_toArray, List.set_cons_zero, List.set_cons_succ]
          refine wpAnyG_one (i := 5) (by kernel_rfl) rfl (fun K hK => ?_)
          go_simp
          refine hK _ _ (.inr (hS.skip _)) ?_
          clear hK K
          have hc1 := hcl.step (i := 5) (by kernel_rfl)
          clear hcl
          have hcl := hc1
          clear hc1
          have hrow := (row_call R1 (below_drew1 wr)).alloc (.cells #[.int .i64 (X : Int)] 3)
          have hrl := row_lt hrow
          refine wpAnyG_one (i := 6) (by kernel_rfl) rfl (fun K hK => ?_)
          rw [if_pos (by exact rfl)]
          refine wpIn_append_own (.tmp 64) (.tmp 68) 22 rfl B2 3 i1 (.int .i64 0) 1 8 Try.underlying22 gi gz0 gz1 gz2 rfl (by decide) (.slice A1 j c1) j (ints (evenC k j)) (by exact rfl) hrow ⟨wr.drew.heap.size, 0, none⟩ 1 1 [.int .i64 (X : Int)] (by exact rfl) rfl (cell_one_new _ _ _) (by simp [Value.oneCell']) (by simp [maxLen]; omega) (by omega) (by simp; omega) ?_
          intro v' w1 hown' hgrow
          have H4 : Mem w w1 _ := (hS.skip _).grown hgrow (fun r hr => (hrl r hr).1) (fun p hp => Nat.lt_of_lt_of_le (HI.out _ _ #[] p hp) hb2) (by omega)
          have hB4 : B2 ≤ w1.heap.size := by have := hgrow.size; simp at this; omega
          obtain ⟨A', c', rfl⟩ := ownsRow_len hown'
          have R4 : w1.ownsRow B 36 2 (.slice A k c) k (spCs (evenS Q k k)) := ((row_call R (below_drew1 wr)).alloc _).kept hgrow (by
            rcases hv : (Value.slice A k c).ownBlock with _ | r
            · exact .inl rfl
            · exact .inr (fun e => by
                have h1 := HR.out r hv
                have h2 := (hrl r e.symm).1
                omega))
          refine hK _ _ (.inr H4) ?_
          clear hK K
          have hc1 := hcl.step (i := 6) (by kernel_rfl)
          clear hcl
          have hcl := hc1
          clear hc1
          simp only [List.getElem_toArray, List.getElem_cons_zero, List.getElem_cons_succ, Act.put, List.setIfInBounds_toArray, List.set_cons_zero, List.set_cons_succ]
          refine wpAnyG_one (i := 7) (by kernel_rfl) rfl (fun K hK => ?_)
          go_simp
          refine hK _ _ (.inr H4) ?_
          clear hK K
          have hc1 := hcl.step (i := 7) (by kernel_rfl)
          clear hcl
          have hcl := hc1
          clear hc1
          refine wpAnyG_one (i := 8) (by kernel_rfl) rfl (fun K hK => ?_)
          rw [if_pos (by exact rfl)]
          refine wpIn_storef_mem (i := 1) H4 (by exact rfl) (by exact rfl) (by exact rfl) (by exact rfl) clInfo (by exact rfl) (by exact rfl) ?_
          intro w7 H7 F7
          refine hK _ _ (.inl (by kernel_rfl)) ?_
          clear hK K
          refine wpAnyG_done (by kernel_rfl) ?_ _
          have R7 := ownsRow_foot hown' F7 (fun i hi e => by have := hbB.2.1; omega)
          have R8 := ownsRow_foot R4 F7 (fun i hi e => by have := hbB.2.1; omega)
          have hB7 : B2 ≤ w7.heap.size := by have := F7.size; omega
          clear hS H4 hcl hown' hgrow R R1 R4 hrow hrl
          have H := H7
          clear H7 F7
          simp only [List.cons_append, List.nil_append, List.set_cons_zero, List.set_cons_succ, List.setIfInBounds_toArray] at H
          go_wp2
          go_roundw
          case rel =>
            refine ⟨j + 1, by omega, by go_num, _, _, ?_, R8, hB7, H⟩
            rw [HE.out, HX.out]
            simpa [ints] using R7
          case measure => simp [intOf]; omega
        · obtain rfl : j = 16 := by omega
          go_wp2_with (first
            | ((with_reducible show wpList _ _ _ (⟨_, .load 25 _, _, _, _, _⟩ :: _) _ _); refine mem_load (i := 1) H (by first | exact wanted_none rfl | exact wanted_some rfl rfl rfl rfl) (by exact rfl) (by exact rfl) (by exact rfl) Try.underlying25 rfl (by exact tbInfo) ?_)
            | ((with_reducible show wpList _ _ _ (⟨_, .store 25 _ _, _, _, _, _⟩ :: _) _ _); refine mem_storeF (i := 0) H (by first | exact wanted_none rfl | exact wanted_some rfl rfl rfl rfl) (by exact rfl) (by exact rfl) (by exact rfl) (by exact rfl) (by exact tbInfo) (by exact rfl) (by exact rfl) ?_; intro w7 H7 F7; clear H; have H := H7; clear H7; simp only [List.cons_append, List.nil_append, List.set_cons_zero, List.set_cons_succ, List.setIfInBounds_toArray] at H))
          refine ret_held2 (H.at 0 rfl) rfl rfl Try.underlying25 rfl tbInfo ?_
          have S1 := ownsRow_foot R1 F7 (fun i hi e => by have := hbB.1; omega)
          have S2 := ownsRow_foot R F7 (fun i hi e => by have := hbB.1; omega)
          obtain ⟨r1, r2, r3⟩ := rowI_own S1
          obtain ⟨q1, q2, q3⟩ := rowS_own S2
          refine ⟨A1, A, c1, c, by simp [tbC, evenT, evenC_len, evenS_len], ⟨r1, q1, by simpa [evenT, evenC_len] using r2, by simpa [evenT, evenS_len] using q2, r3, q3, ⟨by simp only [evenT]; omega, by simp only [evenT]; omega⟩, fun x hx => ?_, fun s hs => ?_⟩, H.below⟩
          · simp only [evenT, evenC, List.mem_map, List.mem_range] at hx
            obtain ⟨i, hi', rfl⟩ := hx
            have := Nat.mod_lt i (show 0 < k by omega)
            constructor <;> omega
          · simp only [evenT, evenS, List.mem_map, List.mem_range] at hs
            obtain ⟨i, hi', rfl⟩ := hs
            have := offN_le (Q := Q) (C := k) hC.1 hi'
            refine ⟨⟨?_, ?_⟩, ?_, ?_⟩ <;> simp only <;> omega
end Go.Proofs.Ytoofmklknffhpaa
