/-
  The contract of the iterator of a span's middles. Conditions: those that each theorem names.
-/
import Derived.Test.YtmincladghbklaaBucketPC
import Derived.Test.YtmincladghbklaaDown
import Derived.Test.YtmincladghbklaaOrdT
import Derived.Test.YtmincladghbklaaOrdH
namespace Go.Proofs.Ytmincladghbklaa
set_option linter.unusedSimpArgs false
set_option linter.unusedVariables false
open Go.ChangeShapes Go.WideShapes Go.ChangeAt Go.RowKit Go.Shelf
attribute [local go_sem] Oper.semAt_some

/-- the middle of a span -/
abbrev midE (x : Int × Int) : Array Value := #[.int .u64 (x.1 + (x.2 - x.1) / 2)]
/-- a span's cells -/
abbrev spc (x : Int × Int) : Array Value := #[.int .u64 x.1, .int .u64 x.2]
def downM (x : Int × Int) : Nat := (x.2 - x.1).toNat
/-- the span's width, out of the cells -/
def wide (bs : Nat) (W : World) : Nat := match W.cell? ⟨bs, 0, none⟩, W.cell? ⟨bs, 1, none⟩ with
  | some (.int _ s), some (.int _ o) => (o - s).toNat
  | _, _ => 0
theorem wide_eq {bs : Nat} {W : World} {t : TypeId} {x : Int × Int} (h : Held W bs t (spc x)) : wide bs W = downM x := by
  have h0 := h.cell 0
  have h1 := h.cell 1
  simp at h0 h1
  unfold wide downM
  rw [h0, h1]
def AnsweredD (J : Int × Int → World → Prop) (Jx : World → Prop) (x : Int × Int) (y : Bool) (W' : World) : Prop := (y = true → ∃ z, downM z < downM x ∧ J z W') ∧ (y = false → Jx W')
theorem answeredD (J : Int × Int → World → Prop) (Jx : World → Prop) (x : Int × Int) : ∀ (e : Ending) (W' : World), ((e = .returned (.bool true) ∧ ∃ z, downM z < downM x ∧ J z W') ∨ (e = .returned (.bool false) ∧ Jx W')) → ∃ y, e = .returned (.bool y) ∧ AnsweredD J Jx x y W' := by
  rintro e W' (⟨rfl, h1⟩ | ⟨rfl, h1⟩)
  · exact ⟨true, rfl, fun _ => h1, (fun h => by cases h)⟩
  · exact ⟨false, rfl, (fun h => by cases h), fun _ => h1⟩
set_option maxRecDepth 100000 in
set_option maxHeartbeats 2000000 in
theorem middles_down (n : Nat) (hn : 2 ≤ n) (bs : Nat) (w : World) (I : Int × Int → World → Prop) (hI : ∀ x V, I x V → Held V bs 59 (spc x) ∧ 0 ≤ x.1 ∧ x.1 ≤ x.2 ∧ x.2 ≤ 9223372036854775807) :
    SeqDown Fence.wide n Try.prog 36 #[(.pointer (some ⟨bs, 0, none⟩))] midE I downM w := by
  intro l J Jx W hbW hJ hJI hY x h0
  refine callsIn_of_wp Try.func36 rfl trivial ?_ rfl
  simp only [Try.ntmps36, List.size_toArray, List.length_cons, List.length_nil, Nat.reduceAdd, Nat.reduceSub, Array.replicate_succ, Array.replicate_zero, List.push_toArray, List.append_toArray, List.nil_append, List.cons_append]
  gi_wp2
  gi_loopw [20] (fun _ wr => ∃ x, J x wr) (fun _ wr => wide bs wr)
  case atStart => exact ⟨x, h0⟩
  case round =>
    obtain ⟨⟨s, o⟩, hJ'⟩ := hrel
    obtain ⟨g, b1, b2, b3⟩ := hI _ _ (hJI _ _ hJ')
    have hm := wide_eq g
    simp only at b1 b2 b3
    have q1 : IntKind.u64.wrap (o - s) = o - s := by rw [IntKind.wrap_u64]; omega
    have q2 : IntKind.u64.wrap ((o - s).tdiv 2) = (o - s) / 2 := by rw [Int.tdiv_eq_ediv_of_nonneg (by omega), IntKind.wrap_u64]; omega
    have q3 : IntKind.u64.wrap (s + (o - s) / 2) = s + (o - s) / 2 := by rw [IntKind.wrap_u64]; omega
    have hcd : Held wr.drew bs 59 #[.int .u64 s, .int .u64 o] := g
    gi_wp2_with fail
    refine wpIn_region_G (fun w => Held w bs 59 #[.int .u64 s, .int .u64 o]) 16 17 rfl (by kernel_rfl) (fun hcl => ?_)
    refine wpAnyG_pure (i := 0) (v := (.func (.yield l) #[] #[])) rfl rfl (by kernel_rfl) (by kernel_rfl) (by kernel_rfl) (fun _ _ _ h => h) (by decide) ⟨by rfl, fun w _ => (by go_simp; try (first | rfl | (simp only [q1]; done) | (simp only [q2]; done) | (simp only [q3]; done))), fun _ => rfl⟩ (.inr hcd) ?_
    have hc1 := hcl.step (i := 0) (by kernel_rfl)
    clear hcl; have hcl := hc1; clear hc1; simp only [List.getElem_toArray, List.getElem_cons_zero, List.getElem_cons_succ, Act.put, List.setIfInBounds_toArray, List.set_cons_zero, List.set_cons_succ]
    refine wpAnyG_pure (i := 1) (v := (.pointer (some ⟨bs, 0, none⟩))) rfl rfl (by kernel_rfl) (by kernel_rfl) (by kernel_rfl) (fun _ _ _ h => h) (by decide) ⟨by rfl, fun w _ => (by go_simp; try (first | rfl | (simp only [q1]; done) | (simp only [q2]; done) | (simp only [q3]; done))), fun _ => rfl⟩ (.inr hcd) ?_
    have hc1 := hcl.step (i := 1) (by kernel_rfl)
    clear hcl; have hcl := hc1; clear hc1; simp only [List.getElem_toArray, List.getElem_cons_zero, List.getElem_cons_succ, Act.put, List.setIfInBounds_toArray, List.set_cons_zero, List.set_cons_succ]
    refine wpAnyG_pure (i := 2) (v := (.pointer (some ⟨bs, 0, none⟩))) rfl rfl (by kernel_rfl) (by kernel_rfl) (by kernel_rfl) (fun _ _ _ h => h) (by decide) ⟨by rfl, fun w _ => (by go_simp; try (first | rfl | (simp only [q1]; done) | (simp only [q2]; done) | (simp only [q3]; done))), fun _ => rfl⟩ (.inr hcd) ?_
    have hc1 := hcl.step (i := 2) (by kernel_rfl)
    clear hcl; have hcl := hc1; clear hc1; simp only [List.getElem_toArray, List.getElem_cons_zero, List.getElem_cons_succ, Act.put, List.setIfInBounds_toArray, List.set_cons_zero, List.set_cons_succ]
    refine wpAnyG_pure (i := 3) (v := (.pointer (some ⟨bs, 0, none⟩))) rfl rfl (by kernel_rfl) (by kernel_rfl) (by kernel_rfl) (fun _ _ _ h => h) (by decide) ⟨by rfl, fun w _ => (by go_simp; try (first | rfl | (simp only [q1]; done) | (simp only [q2]; done) | (simp only [q3]; done))), fun _ => rfl⟩ (.inr hcd) ?_
    have hc1 := hcl.step (i := 3) (by kernel_rfl)
    clear hcl; have hcl := hc1; clear hc1; simp only [List.getElem_toArray, List.getElem_cons_zero, List.getElem_cons_succ, Act.put, List.setIfInBounds_toArray, List.set_cons_zero, List.set_cons_succ]
    refine wpAnyG_take (i := 4) 12 (v := (.int .u64 s)) rfl rfl (by kernel_rfl) (by kernel_rfl) (by kernel_rfl) (fun _ _ _ h => h) (by kernel_rfl) (by decide) hcl (yields_fld (fun w h => h) (by exact rfl) (by exact rfl) (by exact rfl) Try.underlying22 rfl (by exact rfl)) hcd (fun hc1 => ?_)
    clear hcl; have hcl := hc1; clear hc1; simp only [List.getElem_toArray, List.getElem_cons_zero, List.getElem_cons_succ, Act.put, List.setIfInBounds_toArray, List.set_cons_zero, List.set_cons_succ]
    refine wpAnyG_pure (i := 5) (v := (.pointer (some ⟨bs, 0, none⟩))) rfl rfl (by kernel_rfl) (by kernel_rfl) (by kernel_rfl) (fun _ _ _ h => h) (by decide) ⟨by rfl, fun w _ => (by go_simp; try (first | rfl | (simp only [q1]; done) | (simp only [q2]; done) | (simp only [q3]; done))), fun _ => rfl⟩ (.inr hcd) ?_
    have hc1 := hcl.step (i := 5) (by kernel_rfl)
    clear hcl; have hcl := hc1; clear hc1; simp only [List.getElem_toArray, List.getElem_cons_zero, List.getElem_cons_succ, Act.put, List.setIfInBounds_toArray, List.set_cons_zero, List.set_cons_succ]
    refine wpAnyG_pure (i := 6) (v := (.pointer (some ⟨bs, 0, none⟩))) rfl rfl (by kernel_rfl) (by kernel_rfl) (by kernel_rfl) (fun _ _ _ h => h) (by decide) ⟨by rfl, fun w _ => (by go_simp; try (first | rfl | (simp only [q1]; done) | (simp only [q2]; done) | (simp only [q3]; done))), fun _ => rfl⟩ (.inr hcd) ?_
    have hc1 := hcl.step (i := 6) (by kernel_rfl)
    clear hcl; have hcl := hc1; clear hc1; simp only [List.getElem_toArray, List.getElem_cons_zero, List.getElem_cons_succ, Act.put, List.setIfInBounds_toArray, List.set_cons_zero, List.set_cons_succ]
    refine wpAnyG_pure (i := 7) (v := (.pointer (some ⟨bs, 1, none⟩))) rfl rfl (by kernel_rfl) (by kernel_rfl) (by kernel_rfl) (fun _ _ _ h => h) (by decide) ⟨by rfl, fun w _ => (by go_simp; try (first | rfl | (simp only [q1]; done) | (simp only [q2]; done) | (simp only [q3]; done))), fun _ => rfl⟩ (.inr hcd) ?_
    have hc1 := hcl.step (i := 7) (by kernel_rfl)
    clear hcl; have hcl := hc1; clear hc1; simp only [List.getElem_toArray, List.getElem_cons_zero, List.getElem_cons_succ, Act.put, List.setIfInBounds_toArray, List.set_cons_zero, List.set_cons_succ]
    refine wpAnyG_take (i := 8) 12 (v := (.int .u64 o)) rfl rfl (by kernel_rfl) (by kernel_rfl) (by kernel_rfl) (fun _ _ _ h => h) (by kernel_rfl) (by decide) hcl (yields_fld (fun w h => h) (by exact rfl) (by exact rfl) (by exact rfl) Try.underlying22 rfl (by exact rfl)) hcd (fun hc1 => ?_)
    clear hcl; have hcl := hc1; clear hc1; simp only [List.getElem_toArray, List.getElem_cons_zero, List.getElem_cons_succ, Act.put, List.setIfInBounds_toArray, List.set_cons_zero, List.set_cons_succ]
    refine wpAnyG_pure (i := 9) (v := (.pointer (some ⟨bs, 0, none⟩))) rfl rfl (by kernel_rfl) (by kernel_rfl) (by kernel_rfl) (fun _ _ _ h => h) (by decide) ⟨by rfl, fun w _ => (by go_simp; try (first | rfl | (simp only [q1]; done) | (simp only [q2]; done) | (simp only [q3]; done))), fun _ => rfl⟩ (.inr hcd) ?_
    have hc1 := hcl.step (i := 9) (by kernel_rfl)
    clear hcl; have hcl := hc1; clear hc1; simp only [List.getElem_toArray, List.getElem_cons_zero, List.getElem_cons_succ, Act.put, List.setIfInBounds_toArray, List.set_cons_zero, List.set_cons_succ]
    refine wpAnyG_pure (i := 10) (v := (.pointer (some ⟨bs, 0, none⟩))) rfl rfl (by kernel_rfl) (by kernel_rfl) (by kernel_rfl) (fun _ _ _ h => h) (by decide) ⟨by rfl, fun w _ => (by go_simp; try (first | rfl | (simp only [q1]; done) | (simp only [q2]; done) | (simp only [q3]; done))), fun _ => rfl⟩ (.inr hcd) ?_
    have hc1 := hcl.step (i := 10) (by kernel_rfl)
    clear hcl; have hcl := hc1; clear hc1; simp only [List.getElem_toArray, List.getElem_cons_zero, List.getElem_cons_succ, Act.put, List.setIfInBounds_toArray, List.set_cons_zero, List.set_cons_succ]
    refine wpAnyG_pure (i := 11) (v := (.pointer (some ⟨bs, 0, none⟩))) rfl rfl (by kernel_rfl) (by kernel_rfl) (by kernel_rfl) (fun _ _ _ h => h) (by decide) ⟨by rfl, fun w _ => (by go_simp; try (first | rfl | (simp only [q1]; done) | (simp only [q2]; done) | (simp only [q3]; done))), fun _ => rfl⟩ (.inr hcd) ?_
    have hc1 := hcl.step (i := 11) (by kernel_rfl)
    clear hcl; have hcl := hc1; clear hc1; simp only [List.getElem_toArray, List.getElem_cons_zero, List.getElem_cons_succ, Act.put, List.setIfInBounds_toArray, List.set_cons_zero, List.set_cons_succ]
    refine wpAnyG_take (i := 12) 12 (v := (.int .u64 s)) rfl rfl (by kernel_rfl) (by kernel_rfl) (by kernel_rfl) (fun _ _ _ h => h) (by kernel_rfl) (by decide) hcl (yields_fld (fun w h => h) (by exact rfl) (by exact rfl) (by exact rfl) Try.underlying22 rfl (by exact rfl)) hcd (fun hc1 => ?_)
    clear hcl; have hcl := hc1; clear hc1; simp only [List.getElem_toArray, List.getElem_cons_zero, List.getElem_cons_succ, Act.put, List.setIfInBounds_toArray, List.set_cons_zero, List.set_cons_succ]
    refine wpAnyG_pure (i := 13) (v := (.int .u64 (o - s))) rfl rfl (by kernel_rfl) (by kernel_rfl) (by kernel_rfl) (fun _ _ _ h => h) (by decide) ⟨by rfl, fun w _ => (by go_simp; try (first | rfl | (simp only [q1]; done) | (simp only [q2]; done) | (simp only [q3]; done))), fun _ => rfl⟩ (.inr hcd) ?_
    have hc1 := hcl.step (i := 13) (by kernel_rfl)
    clear hcl; have hcl := hc1; clear hc1; simp only [List.getElem_toArray, List.getElem_cons_zero, List.getElem_cons_succ, Act.put, List.setIfInBounds_toArray, List.set_cons_zero, List.set_cons_succ]
    refine wpAnyG_pure (i := 14) (v := (.int .u64 ((o - s) / 2))) rfl rfl (by kernel_rfl) (by kernel_rfl) (by kernel_rfl) (fun _ _ _ h => h) (by decide) ⟨by rfl, fun w _ => (by go_simp; try (first | rfl | (simp only [q1]; done) | (simp only [q2]; done) | (simp only [q3]; done))), fun _ => rfl⟩ (.inr hcd) ?_
    have hc1 := hcl.step (i := 14) (by kernel_rfl)
    clear hcl; have hcl := hc1; clear hc1; simp only [List.getElem_toArray, List.getElem_cons_zero, List.getElem_cons_succ, Act.put, List.setIfInBounds_toArray, List.set_cons_zero, List.set_cons_succ]
    refine wpAnyG_pure (i := 15) (v := (.int .u64 (s + (o - s) / 2))) rfl rfl (by kernel_rfl) (by kernel_rfl) (by kernel_rfl) (fun _ _ _ h => h) (by decide) ⟨by rfl, fun w _ => (by go_simp; try (first | rfl | (simp only [q1]; done) | (simp only [q2]; done) | (simp only [q3]; done))), fun _ => rfl⟩ (.inr hcd) ?_
    have hc1 := hcl.step (i := 15) (by kernel_rfl)
    clear hcl; have hcl := hc1; clear hc1; simp only [List.getElem_toArray, List.getElem_cons_zero, List.getElem_cons_succ, Act.put, List.setIfInBounds_toArray, List.set_cons_zero, List.set_cons_succ]
    have hJd : J (s, o) wr.drew := hJ _ _ _ hJ' ((Below.refl _ _).drew)
    obtain ⟨fn, tmps, assign, body, hy0, hR0⟩ := hY (s, o) wr.drew hJd
    have hy : (Instr.yield l #[.int .u64 (s + (o - s) / 2)]).run Try.prog wr.drew = _ := hy0
    have hR := hR0.mono (answeredD J Jx (s, o))
    clear hy0 hR0
    refine wpAnyG_one (i := 16) (by kernel_rfl) rfl (fun K hK => ?_)
    go_simp
    refine ⟨fun _ => by omega, hR.mono ?_⟩
    rintro e W3 ⟨y, rfl, hA⟩
    refine hK _ _ (.inl (by kernel_rfl)) ?_
    clear hK K
    refine wpAnyG_done (by kernel_rfl) ?_ _
    clear hcd hcl hy hR
    cases y
    · have hx := hA.2 rfl
      gi_wp2
      go_end0
      exact ⟨⟨_, rfl⟩, hx⟩
    · obtain ⟨z, hlt, hJ3⟩ := hA.1 rfl
      have hm3 := wide_eq (hI _ _ (hJI _ _ hJ3)).1
      gi_wp2
      exact ⟨⟨z, hJ3⟩, by rw [hm, hm3]; exact hlt⟩
end Go.Proofs.Ytmincladghbklaa
