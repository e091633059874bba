/-
  Plain mathematics of layer 6: timers in their order, what setting, cancelling and turning make of them. Conditions: those that each theorem names.
-/
namespace Go.Proofs.Ytbnfjppidmiheaa
set_option linter.unusedSimpArgs false
set_option linter.unusedVariables false

/-- a timer: its time, its key -/
abbrev Tm := Int × Int
namespace Tm
/-- is a timer ahead of another one? -/
def bef (a b : Tm) : Bool := decide (a.1 < b.1) || (decide (a.1 = b.1) && decide (a.2 < b.2))
theorem bef_iff (a b : Tm) : bef a b = true ↔ a.1 < b.1 ∨ (a.1 = b.1 ∧ a.2 < b.2) := by simp [bef]
theorem bef_irrefl (a : Tm) : bef a a = false := by simp [bef]
theorem bef_trans {a b c : Tm} (h : bef a b = true) (k : bef b c = true) : bef a c = true := by
  rw [bef_iff] at *
  omega
theorem bef_asymm {a b : Tm} (h : bef a b = true) : bef b a = false := by
  rw [Bool.eq_false_iff, Ne, bef_iff]
  rw [bef_iff] at h
  omega
theorem bef_total {a b : Tm} (hne : a ≠ b) (h : bef a b = false) : bef b a = true := by
  rw [Bool.eq_false_iff, Ne, bef_iff] at h
  rw [bef_iff]
  rcases Int.lt_trichotomy a.1 b.1 with h1 | h1 | h1
  · exact absurd (Or.inl h1) h
  · rcases Int.lt_trichotomy a.2 b.2 with h2 | h2 | h2
    · exact absurd (Or.inr ⟨h1, h2⟩) h
    · exact absurd (Prod.ext h1 h2) hne
    · exact .inr ⟨h1.symm, h2⟩
  · exact .inl h1
/-- in their order -/
def Srt (l : List Tm) : Prop := l.Pairwise (fun a b => bef a b = true)
/-- timers in their order are told by which ones there are -/
theorem srt_ext : ∀ {l m : List Tm}, Srt l → Srt m → (∀ t, t ∈ l ↔ t ∈ m) → l = m
  | [], [], _, _, _ => rfl
  | [], b :: m, _, _, h => absurd ((h b).2 (List.mem_cons_self ..)) (by simp)
  | a :: l, [], _, _, h => absurd ((h a).1 (List.mem_cons_self ..)) (by simp)
  | a :: l, b :: m, hl, hm, h => by
    obtain ⟨hl1, hl2⟩ := List.pairwise_cons.1 hl
    obtain ⟨hm1, hm2⟩ := List.pairwise_cons.1 hm
    have hab : a = b := by
      rcases List.mem_cons.1 ((h a).1 (List.mem_cons_self ..)) with h1 | h1
      · exact h1
      · rcases List.mem_cons.1 ((h b).2 (List.mem_cons_self ..)) with h2 | h2
        · exact h2.symm
        · have := bef_asymm (hm1 a h1)
          rw [hl1 b h2] at this
          cases this
    subst hab
    have hrest : ∀ t, t ∈ l ↔ t ∈ m := fun t => by
      constructor
      · intro ht
        rcases List.mem_cons.1 ((h t).1 (List.mem_cons_of_mem _ ht)) with h1 | h1
        · subst h1
          have := hl1 t ht
          rw [bef_irrefl] at this
          cases this
        · exact h1
      · intro ht
        rcases List.mem_cons.1 ((h t).2 (List.mem_cons_of_mem _ ht)) with h1 | h1
        · subst h1
          have := hm1 t ht
          rw [bef_irrefl] at this
          cases this
        · exact h1
    rw [srt_ext hl2 hm2 hrest]
/-- timers, but a key's -/
def wo (l : List Tm) (key : Int) : List Tm := l.filter (fun t => decide (t.2 ≠ key))
theorem mem_wo {l : List Tm} {key : Int} {t : Tm} : t ∈ wo l key ↔ t ∈ l ∧ t.2 ≠ key := by simp [wo]
theorem wo_srt {l : List Tm} (h : Srt l) (key : Int) : Srt (wo l key) := List.Pairwise.sublist List.filter_sublist h
/-- a timer laid among others -/
def ins (t : Tm) (l : List Tm) : List Tm := l.takeWhile (fun x => bef x t) ++ t :: l.dropWhile (fun x => bef x t)
theorem mem_ins {t x : Tm} {l : List Tm} : x ∈ ins t l ↔ x = t ∨ x ∈ l := by
  unfold ins
  have e : x ∈ l ↔ x ∈ l.takeWhile (fun x => bef x t) ∨ x ∈ l.dropWhile (fun x => bef x t) := by
    rw [← List.mem_append, List.takeWhile_append_dropWhile]
  rw [List.mem_append, List.mem_cons, e]
  constructor
  · rintro (h | h | h)
    · exact .inr (.inl h)
    · exact .inl h
    · exact .inr (.inr h)
  · rintro (h | h | h)
    · exact .inr (.inl h)
    · exact .inl h
    · exact .inr (.inr h)
theorem ins_length (t : Tm) (l : List Tm) : (ins t l).length = l.length + 1 := by
  unfold ins
  have e := congrArg List.length (List.takeWhile_append_dropWhile (p := fun x => bef x t) (l := l))
  rw [List.length_append] at e
  rw [List.length_append, List.length_cons]
  omega
/-- what comes behind the first that is not ahead of t is not ahead of t -/
theorem drop_after {t : Tm} : ∀ {l : List Tm}, Srt l → ∀ x, x ∈ l.dropWhile (fun x => bef x t) → bef x t = false
  | [], _, x, h => by cases h
  | a :: l, hl, x, h => by
    obtain ⟨h1, h2⟩ := List.pairwise_cons.1 hl
    rw [List.dropWhile_cons] at h
    split at h
    · exact drop_after h2 x h
    · rename_i hn
      rcases List.mem_cons.1 h with rfl | hx
      · simpa using hn
      · rcases hb : bef x t
        · rfl
        · exact absurd (bef_trans (h1 x hx) hb) hn
theorem ins_srt {t : Tm} {l : List Tm} (h : Srt l) (ht : t ∉ l) : Srt (ins t l) := by
  unfold ins
  have hs : Srt (l.takeWhile (fun x => bef x t) ++ l.dropWhile (fun x => bef x t)) := by rw [List.takeWhile_append_dropWhile]; exact h
  obtain ⟨s1, s2, s3⟩ := List.pairwise_append.1 hs
  have hlt : ∀ x, x ∈ l.takeWhile (fun x => bef x t) → bef x t = true := fun x hx => by
    have := List.all_takeWhile (p := fun x => bef x t) (l := l)
    rw [List.all_eq_true] at this
    exact this x hx
  have hgt : ∀ x, x ∈ l.dropWhile (fun x => bef x t) → bef t x = true := fun x hx => by
    refine bef_total (fun e => ht ?_) (drop_after h x hx)
    rw [← e]
    exact (List.dropWhile_sublist _).subset hx
  refine List.pairwise_append.2 ⟨s1, List.pairwise_cons.2 ⟨hgt, s2⟩, fun a ha b hb => ?_⟩
  rcases List.mem_cons.1 hb with rfl | hb
  · exact hlt a ha
  · exact s3 a ha b hb
/-- those that are due, and the others -/
def due (l : List Tm) (now : Int) : List Tm := l.takeWhile (fun t => decide (t.1 ≤ now))
def later (l : List Tm) (now : Int) : List Tm := l.dropWhile (fun t => decide (t.1 ≤ now))
theorem due_later (l : List Tm) (now : Int) : due l now ++ later l now = l := List.takeWhile_append_dropWhile
theorem due_length (l : List Tm) (now : Int) : (due l now).length + (later l now).length = l.length := by
  rw [← List.length_append, due_later]
theorem mem_due {l : List Tm} {now : Int} {t : Tm} (h : t ∈ due l now) : t ∈ l ∧ t.1 ≤ now := by
  refine ⟨(List.takeWhile_sublist _).subset h, ?_⟩
  have := List.all_takeWhile (p := fun t : Tm => decide (t.1 ≤ now)) (l := l)
  rw [List.all_eq_true] at this
  exact of_decide_eq_true (this t h)
theorem mem_later : ∀ {l : List Tm} {now : Int}, Srt l → ∀ t, t ∈ later l now → t ∈ l ∧ now < t.1
  | [], _, _, t, h => by cases h
  | a :: l, now, hl, t, h => by
    obtain ⟨h1, h2⟩ := List.pairwise_cons.1 hl
    unfold later at h
    rw [List.dropWhile_cons] at h
    split at h
    · obtain ⟨k1, k2⟩ := mem_later (now := now) h2 t h
      exact ⟨List.mem_cons_of_mem _ k1, k2⟩
    · rename_i hn
      have hn' : now < a.1 := by simpa using hn
      rcases List.mem_cons.1 h with rfl | hx
      · exact ⟨List.mem_cons_self .., hn'⟩
      · have := (bef_iff _ _).1 (h1 t hx)
        exact ⟨List.mem_cons_of_mem _ hx, by omega⟩
theorem due_srt {l : List Tm} (h : Srt l) (now : Int) : Srt (due l now) := List.Pairwise.sublist (List.takeWhile_sublist _) h
theorem later_srt {l : List Tm} (h : Srt l) (now : Int) : Srt (later l now) := List.Pairwise.sublist (List.dropWhile_sublist _) h
theorem due_none {l : List Tm} {now : Int} (h : ∀ t, t ∈ l → now < t.1) : due l now = [] ∧ later l now = l := by
  cases l with
  | nil => exact ⟨rfl, rfl⟩
  | cons a l =>
    have := h a (List.mem_cons_self ..)
    have hn : decide (a.1 ≤ now) = false := decide_eq_false (by omega)
    constructor
    · unfold due
      rw [List.takeWhile_cons, hn]
      rfl
    · unfold later
      rw [List.dropWhile_cons, hn]
      rfl
/-- turned in parts -/
theorem due_parts {now then_ : Int} (hle : now ≤ then_) : ∀ l : List Tm, due l now ++ due (later l now) then_ = due l then_ ∧ later (later l now) then_ = later l then_
  | [] => ⟨rfl, rfl⟩
  | a :: l => by
    obtain ⟨i1, i2⟩ := due_parts hle l
    by_cases h : a.1 ≤ now
    · have e1 : decide (a.1 ≤ now) = true := decide_eq_true h
      have e2 : decide (a.1 ≤ then_) = true := decide_eq_true (by omega)
      have u1 : due (a :: l) now = a :: due l now := by unfold due; rw [List.takeWhile_cons, e1]; rfl
      have u2 : later (a :: l) now = later l now := by unfold later; rw [List.dropWhile_cons, e1]; rfl
      have u3 : due (a :: l) then_ = a :: due l then_ := by unfold due; rw [List.takeWhile_cons, e2]; rfl
      have u4 : later (a :: l) then_ = later l then_ := by unfold later; rw [List.dropWhile_cons, e2]; rfl
      rw [u1, u2, u3, u4, List.cons_append, i1]
      exact ⟨rfl, i2⟩
    · have e1 : decide (a.1 ≤ now) = false := decide_eq_false h
      have u1 : due (a :: l) now = [] := by unfold due; rw [List.takeWhile_cons, e1]; rfl
      have u2 : later (a :: l) now = a :: l := by unfold later; rw [List.dropWhile_cons, e1]; rfl
      rw [u1, u2]
      exact ⟨rfl, rfl⟩
end Tm

/-- a wheel -/
structure WS where
  l : List Tm
  clk : Int
namespace WS
open Tm
/-- its timers are in their order, each key has one, there are at most a thousand -/
structure Ok (s : WS) : Prop where
  srt : Srt s.l
  keys : ∀ a, a ∈ s.l → ∀ b, b ∈ s.l → a.2 = b.2 → a = b
  len : s.l.length ≤ 1000
  ats : ∀ t, t ∈ s.l → 0 ≤ t.1 ∧ t.1 ≤ 9223372036854775807
  clk : 0 ≤ s.clk ∧ s.clk ≤ 18446744073709551615
theorem ok_new {now : Int} (h : 0 ≤ now ∧ now ≤ 18446744073709551615) : Ok ⟨[], now⟩ :=
  ⟨List.Pairwise.nil, (fun _ h => by cases h), by simp, (fun _ h => by cases h), h⟩
def setE (s : WS) (at_ key : Int) : Int := if 9223372036854775807 < at_ then 50 else if 1000 ≤ (wo s.l key).length then 100 else 0
def set (s : WS) (at_ key : Int) : WS := if setE s at_ key = 0 then { s with l := ins (at_, key) (wo s.l key) } else s
theorem setE_0 {s : WS} {at_ key : Int} (h : setE s at_ key = 0) : at_ ≤ 9223372036854775807 ∧ (wo s.l key).length < 1000 := by
  unfold setE at h
  split at h
  · cases h
  · split at h
    · cases h
    · omega
theorem set_yes {s : WS} {at_ key : Int} (h : setE s at_ key = 0) : set s at_ key = { s with l := ins (at_, key) (wo s.l key) } := if_pos h
theorem set_no {s : WS} {at_ key : Int} (h : setE s at_ key ≠ 0) : set s at_ key = s := if_neg h
theorem not_mem_wo (l : List Tm) (at_ key : Int) : (at_, key) ∉ wo l key := fun h => (mem_wo.1 h).2 rfl
theorem set_ok {s : WS} (h : Ok s) {at_ key : Int} (ha : 0 ≤ at_) : Ok (set s at_ key) := by
  by_cases he : setE s at_ key = 0
  · obtain ⟨h1, h2⟩ := setE_0 he
    rw [set_yes he]
    refine ⟨ins_srt (wo_srt h.srt key) (not_mem_wo _ _ _), fun a ha b hb hk => ?_, ?_, fun t ht => ?_, h.clk⟩
    · rcases mem_ins.1 ha with rfl | ha
      · rcases mem_ins.1 hb with rfl | hb
        · rfl
        · exact absurd hk.symm (mem_wo.1 hb).2
      · rcases mem_ins.1 hb with rfl | hb
        · exact absurd hk (mem_wo.1 ha).2
        · exact h.keys a (mem_wo.1 ha).1 b (mem_wo.1 hb).1 hk
    · show (ins (at_, key) (wo s.l key)).length ≤ 1000
      rw [ins_length]
      omega
    · rcases mem_ins.1 ht with rfl | ht
      · exact ⟨ha, h1⟩
      · exact h.ats t (mem_wo.1 ht).1
  · rw [set_no he]
    exact h
/-- cancelled -/
def cancelB (s : WS) (key : Int) : Bool := decide ((wo s.l key).length < s.l.length)
def cancel (s : WS) (key : Int) : WS := { s with l := wo s.l key }
theorem cancel_ok {s : WS} (h : Ok s) (key : Int) : Ok (cancel s key) :=
  ⟨wo_srt h.srt key, fun a ha b hb hk => h.keys a (mem_wo.1 ha).1 b (mem_wo.1 hb).1 hk, Nat.le_trans (List.length_filter_le _ _) h.len, fun t ht => h.ats t (mem_wo.1 ht).1, h.clk⟩
/-- turned -/
def turnE (s : WS) (now : Int) : Int := if now < s.clk ∨ 9223372036854775807 < now then 50 else 0
def turn (s : WS) (now : Int) : WS := if turnE s now = 0 then ⟨later s.l now, now⟩ else s
def turned (s : WS) (now : Int) : List Tm := if turnE s now = 0 then due s.l now else []
theorem turnE_0 {s : WS} {now : Int} (h : turnE s now = 0) : s.clk ≤ now ∧ now ≤ 9223372036854775807 := by
  unfold turnE at h
  split at h
  · cases h
  · omega
theorem turn_ok {s : WS} (h : Ok s) {now : Int} (hn : 0 ≤ now) : Ok (turn s now) := by
  unfold turn
  split
  · rename_i he
    have h1 := turnE_0 he
    have hl := due_length s.l now
    have hlen := h.len
    refine ⟨later_srt h.srt now, fun a ha b hb hk => h.keys a (mem_later h.srt a ha).1 b (mem_later h.srt b hb).1 hk, ?_, fun t ht => h.ats t (mem_later h.srt t ht).1, ?_⟩
    · show (later s.l now).length ≤ 1000
      omega
    · show 0 ≤ now ∧ now ≤ 18446744073709551615
      omega
  · exact h
theorem filter_split (p : Tm → Bool) : ∀ l : List Tm, l.length = (l.filter p).length + (l.filter (fun x => !p x)).length
  | [] => rfl
  | a :: l => by
    have ih := filter_split p l
    rcases h : p a
    · rw [List.filter_cons_of_neg (by simp [h]), List.filter_cons_of_pos (by simp [h]), List.length_cons, List.length_cons]
      omega
    · rw [List.filter_cons_of_pos (by simp [h]), List.filter_cons_of_neg (by simp [h]), List.length_cons, List.length_cons]
      omega
/-- one timer of a key goes: as many less -/
theorem wo_length {s : WS} (h : Ok s) {t : Tm} (ht : t ∈ s.l) : (wo s.l t.2).length + 1 = s.l.length := by
  have hp : s.l.length = (wo s.l t.2).length + (s.l.filter (fun x => !decide (x.2 ≠ t.2))).length := by
    exact filter_split (fun x : Tm => decide (x.2 ≠ t.2)) s.l
  have hone : s.l.filter (fun x => !decide (x.2 ≠ t.2)) = [t] := by
    have hsr : Srt (s.l.filter (fun x => !decide (x.2 ≠ t.2))) := List.Pairwise.sublist List.filter_sublist h.srt
    refine srt_ext hsr (List.pairwise_singleton ..) fun x => ?_
    rw [List.mem_filter, List.mem_singleton]
    constructor
    · rintro ⟨h1, h2⟩
      exact h.keys x h1 t ht (by simpa using h2)
    · rintro rfl
      exact ⟨ht, by simp⟩
  rw [hone] at hp
  simp at hp
  omega
end WS
end Go.Proofs.Ytbnfjppidmiheaa
