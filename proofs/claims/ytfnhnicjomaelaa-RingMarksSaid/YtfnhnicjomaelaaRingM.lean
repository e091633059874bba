/-
  Plain mathematics of layer 3: a ring as a list of posted descriptors and four counts; its indexes and its slots. Conditions: those that each theorem names.
-/
import Derived.Test.YtfnhnicjomaelaaDescM
namespace Go.Proofs.Ytfnhnicjomaelaa

/-- a posted descriptor: number, length, flow -/
abbrev PD := Int × Int × Int
/-- a ring: its size, first index, all that was posted, and how many were cleaned, finished, fetched, rung -/
structure RS where
  n : Nat
  f : Int
  ds : List PD
  c : Nat
  i : Nat
  t : Nat
  b : Nat

namespace RS
/-- an index: the first one, so many on -/
def mark (r : RS) (k : Nat) : Int := (r.f + k) % 4294967296
/-- the slot of an index -/
def slot (r : RS) (k : Nat) : Nat := (r.mark k % r.n).toNat
/-- the bytes of the j-th posted one -/
def byt (r : RS) (j : Nat) : ByteArray := encS (r.ds.getD j (0, 0, 0)).1 (r.ds.getD j (0, 0, 0)).2.1 (r.ds.getD j (0, 0, 0)).2.2 (decide (j < r.i))
/-- which posted one is in a slot -/
def who (r : RS) (k : Nat) : Option Nat := (List.range' r.c (r.ds.length - r.c)).find? fun j => r.slot j == k
/-- a slot's bytes -/
def cont (r : RS) (k : Nat) : ByteArray := match r.who k with
  | some j => r.byt j
  | none => ⟨#[]⟩
def slots (r : RS) : List ByteArray := (List.range r.n).map r.cont
/-- a descriptor that may be posted -/
def okD (d : PD) : Prop := 0 ≤ d.1 ∧ d.1 ≤ 4294967295 ∧ 1 ≤ d.2.1 ∧ d.2.1 ≤ 65535 ∧ 0 ≤ d.2.2 ∧ d.2.2 ≤ 4294967295
/-- what every ring keeps -/
structure Ok (r : RS) : Prop where
  size : r.n = 1 ∨ r.n = 2 ∨ r.n = 4 ∨ r.n = 8 ∨ r.n = 16 ∨ r.n = 32 ∨ r.n = 64 ∨ r.n = 128 ∨ r.n = 256 ∨ r.n = 512 ∨ r.n = 1024 ∨ r.n = 2048 ∨ r.n = 4096
  f0 : 0 ≤ r.f
  f1 : r.f ≤ 4294967295
  ci : r.c ≤ r.i
  it : r.i ≤ r.t
  tb : r.t ≤ r.b
  bp : r.b ≤ r.ds.length
  room : r.ds.length ≤ r.c + r.n
  all : ∀ d ∈ r.ds, okD d

theorem Ok.pos {r : RS} (h : r.Ok) : 1 ≤ r.n ∧ r.n ≤ 4096 := by
  rcases h.size with h | h | h | h | h | h | h | h | h | h | h | h | h <;> omega
theorem Ok.slotEq {r : RS} (h : r.Ok) (k : Nat) : (r.slot k : Int) = (r.f + k) % r.n := by
  have hp := h.pos
  unfold slot mark
  have h0 := Int.emod_nonneg ((r.f + k) % 4294967296) (b := (r.n : Int)) (by omega)
  rw [Int.toNat_of_nonneg h0]
  rcases h.size with h | h | h | h | h | h | h | h | h | h | h | h | h <;> rw [h] <;> omega
theorem Ok.slot_lt {r : RS} (h : r.Ok) (k : Nat) : r.slot k < r.n := by
  have := h.slotEq k
  have hp := h.pos
  have := Int.emod_lt_of_pos (r.f + k) (b := (r.n : Int)) (by omega)
  omega
/-- within a size, slots are unlike -/
theorem Ok.slot_inj {r : RS} (h : r.Ok) {j j' : Nat} (h1 : j ≤ j') (h2 : j' < j + r.n) (he : r.slot j = r.slot j') : j = j' := by
  have e1 := h.slotEq j
  have e2 := h.slotEq j'
  rw [he, e2] at e1
  have hp := h.pos
  have hd : ((j' : Int) - j) % r.n = 0 := by
    have h3 : (r.f + j' - (r.f + j)) % r.n = 0 := by
      rw [Int.sub_emod, e1]; simp
    have h4 : r.f + j' - (r.f + j) = (j' : Int) - j := by omega
    rwa [h4] at h3
  have hs : ((j' : Int) - j) % r.n = (j' : Int) - j := Int.emod_eq_of_lt (by omega) (by omega)
  omega
theorem Ok.slot_window {r : RS} (h : r.Ok) {j j' : Nat} (h1 : r.c ≤ j) (h2 : j < r.c + r.n) (h1' : r.c ≤ j') (h2' : j' < r.c + r.n) (he : r.slot j = r.slot j') : j = j' := by
  rcases Nat.le_total j j' with hl | hl
  · exact h.slot_inj hl (by omega) he
  · exact (h.slot_inj hl (by omega) he.symm).symm

theorem Ok.who_some {r : RS} (h : r.Ok) {j : Nat} (h1 : r.c ≤ j) (h2 : j < r.ds.length) : r.who (r.slot j) = some j := by
  unfold who
  have hex : ∃ x, (List.range' r.c (r.ds.length - r.c)).find? (fun x => r.slot x == r.slot j) = some x := by
    have : ((List.range' r.c (r.ds.length - r.c)).find? (fun x => r.slot x == r.slot j)).isSome := by
      rw [List.find?_isSome]
      exact ⟨j, by simp; omega, by simp⟩
    exact Option.isSome_iff_exists.1 this
  obtain ⟨x, hx⟩ := hex
  have hm := List.mem_of_find?_eq_some hx
  have hp := List.find?_some hx
  simp at hm hp
  have hr := h.room
  have : x = j := h.slot_window (by omega) (by omega) h1 (by omega) hp
  rw [hx, this]
theorem who_none {r : RS} {k : Nat} (h : ∀ j, r.c ≤ j → j < r.ds.length → r.slot j ≠ k) : r.who k = none := by
  unfold who
  rw [List.find?_eq_none]
  intro x hx
  simp at hx ⊢
  exact h x (by omega) (by omega)
theorem who_spec {r : RS} {k j : Nat} (h : r.who k = some j) : r.c ≤ j ∧ j < r.ds.length ∧ r.slot j = k := by
  unfold who at h
  have hm := List.mem_of_find?_eq_some h
  have hp := List.find?_some h
  simp at hm hp
  exact ⟨by omega, by omega, hp⟩
theorem Ok.cont_at {r : RS} (h : r.Ok) {j : Nat} (h1 : r.c ≤ j) (h2 : j < r.ds.length) : r.cont (r.slot j) = r.byt j := by
  unfold cont
  rw [h.who_some h1 h2]
theorem cont_none {r : RS} {k : Nat} (h : ∀ j, r.c ≤ j → j < r.ds.length → r.slot j ≠ k) : r.cont k = ⟨#[]⟩ := by
  unfold cont
  rw [who_none h]

/-- posting -/
def post (r : RS) (d : PD) : RS := { r with ds := r.ds ++ [d] }
def bell (r : RS) : RS := { r with b := r.ds.length }
def fetch (r : RS) : RS := { r with t := r.t + 1 }
def finish (r : RS) : RS := { r with i := r.i + 1 }
def clean (r : RS) : RS := { r with c := r.c + 1 }
def new (n : Nat) (f : Int) : RS := { n := n, f := f, ds := [], c := 0, i := 0, t := 0, b := 0 }

theorem Ok.post {r : RS} (h : r.Ok) {d : PD} (hd : okD d) (hr : r.ds.length < r.c + r.n) : (r.post d).Ok :=
  ⟨h.size, h.f0, h.f1, h.ci, h.it, h.tb, by have := h.bp; simp [RS.post]; omega, by simp [RS.post]; omega, by
    intro x hx
    rcases List.mem_append.1 hx with h' | h'
    · exact h.all x h'
    · simp at h'; subst h'; exact hd⟩
theorem Ok.bell {r : RS} (h : r.Ok) : r.bell.Ok := ⟨h.size, h.f0, h.f1, h.ci, h.it, by have := h.tb; have := h.bp; simp [RS.bell]; omega, by simp [RS.bell], h.room, h.all⟩
theorem Ok.fetch {r : RS} (h : r.Ok) (hr : r.t < r.b) : r.fetch.Ok := ⟨h.size, h.f0, h.f1, h.ci, by have := h.it; simp [RS.fetch]; omega, by simp [RS.fetch]; omega, h.bp, h.room, h.all⟩
theorem Ok.finish {r : RS} (h : r.Ok) (hr : r.i < r.t) : r.finish.Ok := ⟨h.size, h.f0, h.f1, by have := h.ci; simp [RS.finish]; omega, by simp [RS.finish]; omega, h.tb, h.bp, h.room, h.all⟩
theorem Ok.clean {r : RS} (h : r.Ok) (hr : r.c < r.i) : r.clean.Ok := ⟨h.size, h.f0, h.f1, by simp [RS.clean]; omega, h.it, h.tb, h.bp, by have := h.room; simp [RS.clean]; omega, h.all⟩

theorem slot_post (r : RS) (d : PD) (k : Nat) : (r.post d).slot k = r.slot k := rfl
theorem byt_post {r : RS} {d : PD} {j : Nat} (hj : j < r.ds.length) : (r.post d).byt j = r.byt j := by
  simp only [byt, post]
  rw [List.getD_eq_getElem?_getD, List.getD_eq_getElem?_getD, List.getElem?_append_left hj]
  rfl
theorem Ok.cont_post {r : RS} (h : r.Ok) {d : PD} (hd : okD d) (hr : r.ds.length < r.c + r.n) (k : Nat) :
    (r.post d).cont k = if k = r.slot r.ds.length then encS d.1 d.2.1 d.2.2 false else r.cont k := by
  have h' := h.post hd hr
  have hbp := h.bp; have htb := h.tb; have hit := h.it; have hci := h.ci
  have hlen : (r.post d).ds.length = r.ds.length + 1 := by simp [RS.post]
  by_cases hk : k = r.slot r.ds.length
  · rw [if_pos hk, hk]
    have := h'.cont_at (j := r.ds.length) (by show r.c ≤ _; omega) (by rw [hlen]; omega)
    rw [slot_post] at this
    rw [this]
    have hni : ¬ r.ds.length < r.i := by omega
    simp [byt, RS.post, hni]
  · rw [if_neg hk]
    rcases hw : r.who k with _ | j
    · have hn : ∀ j, (r.post d).c ≤ j → j < (r.post d).ds.length → (r.post d).slot j ≠ k := by
        intro j h1 h2
        rw [hlen] at h2
        rw [slot_post]
        by_cases hj : j = r.ds.length
        · subst hj; exact fun e => hk e.symm
        · intro e
          have h3 := h.who_some (j := j) h1 (by omega)
          rw [e, hw] at h3
          cases h3
      rw [cont_none hn]
      unfold cont; rw [hw]
    · obtain ⟨h1, h2, h3⟩ := who_spec hw
      have e1 := h'.cont_at (j := j) h1 (by rw [hlen]; omega)
      rw [slot_post, h3] at e1
      rw [e1, byt_post h2]
      unfold cont; rw [hw]

theorem Ok.cont_finish {r : RS} (h : r.Ok) (hr : r.i < r.t) (k : Nat) :
    (r.finish).cont k = if k = r.slot r.i then encS (r.ds.getD r.i (0, 0, 0)).1 (r.ds.getD r.i (0, 0, 0)).2.1 (r.ds.getD r.i (0, 0, 0)).2.2 true else r.cont k := by
  have h' := h.finish hr
  have hbp := h.bp; have htb := h.tb; have hit := h.it; have hci := h.ci
  by_cases hk : k = r.slot r.i
  · rw [if_pos hk, hk]
    have := h'.cont_at (j := r.i) hci (by show r.i < r.ds.length; omega)
    rw [show (r.finish).slot r.i = r.slot r.i from rfl] at this
    rw [this]
    simp [byt, RS.finish]
  · rw [if_neg hk]
    have hwho : (r.finish).who k = r.who k := rfl
    unfold cont
    rw [hwho]
    rcases hw : r.who k with _ | j
    · rfl
    · obtain ⟨h1, h2, h3⟩ := who_spec hw
      have hne : j ≠ r.i := fun e => hk (by rw [← h3, e])
      have : (j < r.i + 1) ↔ (j < r.i) := by omega
      simp only [byt, RS.finish, this]

theorem Ok.cont_clean {r : RS} (h : r.Ok) (hr : r.c < r.i) (k : Nat) : (r.clean).cont k = if k = r.slot r.c then ⟨#[]⟩ else r.cont k := by
  have h' := h.clean hr
  have hbp := h.bp; have htb := h.tb; have hit := h.it; have hro := h.room
  by_cases hk : k = r.slot r.c
  · rw [if_pos hk]
    apply cont_none
    intro j h1 h2 e
    have h1' : r.c + 1 ≤ j := h1
    have h2' : j < r.ds.length := h2
    rw [hk] at e
    have e' : r.slot j = r.slot r.c := e
    have := h.slot_window (j := j) (j' := r.c) (by omega) (by omega) (by omega) (by have := h.pos; omega) e'
    omega
  · rw [if_neg hk]
    rcases hw : r.who k with _ | j
    · have hn : ∀ j, (r.clean).c ≤ j → j < (r.clean).ds.length → (r.clean).slot j ≠ k := by
        intro j h1 h2 e
        have h1' : r.c + 1 ≤ j := h1
        have h3 := h.who_some (j := j) (by omega) h2
        rw [show r.slot j = k from e, hw] at h3
        cases h3
      rw [cont_none hn]
      unfold cont; rw [hw]
    · obtain ⟨h1, h2, h3⟩ := who_spec hw
      have hne : j ≠ r.c := fun e => hk (by rw [← h3, e])
      have e1 := h'.cont_at (j := j) (by show r.c + 1 ≤ j; omega) h2
      rw [show (r.clean).slot j = r.slot j from rfl, h3] at e1
      rw [e1]
      unfold cont; rw [hw]
      rfl
theorem cont_fetch (r : RS) (k : Nat) : r.fetch.cont k = r.cont k := rfl
theorem cont_bell (r : RS) (k : Nat) : r.bell.cont k = r.cont k := rfl

theorem slots_length (r : RS) : r.slots.length = r.n := by simp [slots]
theorem slots_get (r : RS) (k : Nat) (h : k < r.n) : r.slots[k]? = some (r.cont k) := by simp [slots, h]
/-- slots, one of which is another one -/
theorem slots_set {r r' : RS} {k : Nat} {x : ByteArray} (hn : r'.n = r.n) (h : ∀ m, r'.cont m = if m = k then x else r.cont m) : r'.slots = r.slots.set k x := by
  apply List.ext_getElem?
  intro m
  by_cases hm : m < r.n
  · rw [slots_get r' m (by omega), h m]
    by_cases hk : m = k
    · subst hk
      rw [if_pos rfl, List.getElem?_set_self (by rw [slots_length]; exact hm)]
    · rw [if_neg hk, List.getElem?_set_ne (Ne.symm hk), slots_get r m hm]
  · rw [List.getElem?_eq_none (by rw [slots_length]; omega), List.getElem?_eq_none (by rw [List.length_set, slots_length]; omega)]
theorem Ok.slots_post {r : RS} (h : r.Ok) {d : PD} (hd : okD d) (hr : r.ds.length < r.c + r.n) : (r.post d).slots = r.slots.set (r.slot r.ds.length) (encS d.1 d.2.1 d.2.2 false) := slots_set rfl (h.cont_post hd hr)
theorem Ok.slots_finish {r : RS} (h : r.Ok) (hr : r.i < r.t) : (r.finish).slots = r.slots.set (r.slot r.i) (encS (r.ds.getD r.i (0, 0, 0)).1 (r.ds.getD r.i (0, 0, 0)).2.1 (r.ds.getD r.i (0, 0, 0)).2.2 true) := slots_set rfl (h.cont_finish hr)
theorem Ok.slots_clean {r : RS} (h : r.Ok) (hr : r.c < r.i) : (r.clean).slots = r.slots.set (r.slot r.c) ⟨#[]⟩ := slots_set rfl (h.cont_clean hr)
theorem slots_fetch (r : RS) : r.fetch.slots = r.slots := rfl
theorem slots_bell (r : RS) : r.bell.slots = r.slots := rfl
theorem slots_new (n : Nat) (f : Int) : (new n f).slots = List.replicate n ⟨#[]⟩ := by
  apply List.ext_getElem?
  intro m
  by_cases hm : m < n
  · rw [slots_get _ _ hm]
    simp [cont, who, new, hm]
  · rw [List.getElem?_eq_none (by rw [slots_length]; show n ≤ m; omega), List.getElem?_eq_none (by simp; omega)]
/-- how far it is from one index to another one -/
theorem far_mark (r : RS) {a b : Nat} (h : a ≤ b) (hb : b < a + 4294967296) : (r.mark b - r.mark a) % 4294967296 = (b : Int) - a := by
  unfold mark
  rw [Int.emod_sub_emod, Int.sub_emod_emod]
  have : r.f + b - (r.f + a) = (b : Int) - a := by omega
  rw [this]
  exact Int.emod_eq_of_lt (by omega) (by omega)
theorem mark_eq (r : RS) {a b : Nat} (h : a ≤ b) (hb : b < a + 4294967296) : r.mark a = r.mark b ↔ a = b := by
  constructor
  · intro e
    have := far_mark r h hb
    rw [e] at this
    simp at this
    omega
  · rintro rfl; rfl
theorem mark_succ (r : RS) (k : Nat) : (r.mark k + 1) % 4294967296 = r.mark (k + 1) := by
  unfold mark
  rw [Int.emod_add_emod]
  congr 1
  omega
/-! what each call answers, and what becomes of the ring -/
/-- the descriptor that was posted j-th -/
def at_ (r : RS) (j : Nat) : PD := r.ds.getD j (0, 0, 0)
theorem Ok.at_ok {r : RS} (h : r.Ok) {j : Nat} (hj : j < r.ds.length) : okD (r.at_ j) := by
  unfold at_
  rw [List.getD_eq_getElem?_getD, List.getElem?_eq_getElem hj]
  exact h.all _ (List.getElem_mem hj)
/-- Post's answer -/
def postE (r : RS) (l : Int) (d : Bool) : Int := bif !rightB l || d then 20 else if r.ds.length = r.c + r.n then 30 else 0
def postR (r : RS) (i l f : Int) (d : Bool) : RS := bif !rightB l || d then r else if r.ds.length = r.c + r.n then r else r.post (i, l, f)
/-- Fetch's, Finish's, Clean's answers: is there something? -/
def hasFetch (r : RS) : Bool := decide (r.t < r.b)
def hasFinish (r : RS) : Bool := decide (r.i < r.t)
def hasClean (r : RS) : Bool := decide (r.c < r.i)
def emptyE (b : Bool) : Int := bif b then 0 else 31
def pick (b : Bool) (p : PD) : PD := bif b then p else (0, 0, 0)
def fetchR (r : RS) : RS := bif r.hasFetch then r.fetch else r
def finishR (r : RS) : RS := bif r.hasFinish then r.finish else r
def cleanR (r : RS) : RS := bif r.hasClean then r.clean else r
theorem rightB_iff (l : Int) : rightB l = true ↔ 1 ≤ l ∧ l ≤ 65535 := by simp [rightB]
theorem Ok.postR {r : RS} (h : r.Ok) {i l f : Int} (d : Bool) (hi : 0 ≤ i ∧ i ≤ 4294967295) (hf : 0 ≤ f ∧ f ≤ 4294967295) : (r.postR i l f d).Ok := by
  unfold RS.postR
  rcases hb : (!rightB l || d)
  · have hl := (rightB_iff l).1 (by simp at hb; exact hb.1)
    simp only [cond_false]
    have hr := h.room
    split
    · exact h
    · exact h.post ⟨hi.1, hi.2, hl.1, hl.2, hf.1, hf.2⟩ (by omega)
  · exact h
theorem Ok.fetchR {r : RS} (h : r.Ok) : r.fetchR.Ok := by
  unfold RS.fetchR
  rcases hb : r.hasFetch
  · exact h
  · exact h.fetch (by simpa [hasFetch] using hb)
theorem Ok.finishR {r : RS} (h : r.Ok) : r.finishR.Ok := by
  unfold RS.finishR
  rcases hb : r.hasFinish
  · exact h
  · exact h.finish (by simpa [hasFinish] using hb)
theorem Ok.cleanR {r : RS} (h : r.Ok) : r.cleanR.Ok := by
  unfold RS.cleanR
  rcases hb : r.hasClean
  · exact h
  · exact h.clean (by simpa [hasClean] using hb)
theorem Ok.new {n : Nat} {f : Int} (hn : n = 1 ∨ n = 2 ∨ n = 4 ∨ n = 8 ∨ n = 16 ∨ n = 32 ∨ n = 64 ∨ n = 128 ∨ n = 256 ∨ n = 512 ∨ n = 1024 ∨ n = 2048 ∨ n = 4096) (h0 : 0 ≤ f) (h1 : f ≤ 4294967295) : (new n f).Ok :=
  ⟨hn, h0, h1, Nat.le_refl _, Nat.le_refl _, Nat.le_refl _, Nat.le_refl _, by simp [RS.new], by simp [RS.new]⟩
/-- how many were posted grows by one at most -/
theorem postR_length (r : RS) (i l f : Int) (d : Bool) : (r.postR i l f d).ds.length ≤ r.ds.length + 1 := by
  unfold postR
  rcases (!rightB l || d) with _ | _
  · simp only [cond_false]
    split
    · omega
    · simp [post]
  · simp
theorem fetchR_length (r : RS) : r.fetchR.ds.length = r.ds.length := by unfold fetchR; rcases r.hasFetch with _ | _ <;> rfl
theorem finishR_length (r : RS) : r.finishR.ds.length = r.ds.length := by unfold finishR; rcases r.hasFinish with _ | _ <;> rfl
theorem cleanR_length (r : RS) : r.cleanR.ds.length = r.ds.length := by unfold cleanR; rcases r.hasClean with _ | _ <;> rfl

/-- the bytes in the slots that are decoded -/
theorem Ok.fetch_byt {r : RS} (h : r.Ok) (hr : r.t < r.b) : r.cont (r.slot r.t) = encS (r.at_ r.t).1 (r.at_ r.t).2.1 (r.at_ r.t).2.2 false := by
  have hbp := h.bp; have htb := h.tb; have hit := h.it; have hci := h.ci
  rw [h.cont_at (by omega) (by omega)]
  have : ¬ r.t < r.i := by omega
  simp [byt, at_, this]
theorem Ok.finish_byt {r : RS} (h : r.Ok) (hr : r.i < r.t) : r.cont (r.slot r.i) = encS (r.at_ r.i).1 (r.at_ r.i).2.1 (r.at_ r.i).2.2 false := by
  have hbp := h.bp; have htb := h.tb; have hci := h.ci
  rw [h.cont_at (by omega) (by omega)]
  simp [byt, at_]
theorem Ok.clean_byt {r : RS} (h : r.Ok) (hr : r.c < r.i) : r.cont (r.slot r.c) = encS (r.at_ r.c).1 (r.at_ r.c).2.1 (r.at_ r.c).2.2 true := by
  have hbp := h.bp; have htb := h.tb; have hit := h.it
  rw [h.cont_at (by omega) (by omega)]
  simp [byt, at_, hr]
/-- the k-th slot from CONS on: bytes just up to PROD -/
theorem Ok.window {r : RS} (h : r.Ok) {k : Nat} (hk : k < r.n) : r.cont (r.slot (r.c + k)) = if r.c + k < r.ds.length then r.byt (r.c + k) else ⟨#[]⟩ := by
  by_cases hp : r.c + k < r.ds.length
  · rw [if_pos hp, h.cont_at (by omega) hp]
  · rw [if_neg hp]
    apply cont_none
    intro j h1 h2 e
    have := h.slot_window (j := j) (j' := r.c + k) h1 (by have := h.room; omega) (by omega) (by omega) e
    omega
end RS
end Go.Proofs.Ytfnhnicjomaelaa
