/-
  Plain mathematics of layer 4: the state of byte queue limits, what queueing, completing and beginning anew make of it. Conditions: those that each theorem names.
-/
namespace Go.Proofs.Ytfgaeaebchgcdaa

/-- a state -/
structure DQ where
  q : Int
  adj : Int
  last : Int
  lim : Int
  comp : Int
  pov : Int
  plast : Int
  pq : Int
  slack : Int
  start : Int
  hold : Int
  mn : Int
  mx : Int
namespace DQ
/-- its numbers fit their kinds -/
structure Fits (d : DQ) : Prop where
  q : 0 ≤ d.q ∧ d.q ≤ 4294967295
  adj : 0 ≤ d.adj ∧ d.adj ≤ 4294967295
  last : 0 ≤ d.last ∧ d.last ≤ 4294967295
  lim : 0 ≤ d.lim ∧ d.lim ≤ 4294967295
  comp : 0 ≤ d.comp ∧ d.comp ≤ 4294967295
  pov : 0 ≤ d.pov ∧ d.pov ≤ 4294967295
  plast : 0 ≤ d.plast ∧ d.plast ≤ 4294967295
  pq : 0 ≤ d.pq ∧ d.pq ≤ 4294967295
  slack : 0 ≤ d.slack ∧ d.slack ≤ 4294967295
  start : 0 ≤ d.start ∧ d.start ≤ 18446744073709551615
  hold : 0 ≤ d.hold ∧ d.hold ≤ 18446744073709551615
  mn : 0 ≤ d.mn ∧ d.mn ≤ 4294967295
  mx : 0 ≤ d.mx ∧ d.mx ≤ 4294967295
/-- the distance from a to b -/
def fr (a b : Int) : Int := (b - a) % 4294967296
/-- is b ahead of a? -/
def ah (a b : Int) : Bool := decide (1 ≤ fr a b) && decide (fr a b ≤ 2147483647)
/-- how far a is ahead of b, or 0 -/
def ov (a b : Int) : Int := bif ah b a then fr b a else 0
theorem fr_bd (a b : Int) : 0 ≤ fr a b ∧ fr a b ≤ 4294967295 := by unfold fr; omega
theorem ov_bd (a b : Int) : 0 ≤ ov a b ∧ ov a b ≤ 2147483647 := by
  unfold ov
  have := fr_bd b a
  rcases h : ah b a
  · simp
  · simp [ah] at h
    simp
    omega
theorem fr_shift (a b k : Int) : fr ((a + k) % 4294967296) ((b + k) % 4294967296) = fr a b := by
  unfold fr
  rw [Int.emod_sub_emod, Int.sub_emod_emod]
  congr 1
  omega
theorem ah_shift (a b k : Int) : ah ((a + k) % 4294967296) ((b + k) % 4294967296) = ah a b := by unfold ah; rw [fr_shift]
theorem ov_shift (a b k : Int) : ov ((a + k) % 4294967296) ((b + k) % 4294967296) = ov a b := by unfold ov; rw [ah_shift, fr_shift]

def flight (d : DQ) : Int := fr d.comp d.q
def rightB (d : DQ) : Bool := decide (1 ≤ d.mn ∧ d.mn ≤ d.lim ∧ d.lim ≤ d.mx ∧ d.mx ≤ 1073741824 ∧ d.adj = (d.lim + d.comp) % 4294967296 ∧ flight d ≤ 2147483647)
/-- a number of 32 bits, signed -/
def s32 (x : Int) : Int := (x + 2147483648) % 4294967296 - 2147483648
def left (d : DQ) : Int := s32 (d.adj - d.q)
/-- the state at first -/
def first (a b h t : Int) : DQ := { q := 0, adj := a, last := 0, lim := a, comp := 0, pov := 0, plast := 0, pq := 0, slack := 4294967295, start := t, hold := h, mn := a, mx := b }
def none : DQ := { q := 0, adj := 0, last := 0, lim := 0, comp := 0, pov := 0, plast := 0, pq := 0, slack := 0, start := 0, hold := 0, mn := 0, mx := 0 }
def newB (a b : Int) : Bool := decide (1 ≤ a ∧ a ≤ b ∧ b ≤ 1073741824)
/-- queueing -/
def queueB (d : DQ) (n : Int) : Bool := decide (1 ≤ n ∧ n ≤ 65535 ∧ flight d + n ≤ 2147483647)
def queued (d : DQ) (n : Int) : DQ := { d with q := (d.q + n) % 4294967296, last := n }
/-- completing: does the limit rise? may it fall? -/
def upB (d : DQ) (n : Int) : Bool :=
  (decide (0 < ov (fr d.comp d.q) d.lim) && decide (fr ((d.comp + n) % 4294967296) d.q = 0)) || (decide (0 < d.pov) && !ah ((d.comp + n) % 4294967296) d.pq)
def slackB (d : DQ) (n : Int) : Bool :=
  (decide (fr ((d.comp + n) % 4294967296) d.q ≠ 0) && decide (fr d.comp d.pq ≠ 0)) && ah ((d.comp + n) % 4294967296) d.pq
def slackN (d : DQ) (n : Int) : Int :=
  min d.slack (if 0 < d.pov then max (ov ((d.lim + d.pov) % 4294967296) (2 * n % 4294967296)) (ov d.plast d.pov) else ov ((d.lim + d.pov) % 4294967296) (2 * n % 4294967296))
def dueB (d : DQ) (t : Int) : Bool := decide (d.start < t) && decide (d.hold < t - d.start)
/-- the limit ahead of its bounds -/
def rawL (d : DQ) (n t : Int) : Int :=
  if upB d n = true then (d.lim + ov ((d.comp + n) % 4294967296) d.pq + d.pov) % 4294967296 else if slackB d n = true ∧ dueB d t = true then ov d.lim (slackN d n) else d.lim
def newL (d : DQ) (n t : Int) : Int := min (max (rawL d n t) d.mn) d.mx
def completed (d : DQ) (n t : Int) : DQ :=
  { d with
    adj := (newL d n t + (d.comp + n) % 4294967296) % 4294967296
    lim := newL d n t
    pov := if newL d n t = d.lim then ov (fr d.comp d.q) d.lim else 0
    plast := d.last
    comp := (d.comp + n) % 4294967296
    pq := d.q
    start := if upB d n = true then t else if slackB d n = true ∧ dueB d t = true then t else d.start
    slack := if upB d n = true then 4294967295 else if slackB d n = true then (if dueB d t = true then 4294967295 else slackN d n) else d.slack }

theorem right_iff (d : DQ) : rightB d = true ↔ 1 ≤ d.mn ∧ d.mn ≤ d.lim ∧ d.lim ≤ d.mx ∧ d.mx ≤ 1073741824 ∧ d.adj = (d.lim + d.comp) % 4294967296 ∧ flight d ≤ 2147483647 := by simp [rightB]
theorem first_right {a b h t : Int} (hn : newB a b = true) : rightB (first a b h t) = true ∧ left (first a b h t) = a ∧ flight (first a b h t) = 0 := by
  simp [newB] at hn
  refine ⟨?_, ?_, ?_⟩
  · rw [right_iff]
    simp [first, flight, fr]
    omega
  · simp [left, first, s32]
    omega
  · simp [flight, first, fr]
theorem queued_flight {d : DQ} {n : Int} (hn : queueB d n = true) : flight (queued d n) = flight d + n := by
  simp [queueB] at hn
  have hb := fr_bd d.comp d.q
  unfold flight fr at *
  show ((d.q + n) % 4294967296 - d.comp) % 4294967296 = _
  omega
theorem queued_right {d : DQ} {n : Int} (h : rightB d = true) (hn : queueB d n = true) : rightB (queued d n) = true := by
  rw [right_iff] at h ⊢
  have hf := queued_flight hn
  simp [queueB] at hn
  rw [hf]
  exact ⟨h.1, h.2.1, h.2.2.1, h.2.2.2.1, h.2.2.2.2.1, by omega⟩
theorem newL_bd {d : DQ} (h : d.mn ≤ d.mx) (n t : Int) : d.mn ≤ newL d n t ∧ newL d n t ≤ d.mx := by unfold newL; omega
theorem completed_flight {d : DQ} {n t : Int} (h0 : 0 ≤ n) (hn : n ≤ flight d) : flight (completed d n t) = flight d - n := by
  have hb := fr_bd d.comp d.q
  unfold flight fr at *
  show (d.q - (d.comp + n) % 4294967296) % 4294967296 = _
  omega
theorem completed_right {d : DQ} {n t : Int} (h : rightB d = true) (h0 : 0 ≤ n) (hn : n ≤ flight d) : rightB (completed d n t) = true := by
  rw [right_iff] at h
  have hl := newL_bd (d := d) (by omega) n t
  have hf := completed_flight (t := t) h0 hn
  rw [right_iff, hf]
  refine ⟨h.1, hl.1, hl.2, h.2.2.2.1, rfl, by omega⟩
theorem left_right {d : DQ} (h : rightB d = true) : left d = d.lim - flight d := by
  rw [right_iff] at h
  have hb := fr_bd d.comp d.q
  unfold left s32 flight fr at *
  omega
/-- the counts begin elsewhere -/
def shift (d : DQ) (k : Int) : DQ := { d with q := (d.q + k) % 4294967296, comp := (d.comp + k) % 4294967296, pq := (d.pq + k) % 4294967296, adj := (d.adj + k) % 4294967296 }
theorem shift_flight (d : DQ) (k : Int) : flight (shift d k) = flight d := fr_shift _ _ _
theorem shift_right {d : DQ} (hf : d.Fits) (k : Int) : rightB (shift d k) = rightB d := by
  rw [Bool.eq_iff_iff, right_iff, right_iff, shift_flight]
  show (1 ≤ d.mn ∧ d.mn ≤ d.lim ∧ d.lim ≤ d.mx ∧ d.mx ≤ 1073741824 ∧ (d.adj + k) % 4294967296 = (d.lim + (d.comp + k) % 4294967296) % 4294967296 ∧ flight d ≤ 2147483647) ↔ _
  have := hf.adj
  constructor
  · rintro ⟨h1, h2, h3, h4, h5, h6⟩
    exact ⟨h1, h2, h3, h4, by omega, h6⟩
  · rintro ⟨h1, h2, h3, h4, h5, h6⟩
    exact ⟨h1, h2, h3, h4, by omega, h6⟩
theorem shift_c (d : DQ) (k n : Int) : ((shift d k).comp + n) % 4294967296 = ((d.comp + n) % 4294967296 + k) % 4294967296 := by
  show ((d.comp + k) % 4294967296 + n) % 4294967296 = _
  omega
theorem shift_up (d : DQ) (k n : Int) : upB (shift d k) n = upB d n := by
  unfold upB
  rw [shift_c]
  show ((decide (0 < ov (fr ((d.comp + k) % 4294967296) ((d.q + k) % 4294967296)) d.lim) && decide (fr (((d.comp + n) % 4294967296 + k) % 4294967296) ((d.q + k) % 4294967296) = 0)) || (decide (0 < d.pov) && !ah (((d.comp + n) % 4294967296 + k) % 4294967296) ((d.pq + k) % 4294967296))) = _
  rw [fr_shift, fr_shift, ah_shift]
theorem shift_slackB (d : DQ) (k n : Int) : slackB (shift d k) n = slackB d n := by
  unfold slackB
  rw [shift_c]
  show ((decide (fr (((d.comp + n) % 4294967296 + k) % 4294967296) ((d.q + k) % 4294967296) ≠ 0) && decide (fr ((d.comp + k) % 4294967296) ((d.pq + k) % 4294967296) ≠ 0)) && ah (((d.comp + n) % 4294967296 + k) % 4294967296) ((d.pq + k) % 4294967296)) = _
  rw [fr_shift, fr_shift, ah_shift]
theorem shift_raw (d : DQ) (k n t : Int) : rawL (shift d k) n t = rawL d n t := by
  unfold rawL
  rw [shift_up, shift_slackB, shift_c]
  show (if upB d n = true then (d.lim + ov (((d.comp + n) % 4294967296 + k) % 4294967296) ((d.pq + k) % 4294967296) + d.pov) % 4294967296 else _) = _
  rw [ov_shift]
  rfl
theorem shift_newL (d : DQ) (k n t : Int) : newL (shift d k) n t = newL d n t := by unfold newL; rw [shift_raw]; rfl
theorem shift_completed (d : DQ) (k n t : Int) : completed (shift d k) n t = shift (completed d n t) k := by
  unfold completed
  rw [shift_newL, shift_up, shift_slackB, shift_c]
  unfold shift
  dsimp only
  congr 1
  · omega
  · rw [fr_shift]

theorem Fits.first {a b h t : Int} (ha : 0 ≤ a ∧ a ≤ 4294967295) (hb : 0 ≤ b ∧ b ≤ 4294967295) (hh : 0 ≤ h ∧ h ≤ 18446744073709551615) (ht : 0 ≤ t ∧ t ≤ 18446744073709551615) : (first a b h t).Fits := by
  constructor <;> simp [DQ.first] <;> omega
theorem Fits.queued {d : DQ} (h : d.Fits) {n : Int} (hn : 0 ≤ n ∧ n ≤ 4294967295) : (queued d n).Fits :=
  ⟨by show 0 ≤ (d.q + n) % 4294967296 ∧ (d.q + n) % 4294967296 ≤ 4294967295; omega, h.adj, hn, h.lim, h.comp, h.pov, h.plast, h.pq, h.slack, h.start, h.hold, h.mn, h.mx⟩
theorem slackN_bd {d : DQ} (h : d.Fits) (n : Int) : 0 ≤ slackN d n ∧ slackN d n ≤ 4294967295 := by
  have h1 := ov_bd ((d.lim + d.pov) % 4294967296) (2 * n % 4294967296)
  have h2 := ov_bd d.plast d.pov
  have h3 := h.slack
  unfold slackN
  split <;> omega
theorem Fits.completed {d : DQ} (h : d.Fits) (hr : rightB d = true) {n t : Int} (ht : 0 ≤ t ∧ t ≤ 18446744073709551615) : (completed d n t).Fits := by
  rw [right_iff] at hr
  have hl := newL_bd (d := d) (by omega) n t
  have ho := ov_bd (fr d.comp d.q) d.lim
  have hs := slackN_bd h n
  have h1 := h.start
  have h2 := h.slack
  refine ⟨h.q, ?_, h.last, ?_, ?_, ?_, h.last, h.q, ?_, ?_, h.hold, h.mn, h.mx⟩
  · show 0 ≤ (newL d n t + (d.comp + n) % 4294967296) % 4294967296 ∧ (newL d n t + (d.comp + n) % 4294967296) % 4294967296 ≤ 4294967295; omega
  · show 0 ≤ newL d n t ∧ newL d n t ≤ 4294967295; omega
  · show 0 ≤ (d.comp + n) % 4294967296 ∧ (d.comp + n) % 4294967296 ≤ 4294967295; omega
  · show 0 ≤ (if newL d n t = d.lim then ov (fr d.comp d.q) d.lim else 0) ∧ (if newL d n t = d.lim then ov (fr d.comp d.q) d.lim else 0) ≤ 4294967295
    split <;> omega
  · show 0 ≤ (if upB d n = true then 4294967295 else if slackB d n = true then (if dueB d t = true then 4294967295 else slackN d n) else d.slack) ∧ (if upB d n = true then 4294967295 else if slackB d n = true then (if dueB d t = true then 4294967295 else slackN d n) else d.slack) ≤ 4294967295
    repeat' split
    all_goals omega
  · show 0 ≤ (if upB d n = true then t else if slackB d n = true ∧ dueB d t = true then t else d.start) ∧ (if upB d n = true then t else if slackB d n = true ∧ dueB d t = true then t else d.start) ≤ 18446744073709551615
    repeat' split
    all_goals omega
/-- a state whose device is starved each time -/
structure Starved (d : DQ) : Prop where
  fits : d.Fits
  right : rightB d = true
  pq : d.pq = d.comp
  pov : d.pov ≤ 65534
  fl : flight d ≤ d.lim + 65534
theorem Starved.queue {d : DQ} (h : Starved d) {n : Int} (hn : 1 ≤ n ∧ n ≤ 65535) (hl : 0 < left d) : queueB d n = true ∧ Starved (queued d n) := by
  have h1 := left_right h.right
  have h2 := (right_iff d).1 h.right
  have hq : queueB d n = true := by
    simp [queueB]
    omega
  have hf := queued_flight hq
  exact ⟨hq, h.fits.queued (by omega), queued_right h.right hq, h.pq, h.pov, by rw [hf]; show flight d + n ≤ d.lim + 65534; omega⟩
theorem Starved.complete {d : DQ} (h : Starved d) (hl : left d ≤ 0) {t : Int} (ht : 0 ≤ t ∧ t ≤ 18446744073709551615) : d.lim ≤ newL d (flight d) t ∧ Starved (completed d (flight d) t) := by
  have h1 := left_right h.right
  have h2 := (right_iff d).1 h.right
  obtain ⟨m1, m2, m3, m4, m5, m6⟩ := h2
  have hq := h.fits.q
  have hc := h.fits.comp
  have hp := h.fits.pov
  have hpo := h.pov
  have hfl := h.fl
  have hb := fr_bd d.comp d.q
  have ec : (d.comp + flight d) % 4294967296 = d.q := by unfold flight fr at *; omega
  have e0 : fr d.q d.q = 0 := by simp [fr]
  have hov : ov (fr d.comp d.q) d.lim = flight d - d.lim := by
    have e : fr d.lim (fr d.comp d.q) = flight d - d.lim := by
      unfold flight at *
      generalize fr d.comp d.q = F at *
      unfold fr
      omega
    unfold ov ah
    rw [e]
    by_cases hz : flight d - d.lim = 0
    · rw [hz]; simp
    · have a1 : 1 ≤ flight d - d.lim := by omega
      have a2 : flight d - d.lim ≤ 2147483647 := by omega
      simp [a1, a2]
  have hov2 : ov d.q d.pq = flight d := by
    rw [h.pq]
    unfold ov ah
    show (bif decide (1 ≤ flight d) && decide (flight d ≤ 2147483647) then flight d else 0) = flight d
    have a1 : 1 ≤ flight d := by omega
    simp [a1, m6]
  have hraw : d.lim ≤ rawL d (flight d) t := by
    unfold rawL
    rw [ec, hov2]
    split
    · omega
    · have hs : slackB d (flight d) = false := by
        unfold slackB
        rw [ec, e0]
        simp
      rw [hs]
      simp
  have hnew : d.lim ≤ newL d (flight d) t := by unfold newL; omega
  refine ⟨hnew, h.fits.completed h.right ht, completed_right h.right hb.1 (Int.le_refl _), ?_, ?_, ?_⟩
  · show d.q = (d.comp + flight d) % 4294967296
    exact ec.symm
  · show (if newL d (flight d) t = d.lim then ov (fr d.comp d.q) d.lim else 0) ≤ 65534
    split
    · omega
    · omega
  · rw [completed_flight (n := flight d) hb.1 (Int.le_refl _)]
    have := (newL_bd (d := d) (by omega) (flight d) t).1
    show flight d - flight d ≤ newL d (flight d) t + 65534
    omega
theorem Starved.first {a b h t : Int} (hn : newB a b = true) (hh : 0 ≤ h ∧ h ≤ 18446744073709551615) (ht : 0 ≤ t ∧ t ≤ 18446744073709551615) : Starved (first a b h t) := by
  have h1 := first_right (h := h) (t := t) hn
  have h2 := (right_iff _).1 h1.1
  simp [newB] at hn
  refine ⟨Fits.first (by omega) (by omega) hh ht, h1.1, rfl, by simp [DQ.first], by rw [h1.2.2]; show 0 ≤ a + 65534; omega⟩
/-- queued while something is left: in flight are at most the limit and the packet, but one byte -/
theorem queued_bound {d : DQ} {n : Int} (hr : rightB d = true) (hl : 0 < left d) (hn : queueB d n = true) : flight (queued d n) ≤ d.lim + n - 1 := by
  rw [queued_flight hn]
  have := left_right hr
  omega
end DQ
end Go.Proofs.Ytfgaeaebchgcdaa
