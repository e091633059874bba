/-
  Plain mathematics of layer 5: a bucket, what filling, taking and another rate make of it, and when it gives again. Conditions: those that each theorem names.
-/
namespace Go.Proofs.Ytmincladghbklaa

/-- a bucket -/
structure BK where
  rate : Int
  burst : Int
  level : Int
  rem : Int
  at_ : Int
namespace BK
/-- its numbers fit their kinds -/
structure Fits (b : BK) : Prop where
  rate : 0 ≤ b.rate ∧ b.rate ≤ 18446744073709551615
  burst : -9223372036854775808 ≤ b.burst ∧ b.burst ≤ 9223372036854775807
  level : -9223372036854775808 ≤ b.level ∧ b.level ≤ 9223372036854775807
  rem : 0 ≤ b.rem ∧ b.rem ≤ 18446744073709551615
  at_ : 0 ≤ b.at_ ∧ b.at_ ≤ 18446744073709551615
/-- is it valid? -/
def right (b : BK) : Bool :=
  decide (b.rate ≤ 1099511627776) && decide (1 ≤ b.burst) && decide (b.burst ≤ 1073741824) && decide (b.level ≤ b.burst) &&
  decide (-1073741824 ≤ b.level) && decide (b.rem ≤ 999999999) && decide (b.at_ ≤ 9223372036854775807)
/-- valid, as numbers -/
structure Ok (b : BK) : Prop where
  rate : 0 ≤ b.rate ∧ b.rate ≤ 1099511627776
  burst : 1 ≤ b.burst ∧ b.burst ≤ 1073741824
  level : -1073741824 ≤ b.level ∧ b.level ≤ b.burst
  rem : 0 ≤ b.rem ∧ b.rem ≤ 999999999
  at_ : 0 ≤ b.at_ ∧ b.at_ ≤ 9223372036854775807
theorem ok_of_right {b : BK} (hf : Fits b) (h : right b = true) : Ok b := by
  simp [right, and_assoc] at h
  exact ⟨⟨hf.rate.1, by omega⟩, by omega, by omega, ⟨hf.rem.1, by omega⟩, ⟨hf.at_.1, by omega⟩⟩
theorem right_of_ok {b : BK} (h : Ok b) : right b = true := by
  simp [right, and_assoc]
  exact ⟨h.rate.2, h.burst.1, h.burst.2, h.level.2, h.level.1, h.rem.2, h.at_.2⟩
theorem fits_of_ok {b : BK} (h : Ok b) : Fits b :=
  ⟨⟨h.rate.1, by have := h.rate; omega⟩, by have := h.burst; omega, by have := h.level; have := h.burst; omega, ⟨h.rem.1, by have := h.rem; omega⟩, ⟨h.at_.1, by have := h.at_; omega⟩⟩

/-- what filling up to a time yields, in parts of a byte -/
def gain (b : BK) (now : Int) : Int := b.rate * (now - b.at_) + b.rem
/-- is it full when filled up to that time? -/
def fulls (b : BK) (now : Int) : Bool := decide (b.rate = 0) || decide (b.burst ≤ b.level + gain b now / 1000000000)
/-- filled up to a time -/
def fill (b : BK) (now : Int) : BK :=
  bif fulls b now then { b with level := b.burst, rem := 0, at_ := now }
  else { b with level := b.level + gain b now / 1000000000, rem := gain b now % 1000000000, at_ := now }
/-- a new one -/
def new (rate burst now : Int) : BK := { rate := rate, burst := burst, level := burst, rem := 0, at_ := now }
/-- with another rate and burst -/
def setRate (b : BK) (rate burst now : Int) : BK := { fill b now with rate := rate, burst := burst, level := min (fill b now).level burst, rem := 0 }
/-- some taken -/
def taken (b : BK) (n : Int) : BK := { b with level := b.level - n }
/-- nothing -/
def none_ : BK := { rate := 0, burst := 0, level := 0, rem := 0, at_ := 0 }

theorem gain_nonneg {b : BK} (h : Ok b) {now : Int} (hn : b.at_ ≤ now) : 0 ≤ gain b now := by
  unfold gain
  have h1 : 0 ≤ b.rate * (now - b.at_) := Int.mul_nonneg h.rate.1 (by omega)
  have h2 := h.rem.1
  omega

@[simp] theorem fill_rate (b : BK) (now : Int) : (fill b now).rate = b.rate := by unfold fill; cases fulls b now <;> rfl
@[simp] theorem fill_burst (b : BK) (now : Int) : (fill b now).burst = b.burst := by unfold fill; cases fulls b now <;> rfl
@[simp] theorem fill_at (b : BK) (now : Int) : (fill b now).at_ = now := by unfold fill; cases fulls b now <;> rfl
theorem fill_full {b : BK} {now : Int} (h : fulls b now = true) : fill b now = { b with level := b.burst, rem := 0, at_ := now } := by unfold fill; rw [h]; rfl
theorem fill_part {b : BK} {now : Int} (h : fulls b now = false) : fill b now = { b with level := b.level + gain b now / 1000000000, rem := gain b now % 1000000000, at_ := now } := by unfold fill; rw [h]; rfl

theorem fill_ok {b : BK} (h : Ok b) {now : Int} (hn : b.at_ ≤ now) (hm : now ≤ 9223372036854775807) : Ok (fill b now) := by
  have hg := gain_nonneg h hn
  have h0 := h.at_
  have h1 := h.level
  have h2 := h.burst
  rcases hf : fulls b now
  · rw [fill_part hf]
    simp [fulls] at hf
    exact ⟨h.rate, h.burst, ⟨by show _ ≤ b.level + _; omega, by show b.level + _ ≤ b.burst; omega⟩, ⟨by show 0 ≤ gain b now % _; omega, by show gain b now % _ ≤ _; omega⟩, ⟨by show 0 ≤ now; omega, hm⟩⟩
  · rw [fill_full hf]
    exact ⟨h.rate, h.burst, ⟨by show _ ≤ b.burst; omega, Int.le_refl _⟩, ⟨Int.le_refl _, by show (0 : Int) ≤ _; omega⟩, ⟨by show 0 ≤ now; omega, hm⟩⟩

/-- filled in two parts it is filled as at once -/
theorem fill_fill {b : BK} (h : Ok b) {now then_ : Int} (hn : b.at_ ≤ now) (ht : now ≤ then_) : fill (fill b now) then_ = fill b then_ := by
  have hg := gain_nonneg h hn
  have hr : 0 ≤ b.rate * (then_ - now) := Int.mul_nonneg h.rate.1 (by omega)
  have hsplit : gain b then_ = gain b now + b.rate * (then_ - now) := by
    unfold gain
    have : then_ - b.at_ = (now - b.at_) + (then_ - now) := by omega
    rw [this, Int.mul_add]
    omega
  rcases hf : fulls b now
  · have hb : fill b now = { b with level := b.level + gain b now / 1000000000, rem := gain b now % 1000000000, at_ := now } := fill_part hf
    have hgg : gain (fill b now) then_ = b.rate * (then_ - now) + gain b now % 1000000000 := by rw [hb]; rfl
    have hl : (fill b now).level = b.level + gain b now / 1000000000 := by rw [hb]
    have hlev : (fill b now).level + gain (fill b now) then_ / 1000000000 = b.level + gain b then_ / 1000000000 := by
      rw [hl, hgg, hsplit]
      omega
    have hrem : gain (fill b now) then_ % 1000000000 = gain b then_ % 1000000000 := by
      rw [hgg, hsplit]
      omega
    have hff : fulls (fill b now) then_ = fulls b then_ := by
      unfold fulls
      rw [hlev, fill_rate, fill_burst]
    rcases hf2 : fulls b then_
    · rw [fill_part hf2, fill_part (hff.trans hf2), hlev, hrem, hb]
    · rw [fill_full hf2, fill_full (hff.trans hf2), hb]
  · have hb : fill b now = { b with level := b.burst, rem := 0, at_ := now } := fill_full hf
    have hg2 : gain (fill b now) then_ = b.rate * (then_ - now) := by rw [hb]; show b.rate * (then_ - now) + 0 = _; omega
    have hf1 : fulls (fill b now) then_ = true := by
      unfold fulls
      rw [hg2, fill_burst, hb]
      have : b.burst ≤ b.burst + b.rate * (then_ - now) / 1000000000 := by omega
      simp [this]
    have hf2 : fulls b then_ = true := by
      simp [fulls] at hf ⊢
      rcases hf with hf | hf
      · exact Or.inl hf
      · right
        rw [hsplit]
        omega
    rw [fill_full hf1, fill_full hf2, hb]

theorem new_ok {rate burst now : Int} (hr : 0 ≤ rate ∧ rate ≤ 18446744073709551615) (hb : -9223372036854775808 ≤ burst ∧ burst ≤ 9223372036854775807) (hn : 0 ≤ now ∧ now ≤ 18446744073709551615)
    (h : right (new rate burst now) = true) : Ok (new rate burst now) :=
  ok_of_right ⟨hr, hb, hb, ⟨Int.le_refl _, by show (0 : Int) ≤ _; omega⟩, hn⟩ h

theorem setRate_ok {b : BK} (h : Ok b) {rate burst now : Int} (hn : b.at_ ≤ now) (hm : now ≤ 9223372036854775807) (hr : Ok (new rate burst now)) : Ok (setRate b rate burst now) := by
  have hk := fill_ok h hn hm
  have h1 : 0 ≤ rate ∧ rate ≤ 1099511627776 := hr.rate
  have h2 : 1 ≤ burst ∧ burst ≤ 1073741824 := hr.burst
  have h3 := hk.level
  have h4 := hk.at_
  exact ⟨h1, h2, ⟨by show _ ≤ min _ burst; omega, by show min _ burst ≤ burst; omega⟩, ⟨Int.le_refl _, by show (0 : Int) ≤ _; omega⟩, h4⟩

theorem taken_ok {b : BK} (h : Ok b) {n : Int} (hl : 0 < b.level) (hn : 1 ≤ n ∧ n ≤ 65535) : Ok (taken b n) := by
  have h1 := h.level
  exact ⟨h.rate, h.burst, ⟨by show _ ≤ b.level - n; omega, by show b.level - n ≤ b.burst; omega⟩, h.rem, h.at_⟩

/-- how many nanoseconds it takes until it gives -/
def wait (b : BK) : Int := ((1 - b.level) * 1000000000 - b.rem + (b.rate - 1)) / b.rate
/-- when it gives again -/
def next (b : BK) : Int := bif decide (b.rate = 0) || decide (0 < b.level) then b.at_ else min 9223372036854775807 (b.at_ + wait b)

theorem need_bd {b : BK} (h : Ok b) (hl : b.level ≤ 0) : 0 < (1 - b.level) * 1000000000 - b.rem ∧ (1 - b.level) * 1000000000 - b.rem ≤ 1073741825000000000 := by
  have h1 := h.level
  have h2 := h.rem
  omega
/-- rounded up, by quotient and remainder -/
theorem wait_eq {b : BK} (h : Ok b) (hr : b.rate ≠ 0) :
    wait b = ((1 - b.level) * 1000000000 - b.rem) / b.rate + (if ((1 - b.level) * 1000000000 - b.rem) % b.rate > 0 then 1 else 0) := by
  have h1 := h.rate.1
  have hp : 0 < b.rate := by omega
  unfold wait
  generalize (1 - b.level) * 1000000000 - b.rem = x
  have hd := Int.emod_add_mul_ediv x b.rate
  have hm0 := Int.emod_nonneg x hr
  have hm1 := Int.emod_lt_of_pos x hp
  split
  · rename_i hpos
    have : x + (b.rate - 1) = (x % b.rate - 1) + b.rate * (x / b.rate + 1) := by
      rw [Int.mul_add, Int.mul_one]
      omega
    rw [this, Int.add_mul_ediv_left _ _ hr, Int.ediv_eq_zero_of_lt (by omega) (by omega)]
    omega
  · rename_i hz
    have : x + (b.rate - 1) = (b.rate - 1) + b.rate * (x / b.rate) := by omega
    rw [this, Int.add_mul_ediv_left _ _ hr, Int.ediv_eq_zero_of_lt (by omega) (by omega)]
    omega
theorem wait_bd {b : BK} (h : Ok b) (hr : b.rate ≠ 0) (hl : b.level ≤ 0) : 1 ≤ wait b ∧ wait b ≤ 1073741825000000000 := by
  have h1 := h.rate.1
  have hp : 0 < b.rate := by omega
  have hn := need_bd h hl
  unfold wait
  revert hn
  generalize (1 - b.level) * 1000000000 - b.rem = x
  intro hn
  constructor
  · exact (Int.le_ediv_iff_mul_le hp).mpr (by omega)
  · have : (x + (b.rate - 1)) / b.rate < x + 1 := by
      apply (Int.ediv_lt_iff_lt_mul hp).mpr
      have hx : x * 1 ≤ x * b.rate := Int.mul_le_mul_of_nonneg_left (by omega) (by omega)
      rw [Int.add_mul]
      omega
    omega
/-- it gives, filled up to a time, just when that time is not ahead of what `wait` says -/
theorem gives_iff {b : BK} (h : Ok b) (hr : b.rate ≠ 0) (_hl : b.level ≤ 0) {t : Int} (_ht : b.at_ ≤ t) : 0 < (fill b t).level ↔ b.at_ + wait b ≤ t := by
  have h1 := h.rate.1
  have hp : 0 < b.rate := by omega
  have h2 := h.burst
  have key : 0 < (fill b t).level ↔ (1 - b.level) * 1000000000 ≤ gain b t := by
    rcases hf : fulls b t
    · rw [fill_part hf]
      show 0 < b.level + gain b t / 1000000000 ↔ _
      omega
    · rw [fill_full hf]
      simp [fulls, hr] at hf
      show 0 < b.burst ↔ _
      omega
  rw [key]
  unfold gain wait
  generalize (1 - b.level) * 1000000000 = x
  have hc : (x - b.rem + (b.rate - 1)) / b.rate ≤ t - b.at_ ↔ x - b.rem ≤ b.rate * (t - b.at_) := by
    rw [← Int.lt_add_one_iff, Int.ediv_lt_iff_lt_mul hp, Int.add_mul, Int.mul_comm (t - b.at_)]
    omega
  constructor
  · intro hh
    have := hc.mpr (by omega)
    omega
  · intro hh
    have := hc.mp (by omega)
    omega

/-- what was taken since it was full at the time 0: the account -/
structure Acc (b : BK) (took great : Int) : Prop where
  ok : Ok b
  sum : (took + b.level - b.burst) * 1000000000 + b.rem ≤ b.rate * b.at_
  low : -great ≤ b.level
  great : 0 ≤ great ∧ great ≤ 65535
  took : 0 ≤ took
theorem acc_new {rate burst : Int} (h : Ok (new rate burst 0)) : Acc (new rate burst 0) 0 0 := by
  have h1 : 1 ≤ burst ∧ _ := h.burst
  refine ⟨h, ?_, ?_, by omega, by omega⟩
  · show (0 + burst - burst) * 1000000000 + 0 ≤ rate * 0
    omega
  · show -0 ≤ burst
    omega
theorem acc_fill {b : BK} {took great : Int} (h : Acc b took great) {now : Int} (hn : b.at_ ≤ now) (hm : now ≤ 9223372036854775807) (hr : b.rate ≠ 0) : Acc (fill b now) took great := by
  have hg := gain_nonneg h.ok hn
  have hs := h.sum
  have hl := h.low
  have hv := h.ok.level
  have hsplit : b.rate * now = b.rate * b.at_ + b.rate * (now - b.at_) := by
    rw [← Int.mul_add]
    congr 1
    omega
  have hge : gain b now = b.rate * (now - b.at_) + b.rem := rfl
  refine ⟨fill_ok h.ok hn hm, ?_, ?_, h.great, h.took⟩
  · rw [fill_rate, fill_burst, fill_at]
    rcases hf : fulls b now
    · rw [fill_part hf]
      show (took + (b.level + gain b now / 1000000000) - b.burst) * 1000000000 + gain b now % 1000000000 ≤ b.rate * now
      omega
    · rw [fill_full hf]
      simp [fulls, hr] at hf
      show (took + b.burst - b.burst) * 1000000000 + 0 ≤ b.rate * now
      omega
  · rcases hf : fulls b now
    · rw [fill_part hf]
      show -great ≤ b.level + gain b now / 1000000000
      omega
    · rw [fill_full hf]
      show -great ≤ b.burst
      omega
theorem acc_take {b : BK} {took great : Int} (h : Acc b took great) {n : Int} (hl : 0 < b.level) (hn : 1 ≤ n ∧ n ≤ 65535) : Acc (taken b n) (took + n) (max great n) := by
  have hs := h.sum
  have hg := h.great
  have ht := h.took
  refine ⟨taken_ok h.ok hl hn, ?_, ?_, by omega, by omega⟩
  · show (took + n + (b.level - n) - b.burst) * 1000000000 + b.rem ≤ b.rate * b.at_
    have : took + n + (b.level - n) - b.burst = took + b.level - b.burst := by omega
    rw [this]
    exact hs
  · show -(max great n) ≤ b.level - n
    omega
/-- the bound -/
theorem acc_most {b : BK} {took great : Int} (h : Acc b took great) :
    took ≤ b.burst + (b.rate * (b.at_ / 1000) + 999999) / 1000000 + b.rate / 1000000 + 1 + great := by
  have hs := h.sum
  have hl := h.low
  have hr := h.ok.rem
  have hrate := h.ok.rate
  have ha : b.rate * b.at_ = 1000 * (b.rate * (b.at_ / 1000)) + b.rate * (b.at_ % 1000) := by
    have : b.at_ = 1000 * (b.at_ / 1000) + b.at_ % 1000 := by omega
    calc b.rate * b.at_ = b.rate * (1000 * (b.at_ / 1000) + b.at_ % 1000) := by rw [← this]
      _ = _ := by rw [Int.mul_add, Int.mul_left_comm]
  have hb : b.rate * (b.at_ % 1000) ≤ b.rate * 1000 := Int.mul_le_mul_of_nonneg_left (by omega) hrate.1
  have hnn : 0 ≤ b.rate * (b.at_ / 1000) := Int.mul_nonneg hrate.1 (by have := h.ok.at_; omega)
  omega
end BK
end Go.Proofs.Ytmincladghbklaa
