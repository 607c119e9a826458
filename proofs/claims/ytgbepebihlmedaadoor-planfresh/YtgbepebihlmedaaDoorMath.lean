/- Plain facts on parts of words of 64 bits, as integers: nothing of the program is in it. -/
namespace Go.Proofs.YtgbepebihlmedaaDoor

/-- 2 to the power of n (1 below 0). -/
def pw (n : Int) : Int := 2 ^ n.toNat

theorem pw_nat (n : Nat) : pw n = 2 ^ n := by simp [pw]
theorem pw_zero : pw 0 = 1 := by simp [pw]
theorem pw_succ (n : Int) (h : 0 ≤ n) : pw (n + 1) = pw n * 2 := by
  have e : (n + 1).toNat = n.toNat + 1 := by omega
  simp only [pw, e, Int.pow_succ]
theorem pw_pos (n : Int) : 1 ≤ pw n := by
  have : (0 : Int) < 2 ^ n.toNat := Int.pow_pos (by decide)
  simp only [pw]; omega
theorem pw_add (a b : Int) (ha : 0 ≤ a) (hb : 0 ≤ b) : pw (a + b) = pw a * pw b := by
  have e : (a + b).toNat = a.toNat + b.toNat := by omega
  simp only [pw, e, Int.pow_add]
theorem pw_mono (a b : Int) (ha : 0 ≤ a) (h : a ≤ b) : pw a ≤ pw b := by
  have e : b = a + (b - a) := by omega
  rw [e, pw_add a (b - a) ha (by omega)]
  have h1 := pw_pos (b - a)
  have h2 := pw_pos a
  calc pw a = pw a * 1 := by omega
    _ ≤ pw a * pw (b - a) := Int.mul_le_mul_of_nonneg_left h1 (by omega)
theorem pw_64 : pw 64 = 18446744073709551616 := by decide
theorem pw_63 : pw 63 = 9223372036854775808 := by decide
theorem pw_le_63 (n : Int) (h0 : 0 ≤ n) (h : n ≤ 63) : pw n ≤ 9223372036854775808 := by
  have := pw_mono n 63 h0 h; rw [pw_63] at this; exact this
theorem pw_le_64 (n : Int) (h0 : 0 ≤ n) (h : n ≤ 64) : pw n ≤ 18446744073709551616 := by
  have := pw_mono n 64 h0 h; rw [pw_64] at this; exact this

/-- Is there such a part? -/
def partB (s t : Int) : Bool := decide (0 ≤ s ∧ 1 ≤ t ∧ s + t ≤ 64)
theorem partB_yes {s t : Int} (h : partB s t = true) : 0 ≤ s ∧ 1 ≤ t ∧ s + t ≤ 64 := of_decide_eq_true h
theorem partB_mk {s t : Int} (h : 0 ≤ s ∧ 1 ≤ t ∧ s + t ≤ 64) : partB s t = true := decide_eq_true h
theorem partB_no {s t : Int} (h : partB s t = false) : ¬ (0 ≤ s ∧ 1 ≤ t ∧ s + t ≤ 64) := of_decide_eq_false h

/-- A part of a word. -/
def getW (w s t : Int) : Int := if partB s t = true then w / pw s % pw t else 0

/-- A word with a part put, and the error's number. -/
def putW (w s t v : Int) : Int := if partB s t = true then (if v < pw t then w - w / pw s % pw t * pw s + v * pw s else 0) else 0
def putE (s t v : Int) : Int := if partB s t = true then (if v < pw t then 0 else 2) else 1

theorem div_le_of (w d m : Int) (hd : 1 ≤ d) (h0 : 0 ≤ w) (h : w < m * d) : 0 ≤ w / d ∧ w / d < m := by
  refine ⟨Int.ediv_nonneg h0 (by omega), ?_⟩
  exact Int.ediv_lt_of_lt_mul (by omega) h

/-- the part that is put out, and what is put in: within the word. -/
theorem put_fits (w s t v : Int) (hp : partB s t = true) (hw0 : 0 ≤ w) (hw : w < 18446744073709551616) (hv0 : 0 ≤ v) (hv : v < pw t) :
    0 ≤ w / pw s % pw t ∧ w / pw s % pw t * pw s ≤ w ∧ 0 ≤ v * pw s ∧ v * pw s < 18446744073709551616 ∧ 0 ≤ w - w / pw s % pw t * pw s ∧
    w - w / pw s % pw t * pw s + v * pw s < 18446744073709551616 ∧ w / pw s % pw t * pw s < 18446744073709551616 := by
  obtain ⟨h0, h1, h2⟩ := partB_yes hp
  have ps := pw_pos s
  have pt := pw_pos t
  have hst : pw t * pw s ≤ 18446744073709551616 := by
    rw [← pw_add t s (by omega) h0]; exact pw_le_64 _ (by omega) (by omega)
  -- w = (q * pw t + m) * pw s + r
  have e1 : pw s * (w / pw s) + w % pw s = w := Int.mul_ediv_add_emod w (pw s)
  have r0 : 0 ≤ w % pw s := Int.emod_nonneg _ (by omega)
  have r1 : w % pw s < pw s := Int.emod_lt_of_pos _ (by omega)
  have e2 : pw t * (w / pw s / pw t) + w / pw s % pw t = w / pw s := Int.mul_ediv_add_emod (w / pw s) (pw t)
  have m0 : 0 ≤ w / pw s % pw t := Int.emod_nonneg _ (by omega)
  have m1 : w / pw s % pw t < pw t := Int.emod_lt_of_pos _ (by omega)
  have q0 : 0 ≤ w / pw s := Int.ediv_nonneg hw0 (by omega)
  have u0 : 0 ≤ w / pw s / pw t := Int.ediv_nonneg q0 (by omega)
  generalize w / pw s % pw t = m at *
  generalize w / pw s / pw t = u at *
  generalize w % pw s = r at *
  rw [← e2] at e1
  -- the highest part: u * (pw t * pw s)
  have hmS : 0 ≤ m * pw s := Int.mul_nonneg m0 (by omega)
  have huS : 0 ≤ u * (pw t * pw s) := Int.mul_nonneg u0 (Int.mul_nonneg (by omega) (by omega))
  have hvS : 0 ≤ v * pw s := Int.mul_nonneg hv0 (by omega)
  have hvT : (v + 1) * pw s ≤ pw t * pw s := Int.mul_le_mul_of_nonneg_right (by omega) (by omega)
  have hmT : (m + 1) * pw s ≤ pw t * pw s := Int.mul_le_mul_of_nonneg_right (by omega) (by omega)
  have e3 : pw s * (pw t * u + m) = u * (pw t * pw s) + m * pw s := by
    rw [Int.mul_add, Int.mul_comm (pw s) m, ← Int.mul_assoc, Int.mul_comm (pw s) (pw t), Int.mul_comm (pw t * pw s) u]
  have e4 : (v + 1) * pw s = v * pw s + pw s := by rw [Int.add_mul]; omega
  have e5 : (m + 1) * pw s = m * pw s + pw s := by rw [Int.add_mul]; omega
  -- (u + 1) * (pw t * pw s) <= 2^64, as pw t * pw s divides 2^64
  have hu : (u + 1) * (pw t * pw s) ≤ 18446744073709551616 := by
    have e6 : pw (64 - (s + t)) * (pw t * pw s) = 18446744073709551616 := by
      rw [← pw_add t s (by omega) h0, ← pw_add _ _ (by omega) (by omega)]
      have : 64 - (s + t) + (t + s) = 64 := by omega
      rw [this, pw_64]
    have hlt : u < pw (64 - (s + t)) := by
      have pts : 0 < pw t * pw s := Int.mul_pos (by omega) (by omega)
      refine Int.lt_of_mul_lt_mul_right (a := pw t * pw s) ?_ (by omega)
      rw [e6]; omega
    have : (u + 1) * (pw t * pw s) ≤ pw (64 - (s + t)) * (pw t * pw s) :=
      Int.mul_le_mul_of_nonneg_right (by omega) (Int.mul_nonneg (by omega) (by omega))
    omega
  have e7 : (u + 1) * (pw t * pw s) = u * (pw t * pw s) + pw t * pw s := by rw [Int.add_mul]; omega
  rw [e3] at e1
  refine ⟨m0, ?_, hvS, ?_, ?_, ?_, ?_⟩ <;> omega

theorem greatest_eq (t : Int) (h0 : 1 ≤ t) (h1 : t ≤ 64) : 18446744073709551615 / 2 ^ (64 - t).toNat = pw t - 1 := by
  show 18446744073709551615 / pw (64 - t) = pw t - 1
  have e : pw (64 - t) * pw t = 18446744073709551616 := by
    rw [← pw_add _ _ (by omega) (by omega), show 64 - t + t = 64 by omega, pw_64]
  have p := pw_pos (64 - t)
  have e2 : (18446744073709551615 : Int) = (pw (64 - t) - 1) + pw (64 - t) * (pw t - 1) := by
    rw [Int.mul_sub, e]; omega
  rw [e2, Int.add_mul_ediv_left _ _ (by omega), Int.ediv_eq_zero_of_lt (by omega) (by omega)]; omega

theorem nat_cut (w s t : Nat) : w = 2 ^ s * (2 ^ t * (w / 2 ^ s / 2 ^ t) + w / 2 ^ s % 2 ^ t) + w % 2 ^ s := by
  rw [Nat.div_add_mod, Nat.div_add_mod]

theorem nat_andNot (w s t : Nat) (hst : s + t ≤ 64) (hw : w < 2 ^ 64) :
    w &&& (2 ^ 64 - 1 - (2 ^ t - 1) * 2 ^ s) = 2 ^ s * (2 ^ t * (w / 2 ^ s / 2 ^ t) + 0) + w % 2 ^ s := by
  have hlo : w % 2 ^ s < 2 ^ s := Nat.mod_lt _ (Nat.two_pow_pos _)
  have hm : w / 2 ^ s % 2 ^ t < 2 ^ t := Nat.mod_lt _ (Nat.two_pow_pos _)
  have hM : (2 ^ t - 1) * 2 ^ s < 2 ^ 64 := by
    have h1 : (2 ^ t - 1) * 2 ^ s < 2 ^ t * 2 ^ s := Nat.mul_lt_mul_of_pos_right (by have := Nat.two_pow_pos t; omega) (Nat.two_pow_pos _)
    have h2 : 2 ^ t * 2 ^ s ≤ 2 ^ 64 := by rw [← Nat.pow_add]; exact Nat.pow_le_pow_right (by decide) (by omega)
    omega
  apply Nat.eq_of_testBit_eq
  intro j
  have eM : (2 ^ t - 1) * 2 ^ s = 2 ^ s * (2 ^ t - 1) + 0 := by rw [Nat.mul_comm]; rfl
  have hw2 := nat_cut w s t
  rw [Nat.testBit_and, show 2 ^ 64 - 1 - (2 ^ t - 1) * 2 ^ s = 2 ^ 64 - ((2 ^ t - 1) * 2 ^ s + 1) by omega, Nat.testBit_two_pow_sub_succ hM, eM,
    Nat.testBit_two_pow_mul_add _ (Nat.two_pow_pos _), Nat.testBit_two_pow_mul_add _ hlo, Nat.testBit_two_pow_mul_add _ (Nat.two_pow_pos _), Nat.testBit_two_pow_sub_one]
  by_cases hj : j < 64
  · conv => lhs; arg 1; rw [hw2, Nat.testBit_two_pow_mul_add _ hlo, Nat.testBit_two_pow_mul_add _ hm]
    by_cases h1 : j < s
    · simp [h1, hj]
    · by_cases h2 : j - s < t <;> simp [h1, h2, hj]
  · have hf : w.testBit j = false := Nat.testBit_lt_two_pow (Nat.lt_of_lt_of_le hw (Nat.pow_le_pow_right (by decide) (by omega)))
    rw [hf, Bool.false_and]
    rw [hw2, Nat.testBit_two_pow_mul_add _ hlo, Nat.testBit_two_pow_mul_add _ hm] at hf
    by_cases h1 : j < s
    · omega
    · by_cases h2 : j - s < t
      · omega
      · simp [h1, h2] at hf ⊢; exact hf

theorem nat_or (hi lo s t v : Nat) (hv : v < 2 ^ t) (hlo : lo < 2 ^ s) :
    (2 ^ s * (2 ^ t * hi + 0) + lo) ||| v * 2 ^ s = 2 ^ s * (2 ^ t * hi + v) + lo := by
  apply Nat.eq_of_testBit_eq
  intro j
  have ev : v * 2 ^ s = 2 ^ s * v + 0 := by rw [Nat.mul_comm]; rfl
  rw [Nat.testBit_or, ev, Nat.testBit_two_pow_mul_add _ hlo, Nat.testBit_two_pow_mul_add _ hlo, Nat.testBit_two_pow_mul_add _ (Nat.two_pow_pos _), Nat.testBit_two_pow_mul_add _ hv, Nat.testBit_two_pow_mul_add _ (Nat.two_pow_pos _)]
  by_cases h1 : j < s
  · simp [h1]
  · by_cases h2 : j - s < t
    · simp [h1, h2]
    · have hf : v.testBit (j - s) = false := Nat.testBit_lt_two_pow (Nat.lt_of_lt_of_le hv (Nat.pow_le_pow_right (by decide) (by omega)))
      simp [h1, h2, hf]

theorem nat_sub (w s t : Nat) : 2 ^ s * (2 ^ t * (w / 2 ^ s / 2 ^ t) + 0) + w % 2 ^ s = w - w / 2 ^ s % 2 ^ t * 2 ^ s := by
  have h := nat_cut w s t
  rw [Nat.mul_add, Nat.mul_comm (2 ^ s) (w / 2 ^ s % 2 ^ t)] at h
  simp only [Nat.add_zero]
  omega

end Go.Proofs.YtgbepebihlmedaaDoor
