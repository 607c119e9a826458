/- Sets of slots as bits of a number: plain facts on natural numbers, nothing of the program is in it. -/
import Derived.Laws.BitsAllLaws
import Derived.Laws.BitsLemmas
import Derived.Laws.Bits64b
import Derived.Lib.TrailingZeros
namespace Go.Proofs.YtakpalnhjmkkeaaDoor

theorem m64 : (2 : Nat) ^ 64 = 18446744073709551616 := by decide

/-- the set of one slot; of all from one on; of all up to one. -/
def on (i : Int) : Nat := if 0 ≤ i ∧ i < 64 then 2 ^ i.toNat else 0
def sn (f : Int) : Nat := 18446744073709551616 - 2 ^ min f.toNat 64
def un (t : Int) : Nat := 2 ^ min (t + 1).toNat 64 - 1

theorem pow_le_m64 {n : Nat} (h : n ≤ 64) : 2 ^ n ≤ 18446744073709551616 := by rw [← m64]; exact Nat.pow_le_pow_right (by decide) h
theorem pow_lt_m64 {n : Nat} (h : n < 64) : 2 ^ n < 18446744073709551616 := by rw [← m64]; exact Nat.pow_lt_pow_right (by decide) h
theorem on_lt (i : Int) : on i < 18446744073709551616 := by
  unfold on
  split
  · exact pow_lt_m64 (by omega)
  · decide
theorem sn_lt (f : Int) : sn f < 18446744073709551616 := by
  have := Nat.two_pow_pos (min f.toNat 64)
  unfold sn; omega
theorem un_lt (t : Int) : un t < 18446744073709551616 := by
  have := pow_le_m64 (show min (t + 1).toNat 64 ≤ 64 by omega)
  have := Nat.two_pow_pos (min (t + 1).toNat 64)
  unfold un; omega

theorem on_bit (i : Int) (j : Nat) : (on i).testBit j = decide (i = j ∧ j < 64) := by
  unfold on
  split
  · rename_i h
    rw [Nat.testBit_two_pow]
    congr 1
    apply propext
    omega
  · rename_i h
    rw [Nat.zero_testBit]
    symm
    rw [decide_eq_false_iff_not]
    omega
theorem un_bit (t : Int) (j : Nat) : (un t).testBit j = decide ((j : Int) ≤ t ∧ j < 64) := by
  unfold un
  rw [Nat.testBit_two_pow_sub_one]
  congr 1
  apply propext
  omega
theorem sn_is (f : Int) : sn f = 18446744073709551616 - 1 - (2 ^ min f.toNat 64 - 1) := by
  have := pow_le_m64 (show min f.toNat 64 ≤ 64 by omega)
  have := Nat.two_pow_pos (min f.toNat 64)
  unfold sn; omega
theorem sn_bit (f : Int) (j : Nat) : (sn f).testBit j = decide (f ≤ j ∧ j < 64) := by
  have h2 := pow_le_m64 (show min f.toNat 64 ≤ 64 by omega)
  have h3 := Nat.two_pow_pos (min f.toNat 64)
  have e : sn f = 2 ^ 64 - ((2 ^ min f.toNat 64 - 1) + 1) := by rw [m64]; unfold sn; omega
  rw [e, Nat.testBit_two_pow_sub_succ (by rw [m64]; omega), Nat.testBit_two_pow_sub_one]
  by_cases h : j < 64
  · by_cases h1 : f ≤ j
    · have : ¬ j < min f.toNat 64 := by omega
      simp [h, h1, this]
    · have : j < min f.toNat 64 := by omega
      simp [h, h1, this]
  · simp [h]

theorem high_bit {s j : Nat} (h : s < 18446744073709551616) (hj : 64 ≤ j) : s.testBit j = false := by
  apply Nat.testBit_lt_two_pow
  have : 2 ^ 64 ≤ 2 ^ j := Nat.pow_le_pow_right (by decide) hj
  rw [m64] at this; omega

/-- what the machine's operations come to. -/
theorem and_nat {a b : Nat} (ha : a < 18446744073709551616) (hb : b < 18446744073709551616) : bits .and .u64 (a : Int) (b : Int) = ((a &&& b : Nat) : Int) := bits_and_u64_nat a b ha hb
theorem or_nat {a b : Nat} (ha : a < 18446744073709551616) (hb : b < 18446744073709551616) : bits .or .u64 (a : Int) (b : Int) = ((a ||| b : Nat) : Int) := bits_or_u64_nat a b ha hb
theorem and_lt {a : Nat} (ha : a < 18446744073709551616) (b : Nat) : a &&& b < 18446744073709551616 := Nat.lt_of_le_of_lt Nat.and_le_left ha
theorem or_lt {a b : Nat} (ha : a < 18446744073709551616) (hb : b < 18446744073709551616) : a ||| b < 18446744073709551616 := by rw [← m64] at *; exact Nat.or_lt_two_pow ha hb
/-- all slots but those. -/
def no (b : Nat) : Nat := 18446744073709551616 - 1 - b
theorem no_lt (b : Nat) : no b < 18446744073709551616 := by unfold no; omega
theorem no_bit {b : Nat} (h : b < 18446744073709551616) (j : Nat) : (no b).testBit j = (decide (j < 64) && !b.testBit j) := by
  have e : no b = 2 ^ 64 - (b + 1) := by rw [m64]; unfold no; omega
  rw [e, Nat.testBit_two_pow_sub_succ (by rw [m64]; exact h)]
theorem andnot_nat {a b : Nat} (ha : a < 18446744073709551616) (hb : b < 18446744073709551616) : bits .andNot .u64 (a : Int) (b : Int) = ((a &&& no b : Nat) : Int) := by
  exact u64_andNot_nat a b ha hb
theorem until_is (t : Int) : no (sn (min t 63 + 1)) = un t := by
  apply Nat.eq_of_testBit_eq
  intro j
  rw [no_bit (sn_lt _), sn_bit, un_bit]
  by_cases h : j < 64
  · by_cases h1 : (j : Int) ≤ t
    · have : ¬ min t 63 + 1 ≤ (j : Int) := by omega
      simp [h, h1, this]
    · have : min t 63 + 1 ≤ (j : Int) := by omega
      simp [h, h1, this]
  · simp [h]

/-- with one slot more, without one; those from one slot to another. -/
def wi (s : Nat) (i : Int) : Nat := s ||| on i
def wo (s : Nat) (i : Int) : Nat := s &&& no (on i)
def bw (s : Nat) (f t : Int) : Nat := s &&& sn f &&& un t
def has (s : Nat) (i : Int) : Bool := decide (0 ≤ i) && s.testBit i.toNat
theorem wi_lt {s : Nat} (h : s < 18446744073709551616) (i : Int) : wi s i < 18446744073709551616 := or_lt h (on_lt i)
theorem wo_lt {s : Nat} (h : s < 18446744073709551616) (i : Int) : wo s i < 18446744073709551616 := and_lt h _
theorem bw_lt {s : Nat} (h : s < 18446744073709551616) (f t : Int) : bw s f t < 18446744073709551616 := and_lt (and_lt h _) _
theorem wi_bit (s : Nat) (i : Int) (j : Nat) : (wi s i).testBit j = (s.testBit j || decide (i = j ∧ j < 64)) := by unfold wi; rw [Nat.testBit_or, on_bit]
theorem wo_bit {s : Nat} (h : s < 18446744073709551616) (i : Int) (j : Nat) : (wo s i).testBit j = (s.testBit j && !decide (i = j)) := by
  unfold wo
  rw [Nat.testBit_and, no_bit (on_lt i), on_bit]
  by_cases hj : j < 64
  · simp [hj]
  · simp [hj, high_bit h (show 64 ≤ j by omega)]
theorem bw_bit {s : Nat} (h : s < 18446744073709551616) (f t : Int) (j : Nat) : (bw s f t).testBit j = (s.testBit j && decide (f ≤ j) && decide ((j : Int) ≤ t)) := by
  unfold bw
  rw [Nat.testBit_and, Nat.testBit_and, sn_bit, un_bit]
  by_cases hj : j < 64
  · simp [hj]
  · simp [hj, high_bit h (show 64 ≤ j by omega)]
theorem has_is {s : Nat} (h : s < 18446744073709551616) (i : Int) : (!((s &&& on i : Nat) == 0)) = has s i := by
  unfold has
  by_cases hi : 0 ≤ i ∧ i < 64
  · obtain ⟨n, rfl⟩ := Int.eq_ofNat_of_zero_le hi.1
    have : on n = 2 ^ n := by unfold on; rw [if_pos hi]; simp
    rw [this]
    simp only [Int.toNat_natCast]
    have e : ((s &&& 2 ^ n) == 0) = !s.testBit n := by
      rw [Bool.eq_iff_iff]
      constructor
      · intro hz
        have hz := eq_of_beq hz
        have := Nat.testBit_and s (2 ^ n) n
        rw [hz, Nat.zero_testBit, Nat.testBit_two_pow] at this
        simpa using this.symm
      · intro hz
        apply beq_iff_eq.2
        apply Nat.eq_of_testBit_eq
        intro j
        rw [Nat.testBit_and, Nat.testBit_two_pow, Nat.zero_testBit]
        by_cases hj : n = j
        · subst hj; simpa using hz
        · simp [hj]
    rw [e]; simp
  · have : on i = 0 := by unfold on; rw [if_neg hi]
    rw [this, Nat.and_zero]
    by_cases h0 : 0 ≤ i
    · rw [high_bit h (show 64 ≤ i.toNat by omega)]; simp
    · simp [h0]

/-- its slots, rising. -/
def slots (s : Nat) : List Nat := (List.range 64).filter fun j => s.testBit j
/-- its slots below one. -/
def below (s k : Nat) : List Nat := (List.range k).filter fun j => s.testBit j
theorem below_succ (s k : Nat) : below s (k + 1) = if s.testBit k then below s k ++ [k] else below s k := by
  unfold below
  rw [List.range_succ, List.filter_append]
  cases h : s.testBit k <;> simp [h]
theorem below_le (s k : Nat) : (below s k).length ≤ k := by
  have := List.length_filter_le (fun j => s.testBit j) (List.range k)
  simpa [below] using this

theorem slots_is (s : Nat) : slots s = below s 64 := rfl
def cnt (s : Nat) : Nat := (slots s).length
theorem cnt_le (s : Nat) : cnt s ≤ 64 := below_le s 64

/-- the first slot from one on. -/
def nx (s : Nat) (f : Int) : Int := if s &&& sn f = 0 then -1 else (Lib.ctz 64 (s &&& sn f) : Nat)

end Go.Proofs.YtakpalnhjmkkeaaDoor
