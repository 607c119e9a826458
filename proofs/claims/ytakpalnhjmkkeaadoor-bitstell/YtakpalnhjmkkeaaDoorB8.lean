/- Going from slot to slot: plain. -/
import Derived.Test.YtakpalnhjmkkeaaDoorB6
namespace Go.Proofs.YtakpalnhjmkkeaaDoor
open Go.RowKit

theorem ctz_bits {R : Nat} (h0 : R ≠ 0) (h : R < 18446744073709551616) : Lib.ctz 64 R < 64 ∧ R.testBit (Lib.ctz 64 R) = true ∧ ∀ i, i < Lib.ctz 64 R → R.testBit i = false := by
  have e : Lib.ctz 64 R = Lib.ctzFrom 64 R := by simp [Lib.ctz, h0]
  obtain ⟨m, hm, hk⟩ := Lib.ctzFrom_spec 64 R (by omega) (by rw [m64]; exact h)
  rw [e]
  generalize Lib.ctzFrom 64 R = k at *
  subst hm
  refine ⟨hk, ?_, fun i hi => ?_⟩
  · rw [Nat.mul_comm, Nat.testBit_mul_two_pow]; simp [Nat.testBit_zero]
  · rw [Nat.mul_comm, Nat.testBit_mul_two_pow]
    have : ¬ k ≤ i := by omega
    simp [this]

theorem nx_spec {s : Nat} (hs : s < 18446744073709551616) (f : Int) :
    (nx s f = -1 ∧ ∀ j : Nat, f ≤ j → s.testBit j = false) ∨ ∃ j : Nat, nx s f = j ∧ j < 64 ∧ f ≤ j ∧ s.testBit j = true ∧ ∀ i : Nat, i < j → f ≤ i → s.testBit i = false := by
  have hb : ∀ j, (s &&& sn f).testBit j = (s.testBit j && decide (f ≤ j)) := fun j => by
    rw [Nat.testBit_and, sn_bit]
    by_cases hj : j < 64
    · simp [hj]
    · simp [hj, high_bit hs (show 64 ≤ j by omega)]
  unfold nx
  by_cases h0 : s &&& sn f = 0
  · rw [if_pos h0]
    refine .inl ⟨rfl, fun j hj => ?_⟩
    have := hb j
    rw [h0, Nat.zero_testBit] at this
    simpa [hj] using this.symm
  · rw [if_neg h0]
    obtain ⟨h1, h2, h3⟩ := ctz_bits h0 (and_lt hs _)
    generalize Lib.ctz 64 (s &&& sn f) = k at *
    rw [hb] at h2
    simp at h2
    refine .inr ⟨k, rfl, h1, h2.2, h2.1, fun i hi hf => ?_⟩
    have := h3 i hi
    rw [hb] at this
    simpa [hf] using this

theorem below_gap {s : Nat} : ∀ (d a : Nat), (∀ i, a ≤ i → i < a + d → s.testBit i = false) → below s (a + d) = below s a
  | 0, _, _ => rfl
  | d + 1, a, h => by
    rw [show a + (d + 1) = (a + d) + 1 by omega, below_succ, h (a + d) (by omega) (by omega), below_gap d a (fun i h1 h2 => h i h1 (by omega))]
    simp

/-- one is at the slot i, n slots are passed. -/
structure At (s : Nat) (i : Int) (n : Nat) : Prop where
  is : (i = -1 ∧ n = cnt s) ∨ ∃ j : Nat, i = j ∧ j < 64 ∧ s.testBit j = true ∧ n = (below s j).length
theorem at_next {s : Nat} (hs : s < 18446744073709551616) (k : Nat) (hk : k ≤ 64) : At s (nx s k) (below s k).length := by
  rcases nx_spec hs k with ⟨h1, h2⟩ | ⟨j, h1, h2, h3, h4, h5⟩
  · refine ⟨.inl ⟨h1, ?_⟩⟩
    show _ = (below s 64).length
    rw [show 64 = k + (64 - k) by omega, below_gap _ _ (fun i hi _ => h2 i (by omega))]
  · refine ⟨.inr ⟨j, h1, h2, h4, ?_⟩⟩
    rw [show j = k + (j - k) by omega, below_gap _ _ (fun i hi hj => h5 i (by omega) (by omega))]
theorem nx_start (s : Nat) : nx s (-5) = nx s (0 : Nat) := rfl

theorem cnt_two {s u v : Nat} (h : ∀ j, s.testBit j = (u.testBit j || v.testBit j)) (k : ∀ j, (u.testBit j && v.testBit j) = false) : ∀ m, (below u m).length + (below v m).length = (below s m).length
  | 0 => rfl
  | m + 1 => by
    have ih := cnt_two h k m
    have h1 := h m
    have h2 := k m
    rw [below_succ, below_succ, below_succ]
    cases hu : u.testBit m <;> cases hv : v.testBit m <;> simp_all <;> omega

section
variable {s : Nat} (hs : s < 18446744073709551616) (k : Nat)
theorem g_low (hs : s < 18446744073709551616) (k : Nat) (j : Nat) : (bw s 0 ((k : Int) - 1)).testBit j = (s.testBit j && decide (j < k)) := by
  rw [bw_bit hs]
  by_cases h : j < k
  · have : (j : Int) ≤ (k : Int) - 1 := by omega
    simp [h, this]
  · have : ¬ (j : Int) ≤ (k : Int) - 1 := by omega
    simp [h, this]
theorem g_high (hs : s < 18446744073709551616) (k : Nat) (j : Nat) : (bw s k 63).testBit j = (s.testBit j && decide (k ≤ j)) := by
  rw [bw_bit hs]
  by_cases hj : j < 64
  · have : (j : Int) ≤ 63 := by omega
    by_cases h : k ≤ j
    · have : (k : Int) ≤ j := by omega
      simp [*]
    · have : ¬ (k : Int) ≤ j := by omega
      simp [*]
  · simp [high_bit hs (show 64 ≤ j by omega)]
end
theorem g_or {s : Nat} (hs : s < 18446744073709551616) (k : Nat) : bw s 0 ((k : Int) - 1) ||| bw s k 63 = s := by
  apply Nat.eq_of_testBit_eq
  intro j
  rw [Nat.testBit_or, g_low hs, g_high hs]
  by_cases h : j < k
  · have : ¬ k ≤ j := by omega
    simp [h, this]
  · have : k ≤ j := by omega
    simp [h, this]
theorem g_and {s : Nat} (hs : s < 18446744073709551616) (k : Nat) : bw s 0 ((k : Int) - 1) &&& bw s k 63 = 0 := by
  apply Nat.eq_of_testBit_eq
  intro j
  rw [Nat.testBit_and, g_low hs, g_high hs, Nat.zero_testBit]
  by_cases h : j < k
  · have : ¬ k ≤ j := by omega
    simp [h, this]
  · simp [h]
theorem g_cnt {s : Nat} (hs : s < 18446744073709551616) (k : Nat) : cnt (bw s 0 ((k : Int) - 1)) + cnt (bw s k 63) = cnt s := by
  refine cnt_two (fun j => ?_) (fun j => ?_) 64
  · have := congrArg (Nat.testBit · j) (g_or hs k)
    simp only [Nat.testBit_or] at this
    exact this.symm
  · have := congrArg (Nat.testBit · j) (g_and hs k)
    simpa only [Nat.testBit_and, Nat.zero_testBit] using this
theorem g_next {s : Nat} (hs : s < 18446744073709551616) (k : Nat) : nx (bw s k 63) 0 = nx s k := by
  have e : bw s k 63 &&& sn 0 = s &&& sn k := by
    apply Nat.eq_of_testBit_eq
    intro j
    rw [Nat.testBit_and, Nat.testBit_and, g_high hs, sn_bit, sn_bit]
    by_cases hj : j < 64
    · by_cases h : k ≤ j
      · have h2 : (k : Int) ≤ j := by omega
        simp [h, h2, hj]
      · have h2 : ¬ (k : Int) ≤ j := by omega
        simp [h, h2]
    · simp [hj]
  unfold nx
  rw [e]
theorem in_out_same {s : Nat} (hs : s < 18446744073709551616) {j : Nat} (hj : j < 64) (h : s.testBit j = true) : wi (wo s j) j = s := by
  apply Nat.eq_of_testBit_eq
  intro i
  rw [wi_bit, wo_bit hs]
  by_cases h1 : (j : Int) = i
  · obtain rfl : j = i := by omega
    simp [h, hj]
  · simp [h1]
theorem has_bit {s j : Nat} (h : s.testBit j = true) : has s j = true := by simp [has, h]
theorem has_out {s : Nat} (hs : s < 18446744073709551616) (j : Nat) : has (wo s j) j = false := by simp [has, wo_bit hs]

end Go.Proofs.YtakpalnhjmkkeaaDoor
