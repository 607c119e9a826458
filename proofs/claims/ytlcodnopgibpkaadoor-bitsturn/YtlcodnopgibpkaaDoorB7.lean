/- The law: a slot that is put into a set, or taken out, changes just that one. -/
import Derived.Test.YtlcodnopgibpkaaDoorB6
namespace Go.Proofs.YtlcodnopgibpkaaDoor
open Go.RowKit

theorem t_has_in (s : Nat) {a : Nat} (ha : a < 64) : has (wi s a) a = true := by simp [has, wi_bit, ha]
theorem t_has_out {s : Nat} (hs : s < 18446744073709551616) (a : Nat) : has (wo s a) a = false := by simp [has, wo_bit hs]
theorem t_out_in {s : Nat} (hs : s < 18446744073709551616) (a : Nat) : wo (wi s a) a = wo s a := by
  apply Nat.eq_of_testBit_eq
  intro j
  rw [wo_bit (wi_lt hs _), wo_bit hs, wi_bit]
  by_cases h : (a : Int) = j <;> simp [h]
theorem t_in_out {s a : Nat} (hs : s < 18446744073709551616) (ha : a < 64) : wi (wo s a) a = wi s a := by
  apply Nat.eq_of_testBit_eq
  intro j
  rw [wi_bit, wo_bit hs, wi_bit]
  by_cases h : (a : Int) = j
  · have : j < 64 := by omega
    simp [h, this]
  · simp [h]
theorem t_one {s : Nat} (hs : s < 18446744073709551616) (a : Nat) : s = wi s a ∨ s = wo s a := by
  cases h : s.testBit a
  · right
    apply Nat.eq_of_testBit_eq
    intro j
    rw [wo_bit hs]
    by_cases h1 : (a : Int) = j
    · obtain rfl : a = j := by omega
      simp [h]
    · simp [h1]
  · left
    apply Nat.eq_of_testBit_eq
    intro j
    rw [wi_bit]
    by_cases h1 : (a : Int) = j
    · obtain rfl : a = j := by omega
      simp [h]
    · simp [h1]

/-- sets that differ in one slot alone. -/
theorem below_one {u v a : Nat} (hu : u.testBit a = true) (hv : v.testBit a = false) (h : ∀ j, j ≠ a → u.testBit j = v.testBit j) : ∀ k, (below u k).length = (below v k).length + if a < k then 1 else 0
  | 0 => rfl
  | k + 1 => by
    have ih := below_one hu hv h k
    rw [below_succ, below_succ]
    by_cases hk : k = a
    · subst hk
      rw [hu, hv, if_pos rfl, if_neg (by simp), if_pos (by omega), List.length_append, ih, if_neg (by omega)]; rfl
    · rw [h k hk]
      by_cases hlt : a < k
      · rw [if_pos hlt] at ih
        rw [if_pos (show a < k + 1 by omega)]
        cases v.testBit k <;> simp [ih]
      · rw [if_neg hlt] at ih
        rw [if_neg (show ¬ a < k + 1 by omega)]
        cases v.testBit k <;> simp [ih]

theorem t_cnt {s a : Nat} (hs : s < 18446744073709551616) (ha : a < 64) : cnt (wi s a) = cnt (wo s a) + 1 := by
  have h := below_one (u := wi s a) (v := wo s a) (a := a) (by simp [wi_bit, ha]) (by simp [wo_bit hs]) (fun j hj => by
    have : ¬ (a : Int) = j := by omega
    simp [wi_bit, wo_bit hs, this]) 64
  rw [if_pos ha] at h
  exact h
theorem t_has_in2 (s : Nat) {a b : Nat} (hab : a ≠ b) : has (wi s a) b = has s b := by
  have : ¬ (a : Int) = b := by omega
  simp [has, wi_bit, this]
theorem t_has_out2 {s a b : Nat} (hs : s < 18446744073709551616) (hab : a ≠ b) : has (wo s a) b = has s b := by
  have : ¬ (a : Int) = b := by omega
  simp [has, wo_bit hs, this]
theorem t_turn1 (s a b : Nat) : wi (wi s a) b = wi (wi s b) a := by
  apply Nat.eq_of_testBit_eq
  intro j
  rw [wi_bit, wi_bit, wi_bit, wi_bit, Bool.or_assoc, Bool.or_assoc, Bool.or_comm (decide _)]
theorem t_turn2 {s a b : Nat} (hs : s < 18446744073709551616) (hab : a ≠ b) : wi (wo s a) b = wo (wi s b) a := by
  apply Nat.eq_of_testBit_eq
  intro j
  rw [wi_bit, wo_bit hs, wo_bit (wi_lt hs _), wi_bit]
  by_cases h1 : (a : Int) = j
  · have : ¬ (b : Int) = j := by omega
    simp [h1, this]
  · simp [h1]

set_option maxHeartbeats 4000000 in
theorem turn6_law (s i k : Nat) (w : World) (hT : Tab w) (hs : s < 18446744073709551616) (hi : i < 256) (hk : k < 256) :
    Calls Tryd.prog 6 #[.int .u64 s, .int .u8 i, .int .u8 k] w fun e w' => e = .returned (.bool true) ∧ Below w.heap.size w w' := by
  obtain ⟨a, hA⟩ : ∃ a, a = i % 64 := ⟨_, rfl⟩
  obtain ⟨b, hB⟩ : ∃ b, b = k % 64 := ⟨_, rfl⟩
  have ha : a < 64 := by omega
  have hb : b < 64 := by omega
  have EA := Lib.hid (show (i : Int) % 64 = a by omega)
  have EB := Lib.hid (show (k : Int) % 64 = b by omega)
  clear hA hB
  have li := wi_lt hs a
  have lo := wo_lt hs a
  have lj := wi_lt hs b
  have c1 := fun v => with_any hs a v
  have c2 := fun v => without_any hs a v
  have c3 := fun v => has_any li a v
  have c4 := fun v => has_any lo a v
  have c5 := fun v => without_any li a v
  have c6 := fun v => with_any lo a v
  have c7 := fun v => count_any li v
  have c8 := fun v => count_any lo v
  have c9 := fun v => has_any li b v
  have c10 := fun v => has_any hs b v
  have c11 := fun v => has_any lo b v
  have c12 := fun v => with_any li b v
  have c13 := fun v => with_any hs b v
  have c14 := fun v => with_any lj a v
  have c15 := fun v => with_any lo b v
  have c16 := fun v => without_any lj a v
  have l8 := cnt_le (wo s a)
  rw [t_has_in s ha] at c3
  rw [t_has_out hs] at c4
  rw [t_out_in hs] at c5
  rw [t_in_out hs ha] at c6
  rw [t_cnt hs ha] at c7
  rw [t_turn1 s a b] at c12
  have h1 := t_one hs a
  by_cases hab : a = b
  · subst hab
    clear c9 c10 c11 c12 c13 c14 c15 c16 lj
    generalize cnt (wo s a) = n at *
    generalize wi s a = I at *
    generalize wo s a = O at *
    by_cases hx : s = I
    · subst hx
      clear h1
      go_enter Tryd.func6, Tryd.ntmps6
      go_wp2_with fail
      refine (speaks6_any _ hT).mono ?_
      rintro e w1 ⟨rfl, k1⟩
      go_upto_region 4 with (fail)
      rw [EA.out, EB.out]
      go_wp2_with fail
      refine (c1 _).mono ?_
      rintro e w2 ⟨rfl, rfl⟩
      go_wp2_with fail
      refine (c2 _).mono ?_
      rintro e w2 ⟨rfl, rfl⟩
      go_wp2_with fail
      refine (c3 _).mono ?_
      rintro e w2 ⟨rfl, rfl⟩
      go_wp2_with fail
      refine (c4 _).mono ?_
      rintro e w2 ⟨rfl, rfl⟩
      go_wp2_with fail
      refine (c5 _).mono ?_
      rintro e w2 ⟨rfl, rfl⟩
      go_wp2_with fail
      refine (c6 _).mono ?_
      rintro e w2 ⟨rfl, rfl⟩
      go_wp2_with fail
      refine (c7 _).mono ?_
      rintro e w2 ⟨rfl, rfl⟩
      go_wp2_with fail
      refine (c8 _).mono ?_
      rintro e w2 ⟨rfl, rfl⟩
      go_wp2
      go_ret
      exact ⟨ret_bool (by simp), k1⟩
    · obtain rfl : s = O := by omega
      have hx' : ((s : Int) == (I : Int)) = false := by simp; omega
      have hx2 : ((s : Int) != (I : Int)) = true := by simp; omega
      clear h1 hx
      go_enter Tryd.func6, Tryd.ntmps6
      go_wp2_with fail
      refine (speaks6_any _ hT).mono ?_
      rintro e w1 ⟨rfl, k1⟩
      go_upto_region 4 with (fail)
      rw [EA.out, EB.out]
      go_wp2_with fail
      refine (c1 _).mono ?_
      rintro e w2 ⟨rfl, rfl⟩
      go_wp2_with fail
      refine (c2 _).mono ?_
      rintro e w2 ⟨rfl, rfl⟩
      go_wp2_with fail
      refine (c3 _).mono ?_
      rintro e w2 ⟨rfl, rfl⟩
      go_wp2_with fail
      refine (c4 _).mono ?_
      rintro e w2 ⟨rfl, rfl⟩
      go_wp2_with fail
      refine (c5 _).mono ?_
      rintro e w2 ⟨rfl, rfl⟩
      go_wp2_with fail
      refine (c6 _).mono ?_
      rintro e w2 ⟨rfl, rfl⟩
      go_wp2_with fail
      refine (c7 _).mono ?_
      rintro e w2 ⟨rfl, rfl⟩
      go_wp2_with fail
      refine (c8 _).mono ?_
      rintro e w2 ⟨rfl, rfl⟩
      go_wp2
      go_ret
      exact ⟨ret_bool (by simp), k1⟩
  · rw [t_has_in2 s hab] at c9
    rw [t_has_out2 hs hab] at c11
    rw [t_turn2 hs hab] at c15
    have hab' : ((a : Int) == (b : Int)) = false := by simp; omega
    generalize cnt (wo s a) = n at *
    generalize has s b = h at *
    generalize wi (wi s b) a = X at *
    generalize wo (wi s b) a = Y at *
    generalize wi s a = I at *
    generalize wo s a = O at *
    generalize wi s b = J at *
    by_cases hx : s = I
    · subst hx
      clear h1
      go_enter Tryd.func6, Tryd.ntmps6
      go_wp2_with fail
      refine (speaks6_any _ hT).mono ?_
      rintro e w1 ⟨rfl, k1⟩
      go_upto_region 4 with (fail)
      rw [EA.out, EB.out]
      go_wp2_with fail
      refine (c1 _).mono ?_
      rintro e w2 ⟨rfl, rfl⟩
      go_wp2_with fail
      refine (c2 _).mono ?_
      rintro e w2 ⟨rfl, rfl⟩
      go_wp2_with fail
      refine (c3 _).mono ?_
      rintro e w2 ⟨rfl, rfl⟩
      go_wp2_with fail
      refine (c4 _).mono ?_
      rintro e w2 ⟨rfl, rfl⟩
      go_wp2_with fail
      refine (c5 _).mono ?_
      rintro e w2 ⟨rfl, rfl⟩
      go_wp2_with fail
      refine (c6 _).mono ?_
      rintro e w2 ⟨rfl, rfl⟩
      go_wp2_with fail
      refine (c7 _).mono ?_
      rintro e w2 ⟨rfl, rfl⟩
      go_wp2_with fail
      refine (c8 _).mono ?_
      rintro e w2 ⟨rfl, rfl⟩
      go_wp2_with fail
      refine (c9 _).mono ?_
      rintro e w2 ⟨rfl, rfl⟩
      go_wp2_with fail
      refine (c10 _).mono ?_
      rintro e w2 ⟨rfl, rfl⟩
      go_wp2_with fail
      refine (c11 _).mono ?_
      rintro e w2 ⟨rfl, rfl⟩
      go_wp2_with fail
      refine (c10 _).mono ?_
      rintro e w2 ⟨rfl, rfl⟩
      go_wp2_with fail
      refine (c1 _).mono ?_
      rintro e w2 ⟨rfl, rfl⟩
      go_wp2_with fail
      refine (c12 _).mono ?_
      rintro e w2 ⟨rfl, rfl⟩
      go_wp2_with fail
      refine (c13 _).mono ?_
      rintro e w2 ⟨rfl, rfl⟩
      go_wp2_with fail
      refine (c14 _).mono ?_
      rintro e w2 ⟨rfl, rfl⟩
      go_wp2_with fail
      refine (c2 _).mono ?_
      rintro e w2 ⟨rfl, rfl⟩
      go_wp2_with fail
      refine (c15 _).mono ?_
      rintro e w2 ⟨rfl, rfl⟩
      go_wp2_with fail
      refine (c13 _).mono ?_
      rintro e w2 ⟨rfl, rfl⟩
      go_wp2_with fail
      refine (c16 _).mono ?_
      rintro e w2 ⟨rfl, rfl⟩
      go_wp2
      go_ret
      exact ⟨ret_bool (by simp), k1⟩
    · obtain rfl : s = O := by omega
      have hx' : ((s : Int) == (I : Int)) = false := by simp; omega
      have hx2 : ((s : Int) != (I : Int)) = true := by simp; omega
      clear h1 hx
      go_enter Tryd.func6, Tryd.ntmps6
      go_wp2_with fail
      refine (speaks6_any _ hT).mono ?_
      rintro e w1 ⟨rfl, k1⟩
      go_upto_region 4 with (fail)
      rw [EA.out, EB.out]
      go_wp2_with fail
      refine (c1 _).mono ?_
      rintro e w2 ⟨rfl, rfl⟩
      go_wp2_with fail
      refine (c2 _).mono ?_
      rintro e w2 ⟨rfl, rfl⟩
      go_wp2_with fail
      refine (c3 _).mono ?_
      rintro e w2 ⟨rfl, rfl⟩
      go_wp2_with fail
      refine (c4 _).mono ?_
      rintro e w2 ⟨rfl, rfl⟩
      go_wp2_with fail
      refine (c5 _).mono ?_
      rintro e w2 ⟨rfl, rfl⟩
      go_wp2_with fail
      refine (c6 _).mono ?_
      rintro e w2 ⟨rfl, rfl⟩
      go_wp2_with fail
      refine (c7 _).mono ?_
      rintro e w2 ⟨rfl, rfl⟩
      go_wp2_with fail
      refine (c8 _).mono ?_
      rintro e w2 ⟨rfl, rfl⟩
      go_wp2_with fail
      refine (c9 _).mono ?_
      rintro e w2 ⟨rfl, rfl⟩
      go_wp2_with fail
      refine (c10 _).mono ?_
      rintro e w2 ⟨rfl, rfl⟩
      go_wp2_with fail
      refine (c11 _).mono ?_
      rintro e w2 ⟨rfl, rfl⟩
      go_wp2_with fail
      refine (c10 _).mono ?_
      rintro e w2 ⟨rfl, rfl⟩
      go_wp2_with fail
      refine (c1 _).mono ?_
      rintro e w2 ⟨rfl, rfl⟩
      go_wp2_with fail
      refine (c12 _).mono ?_
      rintro e w2 ⟨rfl, rfl⟩
      go_wp2_with fail
      refine (c13 _).mono ?_
      rintro e w2 ⟨rfl, rfl⟩
      go_wp2_with fail
      refine (c14 _).mono ?_
      rintro e w2 ⟨rfl, rfl⟩
      go_wp2_with fail
      refine (c2 _).mono ?_
      rintro e w2 ⟨rfl, rfl⟩
      go_wp2_with fail
      refine (c15 _).mono ?_
      rintro e w2 ⟨rfl, rfl⟩
      go_wp2_with fail
      refine (c13 _).mono ?_
      rintro e w2 ⟨rfl, rfl⟩
      go_wp2_with fail
      refine (c16 _).mono ?_
      rintro e w2 ⟨rfl, rfl⟩
      go_wp2
      go_ret
      exact ⟨ret_bool (by simp), k1⟩

theorem turn6_nat (s i k : Int) (w : World) (hT : Tab w) (hs : 0 ≤ s ∧ s < 18446744073709551616) (hi : 0 ≤ i ∧ i < 256) (hk : 0 ≤ k ∧ k < 256) :
    Calls Tryd.prog 6 #[.int .u64 s, .int .u8 i, .int .u8 k] w fun e w' => e = .returned (.bool true) ∧ Below w.heap.size w w' := by
  obtain ⟨s', rfl⟩ := Int.eq_ofNat_of_zero_le hs.1
  obtain ⟨i', rfl⟩ := Int.eq_ofNat_of_zero_le hi.1
  obtain ⟨k', rfl⟩ := Int.eq_ofNat_of_zero_le hk.1
  exact turn6_law s' i' k' w hT (by omega) (by omega) (by omega)

end Go.Proofs.YtlcodnopgibpkaaDoor
