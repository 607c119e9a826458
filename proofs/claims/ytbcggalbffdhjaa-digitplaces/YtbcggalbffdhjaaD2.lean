/- The small functions of layer 5, and of the document: times, bits, slots, digits, floors. -/
import Derived.Test.YtbcggalbffdhjaaRows
import Derived.Test.YtbcggalbffdhjaaBase
import Derived.Test.YtbcggalbffdhjaaD1
import Derived.WalkKit
import Derived.WalkSpells
import Derived.BigQuiet
import Derived.Lib.Hide
import Derived.IntWalk
import Derived.Laws.Shifts
namespace Go.Proofs.Ytbcggalbffdhjaa
open Go.RowKit

theorem astime_any (n : Int) (w : World) :
    Calls Try.prog 19 #[.int .i64 n] w fun e w' => e = .returned (.int .i64 (tm n)) ∧ w' = w := by
  go_enter Try.func19, Try.ntmps19
  go_wp2
  all_goals go_ret
  all_goals refine ⟨ret_int ?_, rfl⟩
  all_goals (unfold tm; repeat' split) <;> omega

theorem asbits_any (n : Int) (w : World) :
    Calls Try.prog 23 #[.int .i64 n] w fun e w' => e = .returned (.int .i64 (bt n)) ∧ w' = w := by
  go_enter Try.func23, Try.ntmps23
  go_wp2
  all_goals go_ret
  all_goals refine ⟨ret_int ?_, rfl⟩
  all_goals (unfold bt; repeat' split) <;> omega

theorem rtime_any (n : Int) (w : World) :
    Calls Try.prog 25 #[.int .i64 n] w fun e w' => e = .returned (.int .i64 (tm n)) ∧ w' = w := by
  go_enter Try.func25, Try.ntmps25
  go_wp2
  all_goals go_ret
  all_goals refine ⟨ret_int ?_, rfl⟩
  all_goals (unfold tm; repeat' split) <;> omega

/-- how many bits are below a level. -/
def bel (l b : Int) : Int := lv l * bt b
theorem bel_in (l b : Int) : 0 ≤ bel l b ∧ bel l b ≤ 192 := by
  have h1 := lv_in l
  have h2 := bt_in b
  unfold bel
  generalize lv l = x at *
  generalize bt b = y at *
  constructor
  · exact Int.mul_nonneg (by omega) (by omega)
  · have h3 : x * y ≤ 32 * y := Int.mul_le_mul_of_nonneg_right (by omega) (by omega)
    omega
theorem bel_nat (l b : Int) : (bel l b).toNat = lN l * (bt b).toNat := by
  have h1 := lv_in l
  have h2 := bt_in b
  unfold bel lN
  rw [Int.toNat_mul (by omega) (by omega)]

theorem below5_any (l b : Int) (w : World) :
    Calls Try.prog 20 #[.int .i64 l, .int .i64 b] w fun e w' => e = .returned (.int .i64 (bel l b)) ∧ w' = w := by
  obtain ⟨x0, x1⟩ := bel_in l b
  obtain ⟨l0, l1⟩ := lv_in l
  obtain ⟨b0, b1⟩ := bt_in b
  have c := asbits_any b w
  unfold bel at *
  generalize bt b = B at *
  rcases (by unfold lv; split <;> (try split) <;> omega : (l < 0 ∧ lv l = 0) ∨ (0 ≤ l ∧ 32 < l ∧ lv l = 32) ∨ (0 ≤ l ∧ l ≤ 32 ∧ lv l = l)) with ⟨h, e⟩ | ⟨h, h1, e⟩ | ⟨h, h1, e⟩
  all_goals
    rw [e] at x0 x1 ⊢
    clear e l0 l1
    go_enter Try.func20, Try.ntmps20
    go_wp2_with fail
    refine c.mono ?_
    rintro e w1 ⟨rfl, rfl⟩
    go_wp2
    go_ret
    exact ⟨ret_int (by omega), rfl⟩

theorem lastslot_any (b : Int) (w : World) :
    Calls Try.prog 21 #[.int .i64 b] w fun e w' => e = .returned (.int .i64 ((sN b : Int) - 1)) ∧ w' = w := by
  have c := asbits_any b w
  obtain ⟨b0, b1⟩ := bt_in b
  have hs := Lib.hid (show (2 : Int) ^ (bt b).toNat = sN b by unfold sN; push_cast; rfl)
  obtain ⟨s0, s1⟩ := sN_in b
  generalize bt b = B at *
  generalize sN b = S at *
  go_enter Try.func21, Try.ntmps21
  go_wp2_with fail
  refine c.mono ?_
  rintro e w1 ⟨rfl, rfl⟩
  go_wp2
  go_ret
  refine ⟨ret_int ?_, rfl⟩
  rw [hs.out]
  unfold wrap64
  omega

theorem size_any (b : Int) (w : World) :
    Calls Try.prog 24 #[.int .i64 b] w fun e w' => e = .returned (.int .i64 (sN b)) ∧ w' = w := by
  go_enter Try.func24, Try.ntmps24
  go_wp2
  go_loop [3, 4] (fun p i => ∃ k : Nat, 1 ≤ k ∧ k ≤ (bt b).toNat ∧ i = .int .i64 k ∧ p = .int .i64 ((2 ^ k : Nat) : Int)) (fun _ i => (6 - intOf i).toNat)
  case atStart => exact ⟨1, by omega, by have := bt_in b; omega, rfl, rfl⟩
  case round =>
    obtain ⟨k, hk0, hk1, rfl, rfl⟩ := hrel
    have hb := bt_in b
    have h6 : 2 ^ k ≤ 2 ^ 6 := Nat.pow_le_pow_right (by decide) (by omega)
    have e6 : (2 : Nat) ^ 6 = 64 := by decide
    rw [e6] at h6
    have hs := Lib.hid (Nat.pow_succ (n := 2) (m := k))
    by_cases hlt : (k : Int) < bt b
    · have h1 : (k : Int) < b ∧ (k : Int) < 6 := by unfold bt at hlt; split at hlt <;> (try split at hlt) <;> omega
      obtain ⟨h1, h2⟩ := h1
      clear hlt e6
      generalize hX : 2 ^ k = X at *
      have HX := Lib.hid hX
      clear hX
      go_wp2
      go_round
      case rel =>
        refine ⟨k + 1, by omega, by unfold bt; split <;> (try split) <;> omega, by simp, ?_⟩
        rw [hs.out]; push_cast; rfl
      case measure => simp [intOf]; omega
    · have h1 : ¬ ((k : Int) < b ∧ (k : Int) < 6) := by unfold bt at hlt; split at hlt <;> (try split at hlt) <;> omega
      have he := Lib.hid (show (2 ^ k : Nat) = sN b by unfold sN; congr 1; omega)
      clear hlt e6 hs
      generalize 2 ^ k = X at *
      go_wp2
      all_goals go_ret
      all_goals exact ⟨ret_int (by rw [he.out]), rfl⟩

end Go.Proofs.Ytbcggalbffdhjaa
