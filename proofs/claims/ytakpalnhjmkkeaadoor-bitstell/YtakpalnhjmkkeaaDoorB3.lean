/- The small functions of layer 6: masks, slots in and out, counts. -/
import Derived.Test.YtakpalnhjmkkeaaDoorRows
import Derived.Test.YtakpalnhjmkkeaaDoorBase
import Derived.Test.YtakpalnhjmkkeaaDoorB2
import Derived.WalkKit
import Derived.WalkSpells
import Derived.BigQuiet
import Derived.Lib.Hide
import Derived.IntWalk
import Derived.Laws.Shifts
namespace Go.Proofs.YtakpalnhjmkkeaaDoor
open Go.RowKit

theorem wrap_nat {n : Nat} (h : n < 18446744073709551616) : IntKind.u64.wrap (n : Int) = n := by rw [IntKind.wrap_u64]; omega

theorem shl_one (n : Nat) : IntKind.u64.wrap (1 * 2 ^ min n 64) = (on n : Nat) := by
  unfold on
  by_cases h : n < 64
  · rw [if_pos (by omega), show min n 64 = n by omega, Int.one_mul, show ((2 : Int) ^ n) = ((2 ^ n : Nat) : Int) by push_cast; rfl, wrap_nat (pow_lt_m64 h)]
    simp
  · rw [if_neg (by omega), show min n 64 = 64 by omega]; decide

theorem only_any (i : Int) (w : World) :
    Calls Tryd.prog 23 #[.int .i64 i] w fun e w' => e = .returned (.int .u64 (on i : Nat)) ∧ w' = w := by
  by_cases h : i < 0
  · have e : on i = 0 := by unfold on; rw [if_neg (by omega)]
    rw [e]
    go_enter Tryd.func23, Tryd.ntmps23
    go_wp2
    go_ret
    exact ⟨rfl, rfl⟩
  · obtain ⟨n, rfl⟩ := Int.eq_ofNat_of_zero_le (show 0 ≤ i by omega)
    have H := Lib.hid (shl_one n)
    generalize on n = X at *
    go_enter Tryd.func23, Tryd.ntmps23
    go_wp2
    go_ret
    exact ⟨ret_int (by simpa [IntKind.bits] using H.out), rfl⟩

theorem shl_all (n : Nat) : IntKind.u64.wrap (18446744073709551615 * 2 ^ min n 64) = (sn n : Nat) := by
  unfold sn
  have h1 := pow_le_m64 (show min n 64 ≤ 64 by omega)
  have h2 := Nat.two_pow_pos (min n 64)
  rw [IntKind.wrap_u64, show ((n : Int).toNat) = n by simp, show ((2 : Int) ^ min n 64) = ((2 ^ min n 64 : Nat) : Int) by push_cast; rfl]
  generalize 2 ^ min n 64 = X at *
  omega

theorem since_any (f : Int) (w : World) :
    Calls Tryd.prog 25 #[.int .i64 f] w fun e w' => e = .returned (.int .u64 (sn f : Nat)) ∧ w' = w := by
  by_cases h : f < 0
  · have e : sn f = 18446744073709551615 := by unfold sn; rw [show f.toNat = 0 by omega]; decide
    rw [e]
    go_enter Tryd.func25, Tryd.ntmps25
    go_wp2
    go_ret
    exact ⟨ret_int (by decide), rfl⟩
  · obtain ⟨n, rfl⟩ := Int.eq_ofNat_of_zero_le (show 0 ≤ f by omega)
    have H := Lib.hid (shl_all n)
    generalize sn n = X at *
    go_enter Tryd.func25, Tryd.ntmps25
    go_wp2
    go_ret
    exact ⟨ret_int (by simpa [IntKind.bits] using H.out), rfl⟩

theorem not_nat {a : Nat} (ha : a < 18446744073709551616) : bits .xor .u64 IntKind.u64.max (a : Int) = (no a : Nat) := by
  have h := u64_xor_nat 18446744073709551615 a (by decide) ha
  have e : (18446744073709551615 : Nat) ^^^ a = no a := by
    apply Nat.eq_of_testBit_eq
    intro j
    rw [Nat.testBit_xor, no_bit ha, show (18446744073709551615 : Nat) = 2 ^ 64 - 1 by decide, Nat.testBit_two_pow_sub_one]
    by_cases hj : j < 64
    · simp [hj]
    · simp [hj, high_bit ha (show 64 ≤ j by omega)]
  rw [e] at h
  exact h
theorem until_any (t : Int) (w : World) (ht : -9223372036854775808 ≤ t) :
    Calls Tryd.prog 26 #[.int .i64 t] w fun e w' => e = .returned (.int .u64 (un t : Nat)) ∧ w' = w := by
  have H := Lib.hid (until_is t)
  have c1 := fun v => since_any (min t 63 + 1) v
  have hs := sn_lt (min t 63 + 1)
  generalize sn (min t 63 + 1) = X at *
  generalize un t = Y at *
  rcases (by omega : (t ≤ 63 ∧ min t 63 = t) ∨ (63 < t ∧ min t 63 = 63)) with ⟨h, e⟩ | ⟨h, e⟩
  all_goals
    rw [e] at c1
    clear e
    go_enter Tryd.func26, Tryd.ntmps26
    go_wp2_with fail
    refine (c1 _).mono ?_
    rintro e w1 ⟨rfl, rfl⟩
    go_wp2
    go_ret
    exact ⟨ret_int (by rw [← H.out]; exact not_nat hs), rfl⟩

section
variable {s : Nat} (hs : s < 18446744073709551616)
include hs
theorem has_any (i : Int) (w : World) :
    Calls Tryd.prog 6 #[.int .u64 s, .int .i64 i] w fun e w' => e = .returned (.bool (has s i)) ∧ w' = w := by
  have c1 := fun v => only_any i v
  have H := Lib.hid (has_is hs i)
  have HA := Lib.hid (and_nat hs (on_lt i))
  generalize on i = X at *
  generalize has s i = Y at *
  go_enter Tryd.func6, Tryd.ntmps6
  go_wp2_with fail
  refine (c1 _).mono ?_
  rintro e w1 ⟨rfl, rfl⟩
  go_wp2
  go_ret
  refine ⟨ret_bool ?_, rfl⟩
  have e : (((s &&& X : Nat) : Int) == 0) = ((s &&& X) == 0) := by rw [Bool.eq_iff_iff]; simp only [beq_iff_eq]; omega
  rw [HA.out, ← H.out, ← e]; rfl

theorem with_any (i : Int) (w : World) :
    Calls Tryd.prog 8 #[.int .u64 s, .int .i64 i] w fun e w' => e = .returned (.int .u64 (wi s i : Nat)) ∧ w' = w := by
  have c1 := fun v => only_any i v
  have HA := Lib.hid (or_nat hs (on_lt i))
  unfold wi
  generalize on i = X at *
  go_enter Tryd.func8, Tryd.ntmps8
  go_wp2_with fail
  refine (c1 _).mono ?_
  rintro e w1 ⟨rfl, rfl⟩
  go_wp2
  go_ret
  exact ⟨ret_int HA.out, rfl⟩

theorem without_any (i : Int) (w : World) :
    Calls Tryd.prog 11 #[.int .u64 s, .int .i64 i] w fun e w' => e = .returned (.int .u64 (wo s i : Nat)) ∧ w' = w := by
  have c1 := fun v => only_any i v
  have HA := Lib.hid (andnot_nat hs (on_lt i))
  unfold wo
  generalize on i = X at *
  go_enter Tryd.func11, Tryd.ntmps11
  go_wp2_with fail
  refine (c1 _).mono ?_
  rintro e w1 ⟨rfl, rfl⟩
  go_wp2
  go_ret
  exact ⟨ret_int HA.out, rfl⟩

theorem between_any (f t : Int) (w : World) (ht : -9223372036854775808 ≤ t) :
    Calls Tryd.prog 14 #[.int .u64 s, .int .i64 f, .int .i64 t] w fun e w' => e = .returned (.int .u64 (bw s f t : Nat)) ∧ w' = w := by
  have c1 := fun v => since_any f v
  have c2 := fun v => until_any t v ht
  have HA := Lib.hid (and_nat hs (sn_lt f))
  have HB := Lib.hid (and_nat (and_lt hs (sn f)) (un_lt t))
  unfold bw
  generalize sn f = X at *
  generalize un t = Y at *
  go_enter Tryd.func14, Tryd.ntmps14
  go_wp2_with fail
  refine (c1 _).mono ?_
  rintro e w1 ⟨rfl, rfl⟩
  go_wp2_with fail
  refine (c2 _).mono ?_
  rintro e w1 ⟨rfl, rfl⟩
  go_wp2
  go_ret
  exact ⟨ret_int (by rw [HA.out, HB.out]), rfl⟩
end

end Go.Proofs.YtakpalnhjmkkeaaDoor
