/- Contracts of the small functions of layer 1 and of the document's own: powers, parts, what is lowest. -/
import Derived.Test.YtgbepebihlmedaaDoorRows
import Derived.Test.YtgbepebihlmedaaDoorBase
import Derived.Test.YtgbepebihlmedaaDoorMath
import Derived.Test.YtgbepebihlmedaaDoorBits
import Derived.WalkKit
import Derived.WalkSpells
import Derived.BigQuiet
import Derived.Lib.Hide
namespace Go.Proofs.YtgbepebihlmedaaDoor
open Go.RowKit


theorem power_any (n : Int) (w : World) (h0 : 0 ≤ n) (h1 : n ≤ 63) :
    Calls Tryd.prog 49 #[.int .i64 n] w fun e w' => e = .returned (.int .u64 (pw n)) ∧ w = w' := by
  go_enter Tryd.func49, Tryd.ntmps49
  go_wp2
  go_loop [3, 4] (fun p i => ∃ k : Int, 0 ≤ k ∧ k ≤ n ∧ i = .int .i64 k ∧ p = .int .u64 (pw k)) (fun _ i => (n - intOf i).toNat)
  case atStart => exact ⟨0, by omega, by omega, rfl, by rw [pw_zero]⟩
  case round =>
    obtain ⟨k, hk0, hk1, rfl, rfl⟩ := hrel
    have b0 := pw_pos k
    by_cases hlt : k < n
    · have b1 := pw_le_63 (k + 1) (by omega) (by omega)
      have hs := Lib.hid (pw_succ k hk0)
      have b2 : pw k * 2 ≤ 9223372036854775808 := by rw [← hs.out]; exact b1
      clear b1
      go_wp2
      go_round
      case rel => exact ⟨k + 1, by omega, by omega, rfl, by rw [hs.out]⟩
      case measure => simp [intOf]; omega
    · go_wp2
      go_ret
      exact ⟨ret_int (congrArg pw (by omega)), rfl⟩

theorem isPart_any (s t : Int) (w : World) (ht : t ≤ 9223372036854775807) :
    Calls Tryd.prog 69 #[.int .i64 s, .int .i64 t] w fun e w' => e = .returned (.bool (partB s t)) ∧ w = w' := by
  go_enter Tryd.func69, Tryd.ntmps69
  go_wp2
  all_goals go_ret
  all_goals refine ⟨ret_bool ?_, rfl⟩
  all_goals (rw [Bool.eq_iff_iff]; simp [partB]; omega)

theorem greatest_any (t : Int) (w : World) (h0 : 1 ≤ t) (h1 : t ≤ 64) :
    Calls Tryd.prog 70 #[.int .i64 t] w fun e w' => e = .returned (.int .u64 (pw t - 1)) ∧ w' = w := by
  go_enter Tryd.func70, Tryd.ntmps70
  go_wp2
  go_ret
  exact ⟨ret_int (greatest_eq t h0 h1), rfl⟩

/-- Get, where there is such a part. -/
theorem get_part (v s t : Int) (w : World) (h0 : 0 ≤ v) (hv : v < 18446744073709551616) (hp : partB s t = true) :
    Calls Tryd.prog 65 #[.int .u64 v, .int .i64 s, .int .i64 t] w fun e w' => e = .returned (.int .u64 (getW v s t)) ∧ ∃ n, w' = w.drewN n := by
  obtain ⟨q0, q1, q2⟩ := partB_yes hp
  have Hget := Lib.hid (get_bits v s t hp h0 hv)
  go_enter Tryd.func65, Tryd.ntmps65
  go_wp2_with fail
  refine (isPart_any _ _ _ (by omega)).mono ?_
  rintro e w' ⟨rfl, rfl⟩
  rw [hp]
  clear hp
  go_wp2_with fail
  go_quiet ((go_at_call 70; exact Calls.quiet_of_same (greatest_any _ _ (by omega) (by omega))))
  go_wp2
  go_ret
  exact ⟨ret_int Hget.out, _, rfl⟩

theorem get_any (v s t : Int) (w : World) (h0 : 0 ≤ v) (hv : v < 18446744073709551616) (ht : t ≤ 9223372036854775807) :
    Calls Tryd.prog 65 #[.int .u64 v, .int .i64 s, .int .i64 t] w fun e w' => e = .returned (.int .u64 (getW v s t)) ∧ ∃ n, w' = w.drewN n := by
  by_cases hp : partB s t = true
  · exact get_part v s t w h0 hv hp
  · have hget : 0 = getW v s t := by simp [getW, hp]
    have Hget := Lib.hid hget
    clear hget
    have hp' : partB s t = false := by simpa using hp
    clear hp
    go_enter Tryd.func65, Tryd.ntmps65
    go_wp2_with fail
    refine (isPart_any _ _ _ (by omega)).mono ?_
    rintro e w' ⟨rfl, rfl⟩
    rw [hp']
    clear hp'
    go_wp2
    go_ret
    exact ⟨ret_int Hget.out, 0, rfl⟩

/-- Put: the word, and the error. -/
theorem put_any (v s t u : Int) (w : World) (h0 : 0 ≤ v) (hv : v < 18446744073709551616) (ht : t ≤ 9223372036854775807) (u0 : 0 ≤ u) (_hu : u < 18446744073709551616) :
    Calls Tryd.prog 68 #[.int .u64 v, .int .i64 s, .int .i64 t, .int .u64 u] w fun e w' => e = .returned (.tuple #[.int .u64 (putW v s t u), .int .i64 (putE s t u)]) ∧ ∃ n, w' = w.drewN n := by
  by_cases hp : partB s t = true
  · obtain ⟨q0, q1, q2⟩ := partB_yes hp
    have p0 := pw_pos t
    have p1 := pw_le_64 t (by omega) (by omega)
    by_cases hl : u < pw t
    · have Hput := Lib.hid (put_bits v s t u hp h0 hv u0 hl)
      have he : 0 = putE s t u := by simp [putE, hp, hl]
      have He := Lib.hid he
      clear he
      go_enter Tryd.func68, Tryd.ntmps68
      go_wp2_with fail
      refine (isPart_any _ _ _ (by omega)).mono ?_
      rintro e w' ⟨rfl, rfl⟩
      rw [hp]
      clear hp
      go_wp2_with fail
      refine (greatest_any _ _ (by omega) (by omega)).mono ?_
      rintro e w' ⟨rfl, rfl⟩
      go_wp2_with fail
      go_quiet ((go_at_call 70; exact Calls.quiet_of_same (greatest_any _ _ (by omega) (by omega))))
      go_wp2
      go_ret2
      exact ⟨ret_two Hput.out He.out, _, rfl⟩
    · have hput : 0 = putW v s t u := by simp [putW, hp, hl]
      have he : 2 = putE s t u := by simp [putE, hp, hl]
      have He := Lib.hid he
      have Hput := Lib.hid hput
      clear he hput
      have hl' : ¬ u ≤ pw t - 1 := by omega
      go_enter Tryd.func68, Tryd.ntmps68
      go_wp2_with fail
      refine (isPart_any _ _ _ (by omega)).mono ?_
      rintro e w' ⟨rfl, rfl⟩
      rw [hp]
      clear hp
      go_wp2_with fail
      refine (greatest_any _ _ (by omega) (by omega)).mono ?_
      rintro e w' ⟨rfl, rfl⟩
      go_wp2
      go_ret2
      exact ⟨ret_two Hput.out He.out, 0, rfl⟩
  · have hp' : partB s t = false := by simpa using hp
    have hput : 0 = putW v s t u := by simp [putW, hp']
    have he : 1 = putE s t u := by simp [putE, hp']
    have He := Lib.hid he
    have Hput := Lib.hid hput
    clear he hput hp
    go_enter Tryd.func68, Tryd.ntmps68
    go_wp2_with fail
    refine (isPart_any _ _ _ (by omega)).mono ?_
    rintro e w' ⟨rfl, rfl⟩
    rw [hp']
    clear hp'
    go_wp2
    go_ret2
    exact ⟨ret_two Hput.out He.out, 0, rfl⟩

end Go.Proofs.YtgbepebihlmedaaDoor
