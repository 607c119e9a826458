/- Contracts of the small functions of layer 1 and of the document's own: powers, parts, what is lowest. -/
import Derived.Test.YtihagkngjnblaaaRows
import Derived.Test.YtihagkngjnblaaaMath
import Derived.Test.YtihagkngjnblaaaBits
import Derived.WalkKit
import Derived.WalkSpells
import Derived.BigQuiet
import Derived.Lib.Hide
namespace Go.Proofs.Ytihagkngjnblaaa
open Go.RowKit

theorem ret_int {k : IntKind} {a b : Int} (h : a = b) : Ending.returned (.int k a) = .returned (.int k b) := by rw [h]
theorem ret_bool {a b : Bool} (h : a = b) : Ending.returned (.bool a) = .returned (.bool b) := by rw [h]
theorem ret_two {k l : IntKind} {a b c d : Int} (h : a = b) (g : c = d) : Ending.returned (.tuple #[.int k a, .int l c]) = .returned (.tuple #[.int k b, .int l d]) := by rw [h, g]

theorem power_any (n : Int) (w : World) (h0 : 0 ≤ n) (h1 : n ≤ 63) :
    Calls Try.prog 30 #[.int .i64 n] w fun e w' => e = .returned (.int .u64 (pw n)) ∧ w = w' := by
  go_enter Try.func30, Try.ntmps30
  go_wp2
  go_loop [3, 4] (fun p i => ∃ k : Int, 0 ≤ k ∧ k ≤ n ∧ i = .int .i64 k ∧ p = .int .u64 (pw k)) (fun _ i => (n - intOf i).toNat)
  case atStart => exact ⟨0, by omega, by omega, rfl, by rw [pw_zero]⟩
  case round =>
    obtain ⟨k, hk0, hk1, rfl, rfl⟩ := hrel
    have b0 := pw_pos k
    by_cases hlt : k < n
    · have b1 := pw_le_63 (k + 1) (by omega) (by omega)
      have hs := Lib.hid (pw_succ k hk0)
      have b2 : pw k * 2 ≤ 9223372036854775808 := by rw [← hs.out]; exact b1
      clear b1
      go_wp2
      go_round
      case rel => exact ⟨k + 1, by omega, by omega, rfl, by rw [hs.out]⟩
      case measure => simp [intOf]; omega
    · go_wp2
      go_ret
      exact ⟨ret_int (congrArg pw (by omega)), rfl⟩

theorem part_any (s t : Int) (w : World) :
    Calls Try.prog 28 #[.int .i64 s, .int .i64 t] w fun e w' => e = .returned (.bool (partB s t)) ∧ w = w' := by
  go_enter Try.func28, Try.ntmps28
  go_wp2
  all_goals go_ret
  all_goals refine ⟨ret_bool ?_, rfl⟩
  all_goals (rw [Bool.eq_iff_iff]; simp [partB]; omega)

theorem isPart_any (s t : Int) (w : World) (ht : t ≤ 9223372036854775807) :
    Calls Try.prog 26 #[.int .i64 s, .int .i64 t] w fun e w' => e = .returned (.bool (partB s t)) ∧ w = w' := by
  go_enter Try.func26, Try.ntmps26
  go_wp2
  all_goals go_ret
  all_goals refine ⟨ret_bool ?_, rfl⟩
  all_goals (rw [Bool.eq_iff_iff]; simp [partB]; omega)

theorem greatest_any (t : Int) (w : World) (h0 : 1 ≤ t) (h1 : t ≤ 64) :
    Calls Try.prog 27 #[.int .i64 t] w fun e w' => e = .returned (.int .u64 (pw t - 1)) ∧ w' = w := by
  go_enter Try.func27, Try.ntmps27
  go_wp2
  go_ret
  exact ⟨ret_int (greatest_eq t h0 h1), rfl⟩

theorem below_any (v t : Int) (w : World) (h0 : 0 ≤ v) (hv : v < 18446744073709551616) (ht0 : 1 ≤ t) (ht : t ≤ 64) :
    Calls Try.prog 29 #[.int .u64 v, .int .i64 t] w fun e w' => e = .returned (.int .u64 (v % pw t)) ∧ w = w' := by
  by_cases he : t = 64
  · subst he
    go_enter Try.func29, Try.ntmps29
    go_wp2
    go_ret
    exact ⟨ret_int (by rw [pw_64]; omega), rfl⟩
  · have hne : ((t : Int) == 64) = false := beq_eq_false_iff_ne.2 he
    have p1 := pw_pos t
    have p2 := pw_le_63 t (by omega) (by omega)
    go_enter Try.func29, Try.ntmps29
    go_wp2_with fail
    refine (power_any _ _ (by omega) (by omega)).mono ?_
    rintro e w' ⟨rfl, rfl⟩
    go_wp2
    go_ret
    exact ⟨rfl, rfl⟩

/-- Get, where there is such a part. -/
theorem get_part (v s t : Int) (w : World) (h0 : 0 ≤ v) (hv : v < 18446744073709551616) (hp : partB s t = true) :
    Calls Try.prog 11 #[.int .u64 v, .int .i64 s, .int .i64 t] w fun e w' => e = .returned (.int .u64 (getW v s t)) ∧ ∃ n, w' = w.drewN n := by
  obtain ⟨q0, q1, q2⟩ := partB_yes hp
  have Hget := Lib.hid (get_bits v s t hp h0 hv)
  go_enter Try.func11, Try.ntmps11
  go_wp2_with fail
  refine (isPart_any _ _ _ (by omega)).mono ?_
  rintro e w' ⟨rfl, rfl⟩
  rw [hp]
  clear hp
  go_wp2_with fail
  go_quiet ((go_at_call 27; exact Calls.quiet_of_same (greatest_any _ _ (by omega) (by omega))))
  go_wp2
  go_ret
  exact ⟨ret_int Hget.out, _, rfl⟩

theorem get_any (v s t : Int) (w : World) (h0 : 0 ≤ v) (hv : v < 18446744073709551616) (ht : t ≤ 9223372036854775807) :
    Calls Try.prog 11 #[.int .u64 v, .int .i64 s, .int .i64 t] w fun e w' => e = .returned (.int .u64 (getW v s t)) ∧ ∃ n, w' = w.drewN n := by
  by_cases hp : partB s t = true
  · exact get_part v s t w h0 hv hp
  · have hget : 0 = getW v s t := by simp [getW, hp]
    have Hget := Lib.hid hget
    clear hget
    have hp' : partB s t = false := by simpa using hp
    clear hp
    go_enter Try.func11, Try.ntmps11
    go_wp2_with fail
    refine (isPart_any _ _ _ (by omega)).mono ?_
    rintro e w' ⟨rfl, rfl⟩
    rw [hp']
    clear hp'
    go_wp2
    go_ret
    exact ⟨ret_int Hget.out, 0, rfl⟩

/-- The document's Get. -/
theorem rget_any (v s t : Int) (w : World) (h0 : 0 ≤ v) (hv : v < 18446744073709551616) :
    Calls Try.prog 12 #[.int .u64 v, .int .i64 s, .int .i64 t] w fun e w' => e = .returned (.int .u64 (getW v s t)) ∧ w = w' := by
  by_cases hp : partB s t = true
  · obtain ⟨q0, q1, q2⟩ := partB_yes hp
    have hget : v / pw s % pw t = getW v s t := by simp [getW, hp]
    have Hget := Lib.hid hget
    clear hget
    have p0 := pw_pos s
    have p1 := pw_le_63 s q0 (by omega)
    have d0 : 0 ≤ v / pw s := Int.ediv_nonneg h0 (by omega)
    have d1 : v / pw s ≤ v := Int.ediv_le_self _ h0
    go_enter Try.func12, Try.ntmps12
    go_wp2_with fail
    refine (part_any _ _ _).mono ?_
    rintro e w' ⟨rfl, rfl⟩
    rw [hp]
    clear hp
    go_wp2_with fail
    refine (power_any _ _ (by omega) (by omega)).mono ?_
    rintro e w' ⟨rfl, rfl⟩
    go_wp2_with fail
    refine (below_any _ _ _ (by omega) (by omega) (by omega) (by omega)).mono ?_
    rintro e w' ⟨rfl, rfl⟩
    go_wp2
    go_ret
    exact ⟨ret_int Hget.out, rfl⟩
  · have hget : 0 = getW v s t := by simp [getW, hp]
    have Hget := Lib.hid hget
    clear hget
    have hp' : partB s t = false := by simpa using hp
    clear hp
    go_enter Try.func12, Try.ntmps12
    go_wp2_with fail
    refine (part_any _ _ _).mono ?_
    rintro e w' ⟨rfl, rfl⟩
    rw [hp']
    clear hp'
    go_wp2
    go_ret
    exact ⟨ret_int Hget.out, rfl⟩

/-- Put: the word, and the error. -/
theorem put_any (v s t u : Int) (w : World) (h0 : 0 ≤ v) (hv : v < 18446744073709551616) (ht : t ≤ 9223372036854775807) (u0 : 0 ≤ u) (_hu : u < 18446744073709551616) :
    Calls Try.prog 8 #[.int .u64 v, .int .i64 s, .int .i64 t, .int .u64 u] w fun e w' => e = .returned (.tuple #[.int .u64 (putW v s t u), .int .i64 (putE s t u)]) ∧ ∃ n, w' = w.drewN n := by
  by_cases hp : partB s t = true
  · obtain ⟨q0, q1, q2⟩ := partB_yes hp
    have p0 := pw_pos t
    have p1 := pw_le_64 t (by omega) (by omega)
    by_cases hl : u < pw t
    · have Hput := Lib.hid (put_bits v s t u hp h0 hv u0 hl)
      have he : 0 = putE s t u := by simp [putE, hp, hl]
      have He := Lib.hid he
      clear he
      go_enter Try.func8, Try.ntmps8
      go_wp2_with fail
      refine (isPart_any _ _ _ (by omega)).mono ?_
      rintro e w' ⟨rfl, rfl⟩
      rw [hp]
      clear hp
      go_wp2_with fail
      refine (greatest_any _ _ (by omega) (by omega)).mono ?_
      rintro e w' ⟨rfl, rfl⟩
      go_wp2_with fail
      go_quiet ((go_at_call 27; exact Calls.quiet_of_same (greatest_any _ _ (by omega) (by omega))))
      go_wp2
      go_ret2
      exact ⟨ret_two Hput.out He.out, _, rfl⟩
    · have hput : 0 = putW v s t u := by simp [putW, hp, hl]
      have he : 2 = putE s t u := by simp [putE, hp, hl]
      have He := Lib.hid he
      have Hput := Lib.hid hput
      clear he hput
      have hl' : ¬ u ≤ pw t - 1 := by omega
      go_enter Try.func8, Try.ntmps8
      go_wp2_with fail
      refine (isPart_any _ _ _ (by omega)).mono ?_
      rintro e w' ⟨rfl, rfl⟩
      rw [hp]
      clear hp
      go_wp2_with fail
      refine (greatest_any _ _ (by omega) (by omega)).mono ?_
      rintro e w' ⟨rfl, rfl⟩
      go_wp2
      go_ret2
      exact ⟨ret_two Hput.out He.out, 0, rfl⟩
  · have hp' : partB s t = false := by simpa using hp
    have hput : 0 = putW v s t u := by simp [putW, hp']
    have he : 1 = putE s t u := by simp [putE, hp']
    have He := Lib.hid he
    have Hput := Lib.hid hput
    clear he hput hp
    go_enter Try.func8, Try.ntmps8
    go_wp2_with fail
    refine (isPart_any _ _ _ (by omega)).mono ?_
    rintro e w' ⟨rfl, rfl⟩
    rw [hp']
    clear hp'
    go_wp2
    go_ret2
    exact ⟨ret_two Hput.out He.out, 0, rfl⟩

/-- The document's Put. -/
theorem rput_any (v s t u : Int) (w : World) (h0 : 0 ≤ v) (hv : v < 18446744073709551616) (u0 : 0 ≤ u) (hu : u < 18446744073709551616) :
    Calls Try.prog 9 #[.int .u64 v, .int .i64 s, .int .i64 t, .int .u64 u] w fun e w' => e = .returned (.tuple #[.int .u64 (putW v s t u), .int .i64 (putE s t u)]) ∧ w = w' := by
  by_cases hp : partB s t = true
  · obtain ⟨q0, q1, q2⟩ := partB_yes hp
    have p0 := pw_pos t
    have p1 := pw_le_64 t (by omega) (by omega)
    by_cases hl : u < pw t
    · obtain ⟨f1, f2, f3, f4, f5, f6, f7⟩ := put_fits v s t u hp h0 hv u0 hl
      have hg : getW v s t = v / pw s % pw t := by simp [getW, hp]
      rw [← hg] at f1 f2 f5 f6 f7
      have ps := pw_pos s
      have f8 : 0 ≤ getW v s t * pw s := Int.mul_nonneg f1 (by omega)
      have hput : v - getW v s t * pw s + u * pw s = putW v s t u := by simp [putW, getW, hp, hl]
      have he : 0 = putE s t u := by simp [putE, hp, hl]
      have hm : u % pw t = u := Int.emod_eq_of_lt u0 hl
      have hne : ((u % pw t != u)) = false := by simp [hm]
      have hne' : (u != u) = false := by simp
      have He := Lib.hid he
      have Hput := Lib.hid hput
      have Hm := Lib.hid hm
      clear he hput hg hne hm
      go_enter Try.func9, Try.ntmps9
      go_wp2_with fail
      refine (part_any _ _ _).mono ?_
      rintro e w' ⟨rfl, rfl⟩
      rw [hp]
      clear hp
      go_wp2_with fail
      refine (below_any _ _ _ (by omega) (by omega) (by omega) (by omega)).mono ?_
      rintro e w' ⟨rfl, rfl⟩
      rw [Hm.out]
      go_wp2_with fail
      refine (rget_any _ _ _ _ (by omega) (by omega)).mono ?_
      rintro e w' ⟨rfl, rfl⟩
      go_wp2_with fail
      refine (power_any _ _ (by omega) (by omega)).mono ?_
      rintro e w' ⟨rfl, rfl⟩
      go_wp2_with fail
      refine (power_any _ _ (by omega) (by omega)).mono ?_
      rintro e w' ⟨rfl, rfl⟩
      go_wp2
      go_ret2
      exact ⟨ret_two Hput.out He.out, rfl⟩
    · have hput : 0 = putW v s t u := by simp [putW, hp, hl]
      have he : 2 = putE s t u := by simp [putE, hp, hl]
      have hlt : u % pw t < pw t := Int.emod_lt_of_pos _ (by omega)
      have hne : ((u % pw t != u)) = true := bne_iff_ne.2 (by omega)
      have He := Lib.hid he
      have Hput := Lib.hid hput
      clear he hput hlt
      go_enter Try.func9, Try.ntmps9
      go_wp2_with fail
      refine (part_any _ _ _).mono ?_
      rintro e w' ⟨rfl, rfl⟩
      rw [hp]
      clear hp
      go_wp2_with fail
      refine (below_any _ _ _ (by omega) (by omega) (by omega) (by omega)).mono ?_
      rintro e w' ⟨rfl, rfl⟩
      go_wp2
      go_ret2
      exact ⟨ret_two Hput.out He.out, rfl⟩
  · have hp' : partB s t = false := by simpa using hp
    have hput : 0 = putW v s t u := by simp [putW, hp']
    have he : 1 = putE s t u := by simp [putE, hp']
    have He := Lib.hid he
    have Hput := Lib.hid hput
    clear he hput hp
    go_enter Try.func9, Try.ntmps9
    go_wp2_with fail
    refine (part_any _ _ _).mono ?_
    rintro e w' ⟨rfl, rfl⟩
    rw [hp']
    clear hp'
    go_wp2
    go_ret2
    exact ⟨ret_two Hput.out He.out, rfl⟩

end Go.Proofs.Ytihagkngjnblaaa
