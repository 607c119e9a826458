/- Times and when deadlines are due: the small functions of layer 4, and of the document. -/
import Derived.Test.YtplbebfiebojhaaRows
import Derived.Test.YtplbebfiebojhaaBase
import Derived.WalkKit
import Derived.WalkSpells
import Derived.BigQuiet
import Derived.Lib.Hide
import Derived.IntWalk
namespace Go.Proofs.Ytplbebfiebojhaa
open Go.RowKit

/-- a number as a time. -/
def clk (t : Int) : Int := if t < 0 then 0 else if 1073741823 < t then 1073741823 else t
theorem clk_in (t : Int) : 0 ≤ clk t ∧ clk t ≤ 1073741823 := by unfold clk; split <;> (try split) <;> omega
theorem clk_same {t : Int} (h0 : 0 ≤ t) (h1 : t ≤ 1073741823) : clk t = t := by unfold clk; split <;> (try split) <;> omega

/-- when a deadline (a time) is due with a slack (a time). -/
def upv (d s : Int) : Int := (d + s) / (s + 1) * (s + 1)
/-- when a deadline is due. -/
def due (d s : Int) : Int := upv (clk d) (clk s)

theorem upv_in {d s : Int} (h1 : 0 ≤ s) : d ≤ upv d s ∧ upv d s ≤ d + s := by
  unfold upv
  have h := Int.emod_add_mul_ediv (d + s) (s + 1)
  have h2 := Int.emod_nonneg (d + s) (show s + 1 ≠ 0 by omega)
  have h3 := Int.emod_lt_of_pos (d + s) (show 0 < s + 1 by omega)
  rw [Int.mul_comm] at h
  omega
theorem due_in (d s : Int) : 0 ≤ due d s ∧ due d s ≤ 2147483646 := by
  have := clk_in d; have := clk_in s
  have := upv_in (d := clk d) (s := clk s) (by omega)
  unfold due; omega
theorem upv_dvd (d s : Int) : upv d s % (s + 1) = 0 := by unfold upv; exact Int.mul_emod_left _ _
theorem upv_mono {d e s : Int} (h : d ≤ e) (hs : 0 ≤ s) : upv d s ≤ upv e s := by
  unfold upv
  exact Int.mul_le_mul_of_nonneg_right (Int.ediv_le_ediv (by omega) (by omega)) (by omega)
/-- the document's own reckoning. -/
theorem upv_rem {d s : Int} (h1 : 0 ≤ s) : upv d s = if d % (s + 1) = 0 then d else d + (s + 1) - d % (s + 1) := by
  have h := Int.emod_add_mul_ediv d (s + 1)
  have h2 := Int.emod_nonneg d (show s + 1 ≠ 0 by omega)
  have h3 := Int.emod_lt_of_pos d (show 0 < s + 1 by omega)
  have hq : (d + s) / (s + 1) = d / (s + 1) + (d % (s + 1) + s) / (s + 1) := by
    conv => lhs; rw [← h]
    rw [show d % (s + 1) + (s + 1) * (d / (s + 1)) + s = d % (s + 1) + s + (s + 1) * (d / (s + 1)) by omega]
    rw [Int.add_mul_ediv_left _ _ (by omega), Int.add_comm]
  unfold upv
  rw [hq]
  generalize d / (s + 1) = p at *
  generalize d % (s + 1) = r at *
  split
  · rw [Int.ediv_eq_zero_of_lt (by omega) (by omega), Int.add_zero, Int.mul_comm]; omega
  · rw [show r + s = (r - 1) + (s + 1) * 1 by omega, Int.add_mul_ediv_left _ _ (by omega), Int.ediv_eq_zero_of_lt (by omega) (by omega), Int.zero_add, Int.add_mul, Int.mul_comm]; omega
theorem upv_stays {d s : Int} (h1 : 0 ≤ s) : upv (upv d s) s = upv d s := by
  rw [upv_rem h1, if_pos (upv_dvd _ _)]
theorem upv_zero (d : Int) : upv d 0 = d := by unfold upv; simp

theorem astime_any (n : Int) (w : World) :
    Calls Try.prog 16 #[.int .i64 n] w fun e w' => e = .returned (.int .i64 (clk n)) ∧ w = w' := by
  go_enter Try.func16, Try.ntmps16
  go_wp2
  all_goals go_ret
  all_goals refine ⟨ret_int ?_, rfl⟩
  all_goals (unfold clk; repeat' split) <;> omega

theorem rclock_any (n : Int) (w : World) :
    Calls Try.prog 17 #[.int .i64 n] w fun e w' => e = .returned (.int .i64 (clk n)) ∧ w = w' := by
  go_enter Try.func17, Try.ntmps17
  go_wp2
  all_goals go_ret
  all_goals refine ⟨ret_int ?_, rfl⟩
  all_goals (unfold clk; repeat' split) <;> omega

theorem up_any (d s : Int) (w : World) :
    Calls Try.prog 8 #[.int .i64 d, .int .i64 s] w fun e w' => e = .returned (.int .i64 (due d s)) ∧ w = w' := by
  have c1 := astime_any s w
  have c2 := astime_any d w
  obtain ⟨d0, d1⟩ := clk_in d
  obtain ⟨s0, s1⟩ := clk_in s
  obtain ⟨u0, u1⟩ := upv_in (d := clk d) s0
  unfold due
  generalize clk d = D at *
  generalize clk s = S at *
  unfold upv at *
  go_enter Try.func8, Try.ntmps8
  go_wp2_with fail
  refine c1.mono ?_
  rintro e w1 ⟨rfl, rfl⟩
  go_wp2_with fail
  refine c2.mono ?_
  rintro e w1 ⟨rfl, rfl⟩
  clear c1 c2
  go_wp2
  go_ret
  refine ⟨ret_int ?_, rfl⟩
  rw [show D + (S + 1) - 1 = D + S by omega]
  unfold wrap64
  omega

theorem rup_any (d s : Int) (w : World) :
    Calls Try.prog 9 #[.int .i64 d, .int .i64 s] w fun e w' => e = .returned (.int .i64 (due d s)) ∧ w = w' := by
  have c1 := rclock_any s w
  have c2 := rclock_any d w
  obtain ⟨d0, d1⟩ := clk_in d
  obtain ⟨s0, s1⟩ := clk_in s
  have hu := Lib.hid (upv_rem (d := clk d) s0)
  unfold due
  generalize clk d = D at *
  generalize clk s = S at *
  have h2 := Int.emod_nonneg D (show S + 1 ≠ 0 by omega)
  have h3 := Int.emod_lt_of_pos D (show 0 < S + 1 by omega)
  go_enter Try.func9, Try.ntmps9
  go_wp2_with fail
  refine c2.mono ?_
  rintro e w1 ⟨rfl, rfl⟩
  go_wp2_with fail
  refine c1.mono ?_
  rintro e w1 ⟨rfl, rfl⟩
  clear c1 c2
  go_wp2
  all_goals go_ret
  all_goals refine ⟨ret_int ?_, rfl⟩
  all_goals rw [hu.out]
  all_goals (rename_i h; have h' := h; simp at h'; split <;> omega)

theorem batch_any (a b s : Int) (w : World) :
    Calls Try.prog 10 #[.int .i64 a, .int .i64 b, .int .i64 s] w fun e w' => e = .returned (.bool (due a s == due b s)) ∧ w = w' := by
  have c1 := up_any a s w
  have c2 := up_any b s w
  generalize due a s = A at *
  generalize due b s = B at *
  go_enter Try.func10, Try.ntmps10
  go_wp2_with fail
  refine c1.mono ?_
  rintro e w1 ⟨rfl, rfl⟩
  go_wp2_with fail
  refine c2.mono ?_
  rintro e w1 ⟨rfl, rfl⟩
  clear c1 c2
  go_wp2
  go_ret
  exact ⟨ret_bool (by first | rfl | simp), rfl⟩

theorem speaks4_any (w : World) :
    Calls Try.prog 7 #[] w fun e w' => e = .returned (.bool true) ∧ w = w' := by
  have c1 := up_any 5 3 w
  have c2 := up_any 8 3 w
  have c3 := up_any 9 3 w
  rw [show due 5 3 = 8 by decide] at c1
  rw [show due 8 3 = 8 by decide] at c2
  rw [show due 9 3 = 12 by decide] at c3
  go_enter Try.func7, Try.ntmps7
  go_wp2_with fail
  refine c1.mono ?_
  rintro e w1 ⟨rfl, rfl⟩
  go_wp2_with fail
  refine c2.mono ?_
  rintro e w1 ⟨rfl, rfl⟩
  go_wp2_with fail
  refine c3.mono ?_
  rintro e w1 ⟨rfl, rfl⟩
  go_wp2
  go_ret
  exact ⟨rfl, rfl⟩

end Go.Proofs.Ytplbebfiebojhaa
