/- The law: what is due isn't due ahead of its deadline, and no later than the slack behind it. -/
import Derived.Test.YtplbebfiebojhaaR1
namespace Go.Proofs.Ytplbebfiebojhaa
open Go.RowKit

/-- two deadlines x and y, that are due at u and v. -/
structure TwoDue (w : World) (x y s u v : Int) : Prop where
  x0 : 0 ≤ x
  x1 : x ≤ 1073741823
  y0 : 0 ≤ y
  y1 : y ≤ 1073741823
  ux : x ≤ u
  us : u ≤ x + s
  vy : y ≤ v
  vs : v ≤ y + s
  um : u % (s + 1) = 0
  c1 : Calls Try.prog 8 #[.int .i64 x, .int .i64 s] w fun e w' => e = .returned (.int .i64 u) ∧ w = w'
  c2 : Calls Try.prog 8 #[.int .i64 y, .int .i64 s] w fun e w' => e = .returned (.int .i64 v) ∧ w = w'
  c3 : u ≤ 1073741823 → Calls Try.prog 8 #[.int .i64 u, .int .i64 s] w fun e w' => e = .returned (.int .i64 u) ∧ w = w'
  c4 : Calls Try.prog 8 #[.int .i64 x, .int .i64 0] w fun e w' => e = .returned (.int .i64 x) ∧ w = w'
  c5 : Calls Try.prog 10 #[.int .i64 x, .int .i64 y, .int .i64 s] w fun e w' => e = .returned (.bool (u == v)) ∧ w = w'
  c6 : Calls Try.prog 10 #[.int .i64 y, .int .i64 x, .int .i64 s] w fun e w' => e = .returned (.bool (u == v)) ∧ w = w'
  le : x ≤ y → u ≤ v
  ge : y ≤ x → v ≤ u

theorem twoDue (w : World) {x y s : Int} (x0 : 0 ≤ x) (x1 : x ≤ 1073741823) (y0 : 0 ≤ y) (y1 : y ≤ 1073741823) (s0 : 0 ≤ s) (s1 : s ≤ 65535) : ∃ u v, TwoDue w x y s u v := by
  have ex : due x s = upv x s := by unfold due; rw [clk_same x0 x1, clk_same s0 (by omega)]
  have ey : due y s = upv y s := by unfold due; rw [clk_same y0 y1, clk_same s0 (by omega)]
  have ix := upv_in (d := x) s0
  have iy := upv_in (d := y) s0
  refine ⟨upv x s, upv y s, x0, x1, y0, y1, ix.1, ix.2, iy.1, iy.2, upv_dvd _ _, ?_, ?_, ?_, ?_, ?_, ?_, fun h => upv_mono h s0, fun h => upv_mono h s0⟩
  · rw [← ex]; exact up_any _ _ _
  · rw [← ey]; exact up_any _ _ _
  · intro hu
    have : due (upv x s) s = upv x s := by unfold due; rw [clk_same (by omega) hu, clk_same s0 (by omega), upv_stays s0]
    have c := up_any (upv x s) s w
    rw [this] at c; exact c
  · have : due x 0 = x := by unfold due; rw [clk_same x0 x1, show clk 0 = 0 from rfl, upv_zero]
    have c := up_any x 0 w
    rw [this] at c; exact c
  · rw [← ex, ← ey]; exact batch_any _ _ _ _
  · have c := batch_any y x s w
    rw [ex, ey, show (upv y s == upv x s) = (upv x s == upv y s) from Bool.beq_comm] at c; exact c

set_option maxHeartbeats 1000000 in
theorem within_law (a b s : Int) (w : World) (ha : 0 ≤ a ∧ a < 4294967296) (hb : 0 ≤ b ∧ b < 4294967296) (hs : 0 ≤ s ∧ s < 65536) :
    Calls Try.prog 4 #[.int .u32 a, .int .u32 b, .int .u16 s] w fun e w' => e = .returned (.bool true) ∧ Below w.heap.size w w' := by
  obtain ⟨u, v, T⟩ := twoDue w (x := a / 4) (y := b / 4) (s := s) (by omega) (by omega) (by omega) (by omega) (by omega) (by omega)
  go_enter Try.func4, Try.ntmps4
  go_wp2_with fail
  refine (speaks4_any _).mono ?_
  rintro e w1 ⟨rfl, rfl⟩
  go_wp2_with fail
  generalize a / 4 = x at *
  generalize b / 4 = y at *
  obtain ⟨x0, x1, y0, y1, ux, us, vy, vs, um, c1, c2, c3, c4, c5, c6, le, ge⟩ := T
  refine c1.mono ?_
  rintro e w1 ⟨rfl, rfl⟩
  go_wp2_with fail
  refine c2.mono ?_
  rintro e w1 ⟨rfl, rfl⟩
  clear c1 c2
  have h3 : (¬ x ≤ y ∧ y ≤ x ∧ v ≤ u) ∨ (x ≤ y ∧ ¬ y ≤ x ∧ u ≤ v) ∨ (x ≤ y ∧ y ≤ x ∧ u ≤ v ∧ v ≤ u) := by
    by_cases h : x ≤ y <;> by_cases k : y ≤ x
    · have := le h; have := ge k; omega
    · have := le h; omega
    · have := ge k; omega
    · omega
  clear le ge
  generalize (u == v) = q at *
  by_cases hu : u ≤ 1073741823
  · have c3 := c3 hu
    rcases h3 with ⟨hx, hy, hz⟩ | ⟨hx, hy, hz⟩ | ⟨hx, hy, hz, hz2⟩
    all_goals
      go_wp2_with fail
      refine c3.mono ?_
      rintro e w1 ⟨rfl, rfl⟩
      go_wp2_with fail
      refine c4.mono ?_
      rintro e w1 ⟨rfl, rfl⟩
      go_wp2_with fail
      refine c5.mono ?_
      rintro e w1 ⟨rfl, rfl⟩
      go_wp2_with fail
      refine c6.mono ?_
      rintro e w1 ⟨rfl, rfl⟩
      go_wp2
      go_ret
      exact ⟨ret_bool (by simp), Below.refl _ _⟩
  · clear c3
    rcases h3 with ⟨hx, hy, hz⟩ | ⟨hx, hy, hz⟩ | ⟨hx, hy, hz, hz2⟩
    all_goals
      go_wp2_with fail
      refine c4.mono ?_
      rintro e w1 ⟨rfl, rfl⟩
      go_wp2_with fail
      refine c5.mono ?_
      rintro e w1 ⟨rfl, rfl⟩
      go_wp2_with fail
      refine c6.mono ?_
      rintro e w1 ⟨rfl, rfl⟩
      go_wp2
      go_ret
      exact ⟨ret_bool (by simp), Below.refl _ _⟩
end Go.Proofs.Ytplbebfiebojhaa
