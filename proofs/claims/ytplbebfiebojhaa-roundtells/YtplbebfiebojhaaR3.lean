/- Sums of times. -/
import Derived.Test.YtplbebfiebojhaaR1
import Derived.Test.YtplbebfiebojhaaArgR
namespace Go.Proofs.Ytplbebfiebojhaa
open Go.RowKit

/-- the sum of the first n times, as far as clocks go. -/
def plusTo (xs : List Int) : Nat → Int
  | 0 => 0
  | n + 1 => clk (plusTo xs n + clk (xs.getD n 0))
theorem plusTo_in (xs : List Int) : ∀ n, 0 ≤ plusTo xs n ∧ plusTo xs n ≤ 1073741823
  | 0 => by simp [plusTo]
  | n + 1 => clk_in _
theorem plusTo_succ (xs : List Int) (n : Nat) : plusTo xs (n + 1) = clk (plusTo xs n + clk (xs.getD n 0)) := rfl

set_option maxHeartbeats 1000000 in
theorem plus_any (A : Option Addr) (n cp : Nat) (xs : List Int) (w : World) (hr : Row w .i64 A n xs) :
    Calls Try.prog 11 #[.slice A n cp] w fun e w' => e = .returned (.int .i64 (plusTo xs n)) ∧ w = w' := by
  have hmx := hr.most
  unfold maxLen at hmx
  go_enter Try.func11, Try.ntmps11
  go_wp2_with fail
  go_loop [3, 8] (fun s i => ∃ m : Nat, m ≤ n ∧ i = .int .i64 m ∧ s = .int .i64 (plusTo xs m)) (fun _ i => n - (intOf i).toNat)
  case atStart => exact ⟨0, by omega, rfl, rfl⟩
  case round =>
    obtain ⟨m, hmn, rfl, rfl⟩ := hrel
    by_cases hlt : m < n
    · obtain ⟨a, rfl, hab, hcell⟩ := hr.at_ (by omega)
      have hc := hcell m hlt
      have HS := Lib.hid (plusTo_succ xs m)
      have hS := plusTo_in xs m
      have c1 := astime_any (xs.getD m 0) w
      have c2 := astime_any (plusTo xs m + clk (xs.getD m 0)) w
      have hC := clk_in (xs.getD m 0)
      clear hcell
      generalize hy : xs.getD m 0 = y at *
      generalize clk y = C at *
      generalize plusTo xs m = s at *
      clear hy
      go_wp2_with fail
      refine c1.mono ?_
      rintro e w1 ⟨rfl, rfl⟩
      go_wp2_with fail
      refine c2.mono ?_
      rintro e w1 ⟨rfl, rfl⟩
      clear c1 c2
      rw [← HS.out]
      go_wp2
      go_roundw
      case rel => exact ⟨m + 1, by omega, by go_num, rfl⟩
      case measure => simp [intOf]; omega
    · obtain rfl : m = n := by omega
      go_wp2
      go_ret
      exact ⟨rfl, rfl⟩

end Go.Proofs.Ytplbebfiebojhaa
