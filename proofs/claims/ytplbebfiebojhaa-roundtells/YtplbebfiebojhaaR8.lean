/- The document's Plus and Same. -/
import Derived.Test.YtplbebfiebojhaaR3
import Derived.Test.YtplbebfiebojhaaIRow
import Derived.RegionTactic
namespace Go.Proofs.Ytplbebfiebojhaa
open Go.RowKit

theorem clk_cut {a : Int} (h : 0 ≤ a) : clk a = if 1073741823 < a then 1073741823 else a := by
  unfold clk; (repeat' split) <;> omega

set_option maxHeartbeats 1000000 in
theorem rplus_any (A : Option Addr) (n cp : Nat) (xs : List Int) (w : World) (hr : Row w .i64 A n xs) :
    Calls Try.prog 12 #[.slice A n cp] w fun e w' => e = .returned (.int .i64 (plusTo xs n)) ∧ w = w' := by
  have hmx := hr.most
  unfold maxLen at hmx
  go_enter Try.func12, Try.ntmps12
  go_wp2_with fail
  go_loop [3, 4] (fun s i => ∃ m : Nat, m ≤ n ∧ i = .int .i64 m ∧ s = .int .i64 (plusTo xs m)) (fun _ i => n - (intOf i).toNat)
  case atStart => exact ⟨0, by omega, rfl, rfl⟩
  case round =>
    obtain ⟨m, hmn, rfl, rfl⟩ := hrel
    by_cases hlt : m < n
    · obtain ⟨a, rfl, hab, hcell⟩ := hr.at_ (by omega)
      have hc := hcell m hlt
      have HS := Lib.hid (plusTo_succ xs m)
      have hS := plusTo_in xs m
      have c1 := rclock_any (xs.getD m 0) w
      have hC := clk_in (xs.getD m 0)
      clear hcell
      generalize hy : xs.getD m 0 = y at *
      generalize clk y = C at *
      generalize plusTo xs m = s at *
      clear hy
      have HC := Lib.hid (clk_cut (a := s + C) (by omega))
      by_cases hcut : 1073741823 < s + C
      · go_wp2_with fail
        refine c1.mono ?_
        rintro e w1 ⟨rfl, rfl⟩
        clear c1
        go_wp2
        go_roundw
        case rel => exact ⟨m + 1, by omega, by go_num, by rw [HS.out, HC.out, if_pos hcut]⟩
        case measure => simp [intOf]; omega
      · go_wp2_with fail
        refine c1.mono ?_
        rintro e w1 ⟨rfl, rfl⟩
        clear c1
        go_wp2
        go_roundw
        case rel => exact ⟨m + 1, by omega, by go_num, by rw [HS.out, HC.out, if_neg (by omega)]⟩
        case measure => simp [intOf]; omega
    · obtain rfl : m = n := by omega
      go_wp2
      go_ret
      exact ⟨rfl, rfl⟩

set_option maxHeartbeats 1000000 in
theorem rsame_any (A B : Option Addr) (n cp cq : Nat) (xs : List Int) (w : World) (hr : Row w .i64 A n xs) (hq : Row w .i64 B n xs) :
    Calls Try.prog 13 #[.slice A n cp, .slice B n cq] w fun e w' => e = .returned (.bool true) ∧ Below w.heap.size w w' := by
  have hmx := hr.most
  unfold maxLen at hmx
  go_enter Try.func13, Try.ntmps13
  go_wp2_with fail
  go_loopw [5] (fun i W => ∃ m : Nat, m ≤ n ∧ i = .int .i64 m ∧ Below w.heap.size w W) (fun i _ => n - (intOf i).toNat)
  case atStart => exact ⟨0, by omega, rfl, Below.refl _ _⟩
  case round =>
    obtain ⟨m, hmn, rfl, hb⟩ := hrel
    by_cases hlt : m < n
    · obtain ⟨a, rfl, hab, hcell⟩ := (hr.keep (Nat.le_refl _) hb).at_ (by omega)
      obtain ⟨b, rfl, hbb, hcell2⟩ := (hq.keep (Nat.le_refl _) hb).at_ (by omega)
      have hc := hcell m hlt
      have hd := hcell2 m hlt
      clear hcell hcell2
      generalize xs.getD m 0 = y at *
      go_wp2_with fail
      go_quiet (fail)
      go_wp2
      go_roundw
      case rel => exact ⟨m + 1, by omega, by go_num, by first | exact hb | exact drawn hb _ | exact hb.drew⟩
      case measure => simp [intOf]; omega
    · obtain rfl : m = n := by omega
      go_wp2
      go_ret
      exact ⟨rfl, hb⟩

end Go.Proofs.Ytplbebfiebojhaa
