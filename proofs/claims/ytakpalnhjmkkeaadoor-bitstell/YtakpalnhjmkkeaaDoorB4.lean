/- The library's counts of bits, and what stands on them: Next and Count. -/
import Derived.Test.YtakpalnhjmkkeaaDoorB3
import Derived.Deep.DeepCutAuto
import Derived.Deep.CutBlock
namespace Go.Proofs.YtakpalnhjmkkeaaDoor
open Go.RowKit

/-- the library's table, as its text lays it. -/
structure Tab (w : World) : Prop where
  size : 0 < w.heap.size
  cell : ∀ j, j < 64 → w.cell? ⟨0, j, none⟩ = some (.int .u8 (Lib.deBruijn64tab.getD j 0 : Nat))

theorem tz_key (x a : Nat) (hx : x < 18446744073709551616) (hx0 : x ≠ 0) (hlow : x &&& (18446744073709551616 - x) = a) :
    IntKind.u64.wrap (bits .and .u64 (x : Int) (IntKind.u64.wrap (-(x : Int))) * 285870213051353865) / 288230376151711744 = ((a * 285870213051353865 % 18446744073709551616 / 288230376151711744 : Nat) : Int) := by
  have e : IntKind.u64.wrap (-(x : Int)) = ((18446744073709551616 - x : Nat) : Int) := by rw [IntKind.wrap_u64]; omega
  rw [e, and_nat hx (by omega), hlow, IntKind.wrap_u64]
  omega

theorem tz_core (x k idx : Nat) (w : World) (hb : ((x : Int) == 0) = false)
    (key : IntKind.u64.wrap (bits .and .u64 (x : Int) (IntKind.u64.wrap (-(x : Int))) * 285870213051353865) / 288230376151711744 = (idx : Int))
    (hi : idx < 64) (hk : k < 64) (hcell : w.cell? ⟨0, idx, none⟩ = some (.int .u8 k)) :
    Calls Tryd.prog 27 #[.int .u64 x] w fun e w' => e = .returned (.int .i64 k) ∧ w' = w := by
  go_enter Tryd.func27, Tryd.ntmps27
  go_wp2_with (simp only [key])
  go_ret
  exact ⟨rfl, rfl⟩
theorem tz_any {x : Nat} (hx : x < 18446744073709551616) (hx0 : x ≠ 0) (w : World) (hT : Tab w) :
    Calls Tryd.prog 27 #[.int .u64 x] w fun e w' => e = .returned (.int .i64 (Lib.ctz 64 x : Nat)) ∧ w' = w := by
  obtain ⟨hlow, hk⟩ := Lib.lowest_bit 64 x hx0 hx
  obtain ⟨hi, htab⟩ := Lib.deBruijn64_at _ hk
  have hcell := hT.cell _ hi
  rw [htab] at hcell
  exact tz_core x _ _ w (by simp; omega) (tz_key x _ hx hx0 hlow) hi hk hcell

theorem next_any {s : Nat} (hs : s < 18446744073709551616) (f : Int) (w : World) (hT : Tab w) :
    Calls Tryd.prog 16 #[.int .u64 s, .int .i64 f] w fun e w' => e = .returned (.int .i64 (nx s f)) ∧ w' = w := by
  have c1 := fun v => since_any f v
  have HA := Lib.hid (and_nat hs (sn_lt f))
  have hr := and_lt hs (sn f)
  unfold nx
  generalize hR : s &&& sn f = R at *
  clear hR
  generalize sn f = X at *
  by_cases h0 : R = 0
  · rw [if_pos h0]
    subst h0
    go_enter Tryd.func16, Tryd.ntmps16
    go_wp2_with fail
    refine (c1 _).mono ?_
    rintro e w1 ⟨rfl, rfl⟩
    go_wp2_with (rw [HA.out])
    go_ret
    exact ⟨rfl, rfl⟩
  · rw [if_neg h0]
    have c2 := tz_any hr h0 w hT
    have hb : ((R : Int) == 0) = false := by simp; omega
    clear h0
    go_enter Tryd.func16, Tryd.ntmps16
    go_wp2_with fail
    refine (c1 _).mono ?_
    rintro e w1 ⟨rfl, rfl⟩
    go_upto_region 2 with (fail)
    rw [HA.out]
    go_wp2_with fail
    refine c2.mono ?_
    rintro e w1 ⟨rfl, rfl⟩
    go_wp2
    go_ret
    exact ⟨rfl, rfl⟩
end Go.Proofs.YtakpalnhjmkkeaaDoor
