/- The document's Same. -/
import Derived.Test.YtakpalnhjmkkeaaDoorIRow
import Derived.RegionTactic
import Derived.BigQuiet
import Derived.WalkSpells
import Derived.Lib.Hide
namespace Go.Proofs.YtakpalnhjmkkeaaDoor
open Go.RowKit

set_option maxHeartbeats 1000000 in
theorem rsame_any (A B : Option Addr) (n cp cq : Nat) (xs : List Int) (w : World) (hr : Row w .i64 A n xs) (hq : Row w .i64 B n xs) :
    Calls Tryd.prog 20 #[.slice A n cp, .slice B n cq] w fun e w' => e = .returned (.bool true) ∧ Below w.heap.size w w' := by
  have hmx := hr.most
  unfold maxLen at hmx
  go_enter Tryd.func20, Tryd.ntmps20
  go_wp2_with fail
  go_loopw [5] (fun i W => ∃ m : Nat, m ≤ n ∧ i = .int .i64 m ∧ Below w.heap.size w W) (fun i _ => n - (intOf i).toNat)
  case atStart => exact ⟨0, by omega, rfl, Below.refl _ _⟩
  case round =>
    obtain ⟨m, hmn, rfl, hb⟩ := hrel
    by_cases hlt : m < n
    · obtain ⟨a, rfl, hab, hcell⟩ := (hr.keep (Nat.le_refl _) hb).at_ (by omega)
      obtain ⟨b, rfl, hbb, hcell2⟩ := (hq.keep (Nat.le_refl _) hb).at_ (by omega)
      have hc := hcell m hlt
      have hd := hcell2 m hlt
      clear hcell hcell2
      generalize xs.getD m 0 = y at *
      go_wp2_with fail
      go_quiet (fail)
      go_wp2
      go_roundw
      case rel => exact ⟨m + 1, by omega, by go_num, by first | exact hb | exact drawn hb _ | exact hb.drew⟩
      case measure => simp [intOf]; omega
    · obtain rfl : m = n := by omega
      go_wp2
      go_ret
      exact ⟨rfl, hb⟩

end Go.Proofs.YtakpalnhjmkkeaaDoor
