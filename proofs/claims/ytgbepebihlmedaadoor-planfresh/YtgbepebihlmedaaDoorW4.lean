/- Contracts: the example of the document; the law on parts. -/
import Derived.Test.YtgbepebihlmedaaDoorW3
namespace Go.Proofs.YtgbepebihlmedaaDoor
open Go.RowKit

theorem ex_ok : okTo [1, 2, 1, 0] stateWs 3 := by
  intro i hi
  rcases i with _ | _ | _ | i
  · simp [stateWs, pw]
  · simp [stateWs, pw]
  · simp [stateWs, pw]
  · omega
theorem ex_word : packW [1, 2, 1, 0] stateWs = 4294967305 := by
  rw [packW_ok ex_ok]
  simp [stateWs, packTo, pw]
theorem ex_err : packE [1, 2, 1, 0] stateWs = 0 := packE_ok ex_ok

abbrev U64 (n : Int) : Prop := 0 ≤ n ∧ n < 18446744073709551616

theorem below_drewn {w W : World} {n : Nat} (h : Below (w.drewN n).heap.size (w.drewN n) W) : Below w.heap.size w W :=
  (below_drewN (Below.refl w.heap.size w) n).trans h

end Go.Proofs.YtgbepebihlmedaaDoor
