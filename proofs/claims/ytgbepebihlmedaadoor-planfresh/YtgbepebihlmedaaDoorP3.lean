/- Configurations by value: List, Of. -/
import Derived.Test.YtgbepebihlmedaaDoorP2
namespace Go.Proofs.YtgbepebihlmedaaDoor
open Go.RowKit

set_option maxHeartbeats 2000000 in
theorem list_any (C : Nat → Int) (w : World) :
    Calls Tryd.prog 13 #[.agg (ic C)] w fun r w' => r = .returned (.agg (ic C)) ∧ Below w.heap.size w w' := by
  unfold ic
  go_enter Tryd.func13, Tryd.ntmps13
  go_wp2
  refine bodyPost_ret (v := .agg (ic C)) (by simp [results, Tryd.results13, go_sem, ic]) rfl ⟨rfl, ?_⟩
  repeat' (with_reducible first | exact Below.refl _ _ | refine Below.setCell ?_ ?_ _ | refine Below.alloc ?_ ?_ _)
  all_goals simp

set_option maxHeartbeats 2000000 in
theorem of_cfg (C : Nat → Int) (w : World) :
    Calls Tryd.prog 14 #[.agg (ic C)] w fun r w' => r = .returned (.agg (ic C)) ∧ Below w.heap.size w w' := by
  unfold ic
  go_enter Tryd.func14, Tryd.ntmps14
  go_wp2
  refine bodyPost_ret (v := .agg (ic C)) (by simp [results, Tryd.results14, go_sem, ic]) rfl ⟨rfl, ?_⟩
  repeat' (with_reducible first | exact Below.refl _ _ | refine Below.setCell ?_ ?_ _ | refine Below.alloc ?_ ?_ _)
  all_goals simp

set_option maxHeartbeats 2000000 in
theorem lawof_any (C : Nat → Int) (w : World) :
    Calls Tryd.prog 9 #[.agg (ic C)] w fun r w' => r = .returned (.agg (ic C)) ∧ Below w.heap.size w w' := by
  unfold ic
  go_enter Tryd.func9, Tryd.ntmps9
  go_wp2
  refine bodyPost_ret (v := .agg (ic C)) (by simp [results, Tryd.results9, go_sem, ic]) rfl ⟨rfl, ?_⟩
  repeat' (with_reducible first | exact Below.refl _ _ | refine Below.setCell ?_ ?_ _ | refine Below.alloc ?_ ?_ _)
  all_goals simp

end Go.Proofs.YtgbepebihlmedaaDoor
