/- Configurations by value; the small functions of layer 3. -/
import Derived.Test.YtgbepebihlmedaaDoorRows
import Derived.Test.YtgbepebihlmedaaDoorMem
import Derived.Test.YtgbepebihlmedaaDoorP1
import Derived.Test.YtgbepebihlmedaaDoorW1
import Derived.Deep.MidRow
import Derived.StillTailTactics
import Derived.RegionTactic
import Derived.Deep.RegionHeld3
import Derived.IntWalk
namespace Go.Proofs.YtgbepebihlmedaaDoor
open Go.RowKit

/-- a configuration's numbers, as cells. -/
def ic (C : Nat → Int) : Array Value := #[.int .i64 (C 0), .int .i64 (C 1), .int .i64 (C 2), .int .i64 (C 3), .int .i64 (C 4), .int .i64 (C 5), .int .i64 (C 6), .int .i64 (C 7), .int .i64 (C 8), .int .i64 (C 9), .int .i64 (C 10), .int .i64 (C 11), .int .i64 (C 12)]
theorem ic_at (C : Nat → Int) (i : Nat) (hi : i < 13) : (ic C)[i]? = some (.int .i64 (C i)) := by
  match i, hi with
  | 0, _ => rfl | 1, _ => rfl | 2, _ => rfl | 3, _ => rfl | 4, _ => rfl | 5, _ => rfl | 6, _ => rfl | 7, _ => rfl | 8, _ => rfl | 9, _ => rfl | 10, _ => rfl | 11, _ => rfl | 12, _ => rfl

theorem least_any (i : Nat) (w : World) (hi : i < 13) :
    Calls Tryd.prog 46 #[.int .i64 i] w fun e w' => e = .returned (.int .i64 (cLo i)) ∧ w' = w := by
  match i, hi with
  | 0, _ | 1, _ | 2, _ | 3, _ | 4, _ | 5, _ | 6, _ | 7, _ | 8, _ | 9, _ | 10, _ | 11, _ | 12, _ =>
    go_enter Tryd.func46, Tryd.ntmps46
    go_wp2
    go_ret
    exact ⟨rfl, rfl⟩

theorem most_any (i : Nat) (w : World) (hi : i < 13) :
    Calls Tryd.prog 47 #[.int .i64 i] w fun e w' => e = .returned (.int .i64 (cHi i)) ∧ w' = w := by
  match i, hi with
  | 0, _ | 1, _ | 2, _ | 3, _ | 4, _ | 5, _ | 6, _ | 7, _ | 8, _ | 9, _ | 10, _ | 11, _ | 12, _ =>
    go_enter Tryd.func47, Tryd.ntmps47
    go_wp2
    go_ret
    exact ⟨rfl, rfl⟩

theorem in_any (i n : Int) (w : World) :
    Calls Tryd.prog 20 #[.int .i64 i, .int .i64 n] w fun e w' => e = .returned (.bool (inB i n)) ∧ w = w' := by
  go_enter Tryd.func20, Tryd.ntmps20
  go_wp2
  all_goals go_ret
  all_goals refine ⟨ret_bool ?_, rfl⟩
  all_goals (rw [Bool.eq_iff_iff, inB_iff]; simp; omega)

theorem end_any (f e n : Int) (w : World) (h0 : 0 ≤ n * e) (h1 : n * e ≤ 1000000) (f0 : 0 ≤ f) (f1 : f ≤ 1000000) :
    Calls Tryd.prog 48 #[.agg #[.int .i64 f, .int .i64 e, .int .i64 n]] w fun r w' => r = .returned (.int .i64 (f + n * e)) ∧ w.alloc (.cells #[.int .i64 f, .int .i64 e, .int .i64 n] 68) = w' := by
  go_enter Tryd.func48, Tryd.ntmps48
  go_wp2
  go_ret
  exact ⟨rfl, rfl⟩

/-- a row of things that all lie within a million cells. -/
structure Fits (f e n q : Int) : Prop where
  f0 : 0 ≤ f
  f1 : f ≤ 100000
  e0 : 0 ≤ e
  e1 : e ≤ 1000
  n1 : n ≤ 10000
  q0 : 0 ≤ q
  q1 : q ≤ 1000

theorem place_any (f e n i q : Int) (w : World) (h : Fits f e n q) :
    Calls Tryd.prog 50 #[.agg #[.int .i64 f, .int .i64 e, .int .i64 n], .int .i64 i, .int .i64 q] w fun r w' => r = .returned (.int .i64 (placeR f e n i q)) ∧ w.alloc (.cells #[.int .i64 f, .int .i64 e, .int .i64 n] 68) = w' := by
  obtain ⟨f0, f1, e0, e1, n1, q0, q1⟩ := h
  rcases (by omega : i < 0 ∨ 0 ≤ i ∧ (n ≤ i ∨ i < n)) with h | ⟨h0, h1 | h1⟩
  · have H := Lib.hid (placeR_out (f := f) (e := e) (q := q) (inB_no (i := i) (n := n) (.inl h)))
    go_enter Tryd.func50, Tryd.ntmps50
    go_wp2
    go_ret
    exact ⟨ret_int H.out.symm, rfl⟩
  · have H := Lib.hid (placeR_out (f := f) (e := e) (q := q) (inB_no (i := i) (n := n) (.inr h1)))
    have hn : ¬ i < 0 := by omega
    go_enter Tryd.func50, Tryd.ntmps50
    go_wp2
    go_ret
    exact ⟨ret_int H.out.symm, rfl⟩
  · have H := Lib.hid (placeR_in (f := f) (e := e) (q := q) h0 h1)
    have m := mul_bd h0 (show i ≤ 10000 by omega) e0 e1
    go_enter Tryd.func50, Tryd.ntmps50
    go_wp2
    go_ret
    exact ⟨ret_int H.out.symm, rfl⟩

theorem slots_any (C : Nat → Int) (w : World) (h : 1 ≤ C 2 ∧ C 2 ≤ 6) :
    Calls Tryd.prog 21 #[.agg (ic C)] w fun r w' => r = .returned (.int .i64 (plS C)) ∧ w.alloc (.cells (ic C) 23) = w' := by
  have hc := (Lies.new w 23 (ic C)).cell 2
  rw [ic_at C 2 (by omega)] at hc
  have hp := pw_pos (C 2)
  have hq := pw_le_63 (C 2) (by omega) (by omega)
  have hr : pw (C 2) ≤ 64 := by have := pw_mono (C 2) 6 (by omega) h.2; rwa [show pw 6 = 64 by decide] at this
  go_enter Tryd.func21, Tryd.ntmps21
  go_wp2_with fail
  refine (power_any _ _ (by omega) (by omega)).mono ?_
  rintro e w' ⟨rfl, rfl⟩
  go_wp2
  go_ret
  exact ⟨rfl, rfl⟩

end Go.Proofs.YtgbepebihlmedaaDoor
