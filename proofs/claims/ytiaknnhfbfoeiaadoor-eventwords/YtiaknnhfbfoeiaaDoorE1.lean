/- Events: one field, or nothing. -/
import Derived.Test.YtiaknnhfbfoeiaaDoorMem
import Derived.Test.YtiaknnhfbfoeiaaDoorProg
import Derived.WalkKit
import Derived.Deep.RegionHeld3
import Derived.BigQuiet
import Derived.Deep.Draws
namespace Go.Proofs.YtiaknnhfbfoeiaaDoor
open Go.RowKit Go.ChangeShapes Go.WideShapes
set_option maxRecDepth 100000

/-- an event: kind, worker, operation, two handles, time, argument, user, answer, error. -/
structure Ev where
  k : Int
  w : Int
  o : Int
  hn : Int
  hg : Int
  nn : Int
  ng : Int
  t : Int
  a : Int
  u : Int
  y : Bool
  e : Int
def Ev.c (x : Ev) : Array Value := #[.int .i64 x.k, .int .i64 x.w, .int .i64 x.o, .int .i64 x.hn, .int .i64 x.hg, .int .i64 x.nn, .int .i64 x.ng, .int .i64 x.t, .int .i64 x.a, .int .i64 x.u, .bool x.y, .int .i64 x.e]
/-- is a bit of a field among some? -/
def fb (l f : Int) : Bool := !(bits .and .u16 l f == 0)
def kI (l f v : Int) : Int := if fb l f then v else 0
def kB (l f : Int) (v : Bool) : Bool := if fb l f then v else false

theorem kept_int (l f v : Int) (w : World) : Calls Tryd.prog 36 #[.int .u16 l, .int .u16 f, .int .i64 v] w fun e w' => e = .returned (.int .i64 (kI l f v)) ∧ w' = w := by
  unfold kI fb
  obtain ⟨z, hz⟩ : ∃ z, bits .and .u16 l f = z := ⟨_, rfl⟩
  by_cases h : z = 0
  · subst h
    rw [hz]
    go_enter Tryd.func36, Tryd.ntmps36
    go_wp2_with fail
    go_ret
    exact ⟨rfl, rfl⟩
  · have e : (z == 0) = false := by simpa using h
    rw [hz, e]
    go_enter Tryd.func36, Tryd.ntmps36
    go_wp2_with fail
    go_ret
    exact ⟨rfl, rfl⟩
theorem kept_errno (l f v : Int) (w : World) : Calls Tryd.prog 39 #[.int .u16 l, .int .u16 f, .int .i64 v] w fun e w' => e = .returned (.int .i64 (kI l f v)) ∧ w' = w := by
  unfold kI fb
  obtain ⟨z, hz⟩ : ∃ z, bits .and .u16 l f = z := ⟨_, rfl⟩
  by_cases h : z = 0
  · subst h
    rw [hz]
    go_enter Tryd.func39, Tryd.ntmps39
    go_wp2_with fail
    go_ret
    exact ⟨rfl, rfl⟩
  · have e : (z == 0) = false := by simpa using h
    rw [hz, e]
    go_enter Tryd.func39, Tryd.ntmps39
    go_wp2_with fail
    go_ret
    exact ⟨rfl, rfl⟩
theorem kept_bool (l f : Int) (v : Bool) (w : World) : Calls Tryd.prog 38 #[.int .u16 l, .int .u16 f, .bool v] w fun e w' => e = .returned (.bool (kB l f v)) ∧ w' = w := by
  unfold kB fb
  obtain ⟨z, hz⟩ : ∃ z, bits .and .u16 l f = z := ⟨_, rfl⟩
  by_cases h : z = 0
  · subst h
    rw [hz]
    go_enter Tryd.func38, Tryd.ntmps38
    go_wp2_with fail
    go_ret
    exact ⟨rfl, rfl⟩
  · have e : (z == 0) = false := by simpa using h
    rw [hz, e]
    go_enter Tryd.func38, Tryd.ntmps38
    go_wp2_with fail
    go_ret
    exact ⟨rfl, rfl⟩
theorem kept_handle (l f a b : Int) (w : World) : Calls Tryd.prog 37 #[.int .u16 l, .int .u16 f, .agg #[.int .i64 a, .int .i64 b]] w fun e w' => e = .returned (.agg #[.int .i64 (kI l f a), .int .i64 (kI l f b)]) ∧ Below w.heap.size w w' := by
  have k2 : ∀ o1 o2, Below w.heap.size w ((w.alloc o1).alloc o2) := fun o1 o2 => ((Below.refl _ _).alloc (Nat.le_refl _) _).alloc (by simp) _
  unfold kI fb
  obtain ⟨z, hz⟩ : ∃ z, bits .and .u16 l f = z := ⟨_, rfl⟩
  by_cases h : z = 0
  · subst h
    rw [hz]
    go_enter Tryd.func37, Tryd.ntmps37
    go_wp2_with fail
    refine bodyPost_ret (v := .agg #[.int .i64 0, .int .i64 0]) (by simp [results, Tryd.results37, go_sem]) rfl ⟨rfl, (k2 _ _).alloc (by simp; omega) _⟩
  · have e : (z == 0) = false := by simpa using h
    rw [hz, e]
    go_enter Tryd.func37, Tryd.ntmps37
    go_wp2_with fail
    refine bodyPost_ret (v := .agg #[.int .i64 a, .int .i64 b]) (by simp [results, Tryd.results37, go_sem]) rfl ⟨rfl, k2 _ _⟩

end Go.Proofs.YtiaknnhfbfoeiaaDoor
