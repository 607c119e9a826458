/- The table of bounds, as the program's text lays it; a configuration that is handed in. -/
import Derived.Test.YtgbepebihlmedaaDoorP9
import Derived.Test.YtgbepebihlmedaaDoorArg
import Derived.WalkKit
import Derived.ProofKit
import Derived.LaidMore
import Derived.OpenShut
import Derived.Stop.Joined
namespace Go.Proofs.YtgbepebihlmedaaDoor
open Go.ChangeShapes Go.WideShapes Go.ChangeAt Go.RowKit

theorem gBounds : Tryd.prog.globalNamed "knell/plan.bounds" = some 0 := by kernel_rfl
theorem tBounds : (Tryd.prog.globals[0]?).map (·.type) = some 66 := by kernel_rfl

/-- what the table reads as, part by part. -/
def boundData (H : Type) : List (DataW H) := (List.range 13).map fun i => .agg [.lit (.int .i64 (cLo i)), .lit (.int .i64 (cHi i))]
theorem bound_is (H : Type) : (Rows.laid_knell_plan_bounds : DataW H) = .agg (boundData H) := rfl

abbrev laidB : List (String × DataW Unit) := [("knell/plan.bounds", Rows.laid_knell_plan_bounds)]

theorem tab_of_laid {W : World} (h : laidMetH Tryd.prog laidB W) : Tab W := by
  rw [MakeChecks.laidMetH_plain _ _ _ (by kernel_rfl)] at h
  obtain ⟨ps, ⟨g0, t0, cs0, f0, p0, q0, hg0, ht0, hv0, hd0, _, _⟩, _⟩ := h
  obtain rfl := Option.some.inj (gBounds.symm.trans hg0)
  obtain rfl := Option.some.inj (tBounds.symm.trans ht0)
  obtain ⟨xs, m1, rfl, hx1, hlen, hn, hel⟩ := DataW.trod_array Tryd.underlying66 hd0
  rw [bound_is] at hx1
  simp only [Prod.mk.injEq, DataW.agg.injEq] at hx1
  have c2 : Tryd.prog.cellsOf 65 = 2 := by kernel_rfl
  have c1 : Tryd.prog.cellsOf 3 = 1 := by kernel_rfl
  have hcell : ∀ i, i < 13 → W.cell? ⟨0, i * 2, none⟩ = some (.int .i64 (cLo i)) ∧ W.cell? ⟨0, i * 2 + 1, none⟩ = some (.int .i64 (cHi i)) := by
    intro i hi
    have h0 := hel i hi
    rw [c2] at h0
    obtain ⟨x, hx⟩ : ∃ x, xs[i]? = some x := ⟨_, List.getElem?_eq_getElem (by omega)⟩
    rw [hx] at h0
    have hd : x.1 = .agg [.lit (.int .i64 (cLo i)), .lit (.int .i64 (cHi i))] := by
      have h1 := congrArg (·[i]?) hx1.1
      simp only [boundData, List.getElem?_map, hx, List.getElem?_range hi, Option.map_some, Option.some.injEq] at h1
      exact h1.symm
    obtain ⟨y0, y1, n, rfl, _, e0, e1⟩ := trod_struct2 Tryd.underlying65 h0
    simp only [DataW.agg.injEq, List.cons.injEq, and_true] at hd
    obtain ⟨k0, a0, rfl, _⟩ := DataW.trod_int Tryd.underlying3 e0
    obtain ⟨k1, a1, rfl, _⟩ := DataW.trod_int Tryd.underlying3 e1
    simp only [DataW.lit.injEq, Lit.int.injEq, true_and] at hd
    obtain ⟨rfl, rfl⟩ := hd
    have v0 := World.var?_cell hg0 hv0 (i * 2)
    have v1 := World.var?_cell hg0 hv0 (i * 2 + 1)
    rw [v0, v1]
    constructor
    · have := congrArg (·[0]?) a0
      simpa [List.getElem?_take, List.getElem?_drop, c1] using this
    · have := congrArg (·[0]?) a1
      simpa [List.getElem?_take, List.getElem?_drop, c1] using this
  refine ⟨?_, hcell⟩
  have := cell_block (hcell 0 (by omega)).1
  simpa using this

/-- a configuration that is handed in. -/
theorem cfg_opened {H : Type} {enc : TypeId × Value → H} {W : World} {base : Nat} {spare : Nat → Bool} {held : Bool} {cs : Array Value} {d : DataW H} {p : List MemPlace}
    (h : DataW.Trod enc Tryd.prog W base spare held 23 (.agg cs) d p) : ∃ C, cs = ic C := by
  obtain ⟨fuel, hf⟩ := h
  obtain ⟨xs, m1, rfl, _, hlen, hn, hel⟩ := DataW.trod_array Tryd.underlying23 hf
  have c1 : Tryd.prog.cellsOf 3 = 1 := by kernel_rfl
  have c13 : Tryd.prog.cellsOf 23 = 13 := by kernel_rfl
  rw [c13] at hlen
  have hs : cs.size = 13 := by simpa [Value.cells] using hlen
  have hall : ∀ i, i < 13 → ∃ k, cs[i]? = some (.int .i64 k) := by
    intro i hi
    have h0 := hel i hi
    rw [c1] at h0
    obtain ⟨x, hx⟩ : ∃ x, xs[i]? = some x := ⟨_, List.getElem?_eq_getElem (by omega)⟩
    rw [hx] at h0
    obtain ⟨k, a, _, _⟩ := DataW.trod_int Tryd.underlying3 h0
    refine ⟨k, ?_⟩
    have := congrArg (·[0]?) a
    simpa [List.getElem?_take, List.getElem?_drop, Value.cells] using this
  let C : Nat → Int := fun i => match cs[i]? with
    | some (.int _ k) => k
    | _ => 0
  refine ⟨C, cells_cfg hs C fun i hi => ?_⟩
  obtain ⟨k, hk⟩ := hall i hi
  simp only [C, hk]

end Go.Proofs.YtgbepebihlmedaaDoor
