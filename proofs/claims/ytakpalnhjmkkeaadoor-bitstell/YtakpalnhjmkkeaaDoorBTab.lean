/- The library's table, as its text lays it. -/
import Derived.Test.YtakpalnhjmkkeaaDoorB4
import Derived.WalkKit
import Derived.ProofKit
import Derived.LaidMore
import Derived.OpenShut
import Derived.Stop.Joined
import Derived.ChangeSlices
import Derived.ChangeAt
namespace Go.Proofs.YtakpalnhjmkkeaaDoor
open Go.ChangeShapes Go.WideShapes Go.ChangeAt Go.RowKit

theorem gTab : Tryd.prog.globalNamed "math/bits.deBruijn64tab" = some 0 := by kernel_rfl
theorem tTab : (Tryd.prog.globals[0]?).map (·.type) = some 49 := by kernel_rfl

/-- what the table reads as, part by part. -/
def tabData (H : Type) : List (DataW H) := (List.range 64).map fun i => .lit (.int .u8 (Lib.deBruijn64tab.getD i 0 : Nat))
theorem tab_is (H : Type) : (Rows.laid_math_bits_deBruijn64tab : DataW H) = .agg (tabData H) := rfl

abbrev laidT : List (String × DataW Unit) := [("math/bits.deBruijn64tab", Rows.laid_math_bits_deBruijn64tab)]

theorem cell_block6 {w : World} {a : Addr} {v : Value} (h : w.cell? a = some v) : a.block < w.heap.size := by
  rcases Nat.lt_or_ge a.block w.heap.size with hlt | hge
  · exact hlt
  · unfold World.cell? at h
    rw [Array.getElem?_eq_none hge] at h
    cases h

theorem tab_of_laid {W : World} (h : laidMetH Tryd.prog laidT W) : Tab W := by
  rw [MakeChecks.laidMetH_plain _ _ _ (by kernel_rfl)] at h
  obtain ⟨ps, ⟨g0, t0, cs0, f0, p0, q0, hg0, ht0, hv0, hd0, _, _⟩, _⟩ := h
  obtain rfl := Option.some.inj (gTab.symm.trans hg0)
  obtain rfl := Option.some.inj (tTab.symm.trans ht0)
  obtain ⟨xs, m1, rfl, hx1, hlen, hn, hel⟩ := DataW.trod_array Tryd.underlying49 hd0
  rw [tab_is] at hx1
  simp only [Prod.mk.injEq, DataW.agg.injEq] at hx1
  have c1 : Tryd.prog.cellsOf 5 = 1 := by kernel_rfl
  have hcell : ∀ i, i < 64 → W.cell? ⟨0, i, none⟩ = some (.int .u8 (Lib.deBruijn64tab.getD i 0 : Nat)) := by
    intro i hi
    have h0 := hel i hi
    rw [c1] at h0
    obtain ⟨x, hx⟩ : ∃ x, xs[i]? = some x := ⟨_, List.getElem?_eq_getElem (by omega)⟩
    rw [hx] at h0
    have hd : x.1 = .lit (.int .u8 (Lib.deBruijn64tab.getD i 0 : Nat)) := by
      have h1 := congrArg (·[i]?) hx1.1
      simp only [tabData, List.getElem?_map, hx, List.getElem?_range hi, Option.map_some, Option.some.injEq] at h1
      exact h1.symm
    obtain ⟨k0, a0, e0, _⟩ := DataW.trod_int Tryd.underlying5 h0
    have v0 := World.var?_cell hg0 hv0 i
    rw [v0]
    have e1 : k0 = (Lib.deBruijn64tab.getD i 0 : Nat) := by
      rw [e0] at hd
      simpa using hd
    have := congrArg (·[0]?) a0
    rw [← e1]
    simpa [List.getElem?_take, List.getElem?_drop] using this
  refine ⟨?_, hcell⟩
  have := cell_block6 (hcell 0 (by omega))
  simpa using this

end Go.Proofs.YtakpalnhjmkkeaaDoor
