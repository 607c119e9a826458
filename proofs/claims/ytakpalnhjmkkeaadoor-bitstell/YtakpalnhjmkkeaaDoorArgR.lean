/- Slices of numbers that are handed in. -/
import Derived.Test.YtakpalnhjmkkeaaDoorMem
import Derived.ChangeSlices
import Derived.ChangeAt
import Derived.ProofKit
import Derived.OpenShut
namespace Go.Proofs.YtakpalnhjmkkeaaDoor
open Go.RowKit Go.ChangeShapes Go.WideShapes

theorem add_block (a : Addr) (n : Nat) : (a.add n).block = a.block := by unfold Addr.add; split <;> rfl

/-- a slice of n numbers of that kind, in memory that was there. -/
structure Row (w : World) (k : IntKind) (A : Option Addr) (n : Nat) (xs : List Int) : Prop where
  len : xs.length = n
  most : n ≤ maxLen
  wf : ∀ x, x ∈ xs → (Lit.int k x).wf = true
  at_ : 0 < n → ∃ a, A = some a ∧ a.block < w.heap.size ∧ ∀ i, i < n → w.cell? (a.add i) = some (.int k (xs.getD i 0))

theorem Row.keep {w w' : World} {k : IntKind} {A : Option Addr} {n : Nat} {xs : List Int} {B : Nat} (h : Row w k A n xs) (hB : w.heap.size ≤ B) (g : Below B w w') : Row w' k A n xs :=
  ⟨h.len, h.most, h.wf, fun hn => by
    obtain ⟨a, e, hb, hc⟩ := h.at_ hn
    exact ⟨a, e, Nat.lt_of_lt_of_le hb g.size, fun i hi => (g.cell (by rw [add_block]; omega)).trans (hc i hi)⟩⟩

theorem cell_block {w : World} {a : Addr} {v : Value} (h : w.cell? a = some v) : a.block < w.heap.size := by
  rcases Nat.lt_or_ge a.block w.heap.size with hlt | hge
  · exact hlt
  · unfold World.cell? at h
    rw [Array.getElem?_eq_none hge] at h
    cases h

section
open Go.ChangeShapes Go.WideShapes
variable {H : Type} {enc : TypeId × Value → H} {P : Program} {w : World} {base : Nat} {spare : Nat → Bool} {held : Bool}
theorem Row.opened {t e : TypeId} {k : IntKind} {a : Option Addr} {n c : Nat} {d : DataW H} {p : List MemPlace} (ht : P.underlying t = some (.slice e)) (he : P.underlying e = some (.int k)) (hc : P.cellsOf e = 1)
    (h : DataW.Trod enc P w base spare held t (.slice a n c) d p) : ∃ xs, Row w k a n xs := by
  obtain ⟨fuel, hf⟩ := h
  rcases open_ints ht he hc hf with ⟨hcs, _⟩ | ⟨x, l, cp, zs, hcs, _, hl, hm, hz, _, hcell, hwz⟩
  · simp [Value.cells] at hcs
    obtain ⟨rfl, rfl, rfl⟩ := hcs
    exact ⟨[], rfl, by simp, by simp, fun h => by omega⟩
  · simp [Value.cells] at hcs
    obtain ⟨rfl, rfl, rfl⟩ := hcs
    have hle : n ≤ zs.length := by rw [hz]; split <;> omega
    refine ⟨zs.take n, by simp; omega, by omega, fun y hy => hwz y (List.mem_of_mem_take hy), fun hn => ?_⟩
    have h0 := cell_block (hcell 0 (by omega))
    rw [add_block] at h0
    refine ⟨x, rfl, h0, fun i hi => ?_⟩
    rw [hcell i (by omega)]
    simp [List.getD, hi]
end

end Go.Proofs.YtakpalnhjmkkeaaDoor
