/- The tables of events, as the program's text lays them; an event that is handed in. -/
import Derived.Test.YtiaknnhfbfoeiaaDoorE12
import Derived.Test.YtiaknnhfbfoeiaaDoorRows
import Derived.WalkKit
import Derived.ProofKit
import Derived.LaidMore
import Derived.OpenShut
import Derived.Stop.Joined
import Derived.Stop.LaidErr
import Derived.ChangeSlices
import Derived.ChangeAt
namespace Go.Proofs.YtiaknnhfbfoeiaaDoor
open Go.ChangeShapes Go.WideShapes Go.ChangeAt Go.RowKit

abbrev laidE : List (String × DataW Unit) := [("math/bits.deBruijn32tab", Rows.laid_math_bits_deBruijn32tab), ("math/bits.deBruijn64tab", Rows.laid_math_bits_deBruijn64tab), ("internal/strconv.uint64pow10", Rows.laid_internal_strconv_uint64pow10), ("knell/event.allFields", Rows.laid_knell_event_allFields), ("knell/event.anyNumbers", Rows.laid_knell_event_anyNumbers), ("knell/event.kindNames", Rows.laid_knell_event_kindNames), ("knell/event.opNames", Rows.laid_knell_event_opNames)]
theorem gDb : Tryd.prog.globalNamed "math/bits.deBruijn64tab" = some 7 := by kernel_rfl
theorem gFl : Tryd.prog.globalNamed "knell/event.allFields" = some 2 := by kernel_rfl
theorem gAn : Tryd.prog.globalNamed "knell/event.anyNumbers" = some 3 := by kernel_rfl
theorem gKn : Tryd.prog.globalNamed "knell/event.kindNames" = some 0 := by kernel_rfl
theorem gOn : Tryd.prog.globalNamed "knell/event.opNames" = some 1 := by kernel_rfl
theorem tFlT : (Tryd.prog.globals[2]?).map (·.type) = some 66 := by kernel_rfl
theorem tAnT : (Tryd.prog.globals[3]?).map (·.type) = some 71 := by kernel_rfl
theorem tKnT : (Tryd.prog.globals[0]?).map (·.type) = some 52 := by kernel_rfl
theorem tOnT : (Tryd.prog.globals[1]?).map (·.type) = some 55 := by kernel_rfl
theorem tPow : (Tryd.prog.globals[4]?).map (·.type) = some 97 := by kernel_rfl

/-- texts in a table. -/
theorem str_tab {W : World} {name : String} {rest : List (String × DataW Unit)} {g n : Nat} {T : TypeId} {ls : List (List UInt8)} (hg : Tryd.prog.globalNamed name = some g) (hty : (Tryd.prog.globals[g]?).map (·.type) = some T) (ht : Tryd.prog.underlying T = some (.array n 9))
    (hn : ls.length = n) (h : laidMet Tryd.prog ((name, .agg (ls.map fun l => .lit (.string l))) :: rest) W) : ∀ i, i < n → W.cell? ⟨g, i, none⟩ = some (sV (ls.getD i [])) := by
  obtain ⟨ps, ⟨g0, t0, cs0, f0, p0, q0, hg0, ht0, hv0, hd0, _, _⟩, _⟩ := h
  obtain rfl := Option.some.inj (hg.symm.trans hg0)
  obtain rfl := Option.some.inj (hty.symm.trans ht0)
  obtain ⟨xs, m1, rfl, hx1, hlen, hxl, hel⟩ := DataW.trod_array ht hd0
  simp only [Prod.mk.injEq, DataW.agg.injEq] at hx1
  have c1 : Tryd.prog.cellsOf 9 = 1 := by kernel_rfl
  intro i hi
  have h0 := hel i hi
  rw [c1] at h0
  obtain ⟨x, hx⟩ : ∃ x, xs[i]? = some x := ⟨_, List.getElem?_eq_getElem (by omega)⟩
  rw [hx] at h0
  have hd : x.1 = .lit (.string (ls.getD i [])) := by
    have h1 := congrArg (·[i]?) hx1.1
    simp only [List.getElem?_map, hx, Option.map_some] at h1
    rw [List.getElem?_eq_getElem (by omega : i < ls.length)] at h1
    simp only [Option.map_some, Option.some.injEq] at h1
    rw [← h1]
    simp [List.getD, hn, hi]
  obtain ⟨s, a0, e0, _⟩ := DataW.trod_string Tryd.underlying9 h0
  rw [World.var?_cell hg0 hv0 i]
  have e1 : s.data.toList = ls.getD i [] := by
    rw [e0] at hd
    simpa using hd
  have h2 := congrArg (·[0]?) a0
  have h3 : cs0[i]? = some (.string s) := by simpa [List.getElem?_take, List.getElem?_drop] using h2
  rw [h3]
  unfold sV
  rw [← e1]
/-- numbers in a table of tables. -/
theorem fl_tab {W : World} {rest : List (String × DataW Unit)} (h : laidMet Tryd.prog (("knell/event.allFields", Rows.laid_knell_event_allFields) :: rest) W) : ∀ k o, k < 6 → o < 8 → W.cell? ⟨gFields, k * 8 + o, none⟩ = some (.int .u16 (tF k o)) := by
  obtain ⟨ps, ⟨g0, t0, cs0, f0, p0, q0, hg0, ht0, hv0, hd0, _, _⟩, _⟩ := h
  obtain rfl := Option.some.inj (gFl.symm.trans hg0)
  obtain rfl := Option.some.inj (tFlT.symm.trans ht0)
  obtain ⟨xs, m1, rfl, hx1, hlen, hxl, hel⟩ := DataW.trod_array Tryd.underlying66 hd0
  simp only [Prod.mk.injEq] at hx1
  have c8 : Tryd.prog.cellsOf 65 = 8 := by kernel_rfl
  have c1 : Tryd.prog.cellsOf 49 = 1 := by kernel_rfl
  have hrow : (Rows.laid_knell_event_allFields : DataW Unit) = .agg ((List.range 6).map fun k => Lib.tabData .u16 ((List.range 8).map fun o => tF k o)) := rfl
  intro k o hk ho
  have h0 := hel k hk
  rw [c8] at h0
  obtain ⟨x, hx⟩ : ∃ x, xs[k]? = some x := ⟨_, List.getElem?_eq_getElem (by omega)⟩
  rw [hx] at h0
  have hd : x.1 = Lib.tabData .u16 ((List.range 8).map fun o => tF k o) := by
    have h1 := hx1.1
    rw [hrow] at h1
    simp only [DataW.agg.injEq] at h1
    have h2 := congrArg (·[k]?) h1
    simp only [List.getElem?_map, hx, List.getElem?_range hk, Option.map_some, Option.some.injEq] at h2
    exact h2.symm
  obtain ⟨x1, x2⟩ := x
  have hd : x1 = Lib.tabData .u16 ((List.range 8).map fun o => tF k o) := hd
  subst hd
  have hc := Lib.cells_of_tab Tryd.underlying65 Tryd.underlying49 c1 c8 h0
  rw [World.var?_cell hg0 hv0 (k * 8 + o)]
  have h2 := congrArg (·[o]?) hc
  simp only [List.getElem?_take, List.getElem?_drop, List.getElem?_map, List.getElem?_range ho, Option.map_some, if_pos ho] at h2
  simpa using h2
theorem tab_of_laid {W : World} (h : laidMetH Tryd.prog laidE W) : TabE W := by
  rw [MakeChecks.laidMetH_plain _ _ _ (by kernel_rfl)] at h
  have h2 := h.tail.tail
  have h3 := h2.tail
  have h4 := h3.tail
  have h5 := h4.tail
  have h6 := h5.tail
  have p1 : Lib.TabIs Tryd.prog W "internal/strconv.uint64pow10" .u64 Lib.pow10Tab := Lib.tabIs_of_head (rest := _) gPow tPow Tryd.underlying97 Tryd.underlying87 (by kernel_rfl) (by kernel_rfl) h2
  have p3 : Lib.TabIs Tryd.prog W "knell/event.anyNumbers" .u16 tAn := Lib.tabIs_of_head (rest := _) gAn tAnT Tryd.underlying71 Tryd.underlying49 (by kernel_rfl) (by kernel_rfl) h4
  have k4 := p1.cell gPow 0 (by decide)
  refine ⟨?_, fl_tab h3, fun k hk => ?_, str_tab (ls := kN) gKn tKnT Tryd.underlying52 rfl h5, str_tab (ls := oN) gOn tOnT Tryd.underlying55 rfl h6, p1⟩
  · obtain ⟨ps, ⟨g0, t0, cs0, f0, p0, q0, hg0, ht0, hv0, hd0, _, _⟩, _⟩ := h.tail
    obtain rfl := Option.some.inj (gDb.symm.trans hg0)
    rcases Nat.lt_or_ge 7 W.heap.size with h7 | h7
    · exact h7
    · unfold World.var? at hv0
      rw [gDb] at hv0
      simp only [Option.bind_some] at hv0
      rw [Array.getElem?_eq_none h7] at hv0
      cases hv0
  · have := p3.cell gAn k (by show k < 6; exact hk)
    exact this

end Go.Proofs.YtiaknnhfbfoeiaaDoor
