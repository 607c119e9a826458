/- Events: the tables that the program's text lays. -/
import Derived.Test.YtiaknnhfbfoeiaaDoorE1
import Derived.Lib.LaidTab
import Derived.Lib.SmallJoins
import Derived.Shelf.Strconv.Itoa3
namespace Go.Proofs.YtiaknnhfbfoeiaaDoor
open Go.RowKit

theorem Lies.new_of {w : World} {b : Nat} (t : TypeId) (cs : Array Value) (h : w.heap.size = b) : Lies (w.alloc (.cells cs t)) b t cs := h ▸ Lies.new w t cs
abbrev gFields : Nat := 2
abbrev gAny : Nat := 3
abbrev gKinds : Nat := 0
abbrev gOps : Nat := 1
def tFl : List Int := [0, 0, 0, 0, 0, 0, 0, 0, 16, 0, 0, 0, 0, 0, 0, 0, 0, 115, 7, 23, 39, 3, 3, 3, 0, 283, 135, 287, 263, 0, 0, 0, 85, 0, 0, 0, 0, 0, 0, 0, 0, 267, 131, 267, 259, 3, 19, 19]
def tAn : List Int := [0, 0, 116, 4, 0, 0]
def kN : List (List UInt8) := [[], [116, 105, 99, 107], [105, 110, 118, 111, 107, 101], [112, 111, 105, 110, 116], [102, 105, 114, 101], [114, 101, 116, 117, 114, 110]]
def oN : List (List UInt8) := [[], [115, 116, 97, 114, 116], [99, 97, 110, 99, 101, 108], [114, 101, 97, 114, 109], [109, 105, 103, 114, 97, 116, 101], [97, 100, 118, 97, 110, 99, 101], [110, 101, 120, 116], [112, 101, 101, 107]]
def tF (k o : Nat) : Int := tFl.getD (k * 8 + o) 0
def tA (k : Nat) : Int := tAn.getD k 0
def sV (l : List UInt8) : Value := .string ⟨l.toArray⟩
structure TabE (w : World) : Prop where
  lt : 8 ≤ w.heap.size
  fl : ∀ k o, k < 6 → o < 8 → w.cell? ⟨gFields, k * 8 + o, none⟩ = some (.int .u16 (tF k o))
  an : ∀ k, k < 6 → w.cell? ⟨gAny, k, none⟩ = some (.int .u16 (tA k))
  kn : ∀ k, k < 6 → w.cell? ⟨gKinds, k, none⟩ = some (sV (kN.getD k []))
  on : ∀ o, o < 8 → w.cell? ⟨gOps, o, none⟩ = some (sV (oN.getD o []))
  pw : Lib.TabIs Tryd.prog w "internal/strconv.uint64pow10" .u64 Lib.pow10Tab
theorem gPow : Tryd.prog.globalNamed "internal/strconv.uint64pow10" = some 4 := by kernel_rfl
theorem TabE.keep {w w' : World} (h : TabE w) (b : Below w.heap.size w w') : TabE w' :=
  have c : ∀ {g i : Nat}, g < 8 → w'.cell? ⟨g, i, none⟩ = w.cell? ⟨g, i, none⟩ := fun hg => b.cell (Nat.lt_of_lt_of_le hg h.lt)
  ⟨Nat.le_trans h.lt b.size, fun k o hk ho => (c (by decide)).trans (h.fl k o hk ho), fun k hk => (c (by decide)).trans (h.an k hk), fun k hk => (c (by decide)).trans (h.kn k hk), fun o ho => (c (by decide)).trans (h.on o ho), Joins.tab_stays gPow h.pw b (Nat.le_refl _)⟩

end Go.Proofs.YtiaknnhfbfoeiaaDoor
