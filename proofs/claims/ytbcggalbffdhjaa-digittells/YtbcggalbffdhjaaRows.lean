/-
  No cell of these rows narrows 'for every input' (looked for: loops, veiled, ifaces, maps, wideKeys, modest, calm, conditions, laid).
  DERIVED. THE GIVEN ROWS OF THIS SEAT. 5 by the template 'for every input the law returns true; each argument reads behind the call as it read before'; 0 by the template 'total and deterministic' (their statements: YtbcggalbffdhjaaTotals.lean).
  GIVEN WITH THE SEED: the statements are not yours to turn. If you find one false, say at which input.
  Laid BY PROGRAM, IN A SANDBOX (cutbox-rows.mjs): the forced cells as the released guide's own fill.sh prints them over the translation 23a1fb083c6ccbbc… (all of the seat's roots in one cut). By AI agents, Wed Nov 11 2026. No macro, syntax, notation, axiom, sorry.
-/
import Derived.Test.YtbcggalbffdhjaaChecked
import GoSem.Claim
import GoSem.ClaimJoined
import GoSem.ClaimMapViews
import Derived.JoinedTies
import Derived.KernelRfl
namespace Go.Proofs.Ytbcggalbffdhjaa
/- THE CELL 'sum', in the pinned program and in every row, IS THE sha256 OF THE DUMP (.gsa) THAT YtbcggalbffdhjaaProg.lean LOADS. Nothing in Lean hashes anything: it is a label: what it is worth is what the hold of that sum in a sandbox is worth. -/
noncomputable def Try.pinned : Pinned := { name := "ytbcggalbffdhjaa", sum := "23a1fb083c6ccbbc6331b65df288aa61660428c4efa607167f8d0319b81a675d", checked := Try.checked }
namespace Rows
def none {H : Type} : Left H := { results := [], args := [] }

/-- 'knelllaw05.DigitTells': WHATEVER THE INPUT: true; the input reads as it did. -/
def digitTellsSpec : ChangeSpec := { name := "digitTells", fn := fun _ => fun
  | [d1, d2, d3, d4] => { results := [.lit (.bool true)], args := [d1, d2, d3, d4] }
  | _ => none }
def digitTellsRow : OpenClaim := { program := "ytbcggalbffdhjaa", sum := "23a1fb083c6ccbbc6331b65df288aa61660428c4efa607167f8d0319b81a675d", func := "knell/knelllaw05.DigitTells", spec := "digitTells", apart := false }
def DigitTellsSaid : Prop := digitTellsRow.holds Try.pinned (OpenSpec.ofChange digitTellsSpec)

/-- ITS FALSE NEIGHBOUR: 'it returns false'. Refute it at one input. -/
def digitTellsWrong : ChangeSpec := { name := "digitTells", fn := fun _ => fun
  | [d1, d2, d3, d4] => { results := [.lit (.bool false)], args := [d1, d2, d3, d4] }
  | _ => none }
def DigitTellsWrongFalsely : Prop := digitTellsRow.holds Try.pinned (OpenSpec.ofChange digitTellsWrong)

/-- 'knelllaw05.DigitPlaces': WHATEVER THE INPUT: true; the input reads as it did. -/
def digitPlacesSpec : ChangeSpec := { name := "digitPlaces", fn := fun _ => fun
  | [d1, d2, d3, d4] => { results := [.lit (.bool true)], args := [d1, d2, d3, d4] }
  | _ => none }
def digitPlacesRow : OpenClaim := { program := "ytbcggalbffdhjaa", sum := "23a1fb083c6ccbbc6331b65df288aa61660428c4efa607167f8d0319b81a675d", func := "knell/knelllaw05.DigitPlaces", spec := "digitPlaces", apart := false }
def DigitPlacesSaid : Prop := digitPlacesRow.holds Try.pinned (OpenSpec.ofChange digitPlacesSpec)

/-- ITS FALSE NEIGHBOUR: 'it returns false'. Refute it at one input. -/
def digitPlacesWrong : ChangeSpec := { name := "digitPlaces", fn := fun _ => fun
  | [d1, d2, d3, d4] => { results := [.lit (.bool false)], args := [d1, d2, d3, d4] }
  | _ => none }
def DigitPlacesWrongFalsely : Prop := digitPlacesRow.holds Try.pinned (OpenSpec.ofChange digitPlacesWrong)

/-- 'knelllaw05.DigitStays': WHATEVER THE INPUT: true; the input reads as it did. -/
def digitStaysSpec : ChangeSpec := { name := "digitStays", fn := fun _ => fun
  | [d1, d2, d3, d4, d5] => { results := [.lit (.bool true)], args := [d1, d2, d3, d4, d5] }
  | _ => none }
def digitStaysRow : OpenClaim := { program := "ytbcggalbffdhjaa", sum := "23a1fb083c6ccbbc6331b65df288aa61660428c4efa607167f8d0319b81a675d", func := "knell/knelllaw05.DigitStays", spec := "digitStays", apart := false }
def DigitStaysSaid : Prop := digitStaysRow.holds Try.pinned (OpenSpec.ofChange digitStaysSpec)

/-- ITS FALSE NEIGHBOUR: 'it returns false'. Refute it at one input. -/
def digitStaysWrong : ChangeSpec := { name := "digitStays", fn := fun _ => fun
  | [d1, d2, d3, d4, d5] => { results := [.lit (.bool false)], args := [d1, d2, d3, d4, d5] }
  | _ => none }
def DigitStaysWrongFalsely : Prop := digitStaysRow.holds Try.pinned (OpenSpec.ofChange digitStaysWrong)

/-- 'knelllaw05.DigitFloors': WHATEVER THE INPUT: true; the input reads as it did. -/
def digitFloorsSpec : ChangeSpec := { name := "digitFloors", fn := fun _ => fun
  | [d1, d2, d3] => { results := [.lit (.bool true)], args := [d1, d2, d3] }
  | _ => none }
def digitFloorsRow : OpenClaim := { program := "ytbcggalbffdhjaa", sum := "23a1fb083c6ccbbc6331b65df288aa61660428c4efa607167f8d0319b81a675d", func := "knell/knelllaw05.DigitFloors", spec := "digitFloors", apart := false }
def DigitFloorsSaid : Prop := digitFloorsRow.holds Try.pinned (OpenSpec.ofChange digitFloorsSpec)

/-- ITS FALSE NEIGHBOUR: 'it returns false'. Refute it at one input. -/
def digitFloorsWrong : ChangeSpec := { name := "digitFloors", fn := fun _ => fun
  | [d1, d2, d3] => { results := [.lit (.bool false)], args := [d1, d2, d3] }
  | _ => none }
def DigitFloorsWrongFalsely : Prop := digitFloorsRow.holds Try.pinned (OpenSpec.ofChange digitFloorsWrong)

/-- 'knelllaw05.DigitOrders': WHATEVER THE INPUT: true; the input reads as it did. -/
def digitOrdersSpec : ChangeSpec := { name := "digitOrders", fn := fun _ => fun
  | [d1, d2, d3] => { results := [.lit (.bool true)], args := [d1, d2, d3] }
  | _ => none }
def digitOrdersRow : OpenClaim := { program := "ytbcggalbffdhjaa", sum := "23a1fb083c6ccbbc6331b65df288aa61660428c4efa607167f8d0319b81a675d", func := "knell/knelllaw05.DigitOrders", spec := "digitOrders", apart := false }
def DigitOrdersSaid : Prop := digitOrdersRow.holds Try.pinned (OpenSpec.ofChange digitOrdersSpec)

/-- ITS FALSE NEIGHBOUR: 'it returns false'. Refute it at one input. -/
def digitOrdersWrong : ChangeSpec := { name := "digitOrders", fn := fun _ => fun
  | [d1, d2, d3] => { results := [.lit (.bool false)], args := [d1, d2, d3] }
  | _ => none }
def DigitOrdersWrongFalsely : Prop := digitOrdersRow.holds Try.pinned (OpenSpec.ofChange digitOrdersWrong)

/- THE SECOND FORM. 'bulk': how many values and letters a reading holds, each counted each time it is reached (what is shared counts as often as it is met; a slice's spare places count too). A statement '..UptoSaid' is the law's where the arguments, and the package variables that the reading takes, are together of bulk at most 1048576: NARROWER than '..Said'. Prove '..Said' where nothing that the law and all that it calls make is longer than what came in: it says more and counts as full. Else prove '..UptoSaid'. A law counts once. -/
mutual
def uptoBulk {H : Type} : DataW H → Nat
  | .lit (.string bytes) => bytes.length + 1
  | .lit _ => 1
  | .nil => 1
  | .ptr d => uptoBulk d + 1
  | .slice elems spare => uptoBulkAll elems + uptoBulkAll spare + 1
  | .agg parts => uptoBulkAll parts + 1
  | .iface _ d => uptoBulk d + 1
  | .map entries => uptoBulkEntries entries + 1
  | .held _ => 1
def uptoBulkAll {H : Type} : List (DataW H) → Nat
  | [] => 0
  | d :: r => uptoBulk d + uptoBulkAll r
def uptoBulkEntries {H : Type} : List (Lit × DataW H) → Nat
  | [] => 0
  | x :: r => uptoBulkEntry x + uptoBulkEntries r
def uptoBulkEntry {H : Type} : Lit × DataW H → Nat
  | (.string bytes, d) => bytes.length + uptoBulk d + 1
  | (_, d) => uptoBulk d + 1
 end
def uptoSmall : (H : Type) → List (DataW H) → Bool := fun _ ds => decide (uptoBulkAll ds ≤ 1048576)
def OpenSpec.upto (s : _root_.Go.ChangeSpec) : _root_.Go.OpenSpec := { _root_.Go.OpenSpec.ofChange s with cond := some uptoSmall }

/-- 'knelllaw05.DigitTells', WHERE WHAT IT READS IS OF BULK AT MOST 1048576: true; the input reads as it did. -/
def digitTellsUptoRow : OpenClaim := { program := "ytbcggalbffdhjaa", sum := "23a1fb083c6ccbbc6331b65df288aa61660428c4efa607167f8d0319b81a675d", func := "knell/knelllaw05.DigitTells", spec := "digitTells", apart := false, narrowed := true }
def DigitTellsUptoSaid : Prop := digitTellsUptoRow.holds Try.pinned (OpenSpec.upto digitTellsSpec)

/-- 'knelllaw05.DigitPlaces', WHERE WHAT IT READS IS OF BULK AT MOST 1048576: true; the input reads as it did. -/
def digitPlacesUptoRow : OpenClaim := { program := "ytbcggalbffdhjaa", sum := "23a1fb083c6ccbbc6331b65df288aa61660428c4efa607167f8d0319b81a675d", func := "knell/knelllaw05.DigitPlaces", spec := "digitPlaces", apart := false, narrowed := true }
def DigitPlacesUptoSaid : Prop := digitPlacesUptoRow.holds Try.pinned (OpenSpec.upto digitPlacesSpec)

/-- 'knelllaw05.DigitStays', WHERE WHAT IT READS IS OF BULK AT MOST 1048576: true; the input reads as it did. -/
def digitStaysUptoRow : OpenClaim := { program := "ytbcggalbffdhjaa", sum := "23a1fb083c6ccbbc6331b65df288aa61660428c4efa607167f8d0319b81a675d", func := "knell/knelllaw05.DigitStays", spec := "digitStays", apart := false, narrowed := true }
def DigitStaysUptoSaid : Prop := digitStaysUptoRow.holds Try.pinned (OpenSpec.upto digitStaysSpec)

/-- 'knelllaw05.DigitFloors', WHERE WHAT IT READS IS OF BULK AT MOST 1048576: true; the input reads as it did. -/
def digitFloorsUptoRow : OpenClaim := { program := "ytbcggalbffdhjaa", sum := "23a1fb083c6ccbbc6331b65df288aa61660428c4efa607167f8d0319b81a675d", func := "knell/knelllaw05.DigitFloors", spec := "digitFloors", apart := false, narrowed := true }
def DigitFloorsUptoSaid : Prop := digitFloorsUptoRow.holds Try.pinned (OpenSpec.upto digitFloorsSpec)

/-- 'knelllaw05.DigitOrders', WHERE WHAT IT READS IS OF BULK AT MOST 1048576: true; the input reads as it did. -/
def digitOrdersUptoRow : OpenClaim := { program := "ytbcggalbffdhjaa", sum := "23a1fb083c6ccbbc6331b65df288aa61660428c4efa607167f8d0319b81a675d", func := "knell/knelllaw05.DigitOrders", spec := "digitOrders", apart := false, narrowed := true }
def DigitOrdersUptoSaid : Prop := digitOrdersUptoRow.holds Try.pinned (OpenSpec.upto digitOrdersSpec)

end Rows
end Go.Proofs.Ytbcggalbffdhjaa
