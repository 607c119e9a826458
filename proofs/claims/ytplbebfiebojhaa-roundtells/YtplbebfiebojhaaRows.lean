/-
  No cell of these rows narrows 'for every input' (looked for: loops, veiled, ifaces, maps, wideKeys, modest, calm, conditions, laid).
  DERIVED. THE GIVEN ROWS OF THIS SEAT. 4 by the template 'for every input the law returns true; each argument reads behind the call as it read before'; 0 by the template 'total and deterministic' (their statements: YtplbebfiebojhaaTotals.lean).
  GIVEN WITH THE SEED: the statements are not yours to turn. If you find one false, say at which input.
  Laid BY PROGRAM, IN A SANDBOX (cutbox-rows.mjs): the forced cells as the released guide's own fill.sh prints them over the translation 8780941e6e1cea37… (all of the seat's roots in one cut). By AI agents, Wed Nov 11 2026. No macro, syntax, notation, axiom, sorry.
-/
import Derived.Test.YtplbebfiebojhaaChecked
import GoSem.Claim
import GoSem.ClaimJoined
import GoSem.ClaimMapViews
import Derived.JoinedTies
import Derived.KernelRfl
namespace Go.Proofs.Ytplbebfiebojhaa
/- THE CELL 'sum', in the pinned program and in every row, IS THE sha256 OF THE DUMP (.gsa) THAT YtplbebfiebojhaaProg.lean LOADS. Nothing in Lean hashes anything: it is a label: what it is worth is what the hold of that sum in a sandbox is worth. -/
noncomputable def Try.pinned : Pinned := { name := "ytplbebfiebojhaa", sum := "8780941e6e1cea374a2371acd798338dcc08a6d169ede6dadcb0e63e14681608", checked := Try.checked }
namespace Rows
def none {H : Type} : Left H := { results := [], args := [] }

/-- 'knelllaw04.RoundTells': WHATEVER THE INPUT: true; the input reads as it did. -/
def roundTellsSpec : ChangeSpec := { name := "roundTells", fn := fun _ => fun
  | [d1, d2, d3, d4] => { results := [.lit (.bool true)], args := [d1, d2, d3, d4] }
  | _ => none }
def roundTellsRow : OpenClaim := { program := "ytplbebfiebojhaa", sum := "8780941e6e1cea374a2371acd798338dcc08a6d169ede6dadcb0e63e14681608", func := "knell/knelllaw04.RoundTells", spec := "roundTells", recurses := true, apart := false }
def RoundTellsSaid : Prop := roundTellsRow.holds Try.pinned (OpenSpec.ofChange roundTellsSpec)

/-- ITS FALSE NEIGHBOUR: 'it returns false'. Refute it at one input. -/
def roundTellsWrong : ChangeSpec := { name := "roundTells", fn := fun _ => fun
  | [d1, d2, d3, d4] => { results := [.lit (.bool false)], args := [d1, d2, d3, d4] }
  | _ => none }
def RoundTellsWrongFalsely : Prop := roundTellsRow.holds Try.pinned (OpenSpec.ofChange roundTellsWrong)

/-- 'knelllaw04.RoundWithin': WHATEVER THE INPUT: true; the input reads as it did. -/
def roundWithinSpec : ChangeSpec := { name := "roundWithin", fn := fun _ => fun
  | [d1, d2, d3] => { results := [.lit (.bool true)], args := [d1, d2, d3] }
  | _ => none }
def roundWithinRow : OpenClaim := { program := "ytplbebfiebojhaa", sum := "8780941e6e1cea374a2371acd798338dcc08a6d169ede6dadcb0e63e14681608", func := "knell/knelllaw04.RoundWithin", spec := "roundWithin", apart := false }
def RoundWithinSaid : Prop := roundWithinRow.holds Try.pinned (OpenSpec.ofChange roundWithinSpec)

/-- ITS FALSE NEIGHBOUR: 'it returns false'. Refute it at one input. -/
def roundWithinWrong : ChangeSpec := { name := "roundWithin", fn := fun _ => fun
  | [d1, d2, d3] => { results := [.lit (.bool false)], args := [d1, d2, d3] }
  | _ => none }
def RoundWithinWrongFalsely : Prop := roundWithinRow.holds Try.pinned (OpenSpec.ofChange roundWithinWrong)

/-- 'knelllaw04.RoundSums': WHATEVER THE INPUT: true; the input reads as it did. -/
def roundSumsSpec : ChangeSpec := { name := "roundSums", fn := fun _ => fun
  | [d1, d2] => { results := [.lit (.bool true)], args := [d1, d2] }
  | _ => none }
def roundSumsRow : OpenClaim := { program := "ytplbebfiebojhaa", sum := "8780941e6e1cea374a2371acd798338dcc08a6d169ede6dadcb0e63e14681608", func := "knell/knelllaw04.RoundSums", spec := "roundSums", apart := false }
def RoundSumsSaid : Prop := roundSumsRow.holds Try.pinned (OpenSpec.ofChange roundSumsSpec)

/-- ITS FALSE NEIGHBOUR: 'it returns false'. Refute it at one input. -/
def roundSumsWrong : ChangeSpec := { name := "roundSums", fn := fun _ => fun
  | [d1, d2] => { results := [.lit (.bool false)], args := [d1, d2] }
  | _ => none }
def RoundSumsWrongFalsely : Prop := roundSumsRow.holds Try.pinned (OpenSpec.ofChange roundSumsWrong)

/-- 'knelllaw04.RoundBatches': WHATEVER THE INPUT: true; the input reads as it did. -/
def roundBatchesSpec : ChangeSpec := { name := "roundBatches", fn := fun _ => fun
  | [d1, d2] => { results := [.lit (.bool true)], args := [d1, d2] }
  | _ => none }
def roundBatchesRow : OpenClaim := { program := "ytplbebfiebojhaa", sum := "8780941e6e1cea374a2371acd798338dcc08a6d169ede6dadcb0e63e14681608", func := "knell/knelllaw04.RoundBatches", spec := "roundBatches", recurses := true, apart := false }
def RoundBatchesSaid : Prop := roundBatchesRow.holds Try.pinned (OpenSpec.ofChange roundBatchesSpec)

/-- ITS FALSE NEIGHBOUR: 'it returns false'. Refute it at one input. -/
def roundBatchesWrong : ChangeSpec := { name := "roundBatches", fn := fun _ => fun
  | [d1, d2] => { results := [.lit (.bool false)], args := [d1, d2] }
  | _ => none }
def RoundBatchesWrongFalsely : Prop := roundBatchesRow.holds Try.pinned (OpenSpec.ofChange roundBatchesWrong)

/- THE SECOND FORM. 'bulk': how many values and letters a reading holds, each counted each time it is reached (what is shared counts as often as it is met; a slice's spare places count too). A statement '..UptoSaid' is the law's where the arguments, and the package variables that the reading takes, are together of bulk at most 1048576: NARROWER than '..Said'. Prove '..Said' where nothing that the law and all that it calls make is longer than what came in: it says more and counts as full. Else prove '..UptoSaid'. A law counts once. -/
mutual
def uptoBulk {H : Type} : DataW H → Nat
  | .lit (.string bytes) => bytes.length + 1
  | .lit _ => 1
  | .nil => 1
  | .ptr d => uptoBulk d + 1
  | .slice elems spare => uptoBulkAll elems + uptoBulkAll spare + 1
  | .agg parts => uptoBulkAll parts + 1
  | .iface _ d => uptoBulk d + 1
  | .map entries => uptoBulkEntries entries + 1
  | .held _ => 1
def uptoBulkAll {H : Type} : List (DataW H) → Nat
  | [] => 0
  | d :: r => uptoBulk d + uptoBulkAll r
def uptoBulkEntries {H : Type} : List (Lit × DataW H) → Nat
  | [] => 0
  | x :: r => uptoBulkEntry x + uptoBulkEntries r
def uptoBulkEntry {H : Type} : Lit × DataW H → Nat
  | (.string bytes, d) => bytes.length + uptoBulk d + 1
  | (_, d) => uptoBulk d + 1
 end
def uptoSmall : (H : Type) → List (DataW H) → Bool := fun _ ds => decide (uptoBulkAll ds ≤ 1048576)
def OpenSpec.upto (s : _root_.Go.ChangeSpec) : _root_.Go.OpenSpec := { _root_.Go.OpenSpec.ofChange s with cond := some uptoSmall }

/-- 'knelllaw04.RoundTells', WHERE WHAT IT READS IS OF BULK AT MOST 1048576: true; the input reads as it did. -/
def roundTellsUptoRow : OpenClaim := { program := "ytplbebfiebojhaa", sum := "8780941e6e1cea374a2371acd798338dcc08a6d169ede6dadcb0e63e14681608", func := "knell/knelllaw04.RoundTells", spec := "roundTells", recurses := true, apart := false, narrowed := true }
def RoundTellsUptoSaid : Prop := roundTellsUptoRow.holds Try.pinned (OpenSpec.upto roundTellsSpec)

/-- 'knelllaw04.RoundWithin', WHERE WHAT IT READS IS OF BULK AT MOST 1048576: true; the input reads as it did. -/
def roundWithinUptoRow : OpenClaim := { program := "ytplbebfiebojhaa", sum := "8780941e6e1cea374a2371acd798338dcc08a6d169ede6dadcb0e63e14681608", func := "knell/knelllaw04.RoundWithin", spec := "roundWithin", apart := false, narrowed := true }
def RoundWithinUptoSaid : Prop := roundWithinUptoRow.holds Try.pinned (OpenSpec.upto roundWithinSpec)

/-- 'knelllaw04.RoundSums', WHERE WHAT IT READS IS OF BULK AT MOST 1048576: true; the input reads as it did. -/
def roundSumsUptoRow : OpenClaim := { program := "ytplbebfiebojhaa", sum := "8780941e6e1cea374a2371acd798338dcc08a6d169ede6dadcb0e63e14681608", func := "knell/knelllaw04.RoundSums", spec := "roundSums", apart := false, narrowed := true }
def RoundSumsUptoSaid : Prop := roundSumsUptoRow.holds Try.pinned (OpenSpec.upto roundSumsSpec)

/-- 'knelllaw04.RoundBatches', WHERE WHAT IT READS IS OF BULK AT MOST 1048576: true; the input reads as it did. -/
def roundBatchesUptoRow : OpenClaim := { program := "ytplbebfiebojhaa", sum := "8780941e6e1cea374a2371acd798338dcc08a6d169ede6dadcb0e63e14681608", func := "knell/knelllaw04.RoundBatches", spec := "roundBatches", recurses := true, apart := false, narrowed := true }
def RoundBatchesUptoSaid : Prop := roundBatchesUptoRow.holds Try.pinned (OpenSpec.upto roundBatchesSpec)

end Rows
end Go.Proofs.Ytplbebfiebojhaa
