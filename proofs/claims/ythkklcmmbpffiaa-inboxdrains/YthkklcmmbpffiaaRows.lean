/-
  No cell of these rows narrows 'for every input' (looked for: loops, veiled, ifaces, maps, wideKeys, modest, calm, conditions, laid).
  DERIVED. THE GIVEN ROWS OF THIS SEAT. 9 by the template 'for every input the law returns true; each argument reads behind the call as it read before'; 0 by the template 'total and deterministic' (their statements: YthkklcmmbpffiaaTotals.lean).
  GIVEN WITH THE SEED: the statements are not yours to turn. If you find one false, say at which input.
  Laid BY PROGRAM, IN A SANDBOX (cutbox-rows.mjs): the forced cells as the released guide's own fill.sh prints them over the translation ce587eeafff6caa9… (all of the seat's roots in one cut). By AI agents, Wed Nov 11 2026. No macro, syntax, notation, axiom, sorry.
-/
import Derived.Test.YthkklcmmbpffiaaChecked
import GoSem.Claim
import GoSem.ClaimJoined
import GoSem.ClaimMapViews
import Derived.JoinedTies
import Derived.KernelRfl
namespace Go.Proofs.Ythkklcmmbpffiaa
/- THE CELL 'sum', in the pinned program and in every row, IS THE sha256 OF THE DUMP (.gsa) THAT YthkklcmmbpffiaaProg.lean LOADS. Nothing in Lean hashes anything: it is a label: what it is worth is what the hold of that sum in a sandbox is worth. -/
noncomputable def Try.pinned : Pinned := { name := "ythkklcmmbpffiaa", sum := "ce587eeafff6caa97c516818a84ed4461770547656ad997ab1d3dd8c36f228a5", checked := Try.checked }
namespace Rows
def none {H : Type} : Left H := { results := [], args := [] }

/-- 'knelllaw08.StackAlone': WHATEVER THE INPUT: true; the input reads as it did. -/
def stackAloneSpec : ChangeSpec := { name := "stackAlone", fn := fun _ => fun
  | [d1, d2] => { results := [.lit (.bool true)], args := [d1, d2] }
  | _ => none }
def stackAloneRow : OpenClaim := { program := "ythkklcmmbpffiaa", sum := "ce587eeafff6caa97c516818a84ed4461770547656ad997ab1d3dd8c36f228a5", func := "knell/knelllaw08.StackAlone", spec := "stackAlone", inPlace := ["sync/atomic.AddInt64", "sync/atomic.CompareAndSwapUint64", "sync/atomic.LoadUint64", "sync/atomic.StoreUint64"], unfollowed := true, recurses := true, apart := false }
def StackAloneSaid : Prop := stackAloneRow.holds Try.pinned (OpenSpec.ofChange stackAloneSpec)

/-- ITS FALSE NEIGHBOUR: 'it returns false'. Refute it at one input. -/
def stackAloneWrong : ChangeSpec := { name := "stackAlone", fn := fun _ => fun
  | [d1, d2] => { results := [.lit (.bool false)], args := [d1, d2] }
  | _ => none }
def StackAloneWrongFalsely : Prop := stackAloneRow.holds Try.pinned (OpenSpec.ofChange stackAloneWrong)

/-- 'knelllaw08.StackMany': WHATEVER THE INPUT: true; the input reads as it did. -/
def stackManySpec : ChangeSpec := { name := "stackMany", fn := fun _ => fun
  | [d1, d2, d3] => { results := [.lit (.bool true)], args := [d1, d2, d3] }
  | _ => none }
def stackManyRow : OpenClaim := { program := "ythkklcmmbpffiaa", sum := "ce587eeafff6caa97c516818a84ed4461770547656ad997ab1d3dd8c36f228a5", func := "knell/knelllaw08.StackMany", spec := "stackMany", inPlace := ["sync/atomic.AddInt64", "sync/atomic.CompareAndSwapUint64", "sync/atomic.LoadUint64", "sync/atomic.StoreUint64", "sync/atomic.LoadInt64"], unfollowed := true, recurses := true, apart := false }
def StackManySaid : Prop := stackManyRow.holds Try.pinned (OpenSpec.ofChange stackManySpec)

/-- ITS FALSE NEIGHBOUR: 'it returns false'. Refute it at one input. -/
def stackManyWrong : ChangeSpec := { name := "stackMany", fn := fun _ => fun
  | [d1, d2, d3] => { results := [.lit (.bool false)], args := [d1, d2, d3] }
  | _ => none }
def StackManyWrongFalsely : Prop := stackManyRow.holds Try.pinned (OpenSpec.ofChange stackManyWrong)

/-- 'knelllaw08.StackSoon': WHATEVER THE INPUT: true; the input reads as it did. -/
def stackSoonSpec : ChangeSpec := { name := "stackSoon", fn := fun _ => fun
  | [d1, d2, d3, d4] => { results := [.lit (.bool true)], args := [d1, d2, d3, d4] }
  | _ => none }
def stackSoonRow : OpenClaim := { program := "ythkklcmmbpffiaa", sum := "ce587eeafff6caa97c516818a84ed4461770547656ad997ab1d3dd8c36f228a5", func := "knell/knelllaw08.StackSoon", spec := "stackSoon", inPlace := ["sync/atomic.AddInt64", "sync/atomic.CompareAndSwapUint64", "sync/atomic.LoadUint64", "sync/atomic.StoreUint64"], unfollowed := true, recurses := true, apart := false }
def StackSoonSaid : Prop := stackSoonRow.holds Try.pinned (OpenSpec.ofChange stackSoonSpec)

/-- ITS FALSE NEIGHBOUR: 'it returns false'. Refute it at one input. -/
def stackSoonWrong : ChangeSpec := { name := "stackSoon", fn := fun _ => fun
  | [d1, d2, d3, d4] => { results := [.lit (.bool false)], args := [d1, d2, d3, d4] }
  | _ => none }
def StackSoonWrongFalsely : Prop := stackSoonRow.holds Try.pinned (OpenSpec.ofChange stackSoonWrong)

/-- 'knelllaw08.StackBack': WHATEVER THE INPUT: true; the input reads as it did. -/
def stackBackSpec : ChangeSpec := { name := "stackBack", fn := fun _ => fun
  | [d1, d2] => { results := [.lit (.bool true)], args := [d1, d2] }
  | _ => none }
def stackBackRow : OpenClaim := { program := "ythkklcmmbpffiaa", sum := "ce587eeafff6caa97c516818a84ed4461770547656ad997ab1d3dd8c36f228a5", func := "knell/knelllaw08.StackBack", spec := "stackBack", inPlace := ["sync/atomic.AddInt64", "sync/atomic.CompareAndSwapUint64", "sync/atomic.LoadUint64", "sync/atomic.StoreUint64"], unfollowed := true, recurses := true, apart := false }
def StackBackSaid : Prop := stackBackRow.holds Try.pinned (OpenSpec.ofChange stackBackSpec)

/-- ITS FALSE NEIGHBOUR: 'it returns false'. Refute it at one input. -/
def stackBackWrong : ChangeSpec := { name := "stackBack", fn := fun _ => fun
  | [d1, d2] => { results := [.lit (.bool false)], args := [d1, d2] }
  | _ => none }
def StackBackWrongFalsely : Prop := stackBackRow.holds Try.pinned (OpenSpec.ofChange stackBackWrong)

/-- 'knelllaw09.InboxAlone': WHATEVER THE INPUT: true; the input reads as it did. -/
def inboxAloneSpec : ChangeSpec := { name := "inboxAlone", fn := fun _ => fun
  | [d] => { results := [.lit (.bool true)], args := [d] }
  | _ => none }
def inboxAloneRow : OpenClaim := { program := "ythkklcmmbpffiaa", sum := "ce587eeafff6caa97c516818a84ed4461770547656ad997ab1d3dd8c36f228a5", func := "knell/knelllaw09.InboxAlone", spec := "inboxAlone", inPlace := ["sync/atomic.AddInt64", "sync/atomic.LoadUint64", "sync/atomic.CompareAndSwapUint64", "sync/atomic.StoreUint64"], unfollowed := true, recurses := true, apart := false }
def InboxAloneSaid : Prop := inboxAloneRow.holds Try.pinned (OpenSpec.ofChange inboxAloneSpec)

/-- ITS FALSE NEIGHBOUR: 'it returns false'. Refute it at one input. -/
def inboxAloneWrong : ChangeSpec := { name := "inboxAlone", fn := fun _ => fun
  | [d] => { results := [.lit (.bool false)], args := [d] }
  | _ => none }
def InboxAloneWrongFalsely : Prop := inboxAloneRow.holds Try.pinned (OpenSpec.ofChange inboxAloneWrong)

/-- 'knelllaw09.InboxMany': WHATEVER THE INPUT: true; the input reads as it did. -/
def inboxManySpec : ChangeSpec := { name := "inboxMany", fn := fun _ => fun
  | [d1, d2, d3, d4] => { results := [.lit (.bool true)], args := [d1, d2, d3, d4] }
  | _ => none }
def inboxManyRow : OpenClaim := { program := "ythkklcmmbpffiaa", sum := "ce587eeafff6caa97c516818a84ed4461770547656ad997ab1d3dd8c36f228a5", func := "knell/knelllaw09.InboxMany", spec := "inboxMany", inPlace := ["sync/atomic.AddInt64", "sync/atomic.LoadUint64", "sync/atomic.CompareAndSwapUint64", "sync/atomic.StoreUint64", "sync/atomic.LoadInt64"], unfollowed := true, recurses := true, apart := false }
def InboxManySaid : Prop := inboxManyRow.holds Try.pinned (OpenSpec.ofChange inboxManySpec)

/-- ITS FALSE NEIGHBOUR: 'it returns false'. Refute it at one input. -/
def inboxManyWrong : ChangeSpec := { name := "inboxMany", fn := fun _ => fun
  | [d1, d2, d3, d4] => { results := [.lit (.bool false)], args := [d1, d2, d3, d4] }
  | _ => none }
def InboxManyWrongFalsely : Prop := inboxManyRow.holds Try.pinned (OpenSpec.ofChange inboxManyWrong)

/-- 'knelllaw09.InboxDrains': WHATEVER THE INPUT: true; the input reads as it did. -/
def inboxDrainsSpec : ChangeSpec := { name := "inboxDrains", fn := fun _ => fun
  | [d1, d2] => { results := [.lit (.bool true)], args := [d1, d2] }
  | _ => none }
def inboxDrainsRow : OpenClaim := { program := "ythkklcmmbpffiaa", sum := "ce587eeafff6caa97c516818a84ed4461770547656ad997ab1d3dd8c36f228a5", func := "knell/knelllaw09.InboxDrains", spec := "inboxDrains", inPlace := ["sync/atomic.AddInt64", "sync/atomic.LoadUint64", "sync/atomic.CompareAndSwapUint64", "sync/atomic.StoreUint64"], unfollowed := true, recurses := true, apart := false }
def InboxDrainsSaid : Prop := inboxDrainsRow.holds Try.pinned (OpenSpec.ofChange inboxDrainsSpec)

/-- ITS FALSE NEIGHBOUR: 'it returns false'. Refute it at one input. -/
def inboxDrainsWrong : ChangeSpec := { name := "inboxDrains", fn := fun _ => fun
  | [d1, d2] => { results := [.lit (.bool false)], args := [d1, d2] }
  | _ => none }
def InboxDrainsWrongFalsely : Prop := inboxDrainsRow.holds Try.pinned (OpenSpec.ofChange inboxDrainsWrong)

/-- 'knelllaw09.InboxOrder': WHATEVER THE INPUT: true; the input reads as it did. -/
def inboxOrderSpec : ChangeSpec := { name := "inboxOrder", fn := fun _ => fun
  | [d1, d2, d3] => { results := [.lit (.bool true)], args := [d1, d2, d3] }
  | _ => none }
def inboxOrderRow : OpenClaim := { program := "ythkklcmmbpffiaa", sum := "ce587eeafff6caa97c516818a84ed4461770547656ad997ab1d3dd8c36f228a5", func := "knell/knelllaw09.InboxOrder", spec := "inboxOrder", inPlace := ["sync/atomic.AddInt64", "sync/atomic.LoadUint64", "sync/atomic.CompareAndSwapUint64", "sync/atomic.StoreUint64"], unfollowed := true, recurses := true, apart := false }
def InboxOrderSaid : Prop := inboxOrderRow.holds Try.pinned (OpenSpec.ofChange inboxOrderSpec)

/-- ITS FALSE NEIGHBOUR: 'it returns false'. Refute it at one input. -/
def inboxOrderWrong : ChangeSpec := { name := "inboxOrder", fn := fun _ => fun
  | [d1, d2, d3] => { results := [.lit (.bool false)], args := [d1, d2, d3] }
  | _ => none }
def InboxOrderWrongFalsely : Prop := inboxOrderRow.holds Try.pinned (OpenSpec.ofChange inboxOrderWrong)

/-- 'knelllaw09.InboxAgain': WHATEVER THE INPUT: true; the input reads as it did. -/
def inboxAgainSpec : ChangeSpec := { name := "inboxAgain", fn := fun _ => fun
  | [d1, d2] => { results := [.lit (.bool true)], args := [d1, d2] }
  | _ => none }
def inboxAgainRow : OpenClaim := { program := "ythkklcmmbpffiaa", sum := "ce587eeafff6caa97c516818a84ed4461770547656ad997ab1d3dd8c36f228a5", func := "knell/knelllaw09.InboxAgain", spec := "inboxAgain", inPlace := ["sync/atomic.AddInt64", "sync/atomic.LoadUint64", "sync/atomic.CompareAndSwapUint64", "sync/atomic.StoreUint64"], unfollowed := true, recurses := true, apart := false }
def InboxAgainSaid : Prop := inboxAgainRow.holds Try.pinned (OpenSpec.ofChange inboxAgainSpec)

/-- ITS FALSE NEIGHBOUR: 'it returns false'. Refute it at one input. -/
def inboxAgainWrong : ChangeSpec := { name := "inboxAgain", fn := fun _ => fun
  | [d1, d2] => { results := [.lit (.bool false)], args := [d1, d2] }
  | _ => none }
def InboxAgainWrongFalsely : Prop := inboxAgainRow.holds Try.pinned (OpenSpec.ofChange inboxAgainWrong)

/- THE SECOND FORM. 'bulk': how many values and letters a reading holds, each counted each time it is reached (what is shared counts as often as it is met; a slice's spare places count too). A statement '..UptoSaid' is the law's where the arguments, and the package variables that the reading takes, are together of bulk at most 1048576: NARROWER than '..Said'. Prove '..Said' where nothing that the law and all that it calls make is longer than what came in: it says more and counts as full. Else prove '..UptoSaid'. A law counts once. -/
mutual
def uptoBulk {H : Type} : DataW H → Nat
  | .lit (.string bytes) => bytes.length + 1
  | .lit _ => 1
  | .nil => 1
  | .ptr d => uptoBulk d + 1
  | .slice elems spare => uptoBulkAll elems + uptoBulkAll spare + 1
  | .agg parts => uptoBulkAll parts + 1
  | .iface _ d => uptoBulk d + 1
  | .map entries => uptoBulkEntries entries + 1
  | .held _ => 1
def uptoBulkAll {H : Type} : List (DataW H) → Nat
  | [] => 0
  | d :: r => uptoBulk d + uptoBulkAll r
def uptoBulkEntries {H : Type} : List (Lit × DataW H) → Nat
  | [] => 0
  | x :: r => uptoBulkEntry x + uptoBulkEntries r
def uptoBulkEntry {H : Type} : Lit × DataW H → Nat
  | (.string bytes, d) => bytes.length + uptoBulk d + 1
  | (_, d) => uptoBulk d + 1
 end
def uptoSmall : (H : Type) → List (DataW H) → Bool := fun _ ds => decide (uptoBulkAll ds ≤ 1048576)
def OpenSpec.upto (s : _root_.Go.ChangeSpec) : _root_.Go.OpenSpec := { _root_.Go.OpenSpec.ofChange s with cond := some uptoSmall }

/-- 'knelllaw08.StackAlone', WHERE WHAT IT READS IS OF BULK AT MOST 1048576: true; the input reads as it did. -/
def stackAloneUptoRow : OpenClaim := { program := "ythkklcmmbpffiaa", sum := "ce587eeafff6caa97c516818a84ed4461770547656ad997ab1d3dd8c36f228a5", func := "knell/knelllaw08.StackAlone", spec := "stackAlone", inPlace := ["sync/atomic.AddInt64", "sync/atomic.CompareAndSwapUint64", "sync/atomic.LoadUint64", "sync/atomic.StoreUint64"], unfollowed := true, recurses := true, apart := false, narrowed := true }
def StackAloneUptoSaid : Prop := stackAloneUptoRow.holds Try.pinned (OpenSpec.upto stackAloneSpec)

/-- 'knelllaw08.StackMany', WHERE WHAT IT READS IS OF BULK AT MOST 1048576: true; the input reads as it did. -/
def stackManyUptoRow : OpenClaim := { program := "ythkklcmmbpffiaa", sum := "ce587eeafff6caa97c516818a84ed4461770547656ad997ab1d3dd8c36f228a5", func := "knell/knelllaw08.StackMany", spec := "stackMany", inPlace := ["sync/atomic.AddInt64", "sync/atomic.CompareAndSwapUint64", "sync/atomic.LoadUint64", "sync/atomic.StoreUint64", "sync/atomic.LoadInt64"], unfollowed := true, recurses := true, apart := false, narrowed := true }
def StackManyUptoSaid : Prop := stackManyUptoRow.holds Try.pinned (OpenSpec.upto stackManySpec)

/-- 'knelllaw08.StackSoon', WHERE WHAT IT READS IS OF BULK AT MOST 1048576: true; the input reads as it did. -/
def stackSoonUptoRow : OpenClaim := { program := "ythkklcmmbpffiaa", sum := "ce587eeafff6caa97c516818a84ed4461770547656ad997ab1d3dd8c36f228a5", func := "knell/knelllaw08.StackSoon", spec := "stackSoon", inPlace := ["sync/atomic.AddInt64", "sync/atomic.CompareAndSwapUint64", "sync/atomic.LoadUint64", "sync/atomic.StoreUint64"], unfollowed := true, recurses := true, apart := false, narrowed := true }
def StackSoonUptoSaid : Prop := stackSoonUptoRow.holds Try.pinned (OpenSpec.upto stackSoonSpec)

/-- 'knelllaw08.StackBack', WHERE WHAT IT READS IS OF BULK AT MOST 1048576: true; the input reads as it did. -/
def stackBackUptoRow : OpenClaim := { program := "ythkklcmmbpffiaa", sum := "ce587eeafff6caa97c516818a84ed4461770547656ad997ab1d3dd8c36f228a5", func := "knell/knelllaw08.StackBack", spec := "stackBack", inPlace := ["sync/atomic.AddInt64", "sync/atomic.CompareAndSwapUint64", "sync/atomic.LoadUint64", "sync/atomic.StoreUint64"], unfollowed := true, recurses := true, apart := false, narrowed := true }
def StackBackUptoSaid : Prop := stackBackUptoRow.holds Try.pinned (OpenSpec.upto stackBackSpec)

/-- 'knelllaw09.InboxAlone', WHERE WHAT IT READS IS OF BULK AT MOST 1048576: true; the input reads as it did. -/
def inboxAloneUptoRow : OpenClaim := { program := "ythkklcmmbpffiaa", sum := "ce587eeafff6caa97c516818a84ed4461770547656ad997ab1d3dd8c36f228a5", func := "knell/knelllaw09.InboxAlone", spec := "inboxAlone", inPlace := ["sync/atomic.AddInt64", "sync/atomic.LoadUint64", "sync/atomic.CompareAndSwapUint64", "sync/atomic.StoreUint64"], unfollowed := true, recurses := true, apart := false, narrowed := true }
def InboxAloneUptoSaid : Prop := inboxAloneUptoRow.holds Try.pinned (OpenSpec.upto inboxAloneSpec)

/-- 'knelllaw09.InboxMany', WHERE WHAT IT READS IS OF BULK AT MOST 1048576: true; the input reads as it did. -/
def inboxManyUptoRow : OpenClaim := { program := "ythkklcmmbpffiaa", sum := "ce587eeafff6caa97c516818a84ed4461770547656ad997ab1d3dd8c36f228a5", func := "knell/knelllaw09.InboxMany", spec := "inboxMany", inPlace := ["sync/atomic.AddInt64", "sync/atomic.LoadUint64", "sync/atomic.CompareAndSwapUint64", "sync/atomic.StoreUint64", "sync/atomic.LoadInt64"], unfollowed := true, recurses := true, apart := false, narrowed := true }
def InboxManyUptoSaid : Prop := inboxManyUptoRow.holds Try.pinned (OpenSpec.upto inboxManySpec)

/-- 'knelllaw09.InboxDrains', WHERE WHAT IT READS IS OF BULK AT MOST 1048576: true; the input reads as it did. -/
def inboxDrainsUptoRow : OpenClaim := { program := "ythkklcmmbpffiaa", sum := "ce587eeafff6caa97c516818a84ed4461770547656ad997ab1d3dd8c36f228a5", func := "knell/knelllaw09.InboxDrains", spec := "inboxDrains", inPlace := ["sync/atomic.AddInt64", "sync/atomic.LoadUint64", "sync/atomic.CompareAndSwapUint64", "sync/atomic.StoreUint64"], unfollowed := true, recurses := true, apart := false, narrowed := true }
def InboxDrainsUptoSaid : Prop := inboxDrainsUptoRow.holds Try.pinned (OpenSpec.upto inboxDrainsSpec)

/-- 'knelllaw09.InboxOrder', WHERE WHAT IT READS IS OF BULK AT MOST 1048576: true; the input reads as it did. -/
def inboxOrderUptoRow : OpenClaim := { program := "ythkklcmmbpffiaa", sum := "ce587eeafff6caa97c516818a84ed4461770547656ad997ab1d3dd8c36f228a5", func := "knell/knelllaw09.InboxOrder", spec := "inboxOrder", inPlace := ["sync/atomic.AddInt64", "sync/atomic.LoadUint64", "sync/atomic.CompareAndSwapUint64", "sync/atomic.StoreUint64"], unfollowed := true, recurses := true, apart := false, narrowed := true }
def InboxOrderUptoSaid : Prop := inboxOrderUptoRow.holds Try.pinned (OpenSpec.upto inboxOrderSpec)

/-- 'knelllaw09.InboxAgain', WHERE WHAT IT READS IS OF BULK AT MOST 1048576: true; the input reads as it did. -/
def inboxAgainUptoRow : OpenClaim := { program := "ythkklcmmbpffiaa", sum := "ce587eeafff6caa97c516818a84ed4461770547656ad997ab1d3dd8c36f228a5", func := "knell/knelllaw09.InboxAgain", spec := "inboxAgain", inPlace := ["sync/atomic.AddInt64", "sync/atomic.LoadUint64", "sync/atomic.CompareAndSwapUint64", "sync/atomic.StoreUint64"], unfollowed := true, recurses := true, apart := false, narrowed := true }
def InboxAgainUptoSaid : Prop := inboxAgainUptoRow.holds Try.pinned (OpenSpec.upto inboxAgainSpec)

end Rows
end Go.Proofs.Ythkklcmmbpffiaa
