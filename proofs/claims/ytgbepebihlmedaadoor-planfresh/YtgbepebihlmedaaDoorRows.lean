/-
  NARROWER THAN 'FOR EVERY INPUT', by the rows' own cells (each row's printed sentence says how): PlanChecks: laid · PlanUnlike: laid · PlanNone: laid · PlanFresh: laid · PlanTurned: laid.
  DERIVED. THE GIVEN ROWS OF THIS SEAT. 5 by the template 'for every input the law returns true; each argument reads behind the call as it read before'; 0 by the template 'total and deterministic' (their statements: YtgbepebihlmedaaDoorTotals.lean).
  GIVEN WITH THE SEED: the statements are not yours to turn. If you find one false, say at which input.
  Laid BY PROGRAM, IN A SANDBOX (cutbox-rows.mjs): the forced cells as the released guide's own fill.sh prints them over the translation 8509c8c1c737366e… (all of the seat's roots in one cut). By AI agents, Wed Nov 11 2026. No macro, syntax, notation, axiom, sorry.
-/
import Derived.Test.YtgbepebihlmedaaDoorChecked
import GoSem.Claim
import GoSem.ClaimJoined
import GoSem.ClaimMapViews
import Derived.JoinedTies
import Derived.KernelRfl
namespace Go.Proofs.YtgbepebihlmedaaDoor
/- THE CELL 'sum', in the pinned program and in every row, IS THE sha256 OF THE DUMP (.gsa) THAT YtgbepebihlmedaaDoorProg.lean LOADS. Nothing in Lean hashes anything: it is a label: what it is worth is what the hold of that sum in a sandbox is worth. -/
noncomputable def Tryd.pinned : Pinned := { name := "ytgbepebihlmedaadoor", sum := "8509c8c1c737366e62a6618bca5a15e03469dadd5a9b0fbb363b65d1829e2ef1", checked := Tryd.checked }
namespace Rows
def none {H : Type} : Left H := { results := [], args := [] }

/- WHAT THE LISTED PACKAGE-LEVEL VARIABLES READ AS WHEN THE CALL BEGINS. Each datum BY PROGRAM (the guide's laid-datum.mjs) off the statement by which the dump's own 'gosem.cut.vars' lays the variable. In a bare row this is a premise. The card (YtgbepebihlmedaaDoorCards.lean) ties it to the program's text. -/
def laid_knell_plan_bounds {H : Type} : DataW H := .agg [.agg [.lit (.int .i64 1), .lit (.int .i64 64)], .agg [.lit (.int .i64 1), .lit (.int .i64 8)], .agg [.lit (.int .i64 1), .lit (.int .i64 6)], .agg [.lit (.int .i64 1), .lit (.int .i64 4096)], .agg [.lit (.int .i64 1), .lit (.int .i64 8192)], .agg [.lit (.int .i64 0), .lit (.int .i64 1073741823)], .agg [.lit (.int .i64 0), .lit (.int .i64 4294967295)], .agg [.lit (.int .i64 0), .lit (.int .i64 256)], .agg [.lit (.int .i64 1), .lit (.int .i64 1073741823)], .agg [.lit (.int .i64 1), .lit (.int .i64 1073741823)], .agg [.lit (.int .i64 1), .lit (.int .i64 1073741823)], .agg [.lit (.int .i64 0), .lit (.int .i64 1073741823)], .agg [.lit (.int .i64 0), .lit (.int .i64 31)]]

/-- 'knelllaw03.PlanChecks': WHATEVER THE INPUT: true; the input reads as it did. -/
def planChecksSpec : ChangeSpec := { name := "planChecks", fn := fun _ => fun
  | [d] => { results := [.lit (.bool true)], args := [d] }
  | _ => none }
def planChecksRow : OpenClaim := { program := "ytgbepebihlmedaadoor", sum := "8509c8c1c737366e62a6618bca5a15e03469dadd5a9b0fbb363b65d1829e2ef1", func := "knell/knelllaw03.PlanChecks", spec := "planChecks", named := ["knell/plan.bounds"], apart := false, laid := [("knell/plan.bounds", laid_knell_plan_bounds)] }
def PlanChecksSaid : Prop := planChecksRow.holds Tryd.pinned (OpenSpec.ofChange planChecksSpec)

/-- ITS FALSE NEIGHBOUR: 'it returns false'. Refute it at one input. -/
def planChecksWrong : ChangeSpec := { name := "planChecks", fn := fun _ => fun
  | [d] => { results := [.lit (.bool false)], args := [d] }
  | _ => none }
def PlanChecksWrongFalsely : Prop := planChecksRow.holds Tryd.pinned (OpenSpec.ofChange planChecksWrong)

/-- 'knelllaw03.PlanUnlike': WHATEVER THE INPUT: true; the input reads as it did. -/
def planUnlikeSpec : ChangeSpec := { name := "planUnlike", fn := fun _ => fun
  | [d] => { results := [.lit (.bool true)], args := [d] }
  | _ => none }
def planUnlikeRow : OpenClaim := { program := "ytgbepebihlmedaadoor", sum := "8509c8c1c737366e62a6618bca5a15e03469dadd5a9b0fbb363b65d1829e2ef1", func := "knell/knelllaw03.PlanUnlike", spec := "planUnlike", named := ["knell/plan.bounds"], apart := false, laid := [("knell/plan.bounds", laid_knell_plan_bounds)] }
def PlanUnlikeSaid : Prop := planUnlikeRow.holds Tryd.pinned (OpenSpec.ofChange planUnlikeSpec)

/-- ITS FALSE NEIGHBOUR: 'it returns false'. Refute it at one input. -/
def planUnlikeWrong : ChangeSpec := { name := "planUnlike", fn := fun _ => fun
  | [d] => { results := [.lit (.bool false)], args := [d] }
  | _ => none }
def PlanUnlikeWrongFalsely : Prop := planUnlikeRow.holds Tryd.pinned (OpenSpec.ofChange planUnlikeWrong)

/-- 'knelllaw03.PlanNone': WHATEVER THE INPUT: true; the input reads as it did. -/
def planNoneSpec : ChangeSpec := { name := "planNone", fn := fun _ => fun
  | [d1, d2, d3, d4, d5] => { results := [.lit (.bool true)], args := [d1, d2, d3, d4, d5] }
  | _ => none }
def planNoneRow : OpenClaim := { program := "ytgbepebihlmedaadoor", sum := "8509c8c1c737366e62a6618bca5a15e03469dadd5a9b0fbb363b65d1829e2ef1", func := "knell/knelllaw03.PlanNone", spec := "planNone", named := ["knell/plan.bounds"], apart := false, laid := [("knell/plan.bounds", laid_knell_plan_bounds)] }
def PlanNoneSaid : Prop := planNoneRow.holds Tryd.pinned (OpenSpec.ofChange planNoneSpec)

/-- ITS FALSE NEIGHBOUR: 'it returns false'. Refute it at one input. -/
def planNoneWrong : ChangeSpec := { name := "planNone", fn := fun _ => fun
  | [d1, d2, d3, d4, d5] => { results := [.lit (.bool false)], args := [d1, d2, d3, d4, d5] }
  | _ => none }
def PlanNoneWrongFalsely : Prop := planNoneRow.holds Tryd.pinned (OpenSpec.ofChange planNoneWrong)

/-- 'knelllaw03.PlanFresh': WHATEVER THE INPUT: true; the input reads as it did. -/
def planFreshSpec : ChangeSpec := { name := "planFresh", fn := fun _ => fun
  | [d] => { results := [.lit (.bool true)], args := [d] }
  | _ => none }
def planFreshRow : OpenClaim := { program := "ytgbepebihlmedaadoor", sum := "8509c8c1c737366e62a6618bca5a15e03469dadd5a9b0fbb363b65d1829e2ef1", func := "knell/knelllaw03.PlanFresh", spec := "planFresh", inPlace := ["sync/atomic.StoreUint64", "sync/atomic.LoadInt64", "sync/atomic.LoadUint64", "sync/atomic.AddInt64"], unfollowed := true, recurses := true, named := ["knell/plan.bounds"], apart := false, laid := [("knell/plan.bounds", laid_knell_plan_bounds)] }
def PlanFreshSaid : Prop := planFreshRow.holds Tryd.pinned (OpenSpec.ofChange planFreshSpec)

/-- ITS FALSE NEIGHBOUR: 'it returns false'. Refute it at one input. -/
def planFreshWrong : ChangeSpec := { name := "planFresh", fn := fun _ => fun
  | [d] => { results := [.lit (.bool false)], args := [d] }
  | _ => none }
def PlanFreshWrongFalsely : Prop := planFreshRow.holds Tryd.pinned (OpenSpec.ofChange planFreshWrong)

/-- 'knelllaw03.PlanTurned': WHATEVER THE INPUT: true; the input reads as it did. -/
def planTurnedSpec : ChangeSpec := { name := "planTurned", fn := fun _ => fun
  | [d1, d2, d3] => { results := [.lit (.bool true)], args := [d1, d2, d3] }
  | _ => none }
def planTurnedRow : OpenClaim := { program := "ytgbepebihlmedaadoor", sum := "8509c8c1c737366e62a6618bca5a15e03469dadd5a9b0fbb363b65d1829e2ef1", func := "knell/knelllaw03.PlanTurned", spec := "planTurned", named := ["knell/plan.bounds"], apart := false, laid := [("knell/plan.bounds", laid_knell_plan_bounds)] }
def PlanTurnedSaid : Prop := planTurnedRow.holds Tryd.pinned (OpenSpec.ofChange planTurnedSpec)

/-- ITS FALSE NEIGHBOUR: 'it returns false'. Refute it at one input. -/
def planTurnedWrong : ChangeSpec := { name := "planTurned", fn := fun _ => fun
  | [d1, d2, d3] => { results := [.lit (.bool false)], args := [d1, d2, d3] }
  | _ => none }
def PlanTurnedWrongFalsely : Prop := planTurnedRow.holds Tryd.pinned (OpenSpec.ofChange planTurnedWrong)

/- THE SECOND FORM. 'bulk': how many values and letters a reading holds, each counted each time it is reached (what is shared counts as often as it is met; a slice's spare places count too). A statement '..UptoSaid' is the law's where the arguments, and the package variables that the reading takes, are together of bulk at most 1048576: NARROWER than '..Said'. Prove '..Said' where nothing that the law and all that it calls make is longer than what came in: it says more and counts as full. Else prove '..UptoSaid'. A law counts once. -/
mutual
def uptoBulk {H : Type} : DataW H → Nat
  | .lit (.string bytes) => bytes.length + 1
  | .lit _ => 1
  | .nil => 1
  | .ptr d => uptoBulk d + 1
  | .slice elems spare => uptoBulkAll elems + uptoBulkAll spare + 1
  | .agg parts => uptoBulkAll parts + 1
  | .iface _ d => uptoBulk d + 1
  | .map entries => uptoBulkEntries entries + 1
  | .held _ => 1
def uptoBulkAll {H : Type} : List (DataW H) → Nat
  | [] => 0
  | d :: r => uptoBulk d + uptoBulkAll r
def uptoBulkEntries {H : Type} : List (Lit × DataW H) → Nat
  | [] => 0
  | x :: r => uptoBulkEntry x + uptoBulkEntries r
def uptoBulkEntry {H : Type} : Lit × DataW H → Nat
  | (.string bytes, d) => bytes.length + uptoBulk d + 1
  | (_, d) => uptoBulk d + 1
 end
def uptoSmall : (H : Type) → List (DataW H) → Bool := fun _ ds => decide (uptoBulkAll ds ≤ 1048576)
def OpenSpec.upto (s : _root_.Go.ChangeSpec) : _root_.Go.OpenSpec := { _root_.Go.OpenSpec.ofChange s with cond := some uptoSmall }

/-- 'knelllaw03.PlanChecks', WHERE WHAT IT READS IS OF BULK AT MOST 1048576: true; the input reads as it did. -/
def planChecksUptoRow : OpenClaim := { program := "ytgbepebihlmedaadoor", sum := "8509c8c1c737366e62a6618bca5a15e03469dadd5a9b0fbb363b65d1829e2ef1", func := "knell/knelllaw03.PlanChecks", spec := "planChecks", named := ["knell/plan.bounds"], apart := false, laid := [("knell/plan.bounds", laid_knell_plan_bounds)], narrowed := true }
def PlanChecksUptoSaid : Prop := planChecksUptoRow.holds Tryd.pinned (OpenSpec.upto planChecksSpec)

/-- 'knelllaw03.PlanUnlike', WHERE WHAT IT READS IS OF BULK AT MOST 1048576: true; the input reads as it did. -/
def planUnlikeUptoRow : OpenClaim := { program := "ytgbepebihlmedaadoor", sum := "8509c8c1c737366e62a6618bca5a15e03469dadd5a9b0fbb363b65d1829e2ef1", func := "knell/knelllaw03.PlanUnlike", spec := "planUnlike", named := ["knell/plan.bounds"], apart := false, laid := [("knell/plan.bounds", laid_knell_plan_bounds)], narrowed := true }
def PlanUnlikeUptoSaid : Prop := planUnlikeUptoRow.holds Tryd.pinned (OpenSpec.upto planUnlikeSpec)

/-- 'knelllaw03.PlanNone', WHERE WHAT IT READS IS OF BULK AT MOST 1048576: true; the input reads as it did. -/
def planNoneUptoRow : OpenClaim := { program := "ytgbepebihlmedaadoor", sum := "8509c8c1c737366e62a6618bca5a15e03469dadd5a9b0fbb363b65d1829e2ef1", func := "knell/knelllaw03.PlanNone", spec := "planNone", named := ["knell/plan.bounds"], apart := false, laid := [("knell/plan.bounds", laid_knell_plan_bounds)], narrowed := true }
def PlanNoneUptoSaid : Prop := planNoneUptoRow.holds Tryd.pinned (OpenSpec.upto planNoneSpec)

/-- 'knelllaw03.PlanFresh', WHERE WHAT IT READS IS OF BULK AT MOST 1048576: true; the input reads as it did. -/
def planFreshUptoRow : OpenClaim := { program := "ytgbepebihlmedaadoor", sum := "8509c8c1c737366e62a6618bca5a15e03469dadd5a9b0fbb363b65d1829e2ef1", func := "knell/knelllaw03.PlanFresh", spec := "planFresh", inPlace := ["sync/atomic.StoreUint64", "sync/atomic.LoadInt64", "sync/atomic.LoadUint64", "sync/atomic.AddInt64"], unfollowed := true, recurses := true, named := ["knell/plan.bounds"], apart := false, laid := [("knell/plan.bounds", laid_knell_plan_bounds)], narrowed := true }
def PlanFreshUptoSaid : Prop := planFreshUptoRow.holds Tryd.pinned (OpenSpec.upto planFreshSpec)

/-- 'knelllaw03.PlanTurned', WHERE WHAT IT READS IS OF BULK AT MOST 1048576: true; the input reads as it did. -/
def planTurnedUptoRow : OpenClaim := { program := "ytgbepebihlmedaadoor", sum := "8509c8c1c737366e62a6618bca5a15e03469dadd5a9b0fbb363b65d1829e2ef1", func := "knell/knelllaw03.PlanTurned", spec := "planTurned", named := ["knell/plan.bounds"], apart := false, laid := [("knell/plan.bounds", laid_knell_plan_bounds)], narrowed := true }
def PlanTurnedUptoSaid : Prop := planTurnedUptoRow.holds Tryd.pinned (OpenSpec.upto planTurnedSpec)

end Rows
end Go.Proofs.YtgbepebihlmedaaDoor
