/-
  DERIVED. GIVEN WITH THE SEED: THE CARDS: each row of YtgbepebihlmedaaDoorRows.lean that lists a variable, with what it lists TIED to the program's text (the seventh form; the later family's looks); each row that meets fmt, with fmt's text TOLD by the authors' own Lean function (tested against real Go, not proved from fmt's source: count such statements apart). THE CARD IS WHAT COUNTS. Prove the row's statement (the work); the ties are given (YtgbepebihlmedaaDoorTie.lean); close each card by the builder's one call (the guide's Derived/Test/ToyasCard.lean, 'card_holds'). Laid BY PROGRAM, IN A SANDBOX (cutbox-door.mjs). By AI agents, Wed Nov 11 2026. No macro, syntax, notation, axiom, sorry.
-/
import Derived.Test.YtgbepebihlmedaaDoorRows
import GoSem.ClaimSeven
namespace Go.Proofs.YtgbepebihlmedaaDoor
namespace Rows

/-- THE TIED CARD OF 'knelllaw03.PlanChecks'. -/
def planChecksCard : Claim7 := { stood := { row := planChecksRow, standIns := [], harness := (true, "d7cefe7ff92c1ce3df71b0c9261b81149d934657662c480ba04894244b8c68e3"), looks := false }, kinds := [], alts := [], laidByText := true, laidKinds := [.data], laidTests := true, laidLooks := .later }
def PlanChecksCardSaid : Prop := Claim7.holds Tryd.pinned (.plain (OpenSpec.ofChange planChecksSpec)) planChecksCard

/-- THE TIED CARD OF 'knelllaw03.PlanUnlike'. -/
def planUnlikeCard : Claim7 := { stood := { row := planUnlikeRow, standIns := [], harness := (true, "d7cefe7ff92c1ce3df71b0c9261b81149d934657662c480ba04894244b8c68e3"), looks := false }, kinds := [], alts := [], laidByText := true, laidKinds := [.data], laidTests := true, laidLooks := .later }
def PlanUnlikeCardSaid : Prop := Claim7.holds Tryd.pinned (.plain (OpenSpec.ofChange planUnlikeSpec)) planUnlikeCard

/-- THE TIED CARD OF 'knelllaw03.PlanNone'. -/
def planNoneCard : Claim7 := { stood := { row := planNoneRow, standIns := [], harness := (true, "d7cefe7ff92c1ce3df71b0c9261b81149d934657662c480ba04894244b8c68e3"), looks := false }, kinds := [], alts := [], laidByText := true, laidKinds := [.data], laidTests := true, laidLooks := .later }
def PlanNoneCardSaid : Prop := Claim7.holds Tryd.pinned (.plain (OpenSpec.ofChange planNoneSpec)) planNoneCard

/-- THE TIED CARD OF 'knelllaw03.PlanFresh'. -/
def planFreshCard : Claim7 := { stood := { row := planFreshRow, standIns := [], harness := (true, "d7cefe7ff92c1ce3df71b0c9261b81149d934657662c480ba04894244b8c68e3"), looks := false }, kinds := [], alts := [], laidByText := true, laidKinds := [.data], laidTests := true, laidLooks := .later }
def PlanFreshCardSaid : Prop := Claim7.holds Tryd.pinned (.plain (OpenSpec.ofChange planFreshSpec)) planFreshCard

/-- THE TIED CARD OF 'knelllaw03.PlanTurned'. -/
def planTurnedCard : Claim7 := { stood := { row := planTurnedRow, standIns := [], harness := (true, "d7cefe7ff92c1ce3df71b0c9261b81149d934657662c480ba04894244b8c68e3"), looks := false }, kinds := [], alts := [], laidByText := true, laidKinds := [.data], laidTests := true, laidLooks := .later }
def PlanTurnedCardSaid : Prop := Claim7.holds Tryd.pinned (.plain (OpenSpec.ofChange planTurnedSpec)) planTurnedCard

/-- THE SECOND FORM's CARD OF 'knelllaw03.PlanChecks'. -/
def planChecksUptoCard : Claim7 := { stood := { row := planChecksUptoRow, standIns := [], harness := (true, "d7cefe7ff92c1ce3df71b0c9261b81149d934657662c480ba04894244b8c68e3"), looks := false }, kinds := [], alts := [], laidByText := true, laidKinds := [.data], laidTests := true, laidLooks := .later }
def PlanChecksUptoCardSaid : Prop := Claim7.holds Tryd.pinned (.plain (OpenSpec.upto planChecksSpec)) planChecksUptoCard

/-- THE SECOND FORM's CARD OF 'knelllaw03.PlanUnlike'. -/
def planUnlikeUptoCard : Claim7 := { stood := { row := planUnlikeUptoRow, standIns := [], harness := (true, "d7cefe7ff92c1ce3df71b0c9261b81149d934657662c480ba04894244b8c68e3"), looks := false }, kinds := [], alts := [], laidByText := true, laidKinds := [.data], laidTests := true, laidLooks := .later }
def PlanUnlikeUptoCardSaid : Prop := Claim7.holds Tryd.pinned (.plain (OpenSpec.upto planUnlikeSpec)) planUnlikeUptoCard

/-- THE SECOND FORM's CARD OF 'knelllaw03.PlanNone'. -/
def planNoneUptoCard : Claim7 := { stood := { row := planNoneUptoRow, standIns := [], harness := (true, "d7cefe7ff92c1ce3df71b0c9261b81149d934657662c480ba04894244b8c68e3"), looks := false }, kinds := [], alts := [], laidByText := true, laidKinds := [.data], laidTests := true, laidLooks := .later }
def PlanNoneUptoCardSaid : Prop := Claim7.holds Tryd.pinned (.plain (OpenSpec.upto planNoneSpec)) planNoneUptoCard

/-- THE SECOND FORM's CARD OF 'knelllaw03.PlanFresh'. -/
def planFreshUptoCard : Claim7 := { stood := { row := planFreshUptoRow, standIns := [], harness := (true, "d7cefe7ff92c1ce3df71b0c9261b81149d934657662c480ba04894244b8c68e3"), looks := false }, kinds := [], alts := [], laidByText := true, laidKinds := [.data], laidTests := true, laidLooks := .later }
def PlanFreshUptoCardSaid : Prop := Claim7.holds Tryd.pinned (.plain (OpenSpec.upto planFreshSpec)) planFreshUptoCard

/-- THE SECOND FORM's CARD OF 'knelllaw03.PlanTurned'. -/
def planTurnedUptoCard : Claim7 := { stood := { row := planTurnedUptoRow, standIns := [], harness := (true, "d7cefe7ff92c1ce3df71b0c9261b81149d934657662c480ba04894244b8c68e3"), looks := false }, kinds := [], alts := [], laidByText := true, laidKinds := [.data], laidTests := true, laidLooks := .later }
def PlanTurnedUptoCardSaid : Prop := Claim7.holds Tryd.pinned (.plain (OpenSpec.upto planTurnedSpec)) planTurnedUptoCard
end Rows
end Go.Proofs.YtgbepebihlmedaaDoor
