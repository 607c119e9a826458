/-
  DERIVED. GIVEN WITH THE SEED: THE CARDS: each row of YtgnafcbblackkaaDoorRows.lean that lists a variable, with what it lists TIED to the program's text (the seventh form; the later family's looks); each row that meets fmt, with fmt's text TOLD by the authors' own Lean function (tested against real Go, not proved from fmt's source: count such statements apart). THE CARD IS WHAT COUNTS. Prove the row's statement (the work); the ties are given (YtgnafcbblackkaaDoorTie.lean); close each card by the builder's one call (the guide's Derived/Test/ToyasCard.lean, 'card_holds'). Laid BY PROGRAM, IN A SANDBOX (cutbox-door.mjs). By AI agents, Wed Nov 11 2026. No macro, syntax, notation, axiom, sorry.
-/
import Derived.Test.YtgnafcbblackkaaDoorRows
import GoSem.ClaimSeven
namespace Go.Proofs.YtgnafcbblackkaaDoor
namespace Rows

/-- THE TIED CARD OF 'knelllaw06.BitsTell'. -/
def bitsTellCard : Claim7 := { stood := { row := bitsTellRow, standIns := [], harness := (true, "3b72f5a87f0fb092355fb78a4c9f027a60a6086afca484743822019a0ae31879"), looks := false }, kinds := [], alts := [], laidByText := true, laidKinds := [.data], laidTests := true, laidLooks := .later }
def BitsTellCardSaid : Prop := Claim7.holds Tryd.pinned (.plain (OpenSpec.ofChange bitsTellSpec)) bitsTellCard

/-- THE TIED CARD OF 'knelllaw06.BitsOf'. -/
def bitsOfCard : Claim7 := { stood := { row := bitsOfRow, standIns := [], harness := (true, "3b72f5a87f0fb092355fb78a4c9f027a60a6086afca484743822019a0ae31879"), looks := false }, kinds := [], alts := [], laidByText := true, laidKinds := [.data], laidTests := true, laidLooks := .later }
def BitsOfCardSaid : Prop := Claim7.holds Tryd.pinned (.plain (OpenSpec.ofChange bitsOfSpec)) bitsOfCard

/-- THE TIED CARD OF 'knelllaw06.BitsGo'. -/
def bitsGoCard : Claim7 := { stood := { row := bitsGoRow, standIns := [], harness := (true, "3b72f5a87f0fb092355fb78a4c9f027a60a6086afca484743822019a0ae31879"), looks := false }, kinds := [], alts := [], laidByText := true, laidKinds := [.data], laidTests := true, laidLooks := .later }
def BitsGoCardSaid : Prop := Claim7.holds Tryd.pinned (.plain (OpenSpec.ofChange bitsGoSpec)) bitsGoCard

/-- THE TIED CARD OF 'knelllaw06.BitsTurn'. -/
def bitsTurnCard : Claim7 := { stood := { row := bitsTurnRow, standIns := [], harness := (true, "3b72f5a87f0fb092355fb78a4c9f027a60a6086afca484743822019a0ae31879"), looks := false }, kinds := [], alts := [], laidByText := true, laidKinds := [.data], laidTests := true, laidLooks := .later }
def BitsTurnCardSaid : Prop := Claim7.holds Tryd.pinned (.plain (OpenSpec.ofChange bitsTurnSpec)) bitsTurnCard

/-- THE SECOND FORM's CARD OF 'knelllaw06.BitsTell'. -/
def bitsTellUptoCard : Claim7 := { stood := { row := bitsTellUptoRow, standIns := [], harness := (true, "3b72f5a87f0fb092355fb78a4c9f027a60a6086afca484743822019a0ae31879"), looks := false }, kinds := [], alts := [], laidByText := true, laidKinds := [.data], laidTests := true, laidLooks := .later }
def BitsTellUptoCardSaid : Prop := Claim7.holds Tryd.pinned (.plain (OpenSpec.upto bitsTellSpec)) bitsTellUptoCard

/-- THE SECOND FORM's CARD OF 'knelllaw06.BitsOf'. -/
def bitsOfUptoCard : Claim7 := { stood := { row := bitsOfUptoRow, standIns := [], harness := (true, "3b72f5a87f0fb092355fb78a4c9f027a60a6086afca484743822019a0ae31879"), looks := false }, kinds := [], alts := [], laidByText := true, laidKinds := [.data], laidTests := true, laidLooks := .later }
def BitsOfUptoCardSaid : Prop := Claim7.holds Tryd.pinned (.plain (OpenSpec.upto bitsOfSpec)) bitsOfUptoCard

/-- THE SECOND FORM's CARD OF 'knelllaw06.BitsGo'. -/
def bitsGoUptoCard : Claim7 := { stood := { row := bitsGoUptoRow, standIns := [], harness := (true, "3b72f5a87f0fb092355fb78a4c9f027a60a6086afca484743822019a0ae31879"), looks := false }, kinds := [], alts := [], laidByText := true, laidKinds := [.data], laidTests := true, laidLooks := .later }
def BitsGoUptoCardSaid : Prop := Claim7.holds Tryd.pinned (.plain (OpenSpec.upto bitsGoSpec)) bitsGoUptoCard

/-- THE SECOND FORM's CARD OF 'knelllaw06.BitsTurn'. -/
def bitsTurnUptoCard : Claim7 := { stood := { row := bitsTurnUptoRow, standIns := [], harness := (true, "3b72f5a87f0fb092355fb78a4c9f027a60a6086afca484743822019a0ae31879"), looks := false }, kinds := [], alts := [], laidByText := true, laidKinds := [.data], laidTests := true, laidLooks := .later }
def BitsTurnUptoCardSaid : Prop := Claim7.holds Tryd.pinned (.plain (OpenSpec.upto bitsTurnSpec)) bitsTurnUptoCard
end Rows
end Go.Proofs.YtgnafcbblackkaaDoor
