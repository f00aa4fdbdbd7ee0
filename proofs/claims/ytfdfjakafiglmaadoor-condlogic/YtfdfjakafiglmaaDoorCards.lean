/-
  DERIVED. GIVEN WITH THE SEED: THE CARDS: each row of YtfdfjakafiglmaaDoorRows.lean that lists a variable, with what it lists TIED to the program's text (the seventh form; the later family's looks); each row that meets fmt, with fmt's text TOLD by the authors' own Lean function (tested against real Go, not proved from fmt's source: count such statements apart). THE CARD IS WHAT COUNTS. Prove the row's statement (the work); the ties are given (YtfdfjakafiglmaaDoorTie.lean); close each card by the builder's one call (the guide's Derived/Test/ToyasCard.lean, 'card_holds'). Laid BY PROGRAM, IN A SANDBOX (cutbox-door.mjs). By AI agents, Wed Nov 11 2026. No macro, syntax, notation, axiom, sorry.
-/
import Derived.Test.YtfdfjakafiglmaaDoorRows
import GoSem.ClaimSeven
namespace Go.Proofs.YtfdfjakafiglmaaDoor
namespace Rows

/-- THE TIED CARD OF 'belatedlaw8.CondTells'. -/
def condTellsCard : Claim7 := { stood := { row := condTellsRow, standIns := [], harness := (true, "c778360b2ff9975fa671b5014b8964661716c9e99facdaf3ab79cf6d3bf6376e"), looks := false }, kinds := [], alts := [], laidByText := true, laidKinds := [.data, .data, .data], laidTests := true, laidLooks := .later }
def CondTellsCardSaid : Prop := Claim7.holds Tryd.pinned (.plain (OpenSpec.ofChange condTellsSpec)) condTellsCard

/-- THE TIED CARD OF 'belatedlaw8.CondSorts'. -/
def condSortsCard : Claim7 := { stood := { row := condSortsRow, standIns := [], harness := (true, "c778360b2ff9975fa671b5014b8964661716c9e99facdaf3ab79cf6d3bf6376e"), looks := false }, kinds := [], alts := [], laidByText := true, laidKinds := [.data, .data, .data], laidTests := true, laidLooks := .later }
def CondSortsCardSaid : Prop := Claim7.holds Tryd.pinned (.plain (OpenSpec.ofChange condSortsSpec)) condSortsCard

/-- THE TIED CARD OF 'belatedlaw8.CondJudges'. -/
def condJudgesCard : Claim7 := { stood := { row := condJudgesRow, standIns := [], harness := (true, "c778360b2ff9975fa671b5014b8964661716c9e99facdaf3ab79cf6d3bf6376e"), looks := false }, kinds := [], alts := [], laidByText := true, laidKinds := [.data, .data, .data], laidTests := true, laidLooks := .later }
def CondJudgesCardSaid : Prop := Claim7.holds Tryd.pinned (.plain (OpenSpec.ofChange condJudgesSpec)) condJudgesCard

/-- THE TIED CARD OF 'belatedlaw8.CondOpposites'. -/
def condOppositesCard : Claim7 := { stood := { row := condOppositesRow, standIns := [], harness := (true, "c778360b2ff9975fa671b5014b8964661716c9e99facdaf3ab79cf6d3bf6376e"), looks := false }, kinds := [], alts := [], laidByText := true, laidKinds := [.data, .data, .data], laidTests := true, laidLooks := .later }
def CondOppositesCardSaid : Prop := Claim7.holds Tryd.pinned (.plain (OpenSpec.ofChange condOppositesSpec)) condOppositesCard

/-- THE TIED CARD OF 'belatedlaw8.CondLogic'. -/
def condLogicCard : Claim7 := { stood := { row := condLogicRow, standIns := [], harness := (true, "c778360b2ff9975fa671b5014b8964661716c9e99facdaf3ab79cf6d3bf6376e"), looks := false }, kinds := [], alts := [], laidByText := true, laidKinds := [.data, .data, .data], laidTests := true, laidLooks := .later }
def CondLogicCardSaid : Prop := Claim7.holds Tryd.pinned (.plain (OpenSpec.ofChange condLogicSpec)) condLogicCard

/-- THE SECOND FORM's CARD OF 'belatedlaw8.CondTells'. -/
def condTellsUptoCard : Claim7 := { stood := { row := condTellsUptoRow, standIns := [], harness := (true, "c778360b2ff9975fa671b5014b8964661716c9e99facdaf3ab79cf6d3bf6376e"), looks := false }, kinds := [], alts := [], laidByText := true, laidKinds := [.data, .data, .data], laidTests := true, laidLooks := .later }
def CondTellsUptoCardSaid : Prop := Claim7.holds Tryd.pinned (.plain (OpenSpec.upto condTellsSpec)) condTellsUptoCard

/-- THE SECOND FORM's CARD OF 'belatedlaw8.CondSorts'. -/
def condSortsUptoCard : Claim7 := { stood := { row := condSortsUptoRow, standIns := [], harness := (true, "c778360b2ff9975fa671b5014b8964661716c9e99facdaf3ab79cf6d3bf6376e"), looks := false }, kinds := [], alts := [], laidByText := true, laidKinds := [.data, .data, .data], laidTests := true, laidLooks := .later }
def CondSortsUptoCardSaid : Prop := Claim7.holds Tryd.pinned (.plain (OpenSpec.upto condSortsSpec)) condSortsUptoCard

/-- THE SECOND FORM's CARD OF 'belatedlaw8.CondJudges'. -/
def condJudgesUptoCard : Claim7 := { stood := { row := condJudgesUptoRow, standIns := [], harness := (true, "c778360b2ff9975fa671b5014b8964661716c9e99facdaf3ab79cf6d3bf6376e"), looks := false }, kinds := [], alts := [], laidByText := true, laidKinds := [.data, .data, .data], laidTests := true, laidLooks := .later }
def CondJudgesUptoCardSaid : Prop := Claim7.holds Tryd.pinned (.plain (OpenSpec.upto condJudgesSpec)) condJudgesUptoCard

/-- THE SECOND FORM's CARD OF 'belatedlaw8.CondOpposites'. -/
def condOppositesUptoCard : Claim7 := { stood := { row := condOppositesUptoRow, standIns := [], harness := (true, "c778360b2ff9975fa671b5014b8964661716c9e99facdaf3ab79cf6d3bf6376e"), looks := false }, kinds := [], alts := [], laidByText := true, laidKinds := [.data, .data, .data], laidTests := true, laidLooks := .later }
def CondOppositesUptoCardSaid : Prop := Claim7.holds Tryd.pinned (.plain (OpenSpec.upto condOppositesSpec)) condOppositesUptoCard

/-- THE SECOND FORM's CARD OF 'belatedlaw8.CondLogic'. -/
def condLogicUptoCard : Claim7 := { stood := { row := condLogicUptoRow, standIns := [], harness := (true, "c778360b2ff9975fa671b5014b8964661716c9e99facdaf3ab79cf6d3bf6376e"), looks := false }, kinds := [], alts := [], laidByText := true, laidKinds := [.data, .data, .data], laidTests := true, laidLooks := .later }
def CondLogicUptoCardSaid : Prop := Claim7.holds Tryd.pinned (.plain (OpenSpec.upto condLogicSpec)) condLogicUptoCard
end Rows
end Go.Proofs.YtfdfjakafiglmaaDoor
