/-
  DERIVED. GIVEN WITH THE SEED: THE CARDS: each row of YtjkppaijicjpoaaGreatDoorRows.lean that lists a variable, with what it lists TIED to the program's text (the seventh form; the later family's looks); each row that meets fmt, with fmt's text TOLD by the authors' own Lean function (tested against real Go, not proved from fmt's source: count such statements apart). THE CARD IS WHAT COUNTS. Prove the row's statement (the work); the ties are given (YtjkppaijicjpoaaGreatDoorTie.lean); close each card by the builder's one call (the guide's Derived/Test/ToyasCard.lean, 'card_holds'). Laid BY PROGRAM, IN A SANDBOX (cutbox-door.mjs). By AI agents, Wed Nov 11 2026. No macro, syntax, notation, axiom, sorry.
-/
import Derived.Test.YtjkppaijicjpoaaGreatDoorRows
import GoSem.ClaimSeven
namespace Go.Proofs.YtjkppaijicjpoaaGreatDoor
namespace Rows

/-- THE TIED CARD OF 'belatedlaw14.CorePlays'. -/
def corePlaysCard : Claim7 := { stood := { row := corePlaysRow, standIns := [], harness := (true, "465c10af212dee314fb5ee9cf85fa49ed10453b4e204c365ffbb110ec89912fe"), looks := true }, kinds := [], alts := [], laidByText := true, laidKinds := [.data, .data, .data, .data, .sentinel, .sentinel, .pinned], laidTests := true, laidLooks := .later }
def CorePlaysCardSaid : Prop := Claim7.holds Tryz.pinned (.plain (OpenSpec.ofChange corePlaysSpec)) corePlaysCard

/-- THE TIED CARD OF 'belatedlaw14.CoreLocal'. -/
def coreLocalCard : Claim7 := { stood := { row := coreLocalRow, standIns := [], harness := (true, "465c10af212dee314fb5ee9cf85fa49ed10453b4e204c365ffbb110ec89912fe"), looks := true }, kinds := [], alts := [], laidByText := true, laidKinds := [.data, .data, .data, .data, .sentinel, .sentinel, .pinned], laidTests := true, laidLooks := .later }
def CoreLocalCardSaid : Prop := Claim7.holds Tryz.pinned (.plain (OpenSpec.ofChange coreLocalSpec)) coreLocalCard

/-- THE TIED CARD OF 'belatedlaw14.CoreCopies'. -/
def coreCopiesCard : Claim7 := { stood := { row := coreCopiesRow, standIns := [], harness := (true, "465c10af212dee314fb5ee9cf85fa49ed10453b4e204c365ffbb110ec89912fe"), looks := true }, kinds := [], alts := [], laidByText := true, laidKinds := [.data, .data, .data, .data, .sentinel, .sentinel, .pinned], laidTests := true, laidLooks := .later }
def CoreCopiesCardSaid : Prop := Claim7.holds Tryz.pinned (.plain (OpenSpec.ofChange coreCopiesSpec)) coreCopiesCard

/-- THE SECOND FORM's CARD OF 'belatedlaw14.CorePlays'. -/
def corePlaysUptoCard : Claim7 := { stood := { row := corePlaysUptoRow, standIns := [], harness := (true, "465c10af212dee314fb5ee9cf85fa49ed10453b4e204c365ffbb110ec89912fe"), looks := true }, kinds := [], alts := [], laidByText := true, laidKinds := [.data, .data, .data, .data, .sentinel, .sentinel, .pinned], laidTests := true, laidLooks := .later }
def CorePlaysUptoCardSaid : Prop := Claim7.holds Tryz.pinned (.plain (OpenSpec.upto corePlaysSpec)) corePlaysUptoCard

/-- THE SECOND FORM's CARD OF 'belatedlaw14.CoreLocal'. -/
def coreLocalUptoCard : Claim7 := { stood := { row := coreLocalUptoRow, standIns := [], harness := (true, "465c10af212dee314fb5ee9cf85fa49ed10453b4e204c365ffbb110ec89912fe"), looks := true }, kinds := [], alts := [], laidByText := true, laidKinds := [.data, .data, .data, .data, .sentinel, .sentinel, .pinned], laidTests := true, laidLooks := .later }
def CoreLocalUptoCardSaid : Prop := Claim7.holds Tryz.pinned (.plain (OpenSpec.upto coreLocalSpec)) coreLocalUptoCard

/-- THE SECOND FORM's CARD OF 'belatedlaw14.CoreCopies'. -/
def coreCopiesUptoCard : Claim7 := { stood := { row := coreCopiesUptoRow, standIns := [], harness := (true, "465c10af212dee314fb5ee9cf85fa49ed10453b4e204c365ffbb110ec89912fe"), looks := true }, kinds := [], alts := [], laidByText := true, laidKinds := [.data, .data, .data, .data, .sentinel, .sentinel, .pinned], laidTests := true, laidLooks := .later }
def CoreCopiesUptoCardSaid : Prop := Claim7.holds Tryz.pinned (.plain (OpenSpec.upto coreCopiesSpec)) coreCopiesUptoCard
end Rows
end Go.Proofs.YtjkppaijicjpoaaGreatDoor
