/-
  DERIVED. GIVEN WITH THE SEED: THE CARDS: each row of YtedlaclfhgneeabDoorRows.lean that lists a variable, with what it lists TIED to the program's text (the seventh form; the later family's looks); each row that meets fmt, with fmt's text TOLD by the authors' own Lean function (tested against real Go, not proved from fmt's source: count such statements apart). THE CARD IS WHAT COUNTS. Prove the row's statement (the work); the ties are given (YtedlaclfhgneeabDoorTie.lean); close each card by the builder's one call (the guide's Derived/Test/ToyasCard.lean, 'card_holds'). Laid BY PROGRAM, IN A SANDBOX (cutbox-door.mjs). By AI agents, Wed Nov 11 2026. No macro, syntax, notation, axiom, sorry.
-/
import Derived.Test.YtedlaclfhgneeabDoorRows
import GoSem.ClaimSeven
namespace Go.Proofs.YtedlaclfhgneeabDoor
namespace Rows

/-- THE TIED CARD OF 'belatedlaw8.CondPrints'. -/
def condPrintsCard : Claim7 := { stood := { row := condPrintsRow, standIns := [], harness := (true, "8a3ffded7d71b58b43f3718782192916626883b8f0941a0a524b762b0f71d9ff"), looks := false }, kinds := [], alts := [], laidByText := true, laidKinds := [.data, .data, .data], laidTests := true, laidLooks := .later }
def CondPrintsCardSaid : Prop := Claim7.holds Tryd.pinned (.plain (OpenSpec.ofChange condPrintsSpec)) condPrintsCard

/-- THE SECOND FORM's CARD OF 'belatedlaw8.CondPrints'. -/
def condPrintsUptoCard : Claim7 := { stood := { row := condPrintsUptoRow, standIns := [], harness := (true, "8a3ffded7d71b58b43f3718782192916626883b8f0941a0a524b762b0f71d9ff"), looks := false }, kinds := [], alts := [], laidByText := true, laidKinds := [.data, .data, .data], laidTests := true, laidLooks := .later }
def CondPrintsUptoCardSaid : Prop := Claim7.holds Tryd.pinned (.plain (OpenSpec.upto condPrintsSpec)) condPrintsUptoCard
end Rows
end Go.Proofs.YtedlaclfhgneeabDoor
