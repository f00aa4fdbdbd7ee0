/-
  DERIVED. GIVEN WITH THE SEED: THE CARDS: each row of YtfehbkcfncioiaaDoorRows.lean that lists a variable, with what it lists TIED to the program's text (the seventh form; the later family's looks); each row that meets fmt, with fmt's text TOLD by the authors' own Lean function (tested against real Go, not proved from fmt's source: count such statements apart). THE CARD IS WHAT COUNTS. Prove the row's statement (the work); the ties are given (YtfehbkcfncioiaaDoorTie.lean); close each card by the builder's one call (the guide's Derived/Test/ToyasCard.lean, 'card_holds'). Laid BY PROGRAM, IN A SANDBOX (cutbox-door.mjs). By AI agents, Wed Nov 11 2026. No macro, syntax, notation, axiom, sorry.
-/
import Derived.Test.YtfehbkcfncioiaaDoorRows
import GoSem.ClaimSeven
namespace Go.Proofs.YtfehbkcfncioiaaDoor
namespace Rows

/-- THE TIED CARD OF 'belatedlaw4.ScanTokens'. -/
def scanTokensCard : Claim7 := { stood := { row := scanTokensRow, standIns := [], harness := (true, "768baec2e505c83cf6ea7d5deaf06647c17e469fa4e9ae527d2c18127a0fae75"), looks := true }, kinds := [], alts := [], laidByText := true, laidKinds := [.data, .data, .data, .sentinel, .sentinel], laidTests := true, laidLooks := .later }
def ScanTokensCardSaid : Prop := Claim7.holds Tryd.pinned (.plain (OpenSpec.ofChange scanTokensSpec)) scanTokensCard

/-- THE TIED CARD OF 'belatedlaw4.ScanWalks'. -/
def scanWalksCard : Claim7 := { stood := { row := scanWalksRow, standIns := [], harness := (true, "768baec2e505c83cf6ea7d5deaf06647c17e469fa4e9ae527d2c18127a0fae75"), looks := true }, kinds := [], alts := [], laidByText := true, laidKinds := [.data, .data, .data, .sentinel, .sentinel], laidTests := true, laidLooks := .later }
def ScanWalksCardSaid : Prop := Claim7.holds Tryd.pinned (.plain (OpenSpec.ofChange scanWalksSpec)) scanWalksCard

/-- THE TIED CARD OF 'belatedlaw4.ScanBack'. -/
def scanBackCard : Claim7 := { stood := { row := scanBackRow, standIns := [], harness := (true, "768baec2e505c83cf6ea7d5deaf06647c17e469fa4e9ae527d2c18127a0fae75"), looks := true }, kinds := [], alts := [], laidByText := true, laidKinds := [.data, .data, .data, .sentinel, .sentinel], laidTests := true, laidLooks := .later }
def ScanBackCardSaid : Prop := Claim7.holds Tryd.pinned (.plain (OpenSpec.ofChange scanBackSpec)) scanBackCard

/-- THE TIED CARD OF 'belatedlaw4.ScanPlaces'. -/
def scanPlacesCard : Claim7 := { stood := { row := scanPlacesRow, standIns := [], harness := (true, "768baec2e505c83cf6ea7d5deaf06647c17e469fa4e9ae527d2c18127a0fae75"), looks := true }, kinds := [], alts := [], laidByText := true, laidKinds := [.data, .data, .data, .sentinel, .sentinel], laidTests := true, laidLooks := .later }
def ScanPlacesCardSaid : Prop := Claim7.holds Tryd.pinned (.plain (OpenSpec.ofChange scanPlacesSpec)) scanPlacesCard

/-- THE SECOND FORM's CARD OF 'belatedlaw4.ScanTokens'. -/
def scanTokensUptoCard : Claim7 := { stood := { row := scanTokensUptoRow, standIns := [], harness := (true, "768baec2e505c83cf6ea7d5deaf06647c17e469fa4e9ae527d2c18127a0fae75"), looks := true }, kinds := [], alts := [], laidByText := true, laidKinds := [.data, .data, .data, .sentinel, .sentinel], laidTests := true, laidLooks := .later }
def ScanTokensUptoCardSaid : Prop := Claim7.holds Tryd.pinned (.plain (OpenSpec.upto scanTokensSpec)) scanTokensUptoCard

/-- THE SECOND FORM's CARD OF 'belatedlaw4.ScanWalks'. -/
def scanWalksUptoCard : Claim7 := { stood := { row := scanWalksUptoRow, standIns := [], harness := (true, "768baec2e505c83cf6ea7d5deaf06647c17e469fa4e9ae527d2c18127a0fae75"), looks := true }, kinds := [], alts := [], laidByText := true, laidKinds := [.data, .data, .data, .sentinel, .sentinel], laidTests := true, laidLooks := .later }
def ScanWalksUptoCardSaid : Prop := Claim7.holds Tryd.pinned (.plain (OpenSpec.upto scanWalksSpec)) scanWalksUptoCard

/-- THE SECOND FORM's CARD OF 'belatedlaw4.ScanBack'. -/
def scanBackUptoCard : Claim7 := { stood := { row := scanBackUptoRow, standIns := [], harness := (true, "768baec2e505c83cf6ea7d5deaf06647c17e469fa4e9ae527d2c18127a0fae75"), looks := true }, kinds := [], alts := [], laidByText := true, laidKinds := [.data, .data, .data, .sentinel, .sentinel], laidTests := true, laidLooks := .later }
def ScanBackUptoCardSaid : Prop := Claim7.holds Tryd.pinned (.plain (OpenSpec.upto scanBackSpec)) scanBackUptoCard

/-- THE SECOND FORM's CARD OF 'belatedlaw4.ScanPlaces'. -/
def scanPlacesUptoCard : Claim7 := { stood := { row := scanPlacesUptoRow, standIns := [], harness := (true, "768baec2e505c83cf6ea7d5deaf06647c17e469fa4e9ae527d2c18127a0fae75"), looks := true }, kinds := [], alts := [], laidByText := true, laidKinds := [.data, .data, .data, .sentinel, .sentinel], laidTests := true, laidLooks := .later }
def ScanPlacesUptoCardSaid : Prop := Claim7.holds Tryd.pinned (.plain (OpenSpec.upto scanPlacesSpec)) scanPlacesUptoCard
end Rows
end Go.Proofs.YtfehbkcfncioiaaDoor
