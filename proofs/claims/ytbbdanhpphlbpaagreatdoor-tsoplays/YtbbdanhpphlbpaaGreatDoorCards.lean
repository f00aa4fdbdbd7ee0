/-
  DERIVED. GIVEN WITH THE SEED: THE CARDS: each row of YtbbdanhpphlbpaaGreatDoorRows.lean that lists a variable, with what it lists TIED to the program's text (the seventh form; the later family's looks); each row that meets fmt, with fmt's text TOLD by the authors' own Lean function (tested against real Go, not proved from fmt's source: count such statements apart). THE CARD IS WHAT COUNTS. Prove the row's statement (the work); the ties are given (YtbbdanhpphlbpaaGreatDoorTie.lean); close each card by the builder's one call (the guide's Derived/Test/ToyasCard.lean, 'card_holds'). Laid BY PROGRAM, IN A SANDBOX (cutbox-door.mjs). By AI agents, Wed Nov 11 2026. No macro, syntax, notation, axiom, sorry.
-/
import Derived.Test.YtbbdanhpphlbpaaGreatDoorRows
import GoSem.ClaimSeven
namespace Go.Proofs.YtbbdanhpphlbpaaGreatDoor
namespace Rows

/-- THE TIED CARD OF 'belatedlaw15.ScPlays'. -/
def scPlaysCard : Claim7 := { stood := { row := scPlaysRow, standIns := [], harness := (true, "ac47f324b339e0b6688746cfe3e4e06b306bf782a99d5caac199ad7bec98d068"), looks := true }, kinds := [], alts := [], laidByText := true, laidKinds := [.data, .data, .data, .data, .sentinel, .sentinel, .pinned], laidTests := true, laidLooks := .later }
def ScPlaysCardSaid : Prop := Claim7.holds Tryz.pinned (.plain (OpenSpec.ofChange scPlaysSpec)) scPlaysCard

/-- THE TIED CARD OF 'belatedlaw15.ScTwins'. -/
def scTwinsCard : Claim7 := { stood := { row := scTwinsRow, standIns := [], harness := (true, "ac47f324b339e0b6688746cfe3e4e06b306bf782a99d5caac199ad7bec98d068"), looks := true }, kinds := [], alts := [], laidByText := true, laidKinds := [.data, .data, .data, .data, .sentinel, .sentinel, .pinned], laidTests := true, laidLooks := .later }
def ScTwinsCardSaid : Prop := Claim7.holds Tryz.pinned (.plain (OpenSpec.ofChange scTwinsSpec)) scTwinsCard

/-- THE TIED CARD OF 'belatedlaw16.TsoPlays'. -/
def tsoPlaysCard : Claim7 := { stood := { row := tsoPlaysRow, standIns := [], harness := (true, "ac47f324b339e0b6688746cfe3e4e06b306bf782a99d5caac199ad7bec98d068"), looks := true }, kinds := [], alts := [], laidByText := true, laidKinds := [.data, .data, .data, .data, .sentinel, .sentinel, .pinned], laidTests := true, laidLooks := .later }
def TsoPlaysCardSaid : Prop := Claim7.holds Tryz.pinned (.plain (OpenSpec.ofChange tsoPlaysSpec)) tsoPlaysCard

/-- THE TIED CARD OF 'belatedlaw16.TsoTwins'. -/
def tsoTwinsCard : Claim7 := { stood := { row := tsoTwinsRow, standIns := [], harness := (true, "ac47f324b339e0b6688746cfe3e4e06b306bf782a99d5caac199ad7bec98d068"), looks := true }, kinds := [], alts := [], laidByText := true, laidKinds := [.data, .data, .data, .data, .sentinel, .sentinel, .pinned], laidTests := true, laidLooks := .later }
def TsoTwinsCardSaid : Prop := Claim7.holds Tryz.pinned (.plain (OpenSpec.ofChange tsoTwinsSpec)) tsoTwinsCard

/-- THE TIED CARD OF 'belatedlaw16.TsoBuffers'. -/
def tsoBuffersCard : Claim7 := { stood := { row := tsoBuffersRow, standIns := [], harness := (true, "ac47f324b339e0b6688746cfe3e4e06b306bf782a99d5caac199ad7bec98d068"), looks := true }, kinds := [], alts := [], laidByText := true, laidKinds := [.data, .data, .data, .data, .sentinel, .sentinel, .pinned], laidTests := true, laidLooks := .later }
def TsoBuffersCardSaid : Prop := Claim7.holds Tryz.pinned (.plain (OpenSpec.ofChange tsoBuffersSpec)) tsoBuffersCard

/-- THE SECOND FORM's CARD OF 'belatedlaw15.ScPlays'. -/
def scPlaysUptoCard : Claim7 := { stood := { row := scPlaysUptoRow, standIns := [], harness := (true, "ac47f324b339e0b6688746cfe3e4e06b306bf782a99d5caac199ad7bec98d068"), looks := true }, kinds := [], alts := [], laidByText := true, laidKinds := [.data, .data, .data, .data, .sentinel, .sentinel, .pinned], laidTests := true, laidLooks := .later }
def ScPlaysUptoCardSaid : Prop := Claim7.holds Tryz.pinned (.plain (OpenSpec.upto scPlaysSpec)) scPlaysUptoCard

/-- THE SECOND FORM's CARD OF 'belatedlaw15.ScTwins'. -/
def scTwinsUptoCard : Claim7 := { stood := { row := scTwinsUptoRow, standIns := [], harness := (true, "ac47f324b339e0b6688746cfe3e4e06b306bf782a99d5caac199ad7bec98d068"), looks := true }, kinds := [], alts := [], laidByText := true, laidKinds := [.data, .data, .data, .data, .sentinel, .sentinel, .pinned], laidTests := true, laidLooks := .later }
def ScTwinsUptoCardSaid : Prop := Claim7.holds Tryz.pinned (.plain (OpenSpec.upto scTwinsSpec)) scTwinsUptoCard

/-- THE SECOND FORM's CARD OF 'belatedlaw16.TsoPlays'. -/
def tsoPlaysUptoCard : Claim7 := { stood := { row := tsoPlaysUptoRow, standIns := [], harness := (true, "ac47f324b339e0b6688746cfe3e4e06b306bf782a99d5caac199ad7bec98d068"), looks := true }, kinds := [], alts := [], laidByText := true, laidKinds := [.data, .data, .data, .data, .sentinel, .sentinel, .pinned], laidTests := true, laidLooks := .later }
def TsoPlaysUptoCardSaid : Prop := Claim7.holds Tryz.pinned (.plain (OpenSpec.upto tsoPlaysSpec)) tsoPlaysUptoCard

/-- THE SECOND FORM's CARD OF 'belatedlaw16.TsoTwins'. -/
def tsoTwinsUptoCard : Claim7 := { stood := { row := tsoTwinsUptoRow, standIns := [], harness := (true, "ac47f324b339e0b6688746cfe3e4e06b306bf782a99d5caac199ad7bec98d068"), looks := true }, kinds := [], alts := [], laidByText := true, laidKinds := [.data, .data, .data, .data, .sentinel, .sentinel, .pinned], laidTests := true, laidLooks := .later }
def TsoTwinsUptoCardSaid : Prop := Claim7.holds Tryz.pinned (.plain (OpenSpec.upto tsoTwinsSpec)) tsoTwinsUptoCard

/-- THE SECOND FORM's CARD OF 'belatedlaw16.TsoBuffers'. -/
def tsoBuffersUptoCard : Claim7 := { stood := { row := tsoBuffersUptoRow, standIns := [], harness := (true, "ac47f324b339e0b6688746cfe3e4e06b306bf782a99d5caac199ad7bec98d068"), looks := true }, kinds := [], alts := [], laidByText := true, laidKinds := [.data, .data, .data, .data, .sentinel, .sentinel, .pinned], laidTests := true, laidLooks := .later }
def TsoBuffersUptoCardSaid : Prop := Claim7.holds Tryz.pinned (.plain (OpenSpec.upto tsoBuffersSpec)) tsoBuffersUptoCard
end Rows
end Go.Proofs.YtbbdanhpphlbpaaGreatDoor
