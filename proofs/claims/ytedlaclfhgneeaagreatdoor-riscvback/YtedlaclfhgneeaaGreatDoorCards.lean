/-
  DERIVED. GIVEN WITH THE SEED: THE CARDS: each row of YtedlaclfhgneeaaGreatDoorRows.lean that lists a variable, with what it lists TIED to the program's text (the seventh form; the later family's looks); each row that meets fmt, with fmt's text TOLD by the authors' own Lean function (tested against real Go, not proved from fmt's source: count such statements apart). THE CARD IS WHAT COUNTS. Prove the row's statement (the work); the ties are given (YtedlaclfhgneeaaGreatDoorTie.lean); close each card by the builder's one call (the guide's Derived/Test/ToyasCard.lean, 'card_holds'). Laid BY PROGRAM, IN A SANDBOX (cutbox-door.mjs). By AI agents, Wed Nov 11 2026. No macro, syntax, notation, axiom, sorry.
-/
import Derived.Test.YtedlaclfhgneeaaGreatDoorRows
import GoSem.ClaimSeven
namespace Go.Proofs.YtedlaclfhgneeaaGreatDoor
namespace Rows

/-- THE TIED CARD OF 'belatedlaw5.X86Parses'. -/
def x86ParsesCard : Claim7 := { stood := { row := x86ParsesRow, standIns := [], harness := (true, "ca7dc92ec90f78c94aba77cbc7b27e3758e6a146afb6563754d1702215a2271b"), looks := true }, kinds := [], alts := [], laidByText := true, laidKinds := [.data, .data, .data, .data, .sentinel, .sentinel, .pinned], laidTests := true, laidLooks := .later }
def X86ParsesCardSaid : Prop := Claim7.holds Tryz.pinned (.plain (OpenSpec.ofChange x86ParsesSpec)) x86ParsesCard

/-- THE TIED CARD OF 'belatedlaw5.X86Prints'. -/
def x86PrintsCard : Claim7 := { stood := { row := x86PrintsRow, standIns := [], harness := (true, "ca7dc92ec90f78c94aba77cbc7b27e3758e6a146afb6563754d1702215a2271b"), looks := true }, kinds := [], alts := [], laidByText := true, laidKinds := [.data, .data, .data, .data, .sentinel, .sentinel, .pinned], laidTests := true, laidLooks := .later }
def X86PrintsCardSaid : Prop := Claim7.holds Tryz.pinned (.plain (OpenSpec.ofChange x86PrintsSpec)) x86PrintsCard

/-- THE TIED CARD OF 'belatedlaw5.X86Back'. -/
def x86BackCard : Claim7 := { stood := { row := x86BackRow, standIns := [], harness := (true, "ca7dc92ec90f78c94aba77cbc7b27e3758e6a146afb6563754d1702215a2271b"), looks := true }, kinds := [], alts := [], laidByText := true, laidKinds := [.data, .data, .data, .data, .sentinel, .sentinel, .pinned], laidTests := true, laidLooks := .later }
def X86BackCardSaid : Prop := Claim7.holds Tryz.pinned (.plain (OpenSpec.ofChange x86BackSpec)) x86BackCard

/-- THE TIED CARD OF 'belatedlaw6.RiscvParses'. -/
def riscvParsesCard : Claim7 := { stood := { row := riscvParsesRow, standIns := [], harness := (true, "ca7dc92ec90f78c94aba77cbc7b27e3758e6a146afb6563754d1702215a2271b"), looks := true }, kinds := [], alts := [], laidByText := true, laidKinds := [.data, .data, .data, .data, .sentinel, .sentinel, .pinned], laidTests := true, laidLooks := .later }
def RiscvParsesCardSaid : Prop := Claim7.holds Tryz.pinned (.plain (OpenSpec.ofChange riscvParsesSpec)) riscvParsesCard

/-- THE TIED CARD OF 'belatedlaw6.RiscvPrints'. -/
def riscvPrintsCard : Claim7 := { stood := { row := riscvPrintsRow, standIns := [], harness := (true, "ca7dc92ec90f78c94aba77cbc7b27e3758e6a146afb6563754d1702215a2271b"), looks := true }, kinds := [], alts := [], laidByText := true, laidKinds := [.data, .data, .data, .data, .sentinel, .sentinel, .pinned], laidTests := true, laidLooks := .later }
def RiscvPrintsCardSaid : Prop := Claim7.holds Tryz.pinned (.plain (OpenSpec.ofChange riscvPrintsSpec)) riscvPrintsCard

/-- THE TIED CARD OF 'belatedlaw6.RiscvBack'. -/
def riscvBackCard : Claim7 := { stood := { row := riscvBackRow, standIns := [], harness := (true, "ca7dc92ec90f78c94aba77cbc7b27e3758e6a146afb6563754d1702215a2271b"), looks := true }, kinds := [], alts := [], laidByText := true, laidKinds := [.data, .data, .data, .data, .sentinel, .sentinel, .pinned], laidTests := true, laidLooks := .later }
def RiscvBackCardSaid : Prop := Claim7.holds Tryz.pinned (.plain (OpenSpec.ofChange riscvBackSpec)) riscvBackCard

/-- THE SECOND FORM's CARD OF 'belatedlaw5.X86Parses'. -/
def x86ParsesUptoCard : Claim7 := { stood := { row := x86ParsesUptoRow, standIns := [], harness := (true, "ca7dc92ec90f78c94aba77cbc7b27e3758e6a146afb6563754d1702215a2271b"), looks := true }, kinds := [], alts := [], laidByText := true, laidKinds := [.data, .data, .data, .data, .sentinel, .sentinel, .pinned], laidTests := true, laidLooks := .later }
def X86ParsesUptoCardSaid : Prop := Claim7.holds Tryz.pinned (.plain (OpenSpec.upto x86ParsesSpec)) x86ParsesUptoCard

/-- THE SECOND FORM's CARD OF 'belatedlaw5.X86Prints'. -/
def x86PrintsUptoCard : Claim7 := { stood := { row := x86PrintsUptoRow, standIns := [], harness := (true, "ca7dc92ec90f78c94aba77cbc7b27e3758e6a146afb6563754d1702215a2271b"), looks := true }, kinds := [], alts := [], laidByText := true, laidKinds := [.data, .data, .data, .data, .sentinel, .sentinel, .pinned], laidTests := true, laidLooks := .later }
def X86PrintsUptoCardSaid : Prop := Claim7.holds Tryz.pinned (.plain (OpenSpec.upto x86PrintsSpec)) x86PrintsUptoCard

/-- THE SECOND FORM's CARD OF 'belatedlaw5.X86Back'. -/
def x86BackUptoCard : Claim7 := { stood := { row := x86BackUptoRow, standIns := [], harness := (true, "ca7dc92ec90f78c94aba77cbc7b27e3758e6a146afb6563754d1702215a2271b"), looks := true }, kinds := [], alts := [], laidByText := true, laidKinds := [.data, .data, .data, .data, .sentinel, .sentinel, .pinned], laidTests := true, laidLooks := .later }
def X86BackUptoCardSaid : Prop := Claim7.holds Tryz.pinned (.plain (OpenSpec.upto x86BackSpec)) x86BackUptoCard

/-- THE SECOND FORM's CARD OF 'belatedlaw6.RiscvParses'. -/
def riscvParsesUptoCard : Claim7 := { stood := { row := riscvParsesUptoRow, standIns := [], harness := (true, "ca7dc92ec90f78c94aba77cbc7b27e3758e6a146afb6563754d1702215a2271b"), looks := true }, kinds := [], alts := [], laidByText := true, laidKinds := [.data, .data, .data, .data, .sentinel, .sentinel, .pinned], laidTests := true, laidLooks := .later }
def RiscvParsesUptoCardSaid : Prop := Claim7.holds Tryz.pinned (.plain (OpenSpec.upto riscvParsesSpec)) riscvParsesUptoCard

/-- THE SECOND FORM's CARD OF 'belatedlaw6.RiscvPrints'. -/
def riscvPrintsUptoCard : Claim7 := { stood := { row := riscvPrintsUptoRow, standIns := [], harness := (true, "ca7dc92ec90f78c94aba77cbc7b27e3758e6a146afb6563754d1702215a2271b"), looks := true }, kinds := [], alts := [], laidByText := true, laidKinds := [.data, .data, .data, .data, .sentinel, .sentinel, .pinned], laidTests := true, laidLooks := .later }
def RiscvPrintsUptoCardSaid : Prop := Claim7.holds Tryz.pinned (.plain (OpenSpec.upto riscvPrintsSpec)) riscvPrintsUptoCard

/-- THE SECOND FORM's CARD OF 'belatedlaw6.RiscvBack'. -/
def riscvBackUptoCard : Claim7 := { stood := { row := riscvBackUptoRow, standIns := [], harness := (true, "ca7dc92ec90f78c94aba77cbc7b27e3758e6a146afb6563754d1702215a2271b"), looks := true }, kinds := [], alts := [], laidByText := true, laidKinds := [.data, .data, .data, .data, .sentinel, .sentinel, .pinned], laidTests := true, laidLooks := .later }
def RiscvBackUptoCardSaid : Prop := Claim7.holds Tryz.pinned (.plain (OpenSpec.upto riscvBackSpec)) riscvBackUptoCard
end Rows
end Go.Proofs.YtedlaclfhgneeaaGreatDoor
