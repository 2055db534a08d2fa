/-
  DERIVED. GIVEN WITH THE SEED: THE CARDS: each row of YtbjgpfhbdmcbbaaGreatDoorRows.lean that lists a variable, with what it lists TIED to the program's text (the seventh form; the later family's looks); each row that meets fmt, with fmt's text TOLD by the authors' own Lean function (tested against real Go, not proved from fmt's source: count such statements apart). THE CARD IS WHAT COUNTS. Prove the row's statement (the work); the ties are given (YtbjgpfhbdmcbbaaGreatDoorTie.lean); close each card by the builder's one call (the guide's Derived/Test/ToyasCard.lean, 'card_holds'). Laid BY PROGRAM, IN A SANDBOX (cutbox-door.mjs). By AI agents, Wed Nov 11 2026. No macro, syntax, notation, axiom, sorry.
-/
import Derived.Test.YtbjgpfhbdmcbbaaGreatDoorRows
import GoSem.ClaimSeven
namespace Go.Proofs.YtbjgpfhbdmcbbaaGreatDoor
namespace Rows

/-- THE TIED CARD OF 'quernlaw.Counts'. -/
def countsCard : Claim7 := { stood := { row := countsRow, standIns := [], harness := (true, "63dd66d565b3d519089e5011b8787df75e4ebd3fb278761dd7c091ef53d17fce"), looks := true }, kinds := [], alts := [], laidByText := true, laidKinds := [.data, .data, .data, .data, .handle, .sentinel, .sentinel, .sentinel, .sentinel, .sentinel, .sentinel, .sentinel, .sentinel, .sentinel, .sentinel, .sentinel, .sentinel, .sentinel, .sentinel, .pinned], laidTests := true, laidLooks := .later }
def CountsCardSaid : Prop := Claim7.holds Tryz.pinned (.plain (OpenSpec.ofChange countsSpec)) countsCard

/-- THE TIED CARD OF 'quernlaw.Resumes'. -/
def resumesCard : Claim7 := { stood := { row := resumesRow, standIns := [], harness := (true, "63dd66d565b3d519089e5011b8787df75e4ebd3fb278761dd7c091ef53d17fce"), looks := true }, kinds := [], alts := [], laidByText := true, laidKinds := [.data, .data, .data, .data, .handle, .sentinel, .sentinel, .sentinel, .sentinel, .sentinel, .sentinel, .sentinel, .sentinel, .sentinel, .sentinel, .sentinel, .sentinel, .sentinel, .sentinel, .pinned], laidTests := true, laidLooks := .later }
def ResumesCardSaid : Prop := Claim7.holds Tryz.pinned (.plain (OpenSpec.ofChange resumesSpec)) resumesCard

/-- THE TIED CARD OF 'quernkeep.Alike'. -/
def alikeCard : Claim7 := { stood := { row := alikeRow, standIns := [], harness := (true, "63dd66d565b3d519089e5011b8787df75e4ebd3fb278761dd7c091ef53d17fce"), looks := true }, kinds := [], alts := [], laidByText := true, laidKinds := [.data, .data, .data, .data, .handle, .sentinel, .sentinel, .sentinel, .sentinel, .sentinel, .sentinel, .sentinel, .sentinel, .sentinel, .sentinel, .sentinel, .sentinel, .sentinel, .sentinel, .pinned], laidTests := true, laidLooks := .later }
def AlikeCardSaid : Prop := Claim7.holds Tryz.pinned (.plain (OpenSpec.ofChange alikeSpec)) alikeCard

/-- THE TIED CARD OF 'quernkeep.Added'. -/
def addedCard : Claim7 := { stood := { row := addedRow, standIns := [], harness := (true, "63dd66d565b3d519089e5011b8787df75e4ebd3fb278761dd7c091ef53d17fce"), looks := true }, kinds := [], alts := [], laidByText := true, laidKinds := [.data, .data, .data, .data, .handle, .sentinel, .sentinel, .sentinel, .sentinel, .sentinel, .sentinel, .sentinel, .sentinel, .sentinel, .sentinel, .sentinel, .sentinel, .sentinel, .sentinel, .pinned], laidTests := true, laidLooks := .later }
def AddedCardSaid : Prop := Claim7.holds Tryz.pinned (.plain (OpenSpec.ofChange addedSpec)) addedCard

/-- THE TIED CARD OF 'quernkeep.Asked'. -/
def askedCard : Claim7 := { stood := { row := askedRow, standIns := [], harness := (true, "63dd66d565b3d519089e5011b8787df75e4ebd3fb278761dd7c091ef53d17fce"), looks := true }, kinds := [], alts := [], laidByText := true, laidKinds := [.data, .data, .data, .data, .handle, .sentinel, .sentinel, .sentinel, .sentinel, .sentinel, .sentinel, .sentinel, .sentinel, .sentinel, .sentinel, .sentinel, .sentinel, .sentinel, .sentinel, .pinned], laidTests := true, laidLooks := .later }
def AskedCardSaid : Prop := Claim7.holds Tryz.pinned (.plain (OpenSpec.ofChange askedSpec)) askedCard

/-- THE TIED CARD OF 'quernkeep.Held'. -/
def heldCard : Claim7 := { stood := { row := heldRow, standIns := [], harness := (true, "63dd66d565b3d519089e5011b8787df75e4ebd3fb278761dd7c091ef53d17fce"), looks := true }, kinds := [], alts := [], laidByText := true, laidKinds := [.data, .data, .data, .data, .handle, .sentinel, .sentinel, .sentinel, .sentinel, .sentinel, .sentinel, .sentinel, .sentinel, .sentinel, .sentinel, .sentinel, .sentinel, .sentinel, .sentinel, .pinned], laidTests := true, laidLooks := .later }
def HeldCardSaid : Prop := Claim7.holds Tryz.pinned (.plain (OpenSpec.ofChange heldSpec)) heldCard

/-- THE SECOND FORM's CARD OF 'quernlaw.Counts'. -/
def countsUptoCard : Claim7 := { stood := { row := countsUptoRow, standIns := [], harness := (true, "63dd66d565b3d519089e5011b8787df75e4ebd3fb278761dd7c091ef53d17fce"), looks := true }, kinds := [], alts := [], laidByText := true, laidKinds := [.data, .data, .data, .data, .handle, .sentinel, .sentinel, .sentinel, .sentinel, .sentinel, .sentinel, .sentinel, .sentinel, .sentinel, .sentinel, .sentinel, .sentinel, .sentinel, .sentinel, .pinned], laidTests := true, laidLooks := .later }
def CountsUptoCardSaid : Prop := Claim7.holds Tryz.pinned (.plain (OpenSpec.upto countsSpec)) countsUptoCard

/-- THE SECOND FORM's CARD OF 'quernlaw.Resumes'. -/
def resumesUptoCard : Claim7 := { stood := { row := resumesUptoRow, standIns := [], harness := (true, "63dd66d565b3d519089e5011b8787df75e4ebd3fb278761dd7c091ef53d17fce"), looks := true }, kinds := [], alts := [], laidByText := true, laidKinds := [.data, .data, .data, .data, .handle, .sentinel, .sentinel, .sentinel, .sentinel, .sentinel, .sentinel, .sentinel, .sentinel, .sentinel, .sentinel, .sentinel, .sentinel, .sentinel, .sentinel, .pinned], laidTests := true, laidLooks := .later }
def ResumesUptoCardSaid : Prop := Claim7.holds Tryz.pinned (.plain (OpenSpec.upto resumesSpec)) resumesUptoCard

/-- THE SECOND FORM's CARD OF 'quernkeep.Alike'. -/
def alikeUptoCard : Claim7 := { stood := { row := alikeUptoRow, standIns := [], harness := (true, "63dd66d565b3d519089e5011b8787df75e4ebd3fb278761dd7c091ef53d17fce"), looks := true }, kinds := [], alts := [], laidByText := true, laidKinds := [.data, .data, .data, .data, .handle, .sentinel, .sentinel, .sentinel, .sentinel, .sentinel, .sentinel, .sentinel, .sentinel, .sentinel, .sentinel, .sentinel, .sentinel, .sentinel, .sentinel, .pinned], laidTests := true, laidLooks := .later }
def AlikeUptoCardSaid : Prop := Claim7.holds Tryz.pinned (.plain (OpenSpec.upto alikeSpec)) alikeUptoCard

/-- THE SECOND FORM's CARD OF 'quernkeep.Added'. -/
def addedUptoCard : Claim7 := { stood := { row := addedUptoRow, standIns := [], harness := (true, "63dd66d565b3d519089e5011b8787df75e4ebd3fb278761dd7c091ef53d17fce"), looks := true }, kinds := [], alts := [], laidByText := true, laidKinds := [.data, .data, .data, .data, .handle, .sentinel, .sentinel, .sentinel, .sentinel, .sentinel, .sentinel, .sentinel, .sentinel, .sentinel, .sentinel, .sentinel, .sentinel, .sentinel, .sentinel, .pinned], laidTests := true, laidLooks := .later }
def AddedUptoCardSaid : Prop := Claim7.holds Tryz.pinned (.plain (OpenSpec.upto addedSpec)) addedUptoCard

/-- THE SECOND FORM's CARD OF 'quernkeep.Asked'. -/
def askedUptoCard : Claim7 := { stood := { row := askedUptoRow, standIns := [], harness := (true, "63dd66d565b3d519089e5011b8787df75e4ebd3fb278761dd7c091ef53d17fce"), looks := true }, kinds := [], alts := [], laidByText := true, laidKinds := [.data, .data, .data, .data, .handle, .sentinel, .sentinel, .sentinel, .sentinel, .sentinel, .sentinel, .sentinel, .sentinel, .sentinel, .sentinel, .sentinel, .sentinel, .sentinel, .sentinel, .pinned], laidTests := true, laidLooks := .later }
def AskedUptoCardSaid : Prop := Claim7.holds Tryz.pinned (.plain (OpenSpec.upto askedSpec)) askedUptoCard

/-- THE SECOND FORM's CARD OF 'quernkeep.Held'. -/
def heldUptoCard : Claim7 := { stood := { row := heldUptoRow, standIns := [], harness := (true, "63dd66d565b3d519089e5011b8787df75e4ebd3fb278761dd7c091ef53d17fce"), looks := true }, kinds := [], alts := [], laidByText := true, laidKinds := [.data, .data, .data, .data, .handle, .sentinel, .sentinel, .sentinel, .sentinel, .sentinel, .sentinel, .sentinel, .sentinel, .sentinel, .sentinel, .sentinel, .sentinel, .sentinel, .sentinel, .pinned], laidTests := true, laidLooks := .later }
def HeldUptoCardSaid : Prop := Claim7.holds Tryz.pinned (.plain (OpenSpec.upto heldSpec)) heldUptoCard
end Rows
end Go.Proofs.YtbjgpfhbdmcbbaaGreatDoor
