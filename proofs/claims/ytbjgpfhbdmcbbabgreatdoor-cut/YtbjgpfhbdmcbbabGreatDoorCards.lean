/-
  DERIVED. GIVEN WITH THE SEED: THE CARDS: each row of YtbjgpfhbdmcbbabGreatDoorRows.lean that lists a variable, with what it lists TIED to the program's text (the seventh form; the later family's looks); each row that meets fmt, with fmt's text TOLD by the authors' own Lean function (tested against real Go, not proved from fmt's source: count such statements apart). THE CARD IS WHAT COUNTS. Prove the row's statement (the work); the ties are given (YtbjgpfhbdmcbbabGreatDoorTie.lean); close each card by the builder's one call (the guide's Derived/Test/ToyasCard.lean, 'card_holds'). Laid BY PROGRAM, IN A SANDBOX (cutbox-door.mjs). By AI agents, Wed Nov 11 2026. No macro, syntax, notation, axiom, sorry.
-/
import Derived.Test.YtbjgpfhbdmcbbabGreatDoorRows
import GoSem.ClaimSeven
namespace Go.Proofs.YtbjgpfhbdmcbbabGreatDoor
namespace Rows

/-- THE TIED CARD OF 'quernkeep.Others'. -/
def othersCard : Claim7 := { stood := { row := othersRow, standIns := [], harness := (true, "52ce7e3c6182dbe519a359bf446dbb615e754f2c2b7a660f259bc9866abf7986"), looks := true }, kinds := [], alts := [], laidByText := true, laidKinds := [.data, .data, .data, .data, .handle, .sentinel, .sentinel, .sentinel, .sentinel, .sentinel, .sentinel, .sentinel, .sentinel, .sentinel, .sentinel, .sentinel, .sentinel, .sentinel, .sentinel, .pinned], laidTests := true, laidLooks := .later }
def OthersCardSaid : Prop := Claim7.holds Tryz.pinned (.plain (OpenSpec.ofChange othersSpec)) othersCard

/-- THE TIED CARD OF 'quernkeep.Cut'. -/
def cutCard : Claim7 := { stood := { row := cutRow, standIns := [], harness := (true, "52ce7e3c6182dbe519a359bf446dbb615e754f2c2b7a660f259bc9866abf7986"), looks := true }, kinds := [], alts := [], laidByText := true, laidKinds := [.data, .data, .data, .data, .handle, .sentinel, .sentinel, .sentinel, .sentinel, .sentinel, .sentinel, .sentinel, .sentinel, .sentinel, .sentinel, .sentinel, .sentinel, .sentinel, .sentinel, .pinned], laidTests := true, laidLooks := .later }
def CutCardSaid : Prop := Claim7.holds Tryz.pinned (.plain (OpenSpec.ofChange cutSpec)) cutCard

/-- THE SECOND FORM's CARD OF 'quernkeep.Others'. -/
def othersUptoCard : Claim7 := { stood := { row := othersUptoRow, standIns := [], harness := (true, "52ce7e3c6182dbe519a359bf446dbb615e754f2c2b7a660f259bc9866abf7986"), looks := true }, kinds := [], alts := [], laidByText := true, laidKinds := [.data, .data, .data, .data, .handle, .sentinel, .sentinel, .sentinel, .sentinel, .sentinel, .sentinel, .sentinel, .sentinel, .sentinel, .sentinel, .sentinel, .sentinel, .sentinel, .sentinel, .pinned], laidTests := true, laidLooks := .later }
def OthersUptoCardSaid : Prop := Claim7.holds Tryz.pinned (.plain (OpenSpec.upto othersSpec)) othersUptoCard

/-- THE SECOND FORM's CARD OF 'quernkeep.Cut'. -/
def cutUptoCard : Claim7 := { stood := { row := cutUptoRow, standIns := [], harness := (true, "52ce7e3c6182dbe519a359bf446dbb615e754f2c2b7a660f259bc9866abf7986"), looks := true }, kinds := [], alts := [], laidByText := true, laidKinds := [.data, .data, .data, .data, .handle, .sentinel, .sentinel, .sentinel, .sentinel, .sentinel, .sentinel, .sentinel, .sentinel, .sentinel, .sentinel, .sentinel, .sentinel, .sentinel, .sentinel, .pinned], laidTests := true, laidLooks := .later }
def CutUptoCardSaid : Prop := Claim7.holds Tryz.pinned (.plain (OpenSpec.upto cutSpec)) cutUptoCard
end Rows
end Go.Proofs.YtbjgpfhbdmcbbabGreatDoor
