/-
  DERIVED. GIVEN WITH THE SEED: THE CARDS: each row of YtbjgpfhbdmcbbaaDoorRows.lean that lists a variable, with what it lists TIED to the program's text (the seventh form; the later family's looks); each row that meets fmt, with fmt's text TOLD by the authors' own Lean function (tested against real Go, not proved from fmt's source: count such statements apart). THE CARD IS WHAT COUNTS. Prove the row's statement (the work); the ties are given (YtbjgpfhbdmcbbaaDoorTie.lean); close each card by the builder's one call (the guide's Derived/Test/ToyasCard.lean, 'card_holds'). Laid BY PROGRAM, IN A SANDBOX (cutbox-door.mjs). By AI agents, Wed Nov 11 2026. No macro, syntax, notation, axiom, sorry.
-/
import Derived.Test.YtbjgpfhbdmcbbaaDoorRows
import GoSem.ClaimSeven
namespace Go.Proofs.YtbjgpfhbdmcbbaaDoor
namespace Rows

/-- THE TIED CARD OF 'quernlaw.Reads'. -/
def readsCard : Claim7 := { stood := { row := readsRow, standIns := [], harness := (true, "a5f35fd09e5af2b5a588b90dd064144967492e43bb76c3ad61adbc44496071c0"), looks := true }, kinds := [], alts := [], laidByText := true, laidKinds := [.data, .data, .data, .data, .handle, .sentinel, .sentinel, .sentinel, .pinned], laidTests := true, laidLooks := .later }
def ReadsCardSaid : Prop := Claim7.holds Tryd.pinned (.plain (OpenSpec.ofChange readsSpec)) readsCard

/-- THE TIED CARD OF 'quernlaw.Cuts'. -/
def cutsCard : Claim7 := { stood := { row := cutsRow, standIns := [], harness := (true, "a5f35fd09e5af2b5a588b90dd064144967492e43bb76c3ad61adbc44496071c0"), looks := true }, kinds := [], alts := [], laidByText := true, laidKinds := [.data, .pinned], laidTests := true, laidLooks := .later }
def CutsCardSaid : Prop := Claim7.holds Tryd.pinned (.plain (OpenSpec.ofChange cutsSpec)) cutsCard

/-- THE TIED CARD OF 'quernkeep.Written'. -/
def writtenCard : Claim7 := { stood := { row := writtenRow, standIns := [], harness := (true, "a5f35fd09e5af2b5a588b90dd064144967492e43bb76c3ad61adbc44496071c0"), looks := true }, kinds := [], alts := [], laidByText := true, laidKinds := [.data, .data, .data, .data, .handle, .sentinel, .sentinel, .sentinel, .pinned], laidTests := true, laidLooks := .later }
def WrittenCardSaid : Prop := Claim7.holds Tryd.pinned (.plain (OpenSpec.ofChange writtenSpec)) writtenCard

/-- THE TIED CARD OF 'quernkeep.Covers'. -/
def coversCard : Claim7 := { stood := { row := coversRow, standIns := [], harness := (true, "a5f35fd09e5af2b5a588b90dd064144967492e43bb76c3ad61adbc44496071c0"), looks := true }, kinds := [], alts := [], laidByText := true, laidKinds := [.data, .pinned], laidTests := true, laidLooks := .later }
def CoversCardSaid : Prop := Claim7.holds Tryd.pinned (.plain (OpenSpec.ofChange coversSpec)) coversCard

/-- THE SECOND FORM's CARD OF 'quernlaw.Reads'. -/
def readsUptoCard : Claim7 := { stood := { row := readsUptoRow, standIns := [], harness := (true, "a5f35fd09e5af2b5a588b90dd064144967492e43bb76c3ad61adbc44496071c0"), looks := true }, kinds := [], alts := [], laidByText := true, laidKinds := [.data, .data, .data, .data, .handle, .sentinel, .sentinel, .sentinel, .pinned], laidTests := true, laidLooks := .later }
def ReadsUptoCardSaid : Prop := Claim7.holds Tryd.pinned (.plain (OpenSpec.upto readsSpec)) readsUptoCard

/-- THE SECOND FORM's CARD OF 'quernlaw.Cuts'. -/
def cutsUptoCard : Claim7 := { stood := { row := cutsUptoRow, standIns := [], harness := (true, "a5f35fd09e5af2b5a588b90dd064144967492e43bb76c3ad61adbc44496071c0"), looks := true }, kinds := [], alts := [], laidByText := true, laidKinds := [.data, .pinned], laidTests := true, laidLooks := .later }
def CutsUptoCardSaid : Prop := Claim7.holds Tryd.pinned (.plain (OpenSpec.upto cutsSpec)) cutsUptoCard

/-- THE SECOND FORM's CARD OF 'quernkeep.Written'. -/
def writtenUptoCard : Claim7 := { stood := { row := writtenUptoRow, standIns := [], harness := (true, "a5f35fd09e5af2b5a588b90dd064144967492e43bb76c3ad61adbc44496071c0"), looks := true }, kinds := [], alts := [], laidByText := true, laidKinds := [.data, .data, .data, .data, .handle, .sentinel, .sentinel, .sentinel, .pinned], laidTests := true, laidLooks := .later }
def WrittenUptoCardSaid : Prop := Claim7.holds Tryd.pinned (.plain (OpenSpec.upto writtenSpec)) writtenUptoCard

/-- THE SECOND FORM's CARD OF 'quernkeep.Covers'. -/
def coversUptoCard : Claim7 := { stood := { row := coversUptoRow, standIns := [], harness := (true, "a5f35fd09e5af2b5a588b90dd064144967492e43bb76c3ad61adbc44496071c0"), looks := true }, kinds := [], alts := [], laidByText := true, laidKinds := [.data, .pinned], laidTests := true, laidLooks := .later }
def CoversUptoCardSaid : Prop := Claim7.holds Tryd.pinned (.plain (OpenSpec.upto coversSpec)) coversUptoCard
end Rows
end Go.Proofs.YtbjgpfhbdmcbbaaDoor
