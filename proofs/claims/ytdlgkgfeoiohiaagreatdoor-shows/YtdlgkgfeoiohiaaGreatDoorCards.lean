/-
  DERIVED. GIVEN WITH THE SEED: THE CARDS: each row of YtdlgkgfeoiohiaaGreatDoorRows.lean that lists a variable, with what it lists TIED to the program's text (the seventh form; the later family's looks); each row that meets fmt, with fmt's text TOLD by the authors' own Lean function (tested against real Go, not proved from fmt's source: count such statements apart). THE CARD IS WHAT COUNTS. Prove the row's statement (the work); the ties are given (YtdlgkgfeoiohiaaGreatDoorTie.lean); close each card by the builder's one call (the guide's Derived/Test/ToyasCard.lean, 'card_holds'). Laid BY PROGRAM, IN A SANDBOX (cutbox-door.mjs). By AI agents, Wed Nov 11 2026. No macro, syntax, notation, axiom, sorry.
-/
import Derived.Test.YtdlgkgfeoiohiaaGreatDoorRows
import GoSem.ClaimSeven
namespace Go.Proofs.YtdlgkgfeoiohiaaGreatDoor
namespace Rows

/-- THE TIED CARD OF 'plucklaw.Compacts'. -/
def compactsCard : Claim7 := { stood := { row := compactsRow, standIns := [], harness := (true, "b7dba0303072e5760e038756734db27e83f377b0a643428a698530383c7e3854"), looks := true }, kinds := [], alts := [], laidByText := true, laidKinds := [.data, .data, .data, .data, .handle, .sentinel, .sentinel, .sentinel, .sentinel, .sentinel, .sentinel, .sentinel, .sentinel, .pinned], laidTests := true, laidLooks := .later }
def CompactsCardSaid : Prop := Claim7.holds Tryz.pinned (.plain (OpenSpec.ofChange compactsSpec)) compactsCard

/-- THE TIED CARD OF 'plucklaw.Shows'. -/
def showsCard : Claim7 := { stood := { row := showsRow, standIns := [], harness := (true, "b7dba0303072e5760e038756734db27e83f377b0a643428a698530383c7e3854"), looks := true }, kinds := [], alts := [], laidByText := true, laidKinds := [.data, .data, .data, .data, .handle, .sentinel, .sentinel, .sentinel, .sentinel, .sentinel, .sentinel, .sentinel, .sentinel, .pinned], laidTests := true, laidLooks := .later }
def ShowsCardSaid : Prop := Claim7.holds Tryz.pinned (.plain (OpenSpec.ofChange showsSpec)) showsCard

/-- THE SECOND FORM's CARD OF 'plucklaw.Compacts'. -/
def compactsUptoCard : Claim7 := { stood := { row := compactsUptoRow, standIns := [], harness := (true, "b7dba0303072e5760e038756734db27e83f377b0a643428a698530383c7e3854"), looks := true }, kinds := [], alts := [], laidByText := true, laidKinds := [.data, .data, .data, .data, .handle, .sentinel, .sentinel, .sentinel, .sentinel, .sentinel, .sentinel, .sentinel, .sentinel, .pinned], laidTests := true, laidLooks := .later }
def CompactsUptoCardSaid : Prop := Claim7.holds Tryz.pinned (.plain (OpenSpec.upto compactsSpec)) compactsUptoCard

/-- THE SECOND FORM's CARD OF 'plucklaw.Shows'. -/
def showsUptoCard : Claim7 := { stood := { row := showsUptoRow, standIns := [], harness := (true, "b7dba0303072e5760e038756734db27e83f377b0a643428a698530383c7e3854"), looks := true }, kinds := [], alts := [], laidByText := true, laidKinds := [.data, .data, .data, .data, .handle, .sentinel, .sentinel, .sentinel, .sentinel, .sentinel, .sentinel, .sentinel, .sentinel, .pinned], laidTests := true, laidLooks := .later }
def ShowsUptoCardSaid : Prop := Claim7.holds Tryz.pinned (.plain (OpenSpec.upto showsSpec)) showsUptoCard
end Rows
end Go.Proofs.YtdlgkgfeoiohiaaGreatDoor
