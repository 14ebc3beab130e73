/-
  DERIVED. GIVEN WITH THE SEED: THE CARDS: each row of YtjaoocincdoaaaaGreatDoorRows.lean that lists a variable, with what it lists TIED to the program's text (the seventh form; the later family's looks); each row that meets fmt, with fmt's text TOLD by the authors' own Lean function (tested against real Go, not proved from fmt's source: count such statements apart). THE CARD IS WHAT COUNTS. Prove the row's statement (the work); the ties are given (YtjaoocincdoaaaaGreatDoorTie.lean); close each card by the builder's one call (the guide's Derived/Test/ToyasCard.lean, 'card_holds'). Laid BY PROGRAM, IN A SANDBOX (cutbox-door.mjs). By AI agents, Wed Nov 11 2026. No macro, syntax, notation, axiom, sorry.
-/
import Derived.Test.YtjaoocincdoaaaaGreatDoorRows
import GoSem.ClaimSeven
namespace Go.Proofs.YtjaoocincdoaaaaGreatDoor
namespace Rows

/-- THE TIED CARD OF 'plucklaw.Compacts'. -/
def compactsCard : Claim7 := { stood := { row := compactsRow, standIns := [], harness := (true, "c4b9b5bd0ef8171c959c058df5d2532c9c7dc8cb090623c78a69162a148c1cf8"), looks := true }, kinds := [], alts := [], laidByText := true, laidKinds := [.data, .data, .data, .data, .handle, .sentinel, .sentinel, .sentinel, .sentinel, .sentinel, .sentinel, .sentinel, .sentinel, .sentinel, .pinned], laidTests := true, laidLooks := .later }
def CompactsCardSaid : Prop := Claim7.holds Tryz.pinned (.plain (OpenSpec.ofChange compactsSpec)) compactsCard

/-- THE SECOND FORM's CARD OF 'plucklaw.Compacts'. -/
def compactsUptoCard : Claim7 := { stood := { row := compactsUptoRow, standIns := [], harness := (true, "c4b9b5bd0ef8171c959c058df5d2532c9c7dc8cb090623c78a69162a148c1cf8"), looks := true }, kinds := [], alts := [], laidByText := true, laidKinds := [.data, .data, .data, .data, .handle, .sentinel, .sentinel, .sentinel, .sentinel, .sentinel, .sentinel, .sentinel, .sentinel, .sentinel, .pinned], laidTests := true, laidLooks := .later }
def CompactsUptoCardSaid : Prop := Claim7.holds Tryz.pinned (.plain (OpenSpec.upto compactsSpec)) compactsUptoCard
end Rows
end Go.Proofs.YtjaoocincdoaaaaGreatDoor
