/-
  DERIVED. GIVEN WITH THE SEED: THE CARDS: each row of YtjideokeokmbaaaGreatDoorRows.lean that lists a variable, with what it lists TIED to the program's text (the seventh form; the later family's looks); each row that meets fmt, with fmt's text TOLD by the authors' own Lean function (tested against real Go, not proved from fmt's source: count such statements apart). THE CARD IS WHAT COUNTS. Prove the row's statement (the work); the ties are given (YtjideokeokmbaaaGreatDoorTie.lean); close each card by the builder's one call (the guide's Derived/Test/ToyasCard.lean, 'card_holds'). Laid BY PROGRAM, IN A SANDBOX (cutbox-door.mjs). By AI agents, Wed Nov 11 2026. No macro, syntax, notation, axiom, sorry.
-/
import Derived.Test.YtjideokeokmbaaaGreatDoorRows
import GoSem.ClaimSeven
namespace Go.Proofs.YtjideokeokmbaaaGreatDoor
namespace Rows

/-- THE TIED CARD OF 'luminairetop.TopRangesAlgebra'. -/
def topRangesAlgebraCard : Claim7 := { stood := { row := topRangesAlgebraRow, standIns := [], harness := (true, "c5b3fdffda0d533ea42a3462ca5d919baab8476df5c34fc983d3069afc71fc7e"), looks := false }, kinds := [], alts := [], laidByText := true, laidKinds := [.data, .data, .data, .data, .pinned], laidTests := true, laidLooks := .later }
def TopRangesAlgebraCardSaid : Prop := Claim7.holds Tryz.pinned (.plain (OpenSpec.ofChange topRangesAlgebraSpec)) topRangesAlgebraCard

/-- THE SECOND FORM's CARD OF 'luminairetop.TopRangesAlgebra'. -/
def topRangesAlgebraUptoCard : Claim7 := { stood := { row := topRangesAlgebraUptoRow, standIns := [], harness := (true, "c5b3fdffda0d533ea42a3462ca5d919baab8476df5c34fc983d3069afc71fc7e"), looks := false }, kinds := [], alts := [], laidByText := true, laidKinds := [.data, .data, .data, .data, .pinned], laidTests := true, laidLooks := .later }
def TopRangesAlgebraUptoCardSaid : Prop := Claim7.holds Tryz.pinned (.plain (OpenSpec.upto topRangesAlgebraSpec)) topRangesAlgebraUptoCard
end Rows
end Go.Proofs.YtjideokeokmbaaaGreatDoor
