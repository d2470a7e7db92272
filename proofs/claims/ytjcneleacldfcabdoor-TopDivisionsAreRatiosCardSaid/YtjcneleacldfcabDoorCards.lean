/-
  DERIVED. GIVEN WITH THE SEED: THE CARDS: each row of YtjcneleacldfcabDoorRows.lean that lists a variable, with what it lists TIED to the program's text (the seventh form; the later family's looks); each row that meets fmt, with fmt's text TOLD by the authors' own Lean function (tested against real Go, not proved from fmt's source: count such statements apart). THE CARD IS WHAT COUNTS. Prove the row's statement (the work); the ties are given (YtjcneleacldfcabDoorTie.lean); close each card by the builder's one call (the guide's Derived/Test/ToyasCard.lean, 'card_holds'). Laid BY PROGRAM, IN A SANDBOX (cutbox-door.mjs). By AI agents, Wed Nov 11 2026. No macro, syntax, notation, axiom, sorry.
-/
import Derived.Test.YtjcneleacldfcabDoorRows
import GoSem.ClaimSeven
namespace Go.Proofs.YtjcneleacldfcabDoor
namespace Rows

/-- THE TIED CARD OF 'luminairetop.TopDivisionsAreRatios'. -/
def topDivisionsAreRatiosCard : Claim7 := { stood := { row := topDivisionsAreRatiosRow, standIns := [], harness := (true, "8ea60caf31d6bbb9d12278fde2e0ebd7aafe8013260514b483e3aba2f2d1552a"), looks := false }, kinds := [], alts := [], laidByText := true, laidKinds := [.data, .data, .data], laidTests := true, laidLooks := .later }
def TopDivisionsAreRatiosCardSaid : Prop := Claim7.holds Tryd.pinned (.plain (OpenSpec.ofChange topDivisionsAreRatiosSpec)) topDivisionsAreRatiosCard

/-- THE SECOND FORM's CARD OF 'luminairetop.TopDivisionsAreRatios'. -/
def topDivisionsAreRatiosUptoCard : Claim7 := { stood := { row := topDivisionsAreRatiosUptoRow, standIns := [], harness := (true, "8ea60caf31d6bbb9d12278fde2e0ebd7aafe8013260514b483e3aba2f2d1552a"), looks := false }, kinds := [], alts := [], laidByText := true, laidKinds := [.data, .data, .data], laidTests := true, laidLooks := .later }
def TopDivisionsAreRatiosUptoCardSaid : Prop := Claim7.holds Tryd.pinned (.plain (OpenSpec.upto topDivisionsAreRatiosSpec)) topDivisionsAreRatiosUptoCard
end Rows
end Go.Proofs.YtjcneleacldfcabDoor
