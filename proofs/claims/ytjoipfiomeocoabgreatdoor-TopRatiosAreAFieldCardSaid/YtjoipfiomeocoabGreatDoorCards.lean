/-
  DERIVED. GIVEN WITH THE SEED: THE CARDS: each row of YtjoipfiomeocoabGreatDoorRows.lean that lists a variable, with what it lists TIED to the program's text (the seventh form; the later family's looks); each row that meets fmt, with fmt's text TOLD by the authors' own Lean function (tested against real Go, not proved from fmt's source: count such statements apart). THE CARD IS WHAT COUNTS. Prove the row's statement (the work); the ties are given (YtjoipfiomeocoabGreatDoorTie.lean); close each card by the builder's one call (the guide's Derived/Test/ToyasCard.lean, 'card_holds'). Laid BY PROGRAM, IN A SANDBOX (cutbox-door.mjs). By AI agents, Wed Nov 11 2026. No macro, syntax, notation, axiom, sorry.
-/
import Derived.Test.YtjoipfiomeocoabGreatDoorRows
import GoSem.ClaimSeven
namespace Go.Proofs.YtjoipfiomeocoabGreatDoor
namespace Rows

/-- THE TIED CARD OF 'luminairelaw02.RatioMakes'. -/
def ratioMakesCard : Claim7 := { stood := { row := ratioMakesRow, standIns := [], harness := (true, "f0b1fa2d9f0bc2b9cb16f07f310488037e00825217c0ae5383d74d3a52cefc17"), looks := false }, kinds := [], alts := [], laidByText := true, laidKinds := [.data, .data, .data], laidTests := true, laidLooks := .later }
def RatioMakesCardSaid : Prop := Claim7.holds Tryz.pinned (.plain (OpenSpec.ofChange ratioMakesSpec)) ratioMakesCard

/-- THE TIED CARD OF 'luminairelaw02.RatioLimits'. -/
def ratioLimitsCard : Claim7 := { stood := { row := ratioLimitsRow, standIns := [], harness := (true, "f0b1fa2d9f0bc2b9cb16f07f310488037e00825217c0ae5383d74d3a52cefc17"), looks := false }, kinds := [], alts := [], laidByText := true, laidKinds := [.data, .data, .data], laidTests := true, laidLooks := .later }
def RatioLimitsCardSaid : Prop := Claim7.holds Tryz.pinned (.plain (OpenSpec.ofChange ratioLimitsSpec)) ratioLimitsCard

/-- THE TIED CARD OF 'luminairelaw02.RatioClamps'. -/
def ratioClampsCard : Claim7 := { stood := { row := ratioClampsRow, standIns := [], harness := (true, "f0b1fa2d9f0bc2b9cb16f07f310488037e00825217c0ae5383d74d3a52cefc17"), looks := false }, kinds := [], alts := [], laidByText := true, laidKinds := [.data, .data, .data], laidTests := true, laidLooks := .later }
def RatioClampsCardSaid : Prop := Claim7.holds Tryz.pinned (.plain (OpenSpec.ofChange ratioClampsSpec)) ratioClampsCard

/-- THE TIED CARD OF 'luminairelaw02.RatioField'. -/
def ratioFieldCard : Claim7 := { stood := { row := ratioFieldRow, standIns := [], harness := (true, "f0b1fa2d9f0bc2b9cb16f07f310488037e00825217c0ae5383d74d3a52cefc17"), looks := false }, kinds := [], alts := [], laidByText := true, laidKinds := [.data, .data, .data], laidTests := true, laidLooks := .later }
def RatioFieldCardSaid : Prop := Claim7.holds Tryz.pinned (.plain (OpenSpec.ofChange ratioFieldSpec)) ratioFieldCard

/-- THE TIED CARD OF 'luminairelaw02.RatioNeighbours'. -/
def ratioNeighboursCard : Claim7 := { stood := { row := ratioNeighboursRow, standIns := [], harness := (true, "f0b1fa2d9f0bc2b9cb16f07f310488037e00825217c0ae5383d74d3a52cefc17"), looks := false }, kinds := [], alts := [], laidByText := true, laidKinds := [.data, .data, .data], laidTests := true, laidLooks := .later }
def RatioNeighboursCardSaid : Prop := Claim7.holds Tryz.pinned (.plain (OpenSpec.ofChange ratioNeighboursSpec)) ratioNeighboursCard

/-- THE TIED CARD OF 'luminairelaw02.RatioBetween'. -/
def ratioBetweenCard : Claim7 := { stood := { row := ratioBetweenRow, standIns := [], harness := (true, "f0b1fa2d9f0bc2b9cb16f07f310488037e00825217c0ae5383d74d3a52cefc17"), looks := false }, kinds := [], alts := [], laidByText := true, laidKinds := [.data, .data, .data], laidTests := true, laidLooks := .later }
def RatioBetweenCardSaid : Prop := Claim7.holds Tryz.pinned (.plain (OpenSpec.ofChange ratioBetweenSpec)) ratioBetweenCard

/-- THE TIED CARD OF 'luminairetop.TopRatiosAreAField'. -/
def topRatiosAreAFieldCard : Claim7 := { stood := { row := topRatiosAreAFieldRow, standIns := [], harness := (true, "f0b1fa2d9f0bc2b9cb16f07f310488037e00825217c0ae5383d74d3a52cefc17"), looks := false }, kinds := [], alts := [], laidByText := true, laidKinds := [.data, .data, .data], laidTests := true, laidLooks := .later }
def TopRatiosAreAFieldCardSaid : Prop := Claim7.holds Tryz.pinned (.plain (OpenSpec.ofChange topRatiosAreAFieldSpec)) topRatiosAreAFieldCard

/-- THE TIED CARD OF 'luminairetop.TopMixesAreBetween'. -/
def topMixesAreBetweenCard : Claim7 := { stood := { row := topMixesAreBetweenRow, standIns := [], harness := (true, "f0b1fa2d9f0bc2b9cb16f07f310488037e00825217c0ae5383d74d3a52cefc17"), looks := false }, kinds := [], alts := [], laidByText := true, laidKinds := [.data, .data, .data], laidTests := true, laidLooks := .later }
def TopMixesAreBetweenCardSaid : Prop := Claim7.holds Tryz.pinned (.plain (OpenSpec.ofChange topMixesAreBetweenSpec)) topMixesAreBetweenCard

/-- THE SECOND FORM's CARD OF 'luminairelaw02.RatioMakes'. -/
def ratioMakesUptoCard : Claim7 := { stood := { row := ratioMakesUptoRow, standIns := [], harness := (true, "f0b1fa2d9f0bc2b9cb16f07f310488037e00825217c0ae5383d74d3a52cefc17"), looks := false }, kinds := [], alts := [], laidByText := true, laidKinds := [.data, .data, .data], laidTests := true, laidLooks := .later }
def RatioMakesUptoCardSaid : Prop := Claim7.holds Tryz.pinned (.plain (OpenSpec.upto ratioMakesSpec)) ratioMakesUptoCard

/-- THE SECOND FORM's CARD OF 'luminairelaw02.RatioLimits'. -/
def ratioLimitsUptoCard : Claim7 := { stood := { row := ratioLimitsUptoRow, standIns := [], harness := (true, "f0b1fa2d9f0bc2b9cb16f07f310488037e00825217c0ae5383d74d3a52cefc17"), looks := false }, kinds := [], alts := [], laidByText := true, laidKinds := [.data, .data, .data], laidTests := true, laidLooks := .later }
def RatioLimitsUptoCardSaid : Prop := Claim7.holds Tryz.pinned (.plain (OpenSpec.upto ratioLimitsSpec)) ratioLimitsUptoCard

/-- THE SECOND FORM's CARD OF 'luminairelaw02.RatioClamps'. -/
def ratioClampsUptoCard : Claim7 := { stood := { row := ratioClampsUptoRow, standIns := [], harness := (true, "f0b1fa2d9f0bc2b9cb16f07f310488037e00825217c0ae5383d74d3a52cefc17"), looks := false }, kinds := [], alts := [], laidByText := true, laidKinds := [.data, .data, .data], laidTests := true, laidLooks := .later }
def RatioClampsUptoCardSaid : Prop := Claim7.holds Tryz.pinned (.plain (OpenSpec.upto ratioClampsSpec)) ratioClampsUptoCard

/-- THE SECOND FORM's CARD OF 'luminairelaw02.RatioField'. -/
def ratioFieldUptoCard : Claim7 := { stood := { row := ratioFieldUptoRow, standIns := [], harness := (true, "f0b1fa2d9f0bc2b9cb16f07f310488037e00825217c0ae5383d74d3a52cefc17"), looks := false }, kinds := [], alts := [], laidByText := true, laidKinds := [.data, .data, .data], laidTests := true, laidLooks := .later }
def RatioFieldUptoCardSaid : Prop := Claim7.holds Tryz.pinned (.plain (OpenSpec.upto ratioFieldSpec)) ratioFieldUptoCard

/-- THE SECOND FORM's CARD OF 'luminairelaw02.RatioNeighbours'. -/
def ratioNeighboursUptoCard : Claim7 := { stood := { row := ratioNeighboursUptoRow, standIns := [], harness := (true, "f0b1fa2d9f0bc2b9cb16f07f310488037e00825217c0ae5383d74d3a52cefc17"), looks := false }, kinds := [], alts := [], laidByText := true, laidKinds := [.data, .data, .data], laidTests := true, laidLooks := .later }
def RatioNeighboursUptoCardSaid : Prop := Claim7.holds Tryz.pinned (.plain (OpenSpec.upto ratioNeighboursSpec)) ratioNeighboursUptoCard

/-- THE SECOND FORM's CARD OF 'luminairelaw02.RatioBetween'. -/
def ratioBetweenUptoCard : Claim7 := { stood := { row := ratioBetweenUptoRow, standIns := [], harness := (true, "f0b1fa2d9f0bc2b9cb16f07f310488037e00825217c0ae5383d74d3a52cefc17"), looks := false }, kinds := [], alts := [], laidByText := true, laidKinds := [.data, .data, .data], laidTests := true, laidLooks := .later }
def RatioBetweenUptoCardSaid : Prop := Claim7.holds Tryz.pinned (.plain (OpenSpec.upto ratioBetweenSpec)) ratioBetweenUptoCard

/-- THE SECOND FORM's CARD OF 'luminairetop.TopRatiosAreAField'. -/
def topRatiosAreAFieldUptoCard : Claim7 := { stood := { row := topRatiosAreAFieldUptoRow, standIns := [], harness := (true, "f0b1fa2d9f0bc2b9cb16f07f310488037e00825217c0ae5383d74d3a52cefc17"), looks := false }, kinds := [], alts := [], laidByText := true, laidKinds := [.data, .data, .data], laidTests := true, laidLooks := .later }
def TopRatiosAreAFieldUptoCardSaid : Prop := Claim7.holds Tryz.pinned (.plain (OpenSpec.upto topRatiosAreAFieldSpec)) topRatiosAreAFieldUptoCard

/-- THE SECOND FORM's CARD OF 'luminairetop.TopMixesAreBetween'. -/
def topMixesAreBetweenUptoCard : Claim7 := { stood := { row := topMixesAreBetweenUptoRow, standIns := [], harness := (true, "f0b1fa2d9f0bc2b9cb16f07f310488037e00825217c0ae5383d74d3a52cefc17"), looks := false }, kinds := [], alts := [], laidByText := true, laidKinds := [.data, .data, .data], laidTests := true, laidLooks := .later }
def TopMixesAreBetweenUptoCardSaid : Prop := Claim7.holds Tryz.pinned (.plain (OpenSpec.upto topMixesAreBetweenSpec)) topMixesAreBetweenUptoCard
end Rows
end Go.Proofs.YtjoipfiomeocoabGreatDoor
