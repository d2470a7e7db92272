/-
  DERIVED. GIVEN WITH THE SEED: THE CARDS: each row of YtahbikegdgpncaaDoorRows.lean that lists a variable, with what it lists TIED to the program's text (the seventh form; the later family's looks); each row that meets fmt, with fmt's text TOLD by the authors' own Lean function (tested against real Go, not proved from fmt's source: count such statements apart). THE CARD IS WHAT COUNTS. Prove the row's statement (the work); the ties are given (YtahbikegdgpncaaDoorTie.lean); close each card by the builder's one call (the guide's Derived/Test/ToyasCard.lean, 'card_holds'). Laid BY PROGRAM, IN A SANDBOX (cutbox-door.mjs). By AI agents, Wed Nov 11 2026. No macro, syntax, notation, axiom, sorry.
-/
import Derived.Test.YtahbikegdgpncaaDoorRows
import GoSem.ClaimSeven
namespace Go.Proofs.YtahbikegdgpncaaDoor
namespace Rows

/-- THE TIED CARD OF 'luminairelaw06.RangesChecks'. -/
def rangesChecksCard : Claim7 := { stood := { row := rangesChecksRow, standIns := [], harness := (true, "7e8bf40a6c7f4fc24102047e27967538a696c22b2a8f8460420feec04ef80fd8"), looks := false }, kinds := [], alts := [], laidByText := true, laidKinds := [.data, .data, .data], laidTests := true, laidLooks := .later }
def RangesChecksCardSaid : Prop := Claim7.holds Tryd.pinned (.plain (OpenSpec.ofChange rangesChecksSpec)) rangesChecksCard

/-- THE TIED CARD OF 'luminairelaw06.RangesMakes'. -/
def rangesMakesCard : Claim7 := { stood := { row := rangesMakesRow, standIns := [], harness := (true, "7e8bf40a6c7f4fc24102047e27967538a696c22b2a8f8460420feec04ef80fd8"), looks := false }, kinds := [], alts := [], laidByText := true, laidKinds := [.data, .data, .data], laidTests := true, laidLooks := .later }
def RangesMakesCardSaid : Prop := Claim7.holds Tryd.pinned (.plain (OpenSpec.ofChange rangesMakesSpec)) rangesMakesCard

/-- THE TIED CARD OF 'luminairelaw06.RangesCombines'. -/
def rangesCombinesCard : Claim7 := { stood := { row := rangesCombinesRow, standIns := [], harness := (true, "7e8bf40a6c7f4fc24102047e27967538a696c22b2a8f8460420feec04ef80fd8"), looks := false }, kinds := [], alts := [], laidByText := true, laidKinds := [.data, .data, .data], laidTests := true, laidLooks := .later }
def RangesCombinesCardSaid : Prop := Claim7.holds Tryd.pinned (.plain (OpenSpec.ofChange rangesCombinesSpec)) rangesCombinesCard

/-- THE TIED CARD OF 'luminairelaw06.RangesWrites'. -/
def rangesWritesCard : Claim7 := { stood := { row := rangesWritesRow, standIns := [], harness := (true, "7e8bf40a6c7f4fc24102047e27967538a696c22b2a8f8460420feec04ef80fd8"), looks := false }, kinds := [], alts := [], laidByText := true, laidKinds := [.data, .data, .data], laidTests := true, laidLooks := .later }
def RangesWritesCardSaid : Prop := Claim7.holds Tryd.pinned (.plain (OpenSpec.ofChange rangesWritesSpec)) rangesWritesCard

/-- THE TIED CARD OF 'luminairelaw06.RangesReturns'. -/
def rangesReturnsCard : Claim7 := { stood := { row := rangesReturnsRow, standIns := [], harness := (true, "7e8bf40a6c7f4fc24102047e27967538a696c22b2a8f8460420feec04ef80fd8"), looks := false }, kinds := [], alts := [], laidByText := true, laidKinds := [.data, .data, .data], laidTests := true, laidLooks := .later }
def RangesReturnsCardSaid : Prop := Claim7.holds Tryd.pinned (.plain (OpenSpec.ofChange rangesReturnsSpec)) rangesReturnsCard

/-- THE TIED CARD OF 'luminairelaw06.RangesMembers'. -/
def rangesMembersCard : Claim7 := { stood := { row := rangesMembersRow, standIns := [], harness := (true, "7e8bf40a6c7f4fc24102047e27967538a696c22b2a8f8460420feec04ef80fd8"), looks := false }, kinds := [], alts := [], laidByText := true, laidKinds := [.data, .data, .data], laidTests := true, laidLooks := .later }
def RangesMembersCardSaid : Prop := Claim7.holds Tryd.pinned (.plain (OpenSpec.ofChange rangesMembersSpec)) rangesMembersCard

/-- THE TIED CARD OF 'luminairelaw06.RangesLists'. -/
def rangesListsCard : Claim7 := { stood := { row := rangesListsRow, standIns := [], harness := (true, "7e8bf40a6c7f4fc24102047e27967538a696c22b2a8f8460420feec04ef80fd8"), looks := false }, kinds := [], alts := [], laidByText := true, laidKinds := [.data, .data, .data], laidTests := true, laidLooks := .later }
def RangesListsCardSaid : Prop := Claim7.holds Tryd.pinned (.plain (OpenSpec.ofChange rangesListsSpec)) rangesListsCard

/-- THE TIED CARD OF 'luminairetop.TopRangesTexts'. -/
def topRangesTextsCard : Claim7 := { stood := { row := topRangesTextsRow, standIns := [], harness := (true, "7e8bf40a6c7f4fc24102047e27967538a696c22b2a8f8460420feec04ef80fd8"), looks := false }, kinds := [], alts := [], laidByText := true, laidKinds := [.data, .data, .data, .data, .pinned], laidTests := true, laidLooks := .later }
def TopRangesTextsCardSaid : Prop := Claim7.holds Tryd.pinned (.plain (OpenSpec.ofChange topRangesTextsSpec)) topRangesTextsCard

/-- THE TIED CARD OF 'luminairetop.TopNumbersDense'. -/
def topNumbersDenseCard : Claim7 := { stood := { row := topNumbersDenseRow, standIns := [], harness := (true, "7e8bf40a6c7f4fc24102047e27967538a696c22b2a8f8460420feec04ef80fd8"), looks := false }, kinds := [], alts := [], laidByText := true, laidKinds := [.data, .data, .data, .data, .pinned], laidTests := true, laidLooks := .later }
def TopNumbersDenseCardSaid : Prop := Claim7.holds Tryd.pinned (.plain (OpenSpec.ofChange topNumbersDenseSpec)) topNumbersDenseCard

/-- THE TIED CARD OF 'luminairetop.TopNumbersAppended'. -/
def topNumbersAppendedCard : Claim7 := { stood := { row := topNumbersAppendedRow, standIns := [], harness := (true, "7e8bf40a6c7f4fc24102047e27967538a696c22b2a8f8460420feec04ef80fd8"), looks := false }, kinds := [], alts := [], laidByText := true, laidKinds := [.data, .data, .data, .data, .pinned], laidTests := true, laidLooks := .later }
def TopNumbersAppendedCardSaid : Prop := Claim7.holds Tryd.pinned (.plain (OpenSpec.ofChange topNumbersAppendedSpec)) topNumbersAppendedCard

/-- THE SECOND FORM's CARD OF 'luminairelaw06.RangesChecks'. -/
def rangesChecksUptoCard : Claim7 := { stood := { row := rangesChecksUptoRow, standIns := [], harness := (true, "7e8bf40a6c7f4fc24102047e27967538a696c22b2a8f8460420feec04ef80fd8"), looks := false }, kinds := [], alts := [], laidByText := true, laidKinds := [.data, .data, .data], laidTests := true, laidLooks := .later }
def RangesChecksUptoCardSaid : Prop := Claim7.holds Tryd.pinned (.plain (OpenSpec.upto rangesChecksSpec)) rangesChecksUptoCard

/-- THE SECOND FORM's CARD OF 'luminairelaw06.RangesMakes'. -/
def rangesMakesUptoCard : Claim7 := { stood := { row := rangesMakesUptoRow, standIns := [], harness := (true, "7e8bf40a6c7f4fc24102047e27967538a696c22b2a8f8460420feec04ef80fd8"), looks := false }, kinds := [], alts := [], laidByText := true, laidKinds := [.data, .data, .data], laidTests := true, laidLooks := .later }
def RangesMakesUptoCardSaid : Prop := Claim7.holds Tryd.pinned (.plain (OpenSpec.upto rangesMakesSpec)) rangesMakesUptoCard

/-- THE SECOND FORM's CARD OF 'luminairelaw06.RangesCombines'. -/
def rangesCombinesUptoCard : Claim7 := { stood := { row := rangesCombinesUptoRow, standIns := [], harness := (true, "7e8bf40a6c7f4fc24102047e27967538a696c22b2a8f8460420feec04ef80fd8"), looks := false }, kinds := [], alts := [], laidByText := true, laidKinds := [.data, .data, .data], laidTests := true, laidLooks := .later }
def RangesCombinesUptoCardSaid : Prop := Claim7.holds Tryd.pinned (.plain (OpenSpec.upto rangesCombinesSpec)) rangesCombinesUptoCard

/-- THE SECOND FORM's CARD OF 'luminairelaw06.RangesWrites'. -/
def rangesWritesUptoCard : Claim7 := { stood := { row := rangesWritesUptoRow, standIns := [], harness := (true, "7e8bf40a6c7f4fc24102047e27967538a696c22b2a8f8460420feec04ef80fd8"), looks := false }, kinds := [], alts := [], laidByText := true, laidKinds := [.data, .data, .data], laidTests := true, laidLooks := .later }
def RangesWritesUptoCardSaid : Prop := Claim7.holds Tryd.pinned (.plain (OpenSpec.upto rangesWritesSpec)) rangesWritesUptoCard

/-- THE SECOND FORM's CARD OF 'luminairelaw06.RangesReturns'. -/
def rangesReturnsUptoCard : Claim7 := { stood := { row := rangesReturnsUptoRow, standIns := [], harness := (true, "7e8bf40a6c7f4fc24102047e27967538a696c22b2a8f8460420feec04ef80fd8"), looks := false }, kinds := [], alts := [], laidByText := true, laidKinds := [.data, .data, .data], laidTests := true, laidLooks := .later }
def RangesReturnsUptoCardSaid : Prop := Claim7.holds Tryd.pinned (.plain (OpenSpec.upto rangesReturnsSpec)) rangesReturnsUptoCard

/-- THE SECOND FORM's CARD OF 'luminairelaw06.RangesMembers'. -/
def rangesMembersUptoCard : Claim7 := { stood := { row := rangesMembersUptoRow, standIns := [], harness := (true, "7e8bf40a6c7f4fc24102047e27967538a696c22b2a8f8460420feec04ef80fd8"), looks := false }, kinds := [], alts := [], laidByText := true, laidKinds := [.data, .data, .data], laidTests := true, laidLooks := .later }
def RangesMembersUptoCardSaid : Prop := Claim7.holds Tryd.pinned (.plain (OpenSpec.upto rangesMembersSpec)) rangesMembersUptoCard

/-- THE SECOND FORM's CARD OF 'luminairelaw06.RangesLists'. -/
def rangesListsUptoCard : Claim7 := { stood := { row := rangesListsUptoRow, standIns := [], harness := (true, "7e8bf40a6c7f4fc24102047e27967538a696c22b2a8f8460420feec04ef80fd8"), looks := false }, kinds := [], alts := [], laidByText := true, laidKinds := [.data, .data, .data], laidTests := true, laidLooks := .later }
def RangesListsUptoCardSaid : Prop := Claim7.holds Tryd.pinned (.plain (OpenSpec.upto rangesListsSpec)) rangesListsUptoCard

/-- THE SECOND FORM's CARD OF 'luminairetop.TopRangesTexts'. -/
def topRangesTextsUptoCard : Claim7 := { stood := { row := topRangesTextsUptoRow, standIns := [], harness := (true, "7e8bf40a6c7f4fc24102047e27967538a696c22b2a8f8460420feec04ef80fd8"), looks := false }, kinds := [], alts := [], laidByText := true, laidKinds := [.data, .data, .data, .data, .pinned], laidTests := true, laidLooks := .later }
def TopRangesTextsUptoCardSaid : Prop := Claim7.holds Tryd.pinned (.plain (OpenSpec.upto topRangesTextsSpec)) topRangesTextsUptoCard

/-- THE SECOND FORM's CARD OF 'luminairetop.TopNumbersDense'. -/
def topNumbersDenseUptoCard : Claim7 := { stood := { row := topNumbersDenseUptoRow, standIns := [], harness := (true, "7e8bf40a6c7f4fc24102047e27967538a696c22b2a8f8460420feec04ef80fd8"), looks := false }, kinds := [], alts := [], laidByText := true, laidKinds := [.data, .data, .data, .data, .pinned], laidTests := true, laidLooks := .later }
def TopNumbersDenseUptoCardSaid : Prop := Claim7.holds Tryd.pinned (.plain (OpenSpec.upto topNumbersDenseSpec)) topNumbersDenseUptoCard

/-- THE SECOND FORM's CARD OF 'luminairetop.TopNumbersAppended'. -/
def topNumbersAppendedUptoCard : Claim7 := { stood := { row := topNumbersAppendedUptoRow, standIns := [], harness := (true, "7e8bf40a6c7f4fc24102047e27967538a696c22b2a8f8460420feec04ef80fd8"), looks := false }, kinds := [], alts := [], laidByText := true, laidKinds := [.data, .data, .data, .data, .pinned], laidTests := true, laidLooks := .later }
def TopNumbersAppendedUptoCardSaid : Prop := Claim7.holds Tryd.pinned (.plain (OpenSpec.upto topNumbersAppendedSpec)) topNumbersAppendedUptoCard
end Rows
end Go.Proofs.YtahbikegdgpncaaDoor
