/-
  DERIVED. GIVEN WITH THE SEED: THE CARDS: each row of YtfneikldnccepaaDoorRows.lean that lists a variable, with what it lists TIED to the program's text (the seventh form; the later family's looks); each row that meets fmt, with fmt's text TOLD by the authors' own Lean function (tested against real Go, not proved from fmt's source: count such statements apart). THE CARD IS WHAT COUNTS. Prove the row's statement (the work); the ties are given (YtfneikldnccepaaDoorTie.lean); close each card by the builder's one call (the guide's Derived/Test/ToyasCard.lean, 'card_holds'). Laid BY PROGRAM, IN A SANDBOX (cutbox-door.mjs). By AI agents, Wed Nov 11 2026. No macro, syntax, notation, axiom, sorry.
-/
import Derived.Test.YtfneikldnccepaaDoorRows
import GoSem.ClaimSeven
namespace Go.Proofs.YtfneikldnccepaaDoor
namespace Rows

/-- THE TIED CARD OF 'luminairelaw07.LexerScans'. -/
def lexerScansCard : Claim7 := { stood := { row := lexerScansRow, standIns := [], harness := (true, "2d744d27bef2bd7d1ffa8d2e1f19e05d6e29ed2060edaae00adb76e8132c1c90"), looks := false }, kinds := [], alts := [], laidByText := true, laidKinds := [.data, .pinned, .pinned], laidTests := true, laidLooks := .later }
def LexerScansCardSaid : Prop := Claim7.holds Tryd.pinned (.plain (OpenSpec.ofChange lexerScansSpec)) lexerScansCard

/-- THE TIED CARD OF 'luminairelaw07.LexerWords'. -/
def lexerWordsCard : Claim7 := { stood := { row := lexerWordsRow, standIns := [], harness := (true, "2d744d27bef2bd7d1ffa8d2e1f19e05d6e29ed2060edaae00adb76e8132c1c90"), looks := false }, kinds := [], alts := [], laidByText := true, laidKinds := [.data, .pinned, .pinned], laidTests := true, laidLooks := .later }
def LexerWordsCardSaid : Prop := Claim7.holds Tryd.pinned (.plain (OpenSpec.ofChange lexerWordsSpec)) lexerWordsCard

/-- THE TIED CARD OF 'luminairelaw07.LexerQuotes'. -/
def lexerQuotesCard : Claim7 := { stood := { row := lexerQuotesRow, standIns := [], harness := (true, "2d744d27bef2bd7d1ffa8d2e1f19e05d6e29ed2060edaae00adb76e8132c1c90"), looks := false }, kinds := [], alts := [], laidByText := true, laidKinds := [.data, .pinned, .pinned], laidTests := true, laidLooks := .later }
def LexerQuotesCardSaid : Prop := Claim7.holds Tryd.pinned (.plain (OpenSpec.ofChange lexerQuotesSpec)) lexerQuotesCard

/-- THE TIED CARD OF 'luminairelaw07.LexerJoins'. -/
def lexerJoinsCard : Claim7 := { stood := { row := lexerJoinsRow, standIns := [], harness := (true, "2d744d27bef2bd7d1ffa8d2e1f19e05d6e29ed2060edaae00adb76e8132c1c90"), looks := false }, kinds := [], alts := [], laidByText := true, laidKinds := [.data, .pinned, .pinned], laidTests := true, laidLooks := .later }
def LexerJoinsCardSaid : Prop := Claim7.holds Tryd.pinned (.plain (OpenSpec.ofChange lexerJoinsSpec)) lexerJoinsCard

/-- THE TIED CARD OF 'luminairelaw07.LexerReturns'. -/
def lexerReturnsCard : Claim7 := { stood := { row := lexerReturnsRow, standIns := [], harness := (true, "2d744d27bef2bd7d1ffa8d2e1f19e05d6e29ed2060edaae00adb76e8132c1c90"), looks := false }, kinds := [], alts := [], laidByText := true, laidKinds := [.data, .pinned, .pinned], laidTests := true, laidLooks := .later }
def LexerReturnsCardSaid : Prop := Claim7.holds Tryd.pinned (.plain (OpenSpec.ofChange lexerReturnsSpec)) lexerReturnsCard

/-- THE TIED CARD OF 'luminairelaw07.LexerPlaces'. -/
def lexerPlacesCard : Claim7 := { stood := { row := lexerPlacesRow, standIns := [], harness := (true, "2d744d27bef2bd7d1ffa8d2e1f19e05d6e29ed2060edaae00adb76e8132c1c90"), looks := false }, kinds := [], alts := [], laidByText := true, laidKinds := [.data, .pinned, .pinned], laidTests := true, laidLooks := .later }
def LexerPlacesCardSaid : Prop := Claim7.holds Tryd.pinned (.plain (OpenSpec.ofChange lexerPlacesSpec)) lexerPlacesCard

/-- THE TIED CARD OF 'luminairelaw07.LexerIgnores'. -/
def lexerIgnoresCard : Claim7 := { stood := { row := lexerIgnoresRow, standIns := [], harness := (true, "2d744d27bef2bd7d1ffa8d2e1f19e05d6e29ed2060edaae00adb76e8132c1c90"), looks := false }, kinds := [], alts := [], laidByText := true, laidKinds := [.data, .pinned, .pinned], laidTests := true, laidLooks := .later }
def LexerIgnoresCardSaid : Prop := Claim7.holds Tryd.pinned (.plain (OpenSpec.ofChange lexerIgnoresSpec)) lexerIgnoresCard

/-- THE TIED CARD OF 'luminairetop.TopTokensRecorded'. -/
def topTokensRecordedCard : Claim7 := { stood := { row := topTokensRecordedRow, standIns := [], harness := (true, "2d744d27bef2bd7d1ffa8d2e1f19e05d6e29ed2060edaae00adb76e8132c1c90"), looks := false }, kinds := [], alts := [], laidByText := true, laidKinds := [.data, .pinned, .pinned], laidTests := true, laidLooks := .later }
def TopTokensRecordedCardSaid : Prop := Claim7.holds Tryd.pinned (.plain (OpenSpec.ofChange topTokensRecordedSpec)) topTokensRecordedCard

/-- THE TIED CARD OF 'luminairetop.TopRecordsContinued'. -/
def topRecordsContinuedCard : Claim7 := { stood := { row := topRecordsContinuedRow, standIns := [], harness := (true, "2d744d27bef2bd7d1ffa8d2e1f19e05d6e29ed2060edaae00adb76e8132c1c90"), looks := false }, kinds := [], alts := [], laidByText := true, laidKinds := [.data, .pinned, .pinned], laidTests := true, laidLooks := .later }
def TopRecordsContinuedCardSaid : Prop := Claim7.holds Tryd.pinned (.plain (OpenSpec.ofChange topRecordsContinuedSpec)) topRecordsContinuedCard

/-- THE TIED CARD OF 'luminairetop.TopRecordsSpoilt'. -/
def topRecordsSpoiltCard : Claim7 := { stood := { row := topRecordsSpoiltRow, standIns := [], harness := (true, "2d744d27bef2bd7d1ffa8d2e1f19e05d6e29ed2060edaae00adb76e8132c1c90"), looks := false }, kinds := [], alts := [], laidByText := true, laidKinds := [.data, .pinned, .pinned], laidTests := true, laidLooks := .later }
def TopRecordsSpoiltCardSaid : Prop := Claim7.holds Tryd.pinned (.plain (OpenSpec.ofChange topRecordsSpoiltSpec)) topRecordsSpoiltCard

/-- THE SECOND FORM's CARD OF 'luminairelaw07.LexerScans'. -/
def lexerScansUptoCard : Claim7 := { stood := { row := lexerScansUptoRow, standIns := [], harness := (true, "2d744d27bef2bd7d1ffa8d2e1f19e05d6e29ed2060edaae00adb76e8132c1c90"), looks := false }, kinds := [], alts := [], laidByText := true, laidKinds := [.data, .pinned, .pinned], laidTests := true, laidLooks := .later }
def LexerScansUptoCardSaid : Prop := Claim7.holds Tryd.pinned (.plain (OpenSpec.upto lexerScansSpec)) lexerScansUptoCard

/-- THE SECOND FORM's CARD OF 'luminairelaw07.LexerWords'. -/
def lexerWordsUptoCard : Claim7 := { stood := { row := lexerWordsUptoRow, standIns := [], harness := (true, "2d744d27bef2bd7d1ffa8d2e1f19e05d6e29ed2060edaae00adb76e8132c1c90"), looks := false }, kinds := [], alts := [], laidByText := true, laidKinds := [.data, .pinned, .pinned], laidTests := true, laidLooks := .later }
def LexerWordsUptoCardSaid : Prop := Claim7.holds Tryd.pinned (.plain (OpenSpec.upto lexerWordsSpec)) lexerWordsUptoCard

/-- THE SECOND FORM's CARD OF 'luminairelaw07.LexerQuotes'. -/
def lexerQuotesUptoCard : Claim7 := { stood := { row := lexerQuotesUptoRow, standIns := [], harness := (true, "2d744d27bef2bd7d1ffa8d2e1f19e05d6e29ed2060edaae00adb76e8132c1c90"), looks := false }, kinds := [], alts := [], laidByText := true, laidKinds := [.data, .pinned, .pinned], laidTests := true, laidLooks := .later }
def LexerQuotesUptoCardSaid : Prop := Claim7.holds Tryd.pinned (.plain (OpenSpec.upto lexerQuotesSpec)) lexerQuotesUptoCard

/-- THE SECOND FORM's CARD OF 'luminairelaw07.LexerJoins'. -/
def lexerJoinsUptoCard : Claim7 := { stood := { row := lexerJoinsUptoRow, standIns := [], harness := (true, "2d744d27bef2bd7d1ffa8d2e1f19e05d6e29ed2060edaae00adb76e8132c1c90"), looks := false }, kinds := [], alts := [], laidByText := true, laidKinds := [.data, .pinned, .pinned], laidTests := true, laidLooks := .later }
def LexerJoinsUptoCardSaid : Prop := Claim7.holds Tryd.pinned (.plain (OpenSpec.upto lexerJoinsSpec)) lexerJoinsUptoCard

/-- THE SECOND FORM's CARD OF 'luminairelaw07.LexerReturns'. -/
def lexerReturnsUptoCard : Claim7 := { stood := { row := lexerReturnsUptoRow, standIns := [], harness := (true, "2d744d27bef2bd7d1ffa8d2e1f19e05d6e29ed2060edaae00adb76e8132c1c90"), looks := false }, kinds := [], alts := [], laidByText := true, laidKinds := [.data, .pinned, .pinned], laidTests := true, laidLooks := .later }
def LexerReturnsUptoCardSaid : Prop := Claim7.holds Tryd.pinned (.plain (OpenSpec.upto lexerReturnsSpec)) lexerReturnsUptoCard

/-- THE SECOND FORM's CARD OF 'luminairelaw07.LexerPlaces'. -/
def lexerPlacesUptoCard : Claim7 := { stood := { row := lexerPlacesUptoRow, standIns := [], harness := (true, "2d744d27bef2bd7d1ffa8d2e1f19e05d6e29ed2060edaae00adb76e8132c1c90"), looks := false }, kinds := [], alts := [], laidByText := true, laidKinds := [.data, .pinned, .pinned], laidTests := true, laidLooks := .later }
def LexerPlacesUptoCardSaid : Prop := Claim7.holds Tryd.pinned (.plain (OpenSpec.upto lexerPlacesSpec)) lexerPlacesUptoCard

/-- THE SECOND FORM's CARD OF 'luminairelaw07.LexerIgnores'. -/
def lexerIgnoresUptoCard : Claim7 := { stood := { row := lexerIgnoresUptoRow, standIns := [], harness := (true, "2d744d27bef2bd7d1ffa8d2e1f19e05d6e29ed2060edaae00adb76e8132c1c90"), looks := false }, kinds := [], alts := [], laidByText := true, laidKinds := [.data, .pinned, .pinned], laidTests := true, laidLooks := .later }
def LexerIgnoresUptoCardSaid : Prop := Claim7.holds Tryd.pinned (.plain (OpenSpec.upto lexerIgnoresSpec)) lexerIgnoresUptoCard

/-- THE SECOND FORM's CARD OF 'luminairetop.TopTokensRecorded'. -/
def topTokensRecordedUptoCard : Claim7 := { stood := { row := topTokensRecordedUptoRow, standIns := [], harness := (true, "2d744d27bef2bd7d1ffa8d2e1f19e05d6e29ed2060edaae00adb76e8132c1c90"), looks := false }, kinds := [], alts := [], laidByText := true, laidKinds := [.data, .pinned, .pinned], laidTests := true, laidLooks := .later }
def TopTokensRecordedUptoCardSaid : Prop := Claim7.holds Tryd.pinned (.plain (OpenSpec.upto topTokensRecordedSpec)) topTokensRecordedUptoCard

/-- THE SECOND FORM's CARD OF 'luminairetop.TopRecordsContinued'. -/
def topRecordsContinuedUptoCard : Claim7 := { stood := { row := topRecordsContinuedUptoRow, standIns := [], harness := (true, "2d744d27bef2bd7d1ffa8d2e1f19e05d6e29ed2060edaae00adb76e8132c1c90"), looks := false }, kinds := [], alts := [], laidByText := true, laidKinds := [.data, .pinned, .pinned], laidTests := true, laidLooks := .later }
def TopRecordsContinuedUptoCardSaid : Prop := Claim7.holds Tryd.pinned (.plain (OpenSpec.upto topRecordsContinuedSpec)) topRecordsContinuedUptoCard

/-- THE SECOND FORM's CARD OF 'luminairetop.TopRecordsSpoilt'. -/
def topRecordsSpoiltUptoCard : Claim7 := { stood := { row := topRecordsSpoiltUptoRow, standIns := [], harness := (true, "2d744d27bef2bd7d1ffa8d2e1f19e05d6e29ed2060edaae00adb76e8132c1c90"), looks := false }, kinds := [], alts := [], laidByText := true, laidKinds := [.data, .pinned, .pinned], laidTests := true, laidLooks := .later }
def TopRecordsSpoiltUptoCardSaid : Prop := Claim7.holds Tryd.pinned (.plain (OpenSpec.upto topRecordsSpoiltSpec)) topRecordsSpoiltUptoCard
end Rows
end Go.Proofs.YtfneikldnccepaaDoor
