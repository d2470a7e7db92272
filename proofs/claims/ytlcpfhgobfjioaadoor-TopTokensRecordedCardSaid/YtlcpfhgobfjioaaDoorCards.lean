/-
  DERIVED. GIVEN WITH THE SEED: THE CARDS: each row of YtlcpfhgobfjioaaDoorRows.lean that lists a variable, with what it lists TIED to the program's text (the seventh form; the later family's looks); each row that meets fmt, with fmt's text TOLD by the authors' own Lean function (tested against real Go, not proved from fmt's source: count such statements apart). THE CARD IS WHAT COUNTS. Prove the row's statement (the work); the ties are given (YtlcpfhgobfjioaaDoorTie.lean); close each card by the builder's one call (the guide's Derived/Test/ToyasCard.lean, 'card_holds'). Laid BY PROGRAM, IN A SANDBOX (cutbox-door.mjs). By AI agents, Wed Nov 11 2026. No macro, syntax, notation, axiom, sorry.
-/
import Derived.Test.YtlcpfhgobfjioaaDoorRows
import GoSem.ClaimSeven
namespace Go.Proofs.YtlcpfhgobfjioaaDoor
namespace Rows

/-- THE TIED CARD OF 'luminairelaw07.LexerReturns'. -/
def lexerReturnsCard : Claim7 := { stood := { row := lexerReturnsRow, standIns := [], harness := (true, "e505ff45c04978924c847a70098d62e14a455e2704a297e9034675a542163f33"), looks := false }, kinds := [], alts := [], laidByText := true, laidKinds := [.data, .pinned, .pinned], laidTests := true, laidLooks := .later }
def LexerReturnsCardSaid : Prop := Claim7.holds Tryd.pinned (.plain (OpenSpec.ofChange lexerReturnsSpec)) lexerReturnsCard

/-- THE TIED CARD OF 'luminairelaw07.LexerIgnores'. -/
def lexerIgnoresCard : Claim7 := { stood := { row := lexerIgnoresRow, standIns := [], harness := (true, "e505ff45c04978924c847a70098d62e14a455e2704a297e9034675a542163f33"), looks := false }, kinds := [], alts := [], laidByText := true, laidKinds := [.data, .pinned, .pinned], laidTests := true, laidLooks := .later }
def LexerIgnoresCardSaid : Prop := Claim7.holds Tryd.pinned (.plain (OpenSpec.ofChange lexerIgnoresSpec)) lexerIgnoresCard

/-- THE TIED CARD OF 'luminairetop.TopTokensRecorded'. -/
def topTokensRecordedCard : Claim7 := { stood := { row := topTokensRecordedRow, standIns := [], harness := (true, "e505ff45c04978924c847a70098d62e14a455e2704a297e9034675a542163f33"), looks := false }, kinds := [], alts := [], laidByText := true, laidKinds := [.data, .pinned, .pinned], laidTests := true, laidLooks := .later }
def TopTokensRecordedCardSaid : Prop := Claim7.holds Tryd.pinned (.plain (OpenSpec.ofChange topTokensRecordedSpec)) topTokensRecordedCard

/-- THE TIED CARD OF 'luminairetop.TopRecordsContinued'. -/
def topRecordsContinuedCard : Claim7 := { stood := { row := topRecordsContinuedRow, standIns := [], harness := (true, "e505ff45c04978924c847a70098d62e14a455e2704a297e9034675a542163f33"), looks := false }, kinds := [], alts := [], laidByText := true, laidKinds := [.data, .pinned, .pinned], laidTests := true, laidLooks := .later }
def TopRecordsContinuedCardSaid : Prop := Claim7.holds Tryd.pinned (.plain (OpenSpec.ofChange topRecordsContinuedSpec)) topRecordsContinuedCard

/-- THE TIED CARD OF 'luminairetop.TopRecordsSpoilt'. -/
def topRecordsSpoiltCard : Claim7 := { stood := { row := topRecordsSpoiltRow, standIns := [], harness := (true, "e505ff45c04978924c847a70098d62e14a455e2704a297e9034675a542163f33"), looks := false }, kinds := [], alts := [], laidByText := true, laidKinds := [.data, .pinned, .pinned], laidTests := true, laidLooks := .later }
def TopRecordsSpoiltCardSaid : Prop := Claim7.holds Tryd.pinned (.plain (OpenSpec.ofChange topRecordsSpoiltSpec)) topRecordsSpoiltCard

/-- THE SECOND FORM's CARD OF 'luminairelaw07.LexerReturns'. -/
def lexerReturnsUptoCard : Claim7 := { stood := { row := lexerReturnsUptoRow, standIns := [], harness := (true, "e505ff45c04978924c847a70098d62e14a455e2704a297e9034675a542163f33"), looks := false }, kinds := [], alts := [], laidByText := true, laidKinds := [.data, .pinned, .pinned], laidTests := true, laidLooks := .later }
def LexerReturnsUptoCardSaid : Prop := Claim7.holds Tryd.pinned (.plain (OpenSpec.upto lexerReturnsSpec)) lexerReturnsUptoCard

/-- THE SECOND FORM's CARD OF 'luminairelaw07.LexerIgnores'. -/
def lexerIgnoresUptoCard : Claim7 := { stood := { row := lexerIgnoresUptoRow, standIns := [], harness := (true, "e505ff45c04978924c847a70098d62e14a455e2704a297e9034675a542163f33"), looks := false }, kinds := [], alts := [], laidByText := true, laidKinds := [.data, .pinned, .pinned], laidTests := true, laidLooks := .later }
def LexerIgnoresUptoCardSaid : Prop := Claim7.holds Tryd.pinned (.plain (OpenSpec.upto lexerIgnoresSpec)) lexerIgnoresUptoCard

/-- THE SECOND FORM's CARD OF 'luminairetop.TopTokensRecorded'. -/
def topTokensRecordedUptoCard : Claim7 := { stood := { row := topTokensRecordedUptoRow, standIns := [], harness := (true, "e505ff45c04978924c847a70098d62e14a455e2704a297e9034675a542163f33"), looks := false }, kinds := [], alts := [], laidByText := true, laidKinds := [.data, .pinned, .pinned], laidTests := true, laidLooks := .later }
def TopTokensRecordedUptoCardSaid : Prop := Claim7.holds Tryd.pinned (.plain (OpenSpec.upto topTokensRecordedSpec)) topTokensRecordedUptoCard

/-- THE SECOND FORM's CARD OF 'luminairetop.TopRecordsContinued'. -/
def topRecordsContinuedUptoCard : Claim7 := { stood := { row := topRecordsContinuedUptoRow, standIns := [], harness := (true, "e505ff45c04978924c847a70098d62e14a455e2704a297e9034675a542163f33"), looks := false }, kinds := [], alts := [], laidByText := true, laidKinds := [.data, .pinned, .pinned], laidTests := true, laidLooks := .later }
def TopRecordsContinuedUptoCardSaid : Prop := Claim7.holds Tryd.pinned (.plain (OpenSpec.upto topRecordsContinuedSpec)) topRecordsContinuedUptoCard

/-- THE SECOND FORM's CARD OF 'luminairetop.TopRecordsSpoilt'. -/
def topRecordsSpoiltUptoCard : Claim7 := { stood := { row := topRecordsSpoiltUptoRow, standIns := [], harness := (true, "e505ff45c04978924c847a70098d62e14a455e2704a297e9034675a542163f33"), looks := false }, kinds := [], alts := [], laidByText := true, laidKinds := [.data, .pinned, .pinned], laidTests := true, laidLooks := .later }
def TopRecordsSpoiltUptoCardSaid : Prop := Claim7.holds Tryd.pinned (.plain (OpenSpec.upto topRecordsSpoiltSpec)) topRecordsSpoiltUptoCard
end Rows
end Go.Proofs.YtlcpfhgobfjioaaDoor
