/-
  DERIVED. GIVEN WITH THE SEED: THE CARDS: each row of YtjacpidehfajnabGreatDoorRows.lean that lists a variable, with what it lists TIED to the program's text (the seventh form; the later family's looks); each row that meets fmt, with fmt's text TOLD by the authors' own Lean function (tested against real Go, not proved from fmt's source: count such statements apart). THE CARD IS WHAT COUNTS. Prove the row's statement (the work); the ties are given (YtjacpidehfajnabGreatDoorTie.lean); close each card by the builder's one call (the guide's Derived/Test/ToyasCard.lean, 'card_holds'). Laid BY PROGRAM, IN A SANDBOX (cutbox-door.mjs). By AI agents, Wed Nov 11 2026. No macro, syntax, notation, axiom, sorry.
-/
import Derived.Test.YtjacpidehfajnabGreatDoorRows
import GoSem.ClaimSeven
namespace Go.Proofs.YtjacpidehfajnabGreatDoor
namespace Rows

/-- THE TIED CARD OF 'luminairelaw04.LevelRaws'. -/
def levelRawsCard : Claim7 := { stood := { row := levelRawsRow, standIns := [], harness := (true, "592a17944eeaa474ab01961ad58d83098847fb58d3a7a7a32473b24d6358de54"), looks := true }, kinds := [], alts := [], laidByText := true, laidKinds := [.data, .data, .data, .sentinel, .sentinel], laidTests := true, laidLooks := .later }
def LevelRawsCardSaid : Prop := Claim7.holds Tryz.pinned (.plain (OpenSpec.ofChange levelRawsSpec)) levelRawsCard

/-- THE TIED CARD OF 'luminairelaw04.LevelBytes'. -/
def levelBytesCard : Claim7 := { stood := { row := levelBytesRow, standIns := [], harness := (true, "592a17944eeaa474ab01961ad58d83098847fb58d3a7a7a32473b24d6358de54"), looks := true }, kinds := [], alts := [], laidByText := true, laidKinds := [.data, .data, .data, .sentinel, .sentinel], laidTests := true, laidLooks := .later }
def LevelBytesCardSaid : Prop := Claim7.holds Tryz.pinned (.plain (OpenSpec.ofChange levelBytesSpec)) levelBytesCard

/-- THE TIED CARD OF 'luminairelaw04.LevelReads'. -/
def levelReadsCard : Claim7 := { stood := { row := levelReadsRow, standIns := [], harness := (true, "592a17944eeaa474ab01961ad58d83098847fb58d3a7a7a32473b24d6358de54"), looks := true }, kinds := [], alts := [], laidByText := true, laidKinds := [.data, .data, .data, .sentinel, .sentinel], laidTests := true, laidLooks := .later }
def LevelReadsCardSaid : Prop := Claim7.holds Tryz.pinned (.plain (OpenSpec.ofChange levelReadsSpec)) levelReadsCard

/-- THE TIED CARD OF 'luminairelaw04.LevelNearest'. -/
def levelNearestCard : Claim7 := { stood := { row := levelNearestRow, standIns := [], harness := (true, "592a17944eeaa474ab01961ad58d83098847fb58d3a7a7a32473b24d6358de54"), looks := true }, kinds := [], alts := [], laidByText := true, laidKinds := [.data, .data, .data, .sentinel, .sentinel], laidTests := true, laidLooks := .later }
def LevelNearestCardSaid : Prop := Claim7.holds Tryz.pinned (.plain (OpenSpec.ofChange levelNearestSpec)) levelNearestCard

/-- THE TIED CARD OF 'luminairelaw04.LevelRises'. -/
def levelRisesCard : Claim7 := { stood := { row := levelRisesRow, standIns := [], harness := (true, "592a17944eeaa474ab01961ad58d83098847fb58d3a7a7a32473b24d6358de54"), looks := true }, kinds := [], alts := [], laidByText := true, laidKinds := [.data, .data, .data, .sentinel, .sentinel], laidTests := true, laidLooks := .later }
def LevelRisesCardSaid : Prop := Claim7.holds Tryz.pinned (.plain (OpenSpec.ofChange levelRisesSpec)) levelRisesCard

/-- THE TIED CARD OF 'luminairelaw04.LevelReturns'. -/
def levelReturnsCard : Claim7 := { stood := { row := levelReturnsRow, standIns := [], harness := (true, "592a17944eeaa474ab01961ad58d83098847fb58d3a7a7a32473b24d6358de54"), looks := true }, kinds := [], alts := [], laidByText := true, laidKinds := [.data, .data, .data, .sentinel, .sentinel], laidTests := true, laidLooks := .later }
def LevelReturnsCardSaid : Prop := Claim7.holds Tryz.pinned (.plain (OpenSpec.ofChange levelReturnsSpec)) levelReturnsCard

/-- THE TIED CARD OF 'luminairetop.TopMixesAreBetween'. -/
def topMixesAreBetweenCard : Claim7 := { stood := { row := topMixesAreBetweenRow, standIns := [], harness := (true, "592a17944eeaa474ab01961ad58d83098847fb58d3a7a7a32473b24d6358de54"), looks := true }, kinds := [], alts := [], laidByText := true, laidKinds := [.data, .data, .data], laidTests := true, laidLooks := .later }
def TopMixesAreBetweenCardSaid : Prop := Claim7.holds Tryz.pinned (.plain (OpenSpec.ofChange topMixesAreBetweenSpec)) topMixesAreBetweenCard

/-- THE SECOND FORM's CARD OF 'luminairelaw04.LevelRaws'. -/
def levelRawsUptoCard : Claim7 := { stood := { row := levelRawsUptoRow, standIns := [], harness := (true, "592a17944eeaa474ab01961ad58d83098847fb58d3a7a7a32473b24d6358de54"), looks := true }, kinds := [], alts := [], laidByText := true, laidKinds := [.data, .data, .data, .sentinel, .sentinel], laidTests := true, laidLooks := .later }
def LevelRawsUptoCardSaid : Prop := Claim7.holds Tryz.pinned (.plain (OpenSpec.upto levelRawsSpec)) levelRawsUptoCard

/-- THE SECOND FORM's CARD OF 'luminairelaw04.LevelBytes'. -/
def levelBytesUptoCard : Claim7 := { stood := { row := levelBytesUptoRow, standIns := [], harness := (true, "592a17944eeaa474ab01961ad58d83098847fb58d3a7a7a32473b24d6358de54"), looks := true }, kinds := [], alts := [], laidByText := true, laidKinds := [.data, .data, .data, .sentinel, .sentinel], laidTests := true, laidLooks := .later }
def LevelBytesUptoCardSaid : Prop := Claim7.holds Tryz.pinned (.plain (OpenSpec.upto levelBytesSpec)) levelBytesUptoCard

/-- THE SECOND FORM's CARD OF 'luminairelaw04.LevelReads'. -/
def levelReadsUptoCard : Claim7 := { stood := { row := levelReadsUptoRow, standIns := [], harness := (true, "592a17944eeaa474ab01961ad58d83098847fb58d3a7a7a32473b24d6358de54"), looks := true }, kinds := [], alts := [], laidByText := true, laidKinds := [.data, .data, .data, .sentinel, .sentinel], laidTests := true, laidLooks := .later }
def LevelReadsUptoCardSaid : Prop := Claim7.holds Tryz.pinned (.plain (OpenSpec.upto levelReadsSpec)) levelReadsUptoCard

/-- THE SECOND FORM's CARD OF 'luminairelaw04.LevelNearest'. -/
def levelNearestUptoCard : Claim7 := { stood := { row := levelNearestUptoRow, standIns := [], harness := (true, "592a17944eeaa474ab01961ad58d83098847fb58d3a7a7a32473b24d6358de54"), looks := true }, kinds := [], alts := [], laidByText := true, laidKinds := [.data, .data, .data, .sentinel, .sentinel], laidTests := true, laidLooks := .later }
def LevelNearestUptoCardSaid : Prop := Claim7.holds Tryz.pinned (.plain (OpenSpec.upto levelNearestSpec)) levelNearestUptoCard

/-- THE SECOND FORM's CARD OF 'luminairelaw04.LevelRises'. -/
def levelRisesUptoCard : Claim7 := { stood := { row := levelRisesUptoRow, standIns := [], harness := (true, "592a17944eeaa474ab01961ad58d83098847fb58d3a7a7a32473b24d6358de54"), looks := true }, kinds := [], alts := [], laidByText := true, laidKinds := [.data, .data, .data, .sentinel, .sentinel], laidTests := true, laidLooks := .later }
def LevelRisesUptoCardSaid : Prop := Claim7.holds Tryz.pinned (.plain (OpenSpec.upto levelRisesSpec)) levelRisesUptoCard

/-- THE SECOND FORM's CARD OF 'luminairelaw04.LevelReturns'. -/
def levelReturnsUptoCard : Claim7 := { stood := { row := levelReturnsUptoRow, standIns := [], harness := (true, "592a17944eeaa474ab01961ad58d83098847fb58d3a7a7a32473b24d6358de54"), looks := true }, kinds := [], alts := [], laidByText := true, laidKinds := [.data, .data, .data, .sentinel, .sentinel], laidTests := true, laidLooks := .later }
def LevelReturnsUptoCardSaid : Prop := Claim7.holds Tryz.pinned (.plain (OpenSpec.upto levelReturnsSpec)) levelReturnsUptoCard

/-- THE SECOND FORM's CARD OF 'luminairetop.TopMixesAreBetween'. -/
def topMixesAreBetweenUptoCard : Claim7 := { stood := { row := topMixesAreBetweenUptoRow, standIns := [], harness := (true, "592a17944eeaa474ab01961ad58d83098847fb58d3a7a7a32473b24d6358de54"), looks := true }, kinds := [], alts := [], laidByText := true, laidKinds := [.data, .data, .data], laidTests := true, laidLooks := .later }
def TopMixesAreBetweenUptoCardSaid : Prop := Claim7.holds Tryz.pinned (.plain (OpenSpec.upto topMixesAreBetweenSpec)) topMixesAreBetweenUptoCard
end Rows
end Go.Proofs.YtjacpidehfajnabGreatDoor
