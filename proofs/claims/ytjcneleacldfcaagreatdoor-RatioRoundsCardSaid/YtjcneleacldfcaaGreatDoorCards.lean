/-
  DERIVED. GIVEN WITH THE SEED: THE CARDS: each row of YtjcneleacldfcaaGreatDoorRows.lean that lists a variable, with what it lists TIED to the program's text (the seventh form; the later family's looks); each row that meets fmt, with fmt's text TOLD by the authors' own Lean function (tested against real Go, not proved from fmt's source: count such statements apart). THE CARD IS WHAT COUNTS. Prove the row's statement (the work); the ties are given (YtjcneleacldfcaaGreatDoorTie.lean); close each card by the builder's one call (the guide's Derived/Test/ToyasCard.lean, 'card_holds'). Laid BY PROGRAM, IN A SANDBOX (cutbox-door.mjs). By AI agents, Wed Nov 11 2026. No macro, syntax, notation, axiom, sorry.
-/
import Derived.Test.YtjcneleacldfcaaGreatDoorRows
import GoSem.ClaimSeven
namespace Go.Proofs.YtjcneleacldfcaaGreatDoor
namespace Rows

/-- THE TIED CARD OF 'luminairelaw02.RatioMakes'. -/
def ratioMakesCard : Claim7 := { stood := { row := ratioMakesRow, standIns := [], harness := (true, "cad516715b2299b030c58bcc03274a56947b7d065ad384be4b2b0eb2b825f564"), looks := false }, kinds := [], alts := [], laidByText := true, laidKinds := [.data, .data, .data], laidTests := true, laidLooks := .later }
def RatioMakesCardSaid : Prop := Claim7.holds Tryz.pinned (.plain (OpenSpec.ofChange ratioMakesSpec)) ratioMakesCard

/-- THE TIED CARD OF 'luminairelaw02.RatioComputes'. -/
def ratioComputesCard : Claim7 := { stood := { row := ratioComputesRow, standIns := [], harness := (true, "cad516715b2299b030c58bcc03274a56947b7d065ad384be4b2b0eb2b825f564"), looks := false }, kinds := [], alts := [], laidByText := true, laidKinds := [.data, .data, .data], laidTests := true, laidLooks := .later }
def RatioComputesCardSaid : Prop := Claim7.holds Tryz.pinned (.plain (OpenSpec.ofChange ratioComputesSpec)) ratioComputesCard

/-- THE TIED CARD OF 'luminairelaw02.RatioLimits'. -/
def ratioLimitsCard : Claim7 := { stood := { row := ratioLimitsRow, standIns := [], harness := (true, "cad516715b2299b030c58bcc03274a56947b7d065ad384be4b2b0eb2b825f564"), looks := false }, kinds := [], alts := [], laidByText := true, laidKinds := [.data, .data, .data], laidTests := true, laidLooks := .later }
def RatioLimitsCardSaid : Prop := Claim7.holds Tryz.pinned (.plain (OpenSpec.ofChange ratioLimitsSpec)) ratioLimitsCard

/-- THE TIED CARD OF 'luminairelaw02.RatioRounds'. -/
def ratioRoundsCard : Claim7 := { stood := { row := ratioRoundsRow, standIns := [], harness := (true, "cad516715b2299b030c58bcc03274a56947b7d065ad384be4b2b0eb2b825f564"), looks := false }, kinds := [], alts := [], laidByText := true, laidKinds := [.data, .data, .data], laidTests := true, laidLooks := .later }
def RatioRoundsCardSaid : Prop := Claim7.holds Tryz.pinned (.plain (OpenSpec.ofChange ratioRoundsSpec)) ratioRoundsCard

/-- THE TIED CARD OF 'luminairelaw02.RatioMixes'. -/
def ratioMixesCard : Claim7 := { stood := { row := ratioMixesRow, standIns := [], harness := (true, "cad516715b2299b030c58bcc03274a56947b7d065ad384be4b2b0eb2b825f564"), looks := false }, kinds := [], alts := [], laidByText := true, laidKinds := [.data, .data, .data], laidTests := true, laidLooks := .later }
def RatioMixesCardSaid : Prop := Claim7.holds Tryz.pinned (.plain (OpenSpec.ofChange ratioMixesSpec)) ratioMixesCard

/-- THE TIED CARD OF 'luminairelaw02.RatioClamps'. -/
def ratioClampsCard : Claim7 := { stood := { row := ratioClampsRow, standIns := [], harness := (true, "cad516715b2299b030c58bcc03274a56947b7d065ad384be4b2b0eb2b825f564"), looks := false }, kinds := [], alts := [], laidByText := true, laidKinds := [.data, .data, .data], laidTests := true, laidLooks := .later }
def RatioClampsCardSaid : Prop := Claim7.holds Tryz.pinned (.plain (OpenSpec.ofChange ratioClampsSpec)) ratioClampsCard

/-- THE TIED CARD OF 'luminairelaw02.RatioField'. -/
def ratioFieldCard : Claim7 := { stood := { row := ratioFieldRow, standIns := [], harness := (true, "cad516715b2299b030c58bcc03274a56947b7d065ad384be4b2b0eb2b825f564"), looks := false }, kinds := [], alts := [], laidByText := true, laidKinds := [.data, .data, .data], laidTests := true, laidLooks := .later }
def RatioFieldCardSaid : Prop := Claim7.holds Tryz.pinned (.plain (OpenSpec.ofChange ratioFieldSpec)) ratioFieldCard

/-- THE SECOND FORM's CARD OF 'luminairelaw02.RatioMakes'. -/
def ratioMakesUptoCard : Claim7 := { stood := { row := ratioMakesUptoRow, standIns := [], harness := (true, "cad516715b2299b030c58bcc03274a56947b7d065ad384be4b2b0eb2b825f564"), looks := false }, kinds := [], alts := [], laidByText := true, laidKinds := [.data, .data, .data], laidTests := true, laidLooks := .later }
def RatioMakesUptoCardSaid : Prop := Claim7.holds Tryz.pinned (.plain (OpenSpec.upto ratioMakesSpec)) ratioMakesUptoCard

/-- THE SECOND FORM's CARD OF 'luminairelaw02.RatioComputes'. -/
def ratioComputesUptoCard : Claim7 := { stood := { row := ratioComputesUptoRow, standIns := [], harness := (true, "cad516715b2299b030c58bcc03274a56947b7d065ad384be4b2b0eb2b825f564"), looks := false }, kinds := [], alts := [], laidByText := true, laidKinds := [.data, .data, .data], laidTests := true, laidLooks := .later }
def RatioComputesUptoCardSaid : Prop := Claim7.holds Tryz.pinned (.plain (OpenSpec.upto ratioComputesSpec)) ratioComputesUptoCard

/-- THE SECOND FORM's CARD OF 'luminairelaw02.RatioLimits'. -/
def ratioLimitsUptoCard : Claim7 := { stood := { row := ratioLimitsUptoRow, standIns := [], harness := (true, "cad516715b2299b030c58bcc03274a56947b7d065ad384be4b2b0eb2b825f564"), looks := false }, kinds := [], alts := [], laidByText := true, laidKinds := [.data, .data, .data], laidTests := true, laidLooks := .later }
def RatioLimitsUptoCardSaid : Prop := Claim7.holds Tryz.pinned (.plain (OpenSpec.upto ratioLimitsSpec)) ratioLimitsUptoCard

/-- THE SECOND FORM's CARD OF 'luminairelaw02.RatioRounds'. -/
def ratioRoundsUptoCard : Claim7 := { stood := { row := ratioRoundsUptoRow, standIns := [], harness := (true, "cad516715b2299b030c58bcc03274a56947b7d065ad384be4b2b0eb2b825f564"), looks := false }, kinds := [], alts := [], laidByText := true, laidKinds := [.data, .data, .data], laidTests := true, laidLooks := .later }
def RatioRoundsUptoCardSaid : Prop := Claim7.holds Tryz.pinned (.plain (OpenSpec.upto ratioRoundsSpec)) ratioRoundsUptoCard

/-- THE SECOND FORM's CARD OF 'luminairelaw02.RatioMixes'. -/
def ratioMixesUptoCard : Claim7 := { stood := { row := ratioMixesUptoRow, standIns := [], harness := (true, "cad516715b2299b030c58bcc03274a56947b7d065ad384be4b2b0eb2b825f564"), looks := false }, kinds := [], alts := [], laidByText := true, laidKinds := [.data, .data, .data], laidTests := true, laidLooks := .later }
def RatioMixesUptoCardSaid : Prop := Claim7.holds Tryz.pinned (.plain (OpenSpec.upto ratioMixesSpec)) ratioMixesUptoCard

/-- THE SECOND FORM's CARD OF 'luminairelaw02.RatioClamps'. -/
def ratioClampsUptoCard : Claim7 := { stood := { row := ratioClampsUptoRow, standIns := [], harness := (true, "cad516715b2299b030c58bcc03274a56947b7d065ad384be4b2b0eb2b825f564"), looks := false }, kinds := [], alts := [], laidByText := true, laidKinds := [.data, .data, .data], laidTests := true, laidLooks := .later }
def RatioClampsUptoCardSaid : Prop := Claim7.holds Tryz.pinned (.plain (OpenSpec.upto ratioClampsSpec)) ratioClampsUptoCard

/-- THE SECOND FORM's CARD OF 'luminairelaw02.RatioField'. -/
def ratioFieldUptoCard : Claim7 := { stood := { row := ratioFieldUptoRow, standIns := [], harness := (true, "cad516715b2299b030c58bcc03274a56947b7d065ad384be4b2b0eb2b825f564"), looks := false }, kinds := [], alts := [], laidByText := true, laidKinds := [.data, .data, .data], laidTests := true, laidLooks := .later }
def RatioFieldUptoCardSaid : Prop := Claim7.holds Tryz.pinned (.plain (OpenSpec.upto ratioFieldSpec)) ratioFieldUptoCard
end Rows
end Go.Proofs.YtjcneleacldfcaaGreatDoor
