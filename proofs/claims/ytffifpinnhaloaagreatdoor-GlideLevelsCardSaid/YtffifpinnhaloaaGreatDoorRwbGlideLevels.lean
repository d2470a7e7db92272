/- The closed facts of the row of GlideLevels, one by one. -/
import Derived.Test.YtffifpinnhaloaaGreatDoorRow05
import Derived.JoinedOf
set_option linter.unusedVariables false
set_option linter.unusedSimpArgs false
namespace Go.Proofs.YtffifpinnhaloaaGreatDoor
open Go.ChangeShapes Go.WideShapes Go.ChangeAt Go.RowKit

theorem jf0_glideLevels : (Rows.glideLevelsRow.wf (OpenSpec.ofChange Rows.glideLevelsSpec)) = true := by kernel_rfl
theorem jf2_glideLevels : (mapsRowed Tryz.prog) = true := by kernel_rfl
theorem jf3_glideLevels : (Tryz.f3.params.all (Tryz.prog.readableRec ·)) = true := by kernel_rfl
theorem jf4_glideLevels : (namedTie Tryz.prog Rows.glideLevelsRow.named Rows.glideLevelsSpec.vars) = true := by kernel_rfl
theorem jf5_glideLevels : (Rows.glideLevelsRow.stops == []) = true := by kernel_rfl
theorem jf6_glideLevels : (Tryz.prog.stops == []) = true := by kernel_rfl
theorem jf7_glideLevels : (Rows.glideLevelsRow.knobs == []) = true := by kernel_rfl
theorem jf8_glideLevels : (Tryz.prog.stopKnobs == []) = true := by kernel_rfl
theorem jf9_glideLevels : (Rows.glideLevelsRow.inPlace == Tryz.prog.inPlace 3) = true := by kernel_rfl
theorem jf10_glideLevels : (Rows.glideLevelsRow.unfollowed == Tryz.prog.unfollowed 3) = true := by kernel_rfl
theorem jf11_glideLevels : (Rows.glideLevelsRow.recurses == Tryz.prog.recurses 3) = true := by kernel_rfl
theorem jf12_glideLevels : (Rows.glideLevelsRow.named == Tryz.prog.varsNamed 3) = true := by kernel_rfl
theorem jf13_glideLevels : (Rows.glideLevelsRow.maps == (Tryz.f3.params.toList ++ Rows.glideLevelsSpec.plain.varTypes Tryz.prog).any (Tryz.prog.mapsRec ·)) = true := by kernel_rfl
theorem jf14_glideLevels : (Rows.glideLevelsRow.ifaces == (Tryz.f3.params.toList ++ Rows.glideLevelsSpec.plain.varTypes Tryz.prog).any (Tryz.prog.ifacesRec ·)) = true := by kernel_rfl
theorem jf15_glideLevels : (Rows.glideLevelsRow.mapsOut == Tryz.prog.mapsAmong Tryz.f3.resultTypes.toList) = true := by kernel_rfl
theorem jf16_glideLevels : (Rows.glideLevelsRow.loops == (Tryz.f3.params.toList ++ Rows.glideLevelsSpec.plain.varTypes Tryz.prog).any (Tryz.prog.loopsFrom ·)) = true := by kernel_rfl
theorem jf17_glideLevels : (Rows.glideLevelsRow.wideKeys == (Tryz.f3.params.toList ++ Rows.glideLevelsSpec.plain.varTypes Tryz.prog ++ Tryz.f3.resultTypes.toList).any (Tryz.prog.wideKeysFrom ·)) = true := by kernel_rfl
theorem jf18_glideLevels : (Rows.glideLevelsSpec.vars.all (Tryz.prog.varReadable ·)) = true := by kernel_rfl
theorem jf19_glideLevels : (Tryz.f3.resultTypes.all (fun t => Tryz.prog.readableRec t && decide (t < Tryz.prog.types.size))) = true := by kernel_rfl
theorem jf20_glideLevels : (Rows.glideLevelsRow.ifacesOut == Tryz.f3.resultTypes.toList.any (Tryz.prog.ifacesRec ·)) = true := by kernel_rfl
theorem jf21_glideLevels : (Rows.glideLevelsRow.loopsOut == Tryz.f3.resultTypes.toList.any (Tryz.prog.loopsFrom ·)) = true := by kernel_rfl
theorem jf22_glideLevels : (Rows.glideLevelsRow.plainKeys == Tryz.prog.plainKeys) = true := by kernel_rfl
theorem jf23_glideLevels : Rows.glideLevelsRow.shortTexts.isNone = true := by kernel_rfl
theorem jf24_glideLevels : Tryz.prog.stopsHeard = true := by kernel_rfl
theorem jf25_glideLevels : Tryz.prog.mayEnter = true := by kernel_rfl
theorem jf26_glideLevels : (Rows.glideLevelsRow.lifted == Tryz.prog.liftsFinal) = true := by kernel_rfl
theorem jf27_glideLevels : (Tryz.prog.make == some Rows.glideLevelsRow.make) = true := by kernel_rfl
theorem jf28_glideLevels : (Rows.glideLevelsRow.kinds == (if Rows.glideLevelsRow.domain.isEmpty then [] else Tryz.f3.params.toList.map fun t => match Tryz.prog.underlying t with | some (.int k) => some k | _ => none)) = true := by kernel_rfl
theorem jf29_glideLevels : (Rows.glideLevelsRow.pinned == Rows.glideLevelsRow.pinnedBy) = true := by kernel_rfl
theorem jf30_glideLevels : (Rows.glideLevelsRow.veiled == (Tryz.f3.params.toList ++ Rows.glideLevelsSpec.plain.varTypes Tryz.prog ++ Tryz.f3.resultTypes.toList).any (Tryz.prog.veiledRec ·)) = true := by kernel_rfl
theorem jf31_glideLevels : (Rows.glideLevelsRow.veiledFits Tryz.prog Tryz.f3.params.toList (Tryz.f3.params.toList ++ Rows.glideLevelsSpec.plain.varTypes Tryz.prog ++ Tryz.f3.resultTypes.toList)) = true := by kernel_rfl
end Go.Proofs.YtffifpinnhaloaaGreatDoor
