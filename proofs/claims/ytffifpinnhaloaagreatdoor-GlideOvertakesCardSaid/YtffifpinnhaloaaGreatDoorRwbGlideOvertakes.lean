/- The closed facts of the row of GlideOvertakes, one by one. -/
import Derived.Test.YtffifpinnhaloaaGreatDoorRow05
import Derived.JoinedOf
set_option linter.unusedVariables false
set_option linter.unusedSimpArgs false
namespace Go.Proofs.YtffifpinnhaloaaGreatDoor
open Go.ChangeShapes Go.WideShapes Go.ChangeAt Go.RowKit

theorem jf0_glideOvertakes : (Rows.glideOvertakesRow.wf (OpenSpec.ofChange Rows.glideOvertakesSpec)) = true := by kernel_rfl
theorem jf2_glideOvertakes : (mapsRowed Tryz.prog) = true := by kernel_rfl
theorem jf3_glideOvertakes : (Tryz.f8.params.all (Tryz.prog.readableRec ·)) = true := by kernel_rfl
theorem jf4_glideOvertakes : (namedTie Tryz.prog Rows.glideOvertakesRow.named Rows.glideOvertakesSpec.vars) = true := by kernel_rfl
theorem jf5_glideOvertakes : (Rows.glideOvertakesRow.stops == []) = true := by kernel_rfl
theorem jf6_glideOvertakes : (Tryz.prog.stops == []) = true := by kernel_rfl
theorem jf7_glideOvertakes : (Rows.glideOvertakesRow.knobs == []) = true := by kernel_rfl
theorem jf8_glideOvertakes : (Tryz.prog.stopKnobs == []) = true := by kernel_rfl
theorem jf9_glideOvertakes : (Rows.glideOvertakesRow.inPlace == Tryz.prog.inPlace 8) = true := by kernel_rfl
theorem jf10_glideOvertakes : (Rows.glideOvertakesRow.unfollowed == Tryz.prog.unfollowed 8) = true := by kernel_rfl
theorem jf11_glideOvertakes : (Rows.glideOvertakesRow.recurses == Tryz.prog.recurses 8) = true := by kernel_rfl
theorem jf12_glideOvertakes : (Rows.glideOvertakesRow.named == Tryz.prog.varsNamed 8) = true := by kernel_rfl
theorem jf13_glideOvertakes : (Rows.glideOvertakesRow.maps == (Tryz.f8.params.toList ++ Rows.glideOvertakesSpec.plain.varTypes Tryz.prog).any (Tryz.prog.mapsRec ·)) = true := by kernel_rfl
theorem jf14_glideOvertakes : (Rows.glideOvertakesRow.ifaces == (Tryz.f8.params.toList ++ Rows.glideOvertakesSpec.plain.varTypes Tryz.prog).any (Tryz.prog.ifacesRec ·)) = true := by kernel_rfl
theorem jf15_glideOvertakes : (Rows.glideOvertakesRow.mapsOut == Tryz.prog.mapsAmong Tryz.f8.resultTypes.toList) = true := by kernel_rfl
theorem jf16_glideOvertakes : (Rows.glideOvertakesRow.loops == (Tryz.f8.params.toList ++ Rows.glideOvertakesSpec.plain.varTypes Tryz.prog).any (Tryz.prog.loopsFrom ·)) = true := by kernel_rfl
theorem jf17_glideOvertakes : (Rows.glideOvertakesRow.wideKeys == (Tryz.f8.params.toList ++ Rows.glideOvertakesSpec.plain.varTypes Tryz.prog ++ Tryz.f8.resultTypes.toList).any (Tryz.prog.wideKeysFrom ·)) = true := by kernel_rfl
theorem jf18_glideOvertakes : (Rows.glideOvertakesSpec.vars.all (Tryz.prog.varReadable ·)) = true := by kernel_rfl
theorem jf19_glideOvertakes : (Tryz.f8.resultTypes.all (fun t => Tryz.prog.readableRec t && decide (t < Tryz.prog.types.size))) = true := by kernel_rfl
theorem jf20_glideOvertakes : (Rows.glideOvertakesRow.ifacesOut == Tryz.f8.resultTypes.toList.any (Tryz.prog.ifacesRec ·)) = true := by kernel_rfl
theorem jf21_glideOvertakes : (Rows.glideOvertakesRow.loopsOut == Tryz.f8.resultTypes.toList.any (Tryz.prog.loopsFrom ·)) = true := by kernel_rfl
theorem jf22_glideOvertakes : (Rows.glideOvertakesRow.plainKeys == Tryz.prog.plainKeys) = true := by kernel_rfl
theorem jf23_glideOvertakes : Rows.glideOvertakesRow.shortTexts.isNone = true := by kernel_rfl
theorem jf24_glideOvertakes : Tryz.prog.stopsHeard = true := by kernel_rfl
theorem jf25_glideOvertakes : Tryz.prog.mayEnter = true := by kernel_rfl
theorem jf26_glideOvertakes : (Rows.glideOvertakesRow.lifted == Tryz.prog.liftsFinal) = true := by kernel_rfl
theorem jf27_glideOvertakes : (Tryz.prog.make == some Rows.glideOvertakesRow.make) = true := by kernel_rfl
theorem jf28_glideOvertakes : (Rows.glideOvertakesRow.kinds == (if Rows.glideOvertakesRow.domain.isEmpty then [] else Tryz.f8.params.toList.map fun t => match Tryz.prog.underlying t with | some (.int k) => some k | _ => none)) = true := by kernel_rfl
theorem jf29_glideOvertakes : (Rows.glideOvertakesRow.pinned == Rows.glideOvertakesRow.pinnedBy) = true := by kernel_rfl
theorem jf30_glideOvertakes : (Rows.glideOvertakesRow.veiled == (Tryz.f8.params.toList ++ Rows.glideOvertakesSpec.plain.varTypes Tryz.prog ++ Tryz.f8.resultTypes.toList).any (Tryz.prog.veiledRec ·)) = true := by kernel_rfl
theorem jf31_glideOvertakes : (Rows.glideOvertakesRow.veiledFits Tryz.prog Tryz.f8.params.toList (Tryz.f8.params.toList ++ Rows.glideOvertakesSpec.plain.varTypes Tryz.prog ++ Tryz.f8.resultTypes.toList)) = true := by kernel_rfl
end Go.Proofs.YtffifpinnhaloaaGreatDoor
