/- The closed facts of the row of GlideReads, one by one. -/
import Derived.Test.YtflkgkchoagphaaGreatDoorRowG
import Derived.JoinedOf
set_option linter.unusedVariables false
set_option linter.unusedSimpArgs false
namespace Go.Proofs.YtflkgkchoagphaaGreatDoor
open Go.ChangeShapes Go.WideShapes Go.ChangeAt Go.RowKit

theorem jf0_glideReads : (Rows.glideReadsRow.wf (OpenSpec.ofChange Rows.glideReadsSpec)) = true := by kernel_rfl
theorem jf2_glideReads : (mapsRowed Tryz.prog) = true := by kernel_rfl
theorem jf3_glideReads : (Tryz.f6.params.all (Tryz.prog.readableRec ·)) = true := by kernel_rfl
theorem jf4_glideReads : (namedTie Tryz.prog Rows.glideReadsRow.named Rows.glideReadsSpec.vars) = true := by kernel_rfl
theorem jf5_glideReads : (Rows.glideReadsRow.stops == []) = true := by kernel_rfl
theorem jf6_glideReads : (Tryz.prog.stops == []) = true := by kernel_rfl
theorem jf7_glideReads : (Rows.glideReadsRow.knobs == []) = true := by kernel_rfl
theorem jf8_glideReads : (Tryz.prog.stopKnobs == []) = true := by kernel_rfl
theorem jf9_glideReads : (Rows.glideReadsRow.inPlace == Tryz.prog.inPlace 6) = true := by kernel_rfl
theorem jf10_glideReads : (Rows.glideReadsRow.unfollowed == Tryz.prog.unfollowed 6) = true := by kernel_rfl
theorem jf11_glideReads : (Rows.glideReadsRow.recurses == Tryz.prog.recurses 6) = true := by kernel_rfl
theorem jf12_glideReads : (Rows.glideReadsRow.named == Tryz.prog.varsNamed 6) = true := by kernel_rfl
theorem jf13_glideReads : (Rows.glideReadsRow.maps == (Tryz.f6.params.toList ++ Rows.glideReadsSpec.plain.varTypes Tryz.prog).any (Tryz.prog.mapsRec ·)) = true := by kernel_rfl
theorem jf14_glideReads : (Rows.glideReadsRow.ifaces == (Tryz.f6.params.toList ++ Rows.glideReadsSpec.plain.varTypes Tryz.prog).any (Tryz.prog.ifacesRec ·)) = true := by kernel_rfl
theorem jf15_glideReads : (Rows.glideReadsRow.mapsOut == Tryz.prog.mapsAmong Tryz.f6.resultTypes.toList) = true := by kernel_rfl
theorem jf16_glideReads : (Rows.glideReadsRow.loops == (Tryz.f6.params.toList ++ Rows.glideReadsSpec.plain.varTypes Tryz.prog).any (Tryz.prog.loopsFrom ·)) = true := by kernel_rfl
theorem jf17_glideReads : (Rows.glideReadsRow.wideKeys == (Tryz.f6.params.toList ++ Rows.glideReadsSpec.plain.varTypes Tryz.prog ++ Tryz.f6.resultTypes.toList).any (Tryz.prog.wideKeysFrom ·)) = true := by kernel_rfl
theorem jf18_glideReads : (Rows.glideReadsSpec.vars.all (Tryz.prog.varReadable ·)) = true := by kernel_rfl
theorem jf19_glideReads : (Tryz.f6.resultTypes.all (fun t => Tryz.prog.readableRec t && decide (t < Tryz.prog.types.size))) = true := by kernel_rfl
theorem jf20_glideReads : (Rows.glideReadsRow.ifacesOut == Tryz.f6.resultTypes.toList.any (Tryz.prog.ifacesRec ·)) = true := by kernel_rfl
theorem jf21_glideReads : (Rows.glideReadsRow.loopsOut == Tryz.f6.resultTypes.toList.any (Tryz.prog.loopsFrom ·)) = true := by kernel_rfl
theorem jf22_glideReads : (Rows.glideReadsRow.plainKeys == Tryz.prog.plainKeys) = true := by kernel_rfl
theorem jf23_glideReads : Rows.glideReadsRow.shortTexts.isNone = true := by kernel_rfl
theorem jf24_glideReads : Tryz.prog.stopsHeard = true := by kernel_rfl
theorem jf25_glideReads : Tryz.prog.mayEnter = true := by kernel_rfl
theorem jf26_glideReads : (Rows.glideReadsRow.lifted == Tryz.prog.liftsFinal) = true := by kernel_rfl
theorem jf27_glideReads : (Tryz.prog.make == some Rows.glideReadsRow.make) = true := by kernel_rfl
theorem jf28_glideReads : (Rows.glideReadsRow.kinds == (if Rows.glideReadsRow.domain.isEmpty then [] else Tryz.f6.params.toList.map fun t => match Tryz.prog.underlying t with | some (.int k) => some k | _ => none)) = true := by kernel_rfl
theorem jf29_glideReads : (Rows.glideReadsRow.pinned == Rows.glideReadsRow.pinnedBy) = true := by kernel_rfl
theorem jf30_glideReads : (Rows.glideReadsRow.veiled == (Tryz.f6.params.toList ++ Rows.glideReadsSpec.plain.varTypes Tryz.prog ++ Tryz.f6.resultTypes.toList).any (Tryz.prog.veiledRec ·)) = true := by kernel_rfl
theorem jf31_glideReads : (Rows.glideReadsRow.veiledFits Tryz.prog Tryz.f6.params.toList (Tryz.f6.params.toList ++ Rows.glideReadsSpec.plain.varTypes Tryz.prog ++ Tryz.f6.resultTypes.toList)) = true := by kernel_rfl
end Go.Proofs.YtflkgkchoagphaaGreatDoor
