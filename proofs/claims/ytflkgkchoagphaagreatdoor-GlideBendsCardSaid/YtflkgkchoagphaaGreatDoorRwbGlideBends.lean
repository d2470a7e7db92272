/- The closed facts of the row of GlideBends, one by one. -/
import Derived.Test.YtflkgkchoagphaaGreatDoorRowG
import Derived.JoinedOf
set_option linter.unusedVariables false
set_option linter.unusedSimpArgs false
namespace Go.Proofs.YtflkgkchoagphaaGreatDoor
open Go.ChangeShapes Go.WideShapes Go.ChangeAt Go.RowKit

theorem jf0_glideBends : (Rows.glideBendsRow.wf (OpenSpec.ofChange Rows.glideBendsSpec)) = true := by kernel_rfl
theorem jf2_glideBends : (mapsRowed Tryz.prog) = true := by kernel_rfl
theorem jf3_glideBends : (Tryz.f9.params.all (Tryz.prog.readableRec ·)) = true := by kernel_rfl
theorem jf4_glideBends : (namedTie Tryz.prog Rows.glideBendsRow.named Rows.glideBendsSpec.vars) = true := by kernel_rfl
theorem jf5_glideBends : (Rows.glideBendsRow.stops == []) = true := by kernel_rfl
theorem jf6_glideBends : (Tryz.prog.stops == []) = true := by kernel_rfl
theorem jf7_glideBends : (Rows.glideBendsRow.knobs == []) = true := by kernel_rfl
theorem jf8_glideBends : (Tryz.prog.stopKnobs == []) = true := by kernel_rfl
theorem jf9_glideBends : (Rows.glideBendsRow.inPlace == Tryz.prog.inPlace 9) = true := by kernel_rfl
theorem jf10_glideBends : (Rows.glideBendsRow.unfollowed == Tryz.prog.unfollowed 9) = true := by kernel_rfl
theorem jf11_glideBends : (Rows.glideBendsRow.recurses == Tryz.prog.recurses 9) = true := by kernel_rfl
theorem jf12_glideBends : (Rows.glideBendsRow.named == Tryz.prog.varsNamed 9) = true := by kernel_rfl
theorem jf13_glideBends : (Rows.glideBendsRow.maps == (Tryz.f9.params.toList ++ Rows.glideBendsSpec.plain.varTypes Tryz.prog).any (Tryz.prog.mapsRec ·)) = true := by kernel_rfl
theorem jf14_glideBends : (Rows.glideBendsRow.ifaces == (Tryz.f9.params.toList ++ Rows.glideBendsSpec.plain.varTypes Tryz.prog).any (Tryz.prog.ifacesRec ·)) = true := by kernel_rfl
theorem jf15_glideBends : (Rows.glideBendsRow.mapsOut == Tryz.prog.mapsAmong Tryz.f9.resultTypes.toList) = true := by kernel_rfl
theorem jf16_glideBends : (Rows.glideBendsRow.loops == (Tryz.f9.params.toList ++ Rows.glideBendsSpec.plain.varTypes Tryz.prog).any (Tryz.prog.loopsFrom ·)) = true := by kernel_rfl
theorem jf17_glideBends : (Rows.glideBendsRow.wideKeys == (Tryz.f9.params.toList ++ Rows.glideBendsSpec.plain.varTypes Tryz.prog ++ Tryz.f9.resultTypes.toList).any (Tryz.prog.wideKeysFrom ·)) = true := by kernel_rfl
theorem jf18_glideBends : (Rows.glideBendsSpec.vars.all (Tryz.prog.varReadable ·)) = true := by kernel_rfl
theorem jf19_glideBends : (Tryz.f9.resultTypes.all (fun t => Tryz.prog.readableRec t && decide (t < Tryz.prog.types.size))) = true := by kernel_rfl
theorem jf20_glideBends : (Rows.glideBendsRow.ifacesOut == Tryz.f9.resultTypes.toList.any (Tryz.prog.ifacesRec ·)) = true := by kernel_rfl
theorem jf21_glideBends : (Rows.glideBendsRow.loopsOut == Tryz.f9.resultTypes.toList.any (Tryz.prog.loopsFrom ·)) = true := by kernel_rfl
theorem jf22_glideBends : (Rows.glideBendsRow.plainKeys == Tryz.prog.plainKeys) = true := by kernel_rfl
theorem jf23_glideBends : Rows.glideBendsRow.shortTexts.isNone = true := by kernel_rfl
theorem jf24_glideBends : Tryz.prog.stopsHeard = true := by kernel_rfl
theorem jf25_glideBends : Tryz.prog.mayEnter = true := by kernel_rfl
theorem jf26_glideBends : (Rows.glideBendsRow.lifted == Tryz.prog.liftsFinal) = true := by kernel_rfl
theorem jf27_glideBends : (Tryz.prog.make == some Rows.glideBendsRow.make) = true := by kernel_rfl
theorem jf28_glideBends : (Rows.glideBendsRow.kinds == (if Rows.glideBendsRow.domain.isEmpty then [] else Tryz.f9.params.toList.map fun t => match Tryz.prog.underlying t with | some (.int k) => some k | _ => none)) = true := by kernel_rfl
theorem jf29_glideBends : (Rows.glideBendsRow.pinned == Rows.glideBendsRow.pinnedBy) = true := by kernel_rfl
theorem jf30_glideBends : (Rows.glideBendsRow.veiled == (Tryz.f9.params.toList ++ Rows.glideBendsSpec.plain.varTypes Tryz.prog ++ Tryz.f9.resultTypes.toList).any (Tryz.prog.veiledRec ·)) = true := by kernel_rfl
theorem jf31_glideBends : (Rows.glideBendsRow.veiledFits Tryz.prog Tryz.f9.params.toList (Tryz.f9.params.toList ++ Rows.glideBendsSpec.plain.varTypes Tryz.prog ++ Tryz.f9.resultTypes.toList)) = true := by kernel_rfl
end Go.Proofs.YtflkgkchoagphaaGreatDoor
