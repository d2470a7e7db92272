/- The closed facts of the row of GlideGoes, one by one. -/
import Derived.Test.YtffifpinnhaloaaGreatDoorRow05
import Derived.JoinedOf
set_option linter.unusedVariables false
set_option linter.unusedSimpArgs false
namespace Go.Proofs.YtffifpinnhaloaaGreatDoor
open Go.ChangeShapes Go.WideShapes Go.ChangeAt Go.RowKit

theorem jf0_glideGoes : (Rows.glideGoesRow.wf (OpenSpec.ofChange Rows.glideGoesSpec)) = true := by kernel_rfl
theorem jf2_glideGoes : (mapsRowed Tryz.prog) = true := by kernel_rfl
theorem jf3_glideGoes : (Tryz.f4.params.all (Tryz.prog.readableRec ·)) = true := by kernel_rfl
theorem jf4_glideGoes : (namedTie Tryz.prog Rows.glideGoesRow.named Rows.glideGoesSpec.vars) = true := by kernel_rfl
theorem jf5_glideGoes : (Rows.glideGoesRow.stops == []) = true := by kernel_rfl
theorem jf6_glideGoes : (Tryz.prog.stops == []) = true := by kernel_rfl
theorem jf7_glideGoes : (Rows.glideGoesRow.knobs == []) = true := by kernel_rfl
theorem jf8_glideGoes : (Tryz.prog.stopKnobs == []) = true := by kernel_rfl
theorem jf9_glideGoes : (Rows.glideGoesRow.inPlace == Tryz.prog.inPlace 4) = true := by kernel_rfl
theorem jf10_glideGoes : (Rows.glideGoesRow.unfollowed == Tryz.prog.unfollowed 4) = true := by kernel_rfl
theorem jf11_glideGoes : (Rows.glideGoesRow.recurses == Tryz.prog.recurses 4) = true := by kernel_rfl
theorem jf12_glideGoes : (Rows.glideGoesRow.named == Tryz.prog.varsNamed 4) = true := by kernel_rfl
theorem jf13_glideGoes : (Rows.glideGoesRow.maps == (Tryz.f4.params.toList ++ Rows.glideGoesSpec.plain.varTypes Tryz.prog).any (Tryz.prog.mapsRec ·)) = true := by kernel_rfl
theorem jf14_glideGoes : (Rows.glideGoesRow.ifaces == (Tryz.f4.params.toList ++ Rows.glideGoesSpec.plain.varTypes Tryz.prog).any (Tryz.prog.ifacesRec ·)) = true := by kernel_rfl
theorem jf15_glideGoes : (Rows.glideGoesRow.mapsOut == Tryz.prog.mapsAmong Tryz.f4.resultTypes.toList) = true := by kernel_rfl
theorem jf16_glideGoes : (Rows.glideGoesRow.loops == (Tryz.f4.params.toList ++ Rows.glideGoesSpec.plain.varTypes Tryz.prog).any (Tryz.prog.loopsFrom ·)) = true := by kernel_rfl
theorem jf17_glideGoes : (Rows.glideGoesRow.wideKeys == (Tryz.f4.params.toList ++ Rows.glideGoesSpec.plain.varTypes Tryz.prog ++ Tryz.f4.resultTypes.toList).any (Tryz.prog.wideKeysFrom ·)) = true := by kernel_rfl
theorem jf18_glideGoes : (Rows.glideGoesSpec.vars.all (Tryz.prog.varReadable ·)) = true := by kernel_rfl
theorem jf19_glideGoes : (Tryz.f4.resultTypes.all (fun t => Tryz.prog.readableRec t && decide (t < Tryz.prog.types.size))) = true := by kernel_rfl
theorem jf20_glideGoes : (Rows.glideGoesRow.ifacesOut == Tryz.f4.resultTypes.toList.any (Tryz.prog.ifacesRec ·)) = true := by kernel_rfl
theorem jf21_glideGoes : (Rows.glideGoesRow.loopsOut == Tryz.f4.resultTypes.toList.any (Tryz.prog.loopsFrom ·)) = true := by kernel_rfl
theorem jf22_glideGoes : (Rows.glideGoesRow.plainKeys == Tryz.prog.plainKeys) = true := by kernel_rfl
theorem jf23_glideGoes : Rows.glideGoesRow.shortTexts.isNone = true := by kernel_rfl
theorem jf24_glideGoes : Tryz.prog.stopsHeard = true := by kernel_rfl
theorem jf25_glideGoes : Tryz.prog.mayEnter = true := by kernel_rfl
theorem jf26_glideGoes : (Rows.glideGoesRow.lifted == Tryz.prog.liftsFinal) = true := by kernel_rfl
theorem jf27_glideGoes : (Tryz.prog.make == some Rows.glideGoesRow.make) = true := by kernel_rfl
theorem jf28_glideGoes : (Rows.glideGoesRow.kinds == (if Rows.glideGoesRow.domain.isEmpty then [] else Tryz.f4.params.toList.map fun t => match Tryz.prog.underlying t with | some (.int k) => some k | _ => none)) = true := by kernel_rfl
theorem jf29_glideGoes : (Rows.glideGoesRow.pinned == Rows.glideGoesRow.pinnedBy) = true := by kernel_rfl
theorem jf30_glideGoes : (Rows.glideGoesRow.veiled == (Tryz.f4.params.toList ++ Rows.glideGoesSpec.plain.varTypes Tryz.prog ++ Tryz.f4.resultTypes.toList).any (Tryz.prog.veiledRec ·)) = true := by kernel_rfl
theorem jf31_glideGoes : (Rows.glideGoesRow.veiledFits Tryz.prog Tryz.f4.params.toList (Tryz.f4.params.toList ++ Rows.glideGoesSpec.plain.varTypes Tryz.prog ++ Tryz.f4.resultTypes.toList)) = true := by kernel_rfl
end Go.Proofs.YtffifpinnhaloaaGreatDoor
