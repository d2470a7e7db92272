/- The closed facts of the row of GlideMonotone, one by one. -/
import Derived.Test.YtffifpinnhaloaaGreatDoorRow05
import Derived.JoinedOf
set_option linter.unusedVariables false
set_option linter.unusedSimpArgs false
namespace Go.Proofs.YtffifpinnhaloaaGreatDoor
open Go.ChangeShapes Go.WideShapes Go.ChangeAt Go.RowKit

theorem jf0_glideMonotone : (Rows.glideMonotoneRow.wf (OpenSpec.ofChange Rows.glideMonotoneSpec)) = true := by kernel_rfl
theorem jf2_glideMonotone : (mapsRowed Tryz.prog) = true := by kernel_rfl
theorem jf3_glideMonotone : (Tryz.f7.params.all (Tryz.prog.readableRec ·)) = true := by kernel_rfl
theorem jf4_glideMonotone : (namedTie Tryz.prog Rows.glideMonotoneRow.named Rows.glideMonotoneSpec.vars) = true := by kernel_rfl
theorem jf5_glideMonotone : (Rows.glideMonotoneRow.stops == []) = true := by kernel_rfl
theorem jf6_glideMonotone : (Tryz.prog.stops == []) = true := by kernel_rfl
theorem jf7_glideMonotone : (Rows.glideMonotoneRow.knobs == []) = true := by kernel_rfl
theorem jf8_glideMonotone : (Tryz.prog.stopKnobs == []) = true := by kernel_rfl
theorem jf9_glideMonotone : (Rows.glideMonotoneRow.inPlace == Tryz.prog.inPlace 7) = true := by kernel_rfl
theorem jf10_glideMonotone : (Rows.glideMonotoneRow.unfollowed == Tryz.prog.unfollowed 7) = true := by kernel_rfl
theorem jf11_glideMonotone : (Rows.glideMonotoneRow.recurses == Tryz.prog.recurses 7) = true := by kernel_rfl
theorem jf12_glideMonotone : (Rows.glideMonotoneRow.named == Tryz.prog.varsNamed 7) = true := by kernel_rfl
theorem jf13_glideMonotone : (Rows.glideMonotoneRow.maps == (Tryz.f7.params.toList ++ Rows.glideMonotoneSpec.plain.varTypes Tryz.prog).any (Tryz.prog.mapsRec ·)) = true := by kernel_rfl
theorem jf14_glideMonotone : (Rows.glideMonotoneRow.ifaces == (Tryz.f7.params.toList ++ Rows.glideMonotoneSpec.plain.varTypes Tryz.prog).any (Tryz.prog.ifacesRec ·)) = true := by kernel_rfl
theorem jf15_glideMonotone : (Rows.glideMonotoneRow.mapsOut == Tryz.prog.mapsAmong Tryz.f7.resultTypes.toList) = true := by kernel_rfl
theorem jf16_glideMonotone : (Rows.glideMonotoneRow.loops == (Tryz.f7.params.toList ++ Rows.glideMonotoneSpec.plain.varTypes Tryz.prog).any (Tryz.prog.loopsFrom ·)) = true := by kernel_rfl
theorem jf17_glideMonotone : (Rows.glideMonotoneRow.wideKeys == (Tryz.f7.params.toList ++ Rows.glideMonotoneSpec.plain.varTypes Tryz.prog ++ Tryz.f7.resultTypes.toList).any (Tryz.prog.wideKeysFrom ·)) = true := by kernel_rfl
theorem jf18_glideMonotone : (Rows.glideMonotoneSpec.vars.all (Tryz.prog.varReadable ·)) = true := by kernel_rfl
theorem jf19_glideMonotone : (Tryz.f7.resultTypes.all (fun t => Tryz.prog.readableRec t && decide (t < Tryz.prog.types.size))) = true := by kernel_rfl
theorem jf20_glideMonotone : (Rows.glideMonotoneRow.ifacesOut == Tryz.f7.resultTypes.toList.any (Tryz.prog.ifacesRec ·)) = true := by kernel_rfl
theorem jf21_glideMonotone : (Rows.glideMonotoneRow.loopsOut == Tryz.f7.resultTypes.toList.any (Tryz.prog.loopsFrom ·)) = true := by kernel_rfl
theorem jf22_glideMonotone : (Rows.glideMonotoneRow.plainKeys == Tryz.prog.plainKeys) = true := by kernel_rfl
theorem jf23_glideMonotone : Rows.glideMonotoneRow.shortTexts.isNone = true := by kernel_rfl
theorem jf24_glideMonotone : Tryz.prog.stopsHeard = true := by kernel_rfl
theorem jf25_glideMonotone : Tryz.prog.mayEnter = true := by kernel_rfl
theorem jf26_glideMonotone : (Rows.glideMonotoneRow.lifted == Tryz.prog.liftsFinal) = true := by kernel_rfl
theorem jf27_glideMonotone : (Tryz.prog.make == some Rows.glideMonotoneRow.make) = true := by kernel_rfl
theorem jf28_glideMonotone : (Rows.glideMonotoneRow.kinds == (if Rows.glideMonotoneRow.domain.isEmpty then [] else Tryz.f7.params.toList.map fun t => match Tryz.prog.underlying t with | some (.int k) => some k | _ => none)) = true := by kernel_rfl
theorem jf29_glideMonotone : (Rows.glideMonotoneRow.pinned == Rows.glideMonotoneRow.pinnedBy) = true := by kernel_rfl
theorem jf30_glideMonotone : (Rows.glideMonotoneRow.veiled == (Tryz.f7.params.toList ++ Rows.glideMonotoneSpec.plain.varTypes Tryz.prog ++ Tryz.f7.resultTypes.toList).any (Tryz.prog.veiledRec ·)) = true := by kernel_rfl
theorem jf31_glideMonotone : (Rows.glideMonotoneRow.veiledFits Tryz.prog Tryz.f7.params.toList (Tryz.f7.params.toList ++ Rows.glideMonotoneSpec.plain.varTypes Tryz.prog ++ Tryz.f7.resultTypes.toList)) = true := by kernel_rfl
end Go.Proofs.YtffifpinnhaloaaGreatDoor
