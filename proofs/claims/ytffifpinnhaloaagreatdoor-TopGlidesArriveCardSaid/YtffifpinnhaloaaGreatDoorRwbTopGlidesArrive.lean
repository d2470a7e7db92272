/- The closed facts of the row of TopGlidesArrive, one by one. -/
import Derived.Test.YtffifpinnhaloaaGreatDoorRow05
import Derived.JoinedOf
set_option linter.unusedVariables false
set_option linter.unusedSimpArgs false
namespace Go.Proofs.YtffifpinnhaloaaGreatDoor
open Go.ChangeShapes Go.WideShapes Go.ChangeAt Go.RowKit

theorem jf0_topGlidesArrive : (Rows.topGlidesArriveRow.wf (OpenSpec.ofChange Rows.topGlidesArriveSpec)) = true := by kernel_rfl
theorem jf2_topGlidesArrive : (mapsRowed Tryz.prog) = true := by kernel_rfl
theorem jf3_topGlidesArrive : (Tryz.f12.params.all (Tryz.prog.readableRec ·)) = true := by kernel_rfl
theorem jf4_topGlidesArrive : (namedTie Tryz.prog Rows.topGlidesArriveRow.named Rows.topGlidesArriveSpec.vars) = true := by kernel_rfl
theorem jf5_topGlidesArrive : (Rows.topGlidesArriveRow.stops == []) = true := by kernel_rfl
theorem jf6_topGlidesArrive : (Tryz.prog.stops == []) = true := by kernel_rfl
theorem jf7_topGlidesArrive : (Rows.topGlidesArriveRow.knobs == []) = true := by kernel_rfl
theorem jf8_topGlidesArrive : (Tryz.prog.stopKnobs == []) = true := by kernel_rfl
theorem jf9_topGlidesArrive : (Rows.topGlidesArriveRow.inPlace == Tryz.prog.inPlace 12) = true := by kernel_rfl
theorem jf10_topGlidesArrive : (Rows.topGlidesArriveRow.unfollowed == Tryz.prog.unfollowed 12) = true := by kernel_rfl
theorem jf11_topGlidesArrive : (Rows.topGlidesArriveRow.recurses == Tryz.prog.recurses 12) = true := by kernel_rfl
theorem jf12_topGlidesArrive : (Rows.topGlidesArriveRow.named == Tryz.prog.varsNamed 12) = true := by kernel_rfl
theorem jf13_topGlidesArrive : (Rows.topGlidesArriveRow.maps == (Tryz.f12.params.toList ++ Rows.topGlidesArriveSpec.plain.varTypes Tryz.prog).any (Tryz.prog.mapsRec ·)) = true := by kernel_rfl
theorem jf14_topGlidesArrive : (Rows.topGlidesArriveRow.ifaces == (Tryz.f12.params.toList ++ Rows.topGlidesArriveSpec.plain.varTypes Tryz.prog).any (Tryz.prog.ifacesRec ·)) = true := by kernel_rfl
theorem jf15_topGlidesArrive : (Rows.topGlidesArriveRow.mapsOut == Tryz.prog.mapsAmong Tryz.f12.resultTypes.toList) = true := by kernel_rfl
theorem jf16_topGlidesArrive : (Rows.topGlidesArriveRow.loops == (Tryz.f12.params.toList ++ Rows.topGlidesArriveSpec.plain.varTypes Tryz.prog).any (Tryz.prog.loopsFrom ·)) = true := by kernel_rfl
theorem jf17_topGlidesArrive : (Rows.topGlidesArriveRow.wideKeys == (Tryz.f12.params.toList ++ Rows.topGlidesArriveSpec.plain.varTypes Tryz.prog ++ Tryz.f12.resultTypes.toList).any (Tryz.prog.wideKeysFrom ·)) = true := by kernel_rfl
theorem jf18_topGlidesArrive : (Rows.topGlidesArriveSpec.vars.all (Tryz.prog.varReadable ·)) = true := by kernel_rfl
theorem jf19_topGlidesArrive : (Tryz.f12.resultTypes.all (fun t => Tryz.prog.readableRec t && decide (t < Tryz.prog.types.size))) = true := by kernel_rfl
theorem jf20_topGlidesArrive : (Rows.topGlidesArriveRow.ifacesOut == Tryz.f12.resultTypes.toList.any (Tryz.prog.ifacesRec ·)) = true := by kernel_rfl
theorem jf21_topGlidesArrive : (Rows.topGlidesArriveRow.loopsOut == Tryz.f12.resultTypes.toList.any (Tryz.prog.loopsFrom ·)) = true := by kernel_rfl
theorem jf22_topGlidesArrive : (Rows.topGlidesArriveRow.plainKeys == Tryz.prog.plainKeys) = true := by kernel_rfl
theorem jf23_topGlidesArrive : Rows.topGlidesArriveRow.shortTexts.isNone = true := by kernel_rfl
theorem jf24_topGlidesArrive : Tryz.prog.stopsHeard = true := by kernel_rfl
theorem jf25_topGlidesArrive : Tryz.prog.mayEnter = true := by kernel_rfl
theorem jf26_topGlidesArrive : (Rows.topGlidesArriveRow.lifted == Tryz.prog.liftsFinal) = true := by kernel_rfl
theorem jf27_topGlidesArrive : (Tryz.prog.make == some Rows.topGlidesArriveRow.make) = true := by kernel_rfl
theorem jf28_topGlidesArrive : (Rows.topGlidesArriveRow.kinds == (if Rows.topGlidesArriveRow.domain.isEmpty then [] else Tryz.f12.params.toList.map fun t => match Tryz.prog.underlying t with | some (.int k) => some k | _ => none)) = true := by kernel_rfl
theorem jf29_topGlidesArrive : (Rows.topGlidesArriveRow.pinned == Rows.topGlidesArriveRow.pinnedBy) = true := by kernel_rfl
theorem jf30_topGlidesArrive : (Rows.topGlidesArriveRow.veiled == (Tryz.f12.params.toList ++ Rows.topGlidesArriveSpec.plain.varTypes Tryz.prog ++ Tryz.f12.resultTypes.toList).any (Tryz.prog.veiledRec ·)) = true := by kernel_rfl
theorem jf31_topGlidesArrive : (Rows.topGlidesArriveRow.veiledFits Tryz.prog Tryz.f12.params.toList (Tryz.f12.params.toList ++ Rows.topGlidesArriveSpec.plain.varTypes Tryz.prog ++ Tryz.f12.resultTypes.toList)) = true := by kernel_rfl
end Go.Proofs.YtffifpinnhaloaaGreatDoor
