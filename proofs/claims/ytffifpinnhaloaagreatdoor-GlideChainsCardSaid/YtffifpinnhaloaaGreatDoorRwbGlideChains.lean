/- The closed facts of the row of GlideChains, one by one. -/
import Derived.Test.YtffifpinnhaloaaGreatDoorRow05
import Derived.JoinedOf
set_option linter.unusedVariables false
set_option linter.unusedSimpArgs false
namespace Go.Proofs.YtffifpinnhaloaaGreatDoor
open Go.ChangeShapes Go.WideShapes Go.ChangeAt Go.RowKit

theorem jf0_glideChains : (Rows.glideChainsRow.wf (OpenSpec.ofChange Rows.glideChainsSpec)) = true := by kernel_rfl
theorem jf2_glideChains : (mapsRowed Tryz.prog) = true := by kernel_rfl
theorem jf3_glideChains : (Tryz.f5.params.all (Tryz.prog.readableRec ·)) = true := by kernel_rfl
theorem jf4_glideChains : (namedTie Tryz.prog Rows.glideChainsRow.named Rows.glideChainsSpec.vars) = true := by kernel_rfl
theorem jf5_glideChains : (Rows.glideChainsRow.stops == []) = true := by kernel_rfl
theorem jf6_glideChains : (Tryz.prog.stops == []) = true := by kernel_rfl
theorem jf7_glideChains : (Rows.glideChainsRow.knobs == []) = true := by kernel_rfl
theorem jf8_glideChains : (Tryz.prog.stopKnobs == []) = true := by kernel_rfl
theorem jf9_glideChains : (Rows.glideChainsRow.inPlace == Tryz.prog.inPlace 5) = true := by kernel_rfl
theorem jf10_glideChains : (Rows.glideChainsRow.unfollowed == Tryz.prog.unfollowed 5) = true := by kernel_rfl
theorem jf11_glideChains : (Rows.glideChainsRow.recurses == Tryz.prog.recurses 5) = true := by kernel_rfl
theorem jf12_glideChains : (Rows.glideChainsRow.named == Tryz.prog.varsNamed 5) = true := by kernel_rfl
theorem jf13_glideChains : (Rows.glideChainsRow.maps == (Tryz.f5.params.toList ++ Rows.glideChainsSpec.plain.varTypes Tryz.prog).any (Tryz.prog.mapsRec ·)) = true := by kernel_rfl
theorem jf14_glideChains : (Rows.glideChainsRow.ifaces == (Tryz.f5.params.toList ++ Rows.glideChainsSpec.plain.varTypes Tryz.prog).any (Tryz.prog.ifacesRec ·)) = true := by kernel_rfl
theorem jf15_glideChains : (Rows.glideChainsRow.mapsOut == Tryz.prog.mapsAmong Tryz.f5.resultTypes.toList) = true := by kernel_rfl
theorem jf16_glideChains : (Rows.glideChainsRow.loops == (Tryz.f5.params.toList ++ Rows.glideChainsSpec.plain.varTypes Tryz.prog).any (Tryz.prog.loopsFrom ·)) = true := by kernel_rfl
theorem jf17_glideChains : (Rows.glideChainsRow.wideKeys == (Tryz.f5.params.toList ++ Rows.glideChainsSpec.plain.varTypes Tryz.prog ++ Tryz.f5.resultTypes.toList).any (Tryz.prog.wideKeysFrom ·)) = true := by kernel_rfl
theorem jf18_glideChains : (Rows.glideChainsSpec.vars.all (Tryz.prog.varReadable ·)) = true := by kernel_rfl
theorem jf19_glideChains : (Tryz.f5.resultTypes.all (fun t => Tryz.prog.readableRec t && decide (t < Tryz.prog.types.size))) = true := by kernel_rfl
theorem jf20_glideChains : (Rows.glideChainsRow.ifacesOut == Tryz.f5.resultTypes.toList.any (Tryz.prog.ifacesRec ·)) = true := by kernel_rfl
theorem jf21_glideChains : (Rows.glideChainsRow.loopsOut == Tryz.f5.resultTypes.toList.any (Tryz.prog.loopsFrom ·)) = true := by kernel_rfl
theorem jf22_glideChains : (Rows.glideChainsRow.plainKeys == Tryz.prog.plainKeys) = true := by kernel_rfl
theorem jf23_glideChains : Rows.glideChainsRow.shortTexts.isNone = true := by kernel_rfl
theorem jf24_glideChains : Tryz.prog.stopsHeard = true := by kernel_rfl
theorem jf25_glideChains : Tryz.prog.mayEnter = true := by kernel_rfl
theorem jf26_glideChains : (Rows.glideChainsRow.lifted == Tryz.prog.liftsFinal) = true := by kernel_rfl
theorem jf27_glideChains : (Tryz.prog.make == some Rows.glideChainsRow.make) = true := by kernel_rfl
theorem jf28_glideChains : (Rows.glideChainsRow.kinds == (if Rows.glideChainsRow.domain.isEmpty then [] else Tryz.f5.params.toList.map fun t => match Tryz.prog.underlying t with | some (.int k) => some k | _ => none)) = true := by kernel_rfl
theorem jf29_glideChains : (Rows.glideChainsRow.pinned == Rows.glideChainsRow.pinnedBy) = true := by kernel_rfl
theorem jf30_glideChains : (Rows.glideChainsRow.veiled == (Tryz.f5.params.toList ++ Rows.glideChainsSpec.plain.varTypes Tryz.prog ++ Tryz.f5.resultTypes.toList).any (Tryz.prog.veiledRec ·)) = true := by kernel_rfl
theorem jf31_glideChains : (Rows.glideChainsRow.veiledFits Tryz.prog Tryz.f5.params.toList (Tryz.f5.params.toList ++ Rows.glideChainsSpec.plain.varTypes Tryz.prog ++ Tryz.f5.resultTypes.toList)) = true := by kernel_rfl
end Go.Proofs.YtffifpinnhaloaaGreatDoor
