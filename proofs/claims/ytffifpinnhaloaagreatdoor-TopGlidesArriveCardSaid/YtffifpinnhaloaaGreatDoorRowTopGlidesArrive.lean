/- For every input the law TopGlidesArrive returns true, and each of its arguments reads afterwards as it read before. Conditions: the listed package variables of the library hold what the program text lays in them (the card ties that); nothing else. -/
import Derived.Test.YtffifpinnhaloaaGreatDoorRwaTopGlidesArrive
import Derived.Test.YtffifpinnhaloaaGreatDoorRwbTopGlidesArrive
import Derived.WalkKit
import Derived.ProofKit
import Derived.OpenShut
import Derived.ShutString
import Derived.LaidMore
import Derived.Stop.Joined
import Derived.Stop.LaidErr
import Derived.SevenTiedAt
import Derived.Below
import Derived.ChangeOld
set_option linter.unusedVariables false
set_option linter.unusedSimpArgs false
namespace Go.Proofs.YtffifpinnhaloaaGreatDoor
open Go.ChangeShapes Go.WideShapes Go.ChangeAt Go.RowKit

set_option maxRecDepth 1000000 in
theorem jf_topGlidesArrive : joinedFacts Tryz.prog 12 Tryz.f12 Rows.topGlidesArriveSpec Rows.topGlidesArriveRow = true := by
  unfold joinedFacts
  simp only [Bool.and_eq_true]
  exact ⟨⟨⟨⟨⟨⟨⟨⟨⟨⟨⟨⟨⟨⟨⟨⟨⟨⟨⟨⟨⟨⟨⟨⟨⟨⟨⟨⟨⟨⟨⟨jf0_topGlidesArrive, laidOut⟩, jf2_topGlidesArrive⟩, jf3_topGlidesArrive⟩, jf4_topGlidesArrive⟩, jf5_topGlidesArrive⟩, jf6_topGlidesArrive⟩, jf7_topGlidesArrive⟩, jf8_topGlidesArrive⟩, jf9_topGlidesArrive⟩, jf10_topGlidesArrive⟩, jf11_topGlidesArrive⟩, jf12_topGlidesArrive⟩, jf13_topGlidesArrive⟩, jf14_topGlidesArrive⟩, jf15_topGlidesArrive⟩, jf16_topGlidesArrive⟩, jf17_topGlidesArrive⟩, jf18_topGlidesArrive⟩, jf19_topGlidesArrive⟩, jf20_topGlidesArrive⟩, jf21_topGlidesArrive⟩, jf22_topGlidesArrive⟩, jf23_topGlidesArrive⟩, jf24_topGlidesArrive⟩, jf25_topGlidesArrive⟩, jf26_topGlidesArrive⟩, jf27_topGlidesArrive⟩, jf28_topGlidesArrive⟩, jf29_topGlidesArrive⟩, jf30_topGlidesArrive⟩, jf31_topGlidesArrive⟩
theorem over_topGlidesArrive : Rows.TopGlidesArriveSaid :=
  OpenClaim.holds_of_wide 12 Tryz.f12 rfl rfl rfl rfl rfl rfl rfl ⟨rfl, rfl, rfl, rfl, rfl⟩ rfl rfl rfl rfl rfl (by kernel_rfl) Tryz.func12 jf_topGlidesArrive
    (of_decide_eq_true (by kernel_rfl)) (by unfold Func.isWrapper; first | (rw [if_pos (by decide +kernel)]; kernel_rfl) | (rw [if_neg (by decide +kernel)]; exact ⟨rfl, rfl⟩))
    (fun os started H enc _ => lifted_topGlidesArrive os started H enc)
/-- For every input the law TopGlidesArrive returns true, and each argument reads afterwards as it read before; the listed package variables read as the program's text lays them (the card ties them). -/
theorem holds_topGlidesArrive : Rows.TopGlidesArriveCardSaid :=
  Claim7.holds_tied_plain_at .later [] [.data, .data, .data, .sentinel, .sentinel] true _ true
    over_topGlidesArrive (fun _ h => by cases h) (by kernel_rfl) (fun _ h => by cases h) topGlidesArrive_row_tie rfl ⟨rfl, rfl⟩ (by kernel_rfl) rfl
    (fun f fn hf hfn => by
      obtain rfl : f = 12 := Option.some.inj ((show Tryz.prog.funcNamed "luminaire/luminairetop.TopGlidesArrive" = some 12 by kernel_rfl).symm.trans hf) |>.symm
      obtain rfl : fn = Tryz.f12 := (Option.some.inj (Tryz.func12.symm.trans hfn)).symm
      exact ⟨by kernel_rfl, fun j t ht => by
        rw [Tryz.params12] at ht
        have hm : t ∈ [24, 76, 86] := by simpa using Array.mem_of_getElem? ht
        have hall : ([24, 76, 86].all fun u => !Tryz.prog.wantsStandIn u) = true := by kernel_rfl
        exact (show Tryz.prog.wantsStandIn t = false by simpa using List.all_eq_true.1 hall t hm)⟩)
    (by kernel_rfl)
#print axioms holds_topGlidesArrive
end Go.Proofs.YtffifpinnhaloaaGreatDoor
