/- For every input the law GlideChains returns true, and each of its arguments reads afterwards as it read before. Conditions: the listed package variables of the library hold what the program text lays in them (the card ties that); nothing else. -/
import Derived.Test.YtffifpinnhaloaaGreatDoorRow05
import Derived.Test.YtffifpinnhaloaaGreatDoorLaw03f
import Derived.Test.YtffifpinnhaloaaGreatDoorRwbGlideChains
import Derived.WalkKit
import Derived.ProofKit
import Derived.OpenShut
import Derived.ShutString
import Derived.LaidMore
import Derived.Stop.Joined
import Derived.Stop.LaidErr
import Derived.SevenTiedAt
import Derived.Below
import Derived.ChangeOld
set_option linter.unusedVariables false
set_option linter.unusedSimpArgs false
namespace Go.Proofs.YtffifpinnhaloaaGreatDoor
open Go.ChangeShapes Go.WideShapes Go.ChangeAt Go.RowKit

abbrev laid_glideChains : List (String × DataW Unit) := Rows.glideChainsRow.laid
theorem door_glideChains (os : Os) (args : Array Value) : laidMetH Tryz.prog laid_glideChains ((World.doorLaid Tryz.prog 62 os).forCall (fun _ _ => 0) ⟨#[], args, []⟩).memory :=
  laidMetH_of_parts3 (fuel := 8) (laidMet_of_run' 8 (by kernel_rfl) (by kernel_rfl)) (by kernel_rfl) (by kernel_rfl)
set_option maxRecDepth 100000 in
theorem lifted_glideChains (os : Os) (started : os.Started) (H : Type) (enc : TypeId × Value → H) :
    ReturnsInHanded {} Tryz.checked os 5 .any (fun w args => (Rows.glideChainsSpec.pre enc Tryz.prog Tryz.f5 [] false w args ∧ laidMetH Tryz.prog laid_glideChains w) ∧ sizedMet enc Tryz.prog Tryz.f5 (OpenSpec.ofChange Rows.glideChainsSpec) false w args)
      (Rows.glideChainsSpec.post enc Tryz.prog Tryz.f5 false true false false) := by
  refine handed_shaped (C := Tryz.checked) (X := fun w _ => laidMetH Tryz.prog laid_glideChains w) (fun _ _ _ hh h => h.of_heap hh) own started (by kernel_rfl) Tryz.func5
    (ChangeSpec.witness_shaped (enc := enc) (C := Tryz.checked) (os := os) (X := fun w _ => laidMetH Tryz.prog laid_glideChains w) false (World.doorLaid Tryz.prog 62 os) #[.slice none 0 0, .int .i64 0] 8 rfl (World.shaped_of_RefB (by kernel_rfl) (by kernel_rfl)) (by kernel_rfl) (by kernel_rfl) (by kernel_rfl) (door_glideChains os _)) ?_
  intro W base args ds gs before hval0 hW _ _ hL hsh
  have hmx : Mx W := mx_of_shape hsh
  have hval : ∀ (j : Nat) t v, Tryz.f5.params[j]? = some t → args[j]? = some v → Value.okWide Tryz.prog W .any base t v := hval0
  have hW' := hW
  obtain ⟨p, q, hA0, hV, rfl, hfz, hnd⟩ := hW
  have hA : DataW.TrodAll enc Tryz.prog W 0 (fun _ => true) true Tryz.f5.params.toList args.toList ds p := hA0
  rw [Tryz.params5] at hA hval
  obtain ⟨v0, vs0, d0, ds0, p0, q0, hargs, rfl, rfl, h0, r0⟩ := trodAll_cons hA
  obtain ⟨v1, vs1, d1, ds1, p1, q1, rfl, rfl, rfl, h1, r1⟩ := trodAll_cons r0
  obtain ⟨rfl, rfl, rfl⟩ := trodAll_nil r1
  obtain rfl : args = #[v0, v1] := by cases args; simp_all
  obtain ⟨rfl, rfl⟩ := trodVars_none hV
  obtain ⟨a0, l0, cap0, rfl, hl0, hm0, rd0, all0⟩ := open_glides (hval 0 46 v0 rfl rfl) h0
  obtain ⟨a1, rfl, -, -, w1⟩ := open_int Tryz.underlying3 (hval 1 3 v1 rfl rfl) h1
  clear hA0 hval0
  simp only [List.append_nil] at hW'
  rw [MakeChecks.laidMetH_plain _ _ _ (by kernel_rfl)] at hL
  have htab : Tab W := tab_of_head hL.tail.tail
  have herr : ErrR W := err_of_head hL.tail.tail.tail
  refine (l3_GlideChains htab hmx herr rd0 all0 hl0 hm0 (isI_of w1) W (Gr.refl W)).mono fun e W' ⟨he, bel⟩ => ?_
  subst he
  have bel' : Below W.heap.size W W' := bel
  exact ⟨_, rfl, _, _, _, [], _, [], hW', trodAll_mk1 (shut_bool Tryz.underlying4 _), (trodAll_cons_mk (arg_stays (by kernel_rfl) (of_decide_eq_true (by kernel_rfl)) h0 bel') (trodAll_cons_mk (arg_stays (by kernel_rfl) (of_decide_eq_true (by kernel_rfl)) h1 bel') trodAll_mk0)), rfl, bel'.frame _, fun h => by cases h⟩
set_option maxRecDepth 1000000 in
theorem jf_glideChains : joinedFacts Tryz.prog 5 Tryz.f5 Rows.glideChainsSpec Rows.glideChainsRow = true := by
  unfold joinedFacts
  simp only [Bool.and_eq_true]
  exact ⟨⟨⟨⟨⟨⟨⟨⟨⟨⟨⟨⟨⟨⟨⟨⟨⟨⟨⟨⟨⟨⟨⟨⟨⟨⟨⟨⟨⟨⟨⟨jf0_glideChains, laidOut⟩, jf2_glideChains⟩, jf3_glideChains⟩, jf4_glideChains⟩, jf5_glideChains⟩, jf6_glideChains⟩, jf7_glideChains⟩, jf8_glideChains⟩, jf9_glideChains⟩, jf10_glideChains⟩, jf11_glideChains⟩, jf12_glideChains⟩, jf13_glideChains⟩, jf14_glideChains⟩, jf15_glideChains⟩, jf16_glideChains⟩, jf17_glideChains⟩, jf18_glideChains⟩, jf19_glideChains⟩, jf20_glideChains⟩, jf21_glideChains⟩, jf22_glideChains⟩, jf23_glideChains⟩, jf24_glideChains⟩, jf25_glideChains⟩, jf26_glideChains⟩, jf27_glideChains⟩, jf28_glideChains⟩, jf29_glideChains⟩, jf30_glideChains⟩, jf31_glideChains⟩
theorem over_glideChains : Rows.GlideChainsSaid :=
  OpenClaim.holds_of_wide 5 Tryz.f5 rfl rfl rfl rfl rfl rfl rfl ⟨rfl, rfl, rfl, rfl, rfl⟩ rfl rfl rfl rfl rfl (by kernel_rfl) Tryz.func5 jf_glideChains
    (of_decide_eq_true (by kernel_rfl)) (by unfold Func.isWrapper; first | (rw [if_pos (by decide +kernel)]; kernel_rfl) | (rw [if_neg (by decide +kernel)]; exact ⟨rfl, rfl⟩))
    (fun os started H enc _ => lifted_glideChains os started H enc)
/-- For every input the law GlideChains returns true, and each argument reads afterwards as it read before; the listed package variables read as the program's text lays them (the card ties them). -/
theorem holds_glideChains : Rows.GlideChainsCardSaid :=
  Claim7.holds_tied_plain_at .later [] [.data, .data, .data, .sentinel, .sentinel] true _ true
    over_glideChains (fun _ h => by cases h) (by kernel_rfl) (fun _ h => by cases h) glideChains_row_tie rfl ⟨rfl, rfl⟩ (by kernel_rfl) rfl
    (fun f fn hf hfn => by
      obtain rfl : f = 5 := Option.some.inj ((show Tryz.prog.funcNamed "luminaire/luminairelaw03.GlideChains" = some 5 by kernel_rfl).symm.trans hf) |>.symm
      obtain rfl : fn = Tryz.f5 := (Option.some.inj (Tryz.func5.symm.trans hfn)).symm
      exact ⟨by kernel_rfl, fun j t ht => by
        rw [Tryz.params5] at ht
        have hm : t ∈ [46, 3] := by simpa using Array.mem_of_getElem? ht
        have hall : ([46, 3].all fun u => !Tryz.prog.wantsStandIn u) = true := by kernel_rfl
        exact (show Tryz.prog.wantsStandIn t = false by simpa using List.all_eq_true.1 hall t hm)⟩)
    (by kernel_rfl)
#print axioms holds_glideChains
end Go.Proofs.YtffifpinnhaloaaGreatDoor
