/- For every input the law GlideOvertakes returns true, and each of its arguments reads afterwards as it read before. Conditions: the listed package variables of the library hold what the program text lays in them (the card ties that); nothing else. -/
import Derived.Test.YtffifpinnhaloaaGreatDoorRow05
import Derived.Test.YtffifpinnhaloaaGreatDoorLaw03e
import Derived.Test.YtffifpinnhaloaaGreatDoorRwbGlideOvertakes
import Derived.WalkKit
import Derived.ProofKit
import Derived.OpenShut
import Derived.ShutString
import Derived.LaidMore
import Derived.Stop.Joined
import Derived.Stop.LaidErr
import Derived.SevenTiedAt
import Derived.Below
import Derived.ChangeOld
set_option linter.unusedVariables false
set_option linter.unusedSimpArgs false
namespace Go.Proofs.YtffifpinnhaloaaGreatDoor
open Go.ChangeShapes Go.WideShapes Go.ChangeAt Go.RowKit

abbrev laid_glideOvertakes : List (String × DataW Unit) := Rows.glideOvertakesRow.laid
theorem door_glideOvertakes (os : Os) (args : Array Value) : laidMetH Tryz.prog laid_glideOvertakes ((World.doorLaid Tryz.prog 62 os).forCall (fun _ _ => 0) ⟨#[], args, []⟩).memory :=
  laidMetH_of_parts3 (fuel := 8) (laidMet_of_run' 8 (by kernel_rfl) (by kernel_rfl)) (by kernel_rfl) (by kernel_rfl)
set_option maxRecDepth 100000 in
theorem lifted_glideOvertakes (os : Os) (started : os.Started) (H : Type) (enc : TypeId × Value → H) :
    ReturnsInHanded {} Tryz.checked os 8 .any (fun w args => (Rows.glideOvertakesSpec.pre enc Tryz.prog Tryz.f8 [] false w args ∧ laidMetH Tryz.prog laid_glideOvertakes w) ∧ sizedMet enc Tryz.prog Tryz.f8 (OpenSpec.ofChange Rows.glideOvertakesSpec) false w args)
      (Rows.glideOvertakesSpec.post enc Tryz.prog Tryz.f8 false true false false) := by
  refine handed_shaped (C := Tryz.checked) (X := fun w _ => laidMetH Tryz.prog laid_glideOvertakes w) (fun _ _ _ hh h => h.of_heap hh) own started (by kernel_rfl) Tryz.func8
    (ChangeSpec.witness_shaped (enc := enc) (C := Tryz.checked) (os := os) (X := fun w _ => laidMetH Tryz.prog laid_glideOvertakes w) false (World.doorLaid Tryz.prog 62 os) #[.agg #[.string ByteArray.empty, .int .i64 0, .int .i64 0, .int .i64 0], .agg #[.int .i64 0, .int .i64 0, .int .i64 0], .int .i64 0] 8 rfl (World.shaped_of_RefB (by kernel_rfl) (by kernel_rfl)) (by kernel_rfl) (by kernel_rfl) (by kernel_rfl) (door_glideOvertakes os _)) ?_
  intro W base args ds gs before hval0 hW _ _ hL hsh
  have hmx : Mx W := mx_of_shape hsh
  have hval : ∀ (j : Nat) t v, Tryz.f8.params[j]? = some t → args[j]? = some v → Value.okWide Tryz.prog W .any base t v := hval0
  have hW' := hW
  obtain ⟨p, q, hA0, hV, rfl, hfz, hnd⟩ := hW
  have hA : DataW.TrodAll enc Tryz.prog W 0 (fun _ => true) true Tryz.f8.params.toList args.toList ds p := hA0
  rw [Tryz.params8] at hA hval
  obtain ⟨v0, vs0, d0, ds0, p0, q0, hargs, rfl, rfl, h0, r0⟩ := trodAll_cons hA
  obtain ⟨v1, vs1, d1, ds1, p1, q1, rfl, rfl, rfl, h1, r1⟩ := trodAll_cons r0
  obtain ⟨v2, vs2, d2, ds2, p2, q2, rfl, rfl, rfl, h2, r2⟩ := trodAll_cons r1
  obtain ⟨rfl, rfl, rfl⟩ := trodAll_nil r2
  obtain rfl : args = #[v0, v1, v2] := by cases args; simp_all
  obtain ⟨rfl, rfl⟩ := trodVars_none hV
  obtain ⟨g0, rfl, sz0, is0⟩ := open_glide (hval 0 24 v0 rfl rfl) h0
  obtain ⟨q1, rfl, is1⟩ := open_turn3 Tryz.underlying40 rfl rfl rfl (by kernel_rfl) (by kernel_rfl) (hval 1 40 v1 rfl rfl) h1
  obtain ⟨a2, rfl, -, -, w2⟩ := open_int Tryz.underlying3 (hval 2 3 v2 rfl rfl) h2
  clear hA0 hval0
  simp only [List.append_nil] at hW'
  rw [MakeChecks.laidMetH_plain _ _ _ (by kernel_rfl)] at hL
  have htab : Tab W := tab_of_head hL.tail.tail
  have herr : ErrR W := err_of_head hL.tail.tail.tail
  refine (l3_GlideOvertakes htab hmx herr sz0 is0 is1 (isI_of w2) W (Gr.refl W)).mono fun e W' ⟨he, bel⟩ => ?_
  subst he
  have bel' : Below W.heap.size W W' := bel
  exact ⟨_, rfl, _, _, _, [], _, [], hW', trodAll_mk1 (shut_bool Tryz.underlying4 _), (trodAll_cons_mk (arg_stays (by kernel_rfl) (of_decide_eq_true (by kernel_rfl)) h0 bel') (trodAll_cons_mk (arg_stays (by kernel_rfl) (of_decide_eq_true (by kernel_rfl)) h1 bel') (trodAll_cons_mk (arg_stays (by kernel_rfl) (of_decide_eq_true (by kernel_rfl)) h2 bel') trodAll_mk0))), rfl, bel'.frame _, fun h => by cases h⟩
set_option maxRecDepth 1000000 in
theorem jf_glideOvertakes : joinedFacts Tryz.prog 8 Tryz.f8 Rows.glideOvertakesSpec Rows.glideOvertakesRow = true := by
  unfold joinedFacts
  simp only [Bool.and_eq_true]
  exact ⟨⟨⟨⟨⟨⟨⟨⟨⟨⟨⟨⟨⟨⟨⟨⟨⟨⟨⟨⟨⟨⟨⟨⟨⟨⟨⟨⟨⟨⟨⟨jf0_glideOvertakes, laidOut⟩, jf2_glideOvertakes⟩, jf3_glideOvertakes⟩, jf4_glideOvertakes⟩, jf5_glideOvertakes⟩, jf6_glideOvertakes⟩, jf7_glideOvertakes⟩, jf8_glideOvertakes⟩, jf9_glideOvertakes⟩, jf10_glideOvertakes⟩, jf11_glideOvertakes⟩, jf12_glideOvertakes⟩, jf13_glideOvertakes⟩, jf14_glideOvertakes⟩, jf15_glideOvertakes⟩, jf16_glideOvertakes⟩, jf17_glideOvertakes⟩, jf18_glideOvertakes⟩, jf19_glideOvertakes⟩, jf20_glideOvertakes⟩, jf21_glideOvertakes⟩, jf22_glideOvertakes⟩, jf23_glideOvertakes⟩, jf24_glideOvertakes⟩, jf25_glideOvertakes⟩, jf26_glideOvertakes⟩, jf27_glideOvertakes⟩, jf28_glideOvertakes⟩, jf29_glideOvertakes⟩, jf30_glideOvertakes⟩, jf31_glideOvertakes⟩
theorem over_glideOvertakes : Rows.GlideOvertakesSaid :=
  OpenClaim.holds_of_wide 8 Tryz.f8 rfl rfl rfl rfl rfl rfl rfl ⟨rfl, rfl, rfl, rfl, rfl⟩ rfl rfl rfl rfl rfl (by kernel_rfl) Tryz.func8 jf_glideOvertakes
    (of_decide_eq_true (by kernel_rfl)) (by unfold Func.isWrapper; first | (rw [if_pos (by decide +kernel)]; kernel_rfl) | (rw [if_neg (by decide +kernel)]; exact ⟨rfl, rfl⟩))
    (fun os started H enc _ => lifted_glideOvertakes os started H enc)
/-- For every input the law GlideOvertakes returns true, and each argument reads afterwards as it read before; the listed package variables read as the program's text lays them (the card ties them). -/
theorem holds_glideOvertakes : Rows.GlideOvertakesCardSaid :=
  Claim7.holds_tied_plain_at .later [] [.data, .data, .data, .sentinel, .sentinel] true _ true
    over_glideOvertakes (fun _ h => by cases h) (by kernel_rfl) (fun _ h => by cases h) glideOvertakes_row_tie rfl ⟨rfl, rfl⟩ (by kernel_rfl) rfl
    (fun f fn hf hfn => by
      obtain rfl : f = 8 := Option.some.inj ((show Tryz.prog.funcNamed "luminaire/luminairelaw03.GlideOvertakes" = some 8 by kernel_rfl).symm.trans hf) |>.symm
      obtain rfl : fn = Tryz.f8 := (Option.some.inj (Tryz.func8.symm.trans hfn)).symm
      exact ⟨by kernel_rfl, fun j t ht => by
        rw [Tryz.params8] at ht
        have hm : t ∈ [24, 40, 3] := by simpa using Array.mem_of_getElem? ht
        have hall : ([24, 40, 3].all fun u => !Tryz.prog.wantsStandIn u) = true := by kernel_rfl
        exact (show Tryz.prog.wantsStandIn t = false by simpa using List.all_eq_true.1 hall t hm)⟩)
    (by kernel_rfl)
#print axioms holds_glideOvertakes
end Go.Proofs.YtffifpinnhaloaaGreatDoor
