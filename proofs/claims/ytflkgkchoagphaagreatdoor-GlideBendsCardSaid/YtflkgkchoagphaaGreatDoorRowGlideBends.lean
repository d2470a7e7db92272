/- For every input the law GlideBends returns true, and each of its arguments reads afterwards as it read before. Conditions: the listed package variables of the library hold what the program text lays in them (the card ties that); nothing else. -/
import Derived.Test.YtflkgkchoagphaaGreatDoorRowG
import Derived.Test.YtflkgkchoagphaaGreatDoorLaw03h
import Derived.Test.YtflkgkchoagphaaGreatDoorRwbGlideBends
import Derived.WalkKit
import Derived.ProofKit
import Derived.OpenShut
import Derived.ShutString
import Derived.LaidMore
import Derived.Stop.Joined
import Derived.Stop.LaidErr
import Derived.SevenTiedAt
import Derived.Below
import Derived.ChangeOld
set_option linter.unusedVariables false
set_option linter.unusedSimpArgs false
namespace Go.Proofs.YtflkgkchoagphaaGreatDoor
open Go.ChangeShapes Go.WideShapes Go.ChangeAt Go.RowKit

abbrev laid_glideBends : List (String × DataW Unit) := Rows.glideBendsRow.laid
theorem door_glideBends (os : Os) (args : Array Value) : laidMetH Tryz.prog laid_glideBends ((World.doorLaid Tryz.prog 62 os).forCall (fun _ _ => 0) ⟨#[], args, []⟩).memory :=
  laidMetH_of_parts3 (fuel := 8) (laidMet_of_run' 8 (by kernel_rfl) (by kernel_rfl)) (by kernel_rfl) (by kernel_rfl)
set_option maxRecDepth 100000 in
theorem lifted_glideBends (os : Os) (started : os.Started) (H : Type) (enc : TypeId × Value → H) :
    ReturnsInHanded {} Tryz.checked os 9 .any (fun w args => (Rows.glideBendsSpec.pre enc Tryz.prog Tryz.f9 [] false w args ∧ laidMetH Tryz.prog laid_glideBends w) ∧ sizedMet enc Tryz.prog Tryz.f9 (OpenSpec.ofChange Rows.glideBendsSpec) false w args)
      (Rows.glideBendsSpec.post enc Tryz.prog Tryz.f9 false true false false) := by
  refine handed_shaped (C := Tryz.checked) (X := fun w _ => laidMetH Tryz.prog laid_glideBends w) (fun _ _ _ hh h => h.of_heap hh) own started (by kernel_rfl) Tryz.func9
    (ChangeSpec.witness_shaped (enc := enc) (C := Tryz.checked) (os := os) (X := fun w _ => laidMetH Tryz.prog laid_glideBends w) false (World.doorLaid Tryz.prog 62 os) #[.agg #[.string ByteArray.empty, .int .i64 0, .int .i64 0, .int .i64 0], .slice none 0 0, .int .i64 0] 8 rfl (World.shaped_of_RefB (by kernel_rfl) (by kernel_rfl)) (by kernel_rfl) (by kernel_rfl) (by kernel_rfl) (door_glideBends os _)) ?_
  intro W base args ds gs before hval0 hW _ hwt hL hsh
  have hmx : Mx W := mx_of_shape hsh
  have hval : ∀ (j : Nat) t v, Tryz.f9.params[j]? = some t → args[j]? = some v → Value.okWide Tryz.prog W .any base t v := hval0
  have hW' := hW
  obtain ⟨p, q, hA0, hV, rfl, hfz, hnd⟩ := hW
  have hA : DataW.TrodAll enc Tryz.prog W 0 (fun _ => true) true Tryz.f9.params.toList args.toList ds p := hA0
  rw [Tryz.params9] at hA hval
  obtain ⟨v0, vs0, d0, ds0, p0, q0, hargs, rfl, rfl, h0, r0⟩ := trodAll_cons hA
  obtain ⟨v1, vs1, d1, ds1, p1, q1, rfl, rfl, rfl, h1, r1⟩ := trodAll_cons r0
  obtain ⟨v2, vs2, d2, ds2, p2, q2, rfl, rfl, rfl, h2, r2⟩ := trodAll_cons r1
  obtain ⟨rfl, rfl, rfl⟩ := trodAll_nil r2
  obtain rfl : args = #[v0, v1, v2] := by cases args; simp_all
  obtain ⟨rfl, rfl⟩ := trodVars_none hV
  obtain ⟨g0, rfl, sz0, is0⟩ := open_glide (hval 0 24 v0 rfl rfl) h0
  obtain ⟨a1, l1, cap1, rfl, hl1, hm1, rd1, all1⟩ := open_turns Tryz.underlying74 Tryz.underlying40 rfl rfl rfl rfl rfl rfl (by kernel_rfl) (hval 1 74 v1 rfl rfl) h1
  obtain ⟨a2, rfl, -, -, w2⟩ := open_int Tryz.underlying3 (hval 2 3 v2 rfl rfl) h2
  clear hA0 hval0
  simp only [List.append_nil] at hW'
  rw [MakeChecks.laidMetH_plain _ _ _ (by kernel_rfl)] at hL
  have htab : Tab W := tab_of_head hL.tail.tail
  have herr : ErrR W := err_of_head hL.tail.tail.tail
  refine (l3_GlideBends htab hmx herr sz0 is0 rd1 all1 hl1 hm1 (isI_of w2) W (Gr.refl W)).mono fun e W' ⟨he, bel⟩ => ?_
  subst he
  have bel' : Below W.heap.size W W' := bel
  exact ⟨_, rfl, _, _, _, [], _, [], hW', trodAll_mk1 (shut_bool Tryz.underlying4 _), (trodAll_cons_mk (arg_stays (by kernel_rfl) (of_decide_eq_true (by kernel_rfl)) h0 bel') (trodAll_cons_mk (arg_stays (by kernel_rfl) (of_decide_eq_true (by kernel_rfl)) h1 bel') (trodAll_cons_mk (arg_stays (by kernel_rfl) (of_decide_eq_true (by kernel_rfl)) h2 bel') trodAll_mk0))), rfl, bel'.frame _, fun h => by cases h⟩
set_option maxRecDepth 1000000 in
theorem jf_glideBends : joinedFacts Tryz.prog 9 Tryz.f9 Rows.glideBendsSpec Rows.glideBendsRow = true := by
  unfold joinedFacts
  simp only [Bool.and_eq_true]
  exact ⟨⟨⟨⟨⟨⟨⟨⟨⟨⟨⟨⟨⟨⟨⟨⟨⟨⟨⟨⟨⟨⟨⟨⟨⟨⟨⟨⟨⟨⟨⟨jf0_glideBends, laidOut⟩, jf2_glideBends⟩, jf3_glideBends⟩, jf4_glideBends⟩, jf5_glideBends⟩, jf6_glideBends⟩, jf7_glideBends⟩, jf8_glideBends⟩, jf9_glideBends⟩, jf10_glideBends⟩, jf11_glideBends⟩, jf12_glideBends⟩, jf13_glideBends⟩, jf14_glideBends⟩, jf15_glideBends⟩, jf16_glideBends⟩, jf17_glideBends⟩, jf18_glideBends⟩, jf19_glideBends⟩, jf20_glideBends⟩, jf21_glideBends⟩, jf22_glideBends⟩, jf23_glideBends⟩, jf24_glideBends⟩, jf25_glideBends⟩, jf26_glideBends⟩, jf27_glideBends⟩, jf28_glideBends⟩, jf29_glideBends⟩, jf30_glideBends⟩, jf31_glideBends⟩
theorem over_glideBends : Rows.GlideBendsSaid :=
  OpenClaim.holds_of_wide 9 Tryz.f9 rfl rfl rfl rfl rfl rfl rfl ⟨rfl, rfl, rfl, rfl, rfl⟩ rfl rfl rfl rfl rfl (by kernel_rfl) Tryz.func9 jf_glideBends
    (of_decide_eq_true (by kernel_rfl)) (by unfold Func.isWrapper; first | (rw [if_pos (by decide +kernel)]; kernel_rfl) | (rw [if_neg (by decide +kernel)]; exact ⟨rfl, rfl⟩))
    (fun os started H enc _ => lifted_glideBends os started H enc)
/-- For every input the law GlideBends returns true, and each argument reads afterwards as it read before; the listed package variables read as the program's text lays them (the card ties them). -/
theorem holds_glideBends : Rows.GlideBendsCardSaid :=
  Claim7.holds_tied_plain_at .later [] [.data, .data, .data, .sentinel, .sentinel] true _ true
    over_glideBends (fun _ h => by cases h) (by kernel_rfl) (fun _ h => by cases h) glideBends_row_tie rfl ⟨rfl, rfl⟩ (by kernel_rfl) rfl
    (fun f fn hf hfn => by
      obtain rfl : f = 9 := Option.some.inj ((show Tryz.prog.funcNamed "luminaire/luminairelaw03.GlideBends" = some 9 by kernel_rfl).symm.trans hf) |>.symm
      obtain rfl : fn = Tryz.f9 := (Option.some.inj (Tryz.func9.symm.trans hfn)).symm
      exact ⟨by kernel_rfl, fun j t ht => by
        rw [Tryz.params9] at ht
        have hm : t ∈ [24, 74, 3] := by simpa using Array.mem_of_getElem? ht
        have hall : ([24, 74, 3].all fun u => !Tryz.prog.wantsStandIn u) = true := by kernel_rfl
        exact (show Tryz.prog.wantsStandIn t = false by simpa using List.all_eq_true.1 hall t hm)⟩)
    (by kernel_rfl)
#print axioms holds_glideBends
end Go.Proofs.YtflkgkchoagphaaGreatDoor
