/- For every input the law TopRangesAlgebra returns true, and each of its arguments reads afterwards as it read before. Conditions: the listed package variables of the library hold what the program text lays in them (the card ties that); nothing else. -/
import Derived.Test.YtjideokeokmbaaaGreatDoorRow13
import Derived.Test.YtjideokeokmbaaaGreatDoorTpK
import Derived.WalkKit
import Derived.ProofKit
import Derived.OpenShut
import Derived.ShutString
import Derived.LaidMore
import Derived.Lay
import Derived.Stop.Joined
import Derived.Stop.LaidErr
import Derived.SevenTiedAt
import Derived.Below
import Derived.ChangeOld
set_option linter.unusedVariables false
set_option linter.unusedSimpArgs false
namespace Go.Proofs.YtjideokeokmbaaaGreatDoor
open Go.ChangeShapes Go.WideShapes Go.ChangeAt Go.RowKit

abbrev laid_topRangesAlgebra : List (String × DataW Unit) := Rows.topRangesAlgebraRow.laid
set_option maxHeartbeats 4000000 in
set_option maxRecDepth 100000 in
theorem lifted_topRangesAlgebra (os : Os) (started : os.Started) (H : Type) (enc : TypeId × Value → H) :
    ReturnsInHanded {} Tryz.checked os 3 .any (fun w args => (Rows.topRangesAlgebraSpec.pre enc Tryz.prog Tryz.f3 [] false w args ∧ laidMetH Tryz.prog laid_topRangesAlgebra w) ∧ sizedMet enc Tryz.prog Tryz.f3 (OpenSpec.ofChange Rows.topRangesAlgebraSpec) false w args)
      (Rows.topRangesAlgebraSpec.post enc Tryz.prog Tryz.f3 false true false false) := by
  refine handed_shaped (C := Tryz.checked) (X := fun w _ => laidMetH Tryz.prog laid_topRangesAlgebra w) (fun _ _ _ hh h => h.of_heap hh) own started (by kernel_rfl) Tryz.func3
    (ChangeSpec.witness_shaped (enc := enc) (C := Tryz.checked) (os := os) (X := fun w _ => laidMetH Tryz.prog laid_topRangesAlgebra w) false (World.laidAll Tryz.prog os laid_topRangesAlgebra) #[.slice none 0 0, .slice none 0 0, .slice none 0 0] 8 (World.laidAll_os _ _ _) (World.shaped_of_ZipB (by kernel_rfl) (by kernel_rfl)) (by kernel_rfl) (by kernel_rfl) (by kernel_rfl) (by rw [MakeChecks.laidMetH_plain _ _ _ (by kernel_rfl)]; exact laidMet_laidAll _ (by kernel_rfl) (by kernel_rfl))) ?_
  intro W base args ds gs before hval0 hW _ hwt hL hsh
  have hval : ∀ (j : Nat) t v, Tryz.f3.params[j]? = some t → args[j]? = some v → Value.okWide Tryz.prog W .any base t v := hval0
  have hW' := hW
  obtain ⟨p, q, hA0, hV, rfl, hfz, hnd⟩ := hW
  have hA : DataW.TrodAll enc Tryz.prog W 0 (fun _ => true) true Tryz.f3.params.toList args.toList ds p := hA0
  rw [Tryz.params3] at hA hval
  obtain ⟨v0, vs0, d0, ds0, p0, q0, hargs, rfl, rfl, h0, r0⟩ := trodAll_cons hA
  obtain ⟨v1, vs1, d1, ds1, p1, q1, rfl, rfl, rfl, h1, r1⟩ := trodAll_cons r0
  obtain ⟨v2, vs2, d2, ds2, p2, q2, rfl, rfl, rfl, h2, r2⟩ := trodAll_cons r1
  obtain ⟨rfl, rfl, rfl⟩ := trodAll_nil r2
  obtain rfl : args = #[v0, v1, v2] := by cases args; simp_all
  obtain ⟨rfl, rfl⟩ := trodVars_none hV
  obtain ⟨a0, l0, cap0, rfl, rd0, hz0, hp0, hl0, hm0, hw0⟩ := open_rngs Tryz.underlying22 Tryz.underlying37 Tryz.underlying3 Tryz.underlying3 (by kernel_rfl) (by kernel_rfl) rfl rfl (by kernel_rfl) (hval 0 22 v0 rfl rfl) h0
  have hb0 : l0.length * 16 ≤ 140737488355328 := by
    rcases hw0 with h | ⟨elems, rest, hd, he⟩
    · rw [h]; decide
    · have hs := sized_slice (j := 0) (t := 22) (e := 37) (elems := elems) (spare := rest) hwt (by kernel_rfl) (by rw [hd]; rfl) Tryz.underlying22
      rw [show Tryz.checked.prog.bytesOf 37 = 16 by kernel_rfl, he] at hs
      have h47 := reachBytes_lt
      omega
  obtain ⟨a1, l1, cap1, rfl, rd1, hz1, hp1, hl1, hm1, hw1⟩ := open_rngs Tryz.underlying22 Tryz.underlying37 Tryz.underlying3 Tryz.underlying3 (by kernel_rfl) (by kernel_rfl) rfl rfl (by kernel_rfl) (hval 1 22 v1 rfl rfl) h1
  have hb1 : l1.length * 16 ≤ 140737488355328 := by
    rcases hw1 with h | ⟨elems, rest, hd, he⟩
    · rw [h]; decide
    · have hs := sized_slice (j := 1) (t := 22) (e := 37) (elems := elems) (spare := rest) hwt (by kernel_rfl) (by rw [hd]; rfl) Tryz.underlying22
      rw [show Tryz.checked.prog.bytesOf 37 = 16 by kernel_rfl, he] at hs
      have h47 := reachBytes_lt
      omega
  obtain ⟨a2, l2, cap2, rfl, rd2, hz2, hp2, hl2, hm2, hw2⟩ := open_rngs Tryz.underlying22 Tryz.underlying37 Tryz.underlying3 Tryz.underlying3 (by kernel_rfl) (by kernel_rfl) rfl rfl (by kernel_rfl) (hval 2 22 v2 rfl rfl) h2
  have hb2 : l2.length * 16 ≤ 140737488355328 := by
    rcases hw2 with h | ⟨elems, rest, hd, he⟩
    · rw [h]; decide
    · have hs := sized_slice (j := 2) (t := 22) (e := 37) (elems := elems) (spare := rest) hwt (by kernel_rfl) (by rw [hd]; rfl) Tryz.underlying22
      rw [show Tryz.checked.prog.bytesOf 37 = 16 by kernel_rfl, he] at hs
      have h47 := reachBytes_lt
      omega
  clear hA0 hval0
  simp only [List.append_nil] at hW'
  rw [MakeChecks.laidMetH_plain _ _ _ (by kernel_rfl)] at hL
  have htab : Tab W := tab_of_head hL.tail.tail
  refine (top_TopRangesAlgebra htab rd0 hz0 hp0 (show l0.length ≤ 8796093022208 by omega) rd1 hz1 hp1 (show l1.length ≤ 8796093022208 by omega) rd2 hz2 hp2 (show l2.length ≤ 8796093022208 by omega) W (Gr.refl W)).mono fun e W' ⟨he, bel⟩ => ?_
  subst he
  have bel' : Below W.heap.size W W' := bel
  exact ⟨_, rfl, _, _, _, [], _, [], hW', trodAll_mk1 (shut_bool Tryz.underlying4 _), (trodAll_cons_mk (arg_stays (by kernel_rfl) (of_decide_eq_true (by kernel_rfl)) h0 bel') (trodAll_cons_mk (arg_stays (by kernel_rfl) (of_decide_eq_true (by kernel_rfl)) h1 bel') (trodAll_cons_mk (arg_stays (by kernel_rfl) (of_decide_eq_true (by kernel_rfl)) h2 bel') trodAll_mk0))), rfl, bel'.frame _, fun h => by cases h⟩
theorem over_topRangesAlgebra : Rows.TopRangesAlgebraSaid :=
  OpenClaim.holds_of_wide 3 Tryz.f3 rfl rfl rfl rfl rfl rfl rfl ⟨rfl, rfl, rfl, rfl, rfl⟩ rfl rfl rfl rfl rfl (by kernel_rfl) Tryz.func3 (by kernel_rfl)
    (of_decide_eq_true (by kernel_rfl)) (by unfold Func.isWrapper; first | (rw [if_pos (by decide +kernel)]; kernel_rfl) | (rw [if_neg (by decide +kernel)]; exact ⟨rfl, rfl⟩))
    (fun os started H enc _ => lifted_topRangesAlgebra os started H enc)
/-- For every input the law TopRangesAlgebra returns true, and each argument reads afterwards as it read before; the listed package variables read as the program's text lays them (the card ties them). -/
theorem holds_topRangesAlgebra : Rows.TopRangesAlgebraCardSaid :=
  Claim7.holds_tied_plain_at .later [] [.data, .data, .data, .data, .pinned] true _ false
    over_topRangesAlgebra (fun _ h => by cases h) (by kernel_rfl) (fun _ h => by cases h) topRangesAlgebra_row_tie rfl ⟨rfl, rfl⟩ (by kernel_rfl) rfl
    (fun f fn hf hfn => by
      obtain rfl : f = 3 := Option.some.inj ((show Tryz.prog.funcNamed "luminaire/luminairetop.TopRangesAlgebra" = some 3 by kernel_rfl).symm.trans hf) |>.symm
      obtain rfl : fn = Tryz.f3 := (Option.some.inj (Tryz.func3.symm.trans hfn)).symm
      exact ⟨by kernel_rfl, fun j t ht => by
        rw [Tryz.params3] at ht
        have hm : t ∈ [22, 22, 22] := by simpa using Array.mem_of_getElem? ht
        have hall : ([22, 22, 22].all fun u => !Tryz.prog.wantsStandIn u) = true := by kernel_rfl
        exact (show Tryz.prog.wantsStandIn t = false by simpa using List.all_eq_true.1 hall t hm)⟩)
    (by kernel_rfl)
#print axioms holds_topRangesAlgebra
end Go.Proofs.YtjideokeokmbaaaGreatDoor
