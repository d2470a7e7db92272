/- For every input the law LexerReturns returns true, and each of its arguments reads afterwards as it read before. Conditions: the listed package variables of the library hold what the program text lays in them (the card ties that); nothing else. -/
import Derived.Test.YtlcpfhgobfjioaaDoorRow15
import Derived.Test.YtlcpfhgobfjioaaDoorLyH
import Derived.WalkKit
import Derived.ProofKit
import Derived.OpenShut
import Derived.ShutString
import Derived.LaidMore
import Derived.Lay
import Derived.Stop.Joined
import Derived.Stop.LaidErr
import Derived.SevenTiedAt
import Derived.Below
import Derived.ChangeOld
set_option linter.unusedVariables false
set_option linter.unusedSimpArgs false
namespace Go.Proofs.YtlcpfhgobfjioaaDoor
open Go.ChangeShapes Go.WideShapes Go.ChangeAt Go.RowKit

abbrev laid_lexerReturns : List (String × DataW Unit) := Rows.lexerReturnsRow.laid
set_option maxRecDepth 100000 in
theorem lifted_lexerReturns (os : Os) (started : os.Started) (H : Type) (enc : TypeId × Value → H) :
    ReturnsInHanded {} Tryd.checked os 3 .any (fun w args => (Rows.lexerReturnsSpec.pre enc Tryd.prog Tryd.f3 [] false w args ∧ laidMetH Tryd.prog laid_lexerReturns w) ∧ sizedMet enc Tryd.prog Tryd.f3 (OpenSpec.ofChange Rows.lexerReturnsSpec) false w args)
      (Rows.lexerReturnsSpec.post enc Tryd.prog Tryd.f3 false true false false) := by
  refine handed_shaped (C := Tryd.checked) (X := fun w _ => laidMetH Tryd.prog laid_lexerReturns w) (fun _ _ _ hh h => h.of_heap hh) own started (by kernel_rfl) Tryd.func3
    (ChangeSpec.witness_shaped (enc := enc) (C := Tryd.checked) (os := os) (X := fun w _ => laidMetH Tryd.prog laid_lexerReturns w) false (World.laidAll Tryd.prog os laid_lexerReturns) #[.slice none 0 0] 8 (World.laidAll_os _ _ _) (World.shaped_of_ZipB (by kernel_rfl) (by kernel_rfl)) (by kernel_rfl) (by kernel_rfl) (by kernel_rfl) (by rw [MakeChecks.laidMetH_plain _ _ _ (by kernel_rfl)]; exact laidMet_laidAll _ (by kernel_rfl) (by kernel_rfl))) ?_
  intro W base args ds gs before hval0 hW _ hwt hL hsh
  have hval : ∀ (j : Nat) t v, Tryd.f3.params[j]? = some t → args[j]? = some v → Value.okWide Tryd.prog W .any base t v := hval0
  have hW' := hW
  obtain ⟨p, q, hA0, hV, rfl, hfz, hnd⟩ := hW
  have hA : DataW.TrodAll enc Tryd.prog W 0 (fun _ => true) true Tryd.f3.params.toList args.toList ds p := hA0
  rw [Tryd.params3] at hA hval
  obtain ⟨v0, vs0, d0, ds0, p0, q0, hargs, rfl, rfl, h0, r0⟩ := trodAll_cons hA
  obtain ⟨rfl, rfl, rfl⟩ := trodAll_nil r0
  obtain rfl : args = #[v0] := by cases args; simp_all
  obtain ⟨rfl, rfl⟩ := trodVars_none hV
  obtain ⟨a0, l0, cap0, rfl, rd0, hl0, hm0, hw0⟩ := open_toks Tryd.underlying22 Tryd.underlying32 Tryd.underlying3 Tryd.underlying9 Tryd.underlying3 (by kernel_rfl) (by kernel_rfl) (by kernel_rfl) rfl rfl rfl (by kernel_rfl) (hval 0 22 v0 rfl rfl) h0
  have hb0 : l0.length * 32 ≤ 140737488355328 ∧ ∀ j (h : j < l0.length), l0[j].2.1.length ≤ 140737488355328 := by
    rcases hw0 with h | ⟨elems, rest, hd, he, hx⟩
    · exact ⟨by omega, fun j hj => absurd hj (by omega)⟩
    · have hs := sized_slice (j := 0) (t := 22) (e := 32) (elems := elems) (spare := rest) hwt (by kernel_rfl) (by rw [hd]; rfl) Tryd.underlying22
      rw [show Tryd.checked.prog.bytesOf 32 = 32 by kernel_rfl, he] at hs
      have h47 := reachBytes_lt
      refine ⟨by omega, fun j hj => ?_⟩
      obtain ⟨x, z, hm⟩ := hx j hj
      have hn := List.all_eq_true.1 hwt _ (DataW.weights_mem_each (j := 0) (t := 22) (by kernel_rfl) (by rw [hd]; rfl) l0[j].2.1.length (by
        have e1 : Tryd.checked.prog.underlying 22 = _ := Tryd.underlying22
        have e2 : Tryd.checked.prog.underlying 32 = _ := Tryd.underlying32
        simp only [DataW.weights, e1, List.mem_cons, List.mem_append]
        refine Or.inr (Or.inl (weightsAll_in hm _ ?_))
        simp [DataW.weights, e2, DataW.weightsEach]))
      have hn2 : l0[j].2.1.length ≤ reachBytes := by simpa using hn
      omega
  clear hA0 hval0
  simp only [List.append_nil] at hW'
  clear hL
  refine (l7_LexerReturns W rd0 (show l0.length ≤ 10000000000000 by omega) hb0.2).mono fun e W' ⟨he, bel⟩ => ?_
  subst he
  have bel' : Below W.heap.size W W' := bel
  exact ⟨_, rfl, _, _, _, [], _, [], hW', trodAll_mk1 (shut_bool Tryd.underlying4 _), (trodAll_cons_mk (arg_stays (by kernel_rfl) (of_decide_eq_true (by kernel_rfl)) h0 bel') trodAll_mk0), rfl, bel'.frame _, fun h => by cases h⟩
theorem over_lexerReturns : Rows.LexerReturnsSaid :=
  OpenClaim.holds_of_wide 3 Tryd.f3 rfl rfl rfl rfl rfl rfl rfl ⟨rfl, rfl, rfl, rfl, rfl⟩ rfl rfl rfl rfl rfl (by kernel_rfl) Tryd.func3 (by kernel_rfl)
    (of_decide_eq_true (by kernel_rfl)) (by unfold Func.isWrapper; first | (rw [if_pos (by decide +kernel)]; kernel_rfl) | (rw [if_neg (by decide +kernel)]; exact ⟨rfl, rfl⟩))
    (fun os started H enc _ => lifted_lexerReturns os started H enc)
/-- For every input the law LexerReturns returns true, and each argument reads afterwards as it read before; the listed package variables read as the program's text lays them (the card ties them). -/
theorem holds_lexerReturns : Rows.LexerReturnsCardSaid :=
  Claim7.holds_tied_plain_at .later [] [.data, .pinned, .pinned] true _ false
    over_lexerReturns (fun _ h => by cases h) (by kernel_rfl) (fun _ h => by cases h) lexerReturns_row_tie rfl ⟨rfl, rfl⟩ (by kernel_rfl) rfl
    (fun f fn hf hfn => by
      obtain rfl : f = 3 := Option.some.inj ((show Tryd.prog.funcNamed "luminaire/luminairelaw07.LexerReturns" = some 3 by kernel_rfl).symm.trans hf) |>.symm
      obtain rfl : fn = Tryd.f3 := (Option.some.inj (Tryd.func3.symm.trans hfn)).symm
      exact ⟨by kernel_rfl, fun j t ht => by
        rw [Tryd.params3] at ht
        have hm : t ∈ [22] := by simpa using Array.mem_of_getElem? ht
        have hall : ([22].all fun u => !Tryd.prog.wantsStandIn u) = true := by kernel_rfl
        exact (show Tryd.prog.wantsStandIn t = false by simpa using List.all_eq_true.1 hall t hm)⟩)
    (by kernel_rfl)
#print axioms holds_lexerReturns
end Go.Proofs.YtlcpfhgobfjioaaDoor
