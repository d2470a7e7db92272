/- Law 14: GroupSpreads and GroupCentres at any arguments of their types. -/
import Derived.Test.YtmcngnnbfmjajaaGpN
import Derived.Carry
import Derived.ProofKit
import Derived.OpenShut
import Derived.WalkKit
set_option linter.unusedVariables false
set_option linter.unusedSimpArgs false
namespace Go.Proofs.Ytmcngnnbfmjajaa
open Go.ChangeShapes Go.WideShapes Go.ChangeAt Go.RowKit
open Z
theorem spreadsW (a b k : Int) (w : World) (ha : (Lit.int .u16 a).wf = true) (hb : (Lit.int .u16 b).wf = true) (hk : (Lit.int .u8 k).wf = true) : Calls Try.prog 7 #[.int .u16 a, .int .u16 b, .int .u8 k] w fun e w' => e = .returned (.bool true) ∧ Gr w w' := by
  obtain ⟨h1, h2⟩ := bounds_u16 ha
  obtain ⟨h3, h4⟩ := bounds_u16 hb
  obtain ⟨h5, h6⟩ := bounds_u8 hk
  obtain ⟨m, rfl⟩ : ∃ m : Nat, k = (m : Int) := ⟨k.toNat, by omega⟩
  exact l14_GroupSpreads a b m w h1 h2 h3 h4 (by omega)
theorem centresW (a b k : Int) (w : World) (ha : (Lit.int .u16 a).wf = true) (hb : (Lit.int .u16 b).wf = true) (hk : (Lit.int .u8 k).wf = true) : Calls Try.prog 8 #[.int .u16 a, .int .u16 b, .int .u8 k] w fun e w' => e = .returned (.bool true) ∧ Gr w w' := by
  obtain ⟨h1, h2⟩ := bounds_u16 ha
  obtain ⟨h3, h4⟩ := bounds_u16 hb
  obtain ⟨h5, h6⟩ := bounds_u8 hk
  obtain ⟨m, rfl⟩ : ∃ m : Nat, k = (m : Int) := ⟨k.toNat, by omega⟩
  exact l14_GroupCentres a b m w h1 h2 h3 h4 (by omega)
end Go.Proofs.Ytmcngnnbfmjajaa
