/- Value of chains, both sides. -/
import Derived.Test.YtflkgkchoagphaaGreatDoorGlD
import Derived.Test.YtflkgkchoagphaaGreatDoorGlMN
import Derived.Test.YtflkgkchoagphaaGreatDoorRange3
set_option linter.unusedVariables false
set_option linter.unusedSimpArgs false
namespace Go.Proofs.YtflkgkchoagphaaGreatDoor
open Go.RowKit Go.Shelf
open Z
attribute [local go_sem] Oper.semAt_some

theorem valE_ne {l : List Gl} {t : Int} (h : chainE l ≠ 0) : valE l t = (⟨#[]⟩, chainE l) := by unfold valE; rw [if_neg h]
theorem valE_nil (t : Int) : valE [] t = (⟨#[]⟩, 12) := by unfold valE; rw [if_pos (chainE_ok (by simp) (by simp)), if_pos rfl]
theorem valE_at {l : List Gl} {t : Int} {k : Nat} (h : chainE l = 0) (hk : IsAt l t k) : valE l t = ((l[k]'hk.1).at t, 0) := by
  unfold valE
  rw [if_pos h, if_neg (fun e => by have := hk.1; rw [e] at this; simp at this), valL_at hk]
theorem Fits.sz {l : List Gl} (h : Fits l) (h0 : chainE l = 0) : ∀ g ∈ l, g.f.size ≤ 1400 := h.resolve_left (by have := (chainE_zero h0).1; omega)
section
variable {w0 : World}
end
end Go.Proofs.YtflkgkchoagphaaGreatDoor
