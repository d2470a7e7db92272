/- The law's helpers of layer 2: awake and short. -/
import Derived.Test.YtflkgkchoagphaaGreatDoorRatF
set_option linter.unusedVariables false
set_option linter.unusedSimpArgs false
namespace Go.Proofs.YtflkgkchoagphaaGreatDoor
open Go.RowKit Go.Shelf
open Z

theorem mix_sh {k k' j : Nat} {a b w : Rat} (ha : Sh k a) (hb : Sh k' b) (hw : Sh j w) (hk : k + k' + j + 2 + k ≤ 4096) : mixR (RT a) (RT b) (RT w) = (RT (a + (b - a) * w), 0) := by
  have := ha.pos; have := hb.pos; have := hw.pos
  have ia := ha.inR (by omega)
  have ib := hb.inR (by omega)
  have iw := hw.inR (by omega)
  have hd : Sh (k' + k + 1) (b - a) := hb.sub ha
  have hm : Sh (k' + k + 1 + j) ((b - a) * w) := hd.mul hw
  have d : op2 (RT b) (RT a) subR = (RT (b - a), 0) := by rw [op2_ok ib ia, subR_sh hb ha (by omega)]
  have m : op2 (RT (b - a)) (RT w) mulR = (RT ((b - a) * w), 0) := by rw [op2_ok (hd.inR (by omega)) iw, mulR_sh hd hw (by omega)]
  have r : op2 (RT a) (RT ((b - a) * w)) addR = (RT (a + (b - a) * w), 0) := by rw [op2_ok ia (hm.inR (by omega)), addR_sh ha hm (by omega)]
  have h := mixR_then (s := RT a) (t := RT b) (u := RT w) (three_zero.2 ⟨chkS_RT ia, chkS_RT ib, chkS_RT iw⟩) (RT (b - a), 0) (RT ((b - a) * w), 0) (RT (a + (b - a) * w), 0) d m r
  rw [h]; rfl
theorem RetG.of {w0 : World} {f : FuncId} {args : Array Value} {v : Value} (h : ∀ w1, Gr w0 w1 → Ret w1 f args v) : RetG w0 f args v := fun w hg => h w hg w (Gr.refl w)
section
variable {w0 : World} (htab : Tab w0) (hmx : Mx w0)
include htab hmx
end
end Go.Proofs.YtflkgkchoagphaaGreatDoor
