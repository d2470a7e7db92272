/- Law 7: the reference's Scan. -/
import Derived.Test.YtlcpfhgobfjioaaDoorLxQ
set_option linter.unusedVariables false
set_option linter.unusedSimpArgs false
namespace Go.Proofs.YtlcpfhgobfjioaaDoor.Z
open Go
theorem kindR_err (l : List UInt8) (k : Nat) : (kindR l k).2.1 = 0 ∨ (kindR l k).2.1 = 4 := by
  unfold kindR
  split
  · simp
  · repeat' split
    all_goals simp
theorem tok_rtok (l : List UInt8) (k : Nat) : tokR l k = if (rtok l (skipB l k)).2 < 0 then ((0, [], 0), 4, skipB l k) else ((rtok l (skipB l k)).1, 0, (rtok l (skipB l k)).2.toNat) := by
  unfold tokR rtok
  rcases kindR_err l (skipB l k) with h | h
  · rw [h]; simp
  · rw [h]; simp
theorem rtok_at {l : List UInt8} {k : Nat} (h : ¬ (rtok l k).2 < 0) : (rtok l k).1.2.2 = (k : Int) := by
  unfold rtok at h ⊢
  split
  · rename_i h2; rw [if_pos h2] at h; simp at h
  · rfl
theorem rtok_le {l : List UInt8} {k : Nat} (hk : k ≤ l.length) : (rtok l k).2 ≤ l.length := by
  have := (kindR_le hk).2
  unfold rtok
  split
  · simp only; omega
  · simp only; omega
end Go.Proofs.YtlcpfhgobfjioaaDoor.Z
namespace Go.Proofs.YtlcpfhgobfjioaaDoor
open Go.RowKit Go.Shelf
open Z
end Go.Proofs.YtlcpfhgobfjioaaDoor
