/- Rational numbers: the laws that the statements of layer 2 ask for. -/
import Derived.Test.YtflkgkchoagphaaGreatDoorRatA
set_option linter.unusedVariables false
set_option linter.unusedSimpArgs false
namespace Go.Proofs.YtflkgkchoagphaaGreatDoor
open Go.RowKit
open Z

theorem mix_ge {a b w : Rat} (h : a ≤ b) (h0 : 0 ≤ w) (h1 : w ≤ 1) : a ≤ a + (b - a) * w ∧ a + (b - a) * w ≤ b := by
  have d : 0 ≤ b - a := by rw [← Rat.le_iff_sub_nonneg]; exact h
  have e : 0 ≤ 1 - w := by rw [← Rat.le_iff_sub_nonneg]; exact h1
  have p := Rat.mul_nonneg d h0
  have q := Rat.mul_nonneg d e
  constructor <;> grind
theorem mix_le {a b w : Rat} (h : b ≤ a) (h0 : 0 ≤ w) (h1 : w ≤ 1) : b ≤ a + (b - a) * w ∧ a + (b - a) * w ≤ a := by
  have d : 0 ≤ a - b := by rw [← Rat.le_iff_sub_nonneg]; exact h
  have e : 0 ≤ 1 - w := by rw [← Rat.le_iff_sub_nonneg]; exact h1
  have p := Rat.mul_nonneg d h0
  have q := Rat.mul_nonneg d e
  constructor <;> grind
end Go.Proofs.YtflkgkchoagphaaGreatDoor
