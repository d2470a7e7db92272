/- Law 7: the reference's Lower. -/
import Derived.Test.YtlcpfhgobfjioaaDoorLxO
import Derived.Laws.Runes
set_option linter.unusedVariables false
set_option linter.unusedSimpArgs false
namespace Go.Proofs.YtlcpfhgobfjioaaDoor
open Go.RowKit Go.Shelf
open Z
theorem enc_ascii : ∀ u : Nat, u < 128 → Utf8.encode (u : Int) = ⟨#[UInt8.ofNat u]⟩ := by decide +kernel
theorem lowerB_nat (c : UInt8) : ∀ (_ : c.toNat < 128), Lib.lowerB c = UInt8.ofNat (if 65 ≤ c.toNat ∧ c.toNat ≤ 90 then c.toNat + 32 else c.toNat) := by
  have h : ∀ n, n < 128 → Lib.lowerB (UInt8.ofNat n) = UInt8.ofNat (if 65 ≤ n ∧ n ≤ 90 then n + 32 else n) := by decide +kernel
  intro hc
  have := h c.toNat hc
  rwa [UInt8.ofNat_toNat] at this
end Go.Proofs.YtlcpfhgobfjioaaDoor
