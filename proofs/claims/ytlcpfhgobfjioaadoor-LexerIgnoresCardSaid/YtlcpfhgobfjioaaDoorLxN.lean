/- Law 7: the reference's letter, digit, plain, sign, word, number, quoted. -/
import Derived.Test.YtlcpfhgobfjioaaDoorLxM
set_option linter.unusedVariables false
set_option linter.unusedSimpArgs false
namespace Go.Proofs.YtlcpfhgobfjioaaDoor
open Go.RowKit Go.Shelf
open Z
theorem byte_int (c : UInt8) (v : Nat) (hv : v < 256) : ((c.toNat : Int) == (v : Int)) = (c == UInt8.ofNat v) := by
  rw [Bool.eq_iff_iff, beq_iff_eq, beq_iff_eq]
  constructor
  · intro h
    rw [← UInt8.toNat_inj, show (UInt8.ofNat v).toNat = v from by simp; omega]
    omega
  · rintro rfl
    rw [show (UInt8.ofNat v).toNat = v from by simp; omega]
def signS : ByteArray := ⟨#[43, 45, 47, 46, 44, 64, 58, 61, 37, 40, 41]⟩
end Go.Proofs.YtlcpfhgobfjioaaDoor
