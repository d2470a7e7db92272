/- Law 7: the reference's word, number, quoted. -/
import Derived.Test.YtlcpfhgobfjioaaDoorLxN
set_option linter.unusedVariables false
set_option linter.unusedSimpArgs false
namespace Go.Proofs.YtlcpfhgobfjioaaDoor
open Go.RowKit Go.Shelf
open Z
theorem byte95 (c : UInt8) : ((c.toNat : Int) == 95) = (c == 95) := byte_int c 95 (by decide)
theorem byte46 (c : UInt8) : ((c.toNat : Int) == 46) = (c == 46) := byte_int c 46 (by decide)
theorem byte34 (c : UInt8) : ((c.toNat : Int) == 34) = (c == 34) := byte_int c 34 (by decide)
theorem wordP_split {c : UInt8} (h1 : letP c = false) (h2 : isD c = false) : wordP c = ((c.toNat : Int) == 95) := by
  unfold wordP; rw [h1, h2, byte95]; simp
/-- the end of a text in quotes, or -1 -/
def quotedR (l : List UInt8) (k : Nat) : Int := if l[runK plainP l (k + 1)]? = some 34 then ((runK plainP l (k + 1) + 1 : Nat) : Int) else -1
end Go.Proofs.YtlcpfhgobfjioaaDoor
