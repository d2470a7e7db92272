/- LxNR: LxN, LxO, LxP, LxQ, LxR, joined. -/
import Derived.Test.YtlcpfhgobfjioaaDoorLxKM
import Derived.Laws.Runes
set_option linter.unusedVariables false
set_option linter.unusedSimpArgs false

/- Law 7: the reference's letter, digit, plain, sign, word, number, quoted. -/
namespace Go.Proofs.YtlcpfhgobfjioaaDoor
open Go.RowKit Go.Shelf
open Z
end Go.Proofs.YtlcpfhgobfjioaaDoor

/- Law 7: the reference's word, number, quoted. -/
namespace Go.Proofs.YtlcpfhgobfjioaaDoor
open Go.RowKit Go.Shelf
open Z
end Go.Proofs.YtlcpfhgobfjioaaDoor

/- Law 7: the reference's Lower. -/
namespace Go.Proofs.YtlcpfhgobfjioaaDoor
open Go.RowKit Go.Shelf
open Z
end Go.Proofs.YtlcpfhgobfjioaaDoor

/- Law 7: the reference's Token. -/
namespace Go.Proofs.YtlcpfhgobfjioaaDoor.Z
open Go
end Go.Proofs.YtlcpfhgobfjioaaDoor.Z
namespace Go.Proofs.YtlcpfhgobfjioaaDoor
open Go.RowKit Go.Shelf
open Z
theorem prefix_cons (c : UInt8) (t : List UInt8) : Lib.hasPrefix (c :: t) [34] = (c == 34) := by
  unfold Lib.hasPrefix
  rw [Bool.eq_iff_iff]
  simp [List.isPrefixOf]
  exact eq_comm
end Go.Proofs.YtlcpfhgobfjioaaDoor

/- Law 7: the reference's Scan. -/
namespace Go.Proofs.YtlcpfhgobfjioaaDoor.Z
open Go
end Go.Proofs.YtlcpfhgobfjioaaDoor.Z
namespace Go.Proofs.YtlcpfhgobfjioaaDoor
open Go.RowKit Go.Shelf
open Z
end Go.Proofs.YtlcpfhgobfjioaaDoor
