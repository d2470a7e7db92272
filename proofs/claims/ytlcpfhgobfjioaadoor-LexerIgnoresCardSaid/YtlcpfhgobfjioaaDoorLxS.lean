/- Law 7: LexerScans. -/
import Derived.Test.YtlcpfhgobfjioaaDoorLxR
set_option linter.unusedVariables false
set_option linter.unusedSimpArgs false
namespace Go.Proofs.YtlcpfhgobfjioaaDoor.Z
open Go
theorem scanF_len (l : List UInt8) : ∀ n out k, (scanF l n out k).1.length ≤ out.length + n := by
  intro n
  induction n with
  | zero => intro out k; simp [scanF]
  | succ n ih =>
    intro out k
    unfold scanF
    split
    · simp
    · split
      · simp
      · split
        · simp
        · have := ih (out ++ [(tokR l k).1]) (tokR l k).2.2
          simp only [List.length_append, List.length_singleton] at this
          omega
theorem scanR_len (l : List UInt8) : (scanR l).1.length ≤ 257 := by
  unfold scanR
  split
  · simp
  · have := scanF_len l 257 [] 0
    simpa using this
end Go.Proofs.YtlcpfhgobfjioaaDoor.Z
namespace Go.Proofs.YtlcpfhgobfjioaaDoor
open Go.RowKit Go.Shelf
open Z
end Go.Proofs.YtlcpfhgobfjioaaDoor
