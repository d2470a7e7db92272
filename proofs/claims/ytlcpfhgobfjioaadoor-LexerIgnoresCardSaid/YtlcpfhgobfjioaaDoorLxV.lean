/- Law 7: LexerWords and LexerQuotes. -/
import Derived.Test.YtlcpfhgobfjioaaDoorLxU
set_option linter.unusedVariables false
set_option linter.unusedSimpArgs false
namespace Go.Proofs.YtlcpfhgobfjioaaDoor
open Go.RowKit Go.Shelf
open Z
end Go.Proofs.YtlcpfhgobfjioaaDoor
