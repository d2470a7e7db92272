/- Law 6: the reference's Make, Of. -/
import Derived.Test.YtjideokeokmbaaaGreatDoorRbK
set_option linter.unusedVariables false
set_option linter.unusedSimpArgs false
namespace Go.Proofs.YtjideokeokmbaaaGreatDoor
open Go.RowKit Go.Shelf
open Z
end Go.Proofs.YtjideokeokmbaaaGreatDoor
