/- LvD: Lv13, Lv14, Lv15, joined. -/
import Derived.Test.YtflkgkchoagphaaGreatDoorLvC
set_option linter.unusedVariables false
set_option linter.unusedSimpArgs false

/- The law's helper of layer 4: awake. -/
namespace Go.Proofs.YtflkgkchoagphaaGreatDoor
open Go.RowKit Go.Shelf
open Z

section
variable {w0 : World} (htab : Tab w0) (hmx : Mx w0) (herr : ErrR w0)
include htab hmx herr
end
end Go.Proofs.YtflkgkchoagphaaGreatDoor

/- Laws of layer 4. -/
namespace Go.Proofs.YtflkgkchoagphaaGreatDoor
open Go.RowKit Go.Shelf
open Z

section
variable {w0 : World} (htab : Tab w0) (hmx : Mx w0) (herr : ErrR w0)
include htab hmx herr
end
end Go.Proofs.YtflkgkchoagphaaGreatDoor

/- Laws of layer 4: LevelNearest, LevelReturns. -/
namespace Go.Proofs.YtflkgkchoagphaaGreatDoor
open Go.RowKit Go.Shelf
open Z

theorem sh_lvl {n : Int} (h0 : 0 ≤ n) (h1 : n ≤ 65535) : Sh 5 ((n : Int) : Rat) :=
  ⟨by rw [Rat.num_intCast]; exact (nDigits_le_iff _ 5 (by omega)).2 (by omega), by rw [Rat.den_intCast]; exact (nDigits_le_iff _ 5 (by omega)).2 (by omega)⟩
section
variable {w0 : World} (htab : Tab w0) (hmx : Mx w0) (herr : ErrR w0)
include htab hmx herr
end
end Go.Proofs.YtflkgkchoagphaaGreatDoor
