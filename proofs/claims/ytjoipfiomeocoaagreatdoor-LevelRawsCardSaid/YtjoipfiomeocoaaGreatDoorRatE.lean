/- RatE: Rat16, Rat18, Rat17, joined. -/
import Derived.Test.YtjoipfiomeocoaaGreatDoorRatD
import Derived.Test.YtjoipfiomeocoaaGreatDoorRatB
set_option linter.unusedVariables false
set_option linter.unusedSimpArgs false

/- The program's rational numbers: calculate, for + and -. -/
namespace Go.Proofs.YtjoipfiomeocoaaGreatDoor
open Go.RowKit Go.Shelf
open Z
attribute [local go_sem ↓] Go.wp_at_zero Go.wp_at_succ

section
variable {w0 : World}
end
end Go.Proofs.YtjoipfiomeocoaaGreatDoor

/- The program's rational numbers: calculate, for * and /. -/
namespace Go.Proofs.YtjoipfiomeocoaaGreatDoor
open Go.RowKit Go.Shelf
open Z
attribute [local go_sem ↓] Go.wp_at_zero Go.wp_at_succ

section
variable {w0 : World}
end
end Go.Proofs.YtjoipfiomeocoaaGreatDoor

/- The program's rational numbers: what is exported. -/
namespace Go.Proofs.YtjoipfiomeocoaaGreatDoor
open Go.RowKit Go.Shelf
open Z

theorem RT_small {r : Rat} (h : InR r) : (RT r).size ≤ 400000 := by have := RT_size h.sh; omega
section
variable {w0 : World} (htab : Tab w0) (hmx : Mx w0)
include htab hmx
theorem retG_read {s : ByteArray} (hs : s.size ≤ 400000) : RetG w0 72 #[.string s] (.tuple #[vFr (rT s) (rB s), .int .i64 (chkS s)]) := fun w hg => q_read s hs w (hmx.gr hg) (htab_gr htab hg)
omit hmx in
end
end Go.Proofs.YtjoipfiomeocoaaGreatDoor
