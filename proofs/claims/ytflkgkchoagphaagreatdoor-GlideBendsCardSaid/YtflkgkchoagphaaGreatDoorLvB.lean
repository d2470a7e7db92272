/- LvB: Lv06, Lv07, Lv08, Lv09, joined. -/
import Derived.Test.YtflkgkchoagphaaGreatDoorLvA
import Derived.Test.YtflkgkchoagphaaGreatDoorShelf
import Derived.Lib.IndexLaws
import Derived.Test.YtflkgkchoagphaaGreatDoorIntG
set_option linter.unusedVariables false
set_option linter.unusedSimpArgs false

/- Levels: the program's percentages. -/
namespace Go.Proofs.YtflkgkchoagphaaGreatDoor
open Go.RowKit Go.Shelf
open Z

end Go.Proofs.YtflkgkchoagphaaGreatDoor

/- Levels: the program's Percent. -/
namespace Go.Proofs.YtflkgkchoagphaaGreatDoor
open Go.RowKit Go.Shelf
open Z

end Go.Proofs.YtflkgkchoagphaaGreatDoor

/- Levels: the program's least and Text. -/
namespace Go.Proofs.YtflkgkchoagphaaGreatDoor
open Go.RowKit Go.Shelf
open Z

theorem Tx_nat_data (n : Nat) : (Tx (n : Int)).data.toList = Lib.decDigits n := by rw [data_Tx]; unfold Lib.itoa; rw [if_neg (by omega)]; simp
theorem Tx_small {n : Nat} (h : n ≤ 100000) : (Tx (n : Int)).size ≤ 100 ∧ 1 ≤ (Tx (n : Int)).size := by
  have h1 : (Tx (n : Int)).size = (Lib.decDigits n).length := by rw [← Tx_nat_data]; simp
  have h2 := Lib.decDigits_length n
  have h3 := Lib.nDigits_pos n
  have h4 : Lib.nDigits n ≤ 100 := (nDigits_le_iff n 100 (by omega)).2 (by omega)
  omega
end Go.Proofs.YtflkgkchoagphaaGreatDoor

/- Levels: texts, both sides. -/
namespace Go.Proofs.YtflkgkchoagphaaGreatDoor
open Go.RowKit Go.Shelf
open Z

end Go.Proofs.YtflkgkchoagphaaGreatDoor
