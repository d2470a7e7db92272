/- LvA: Lv01, Lv03, Lv04, Lv05, joined. -/
import Derived.Test.YtflkgkchoagphaaGreatDoorMath
import Derived.Test.YtflkgkchoagphaaGreatDoorRet0
import Derived.Test.YtflkgkchoagphaaGreatDoorRefB
set_option linter.unusedVariables false
set_option linter.unusedSimpArgs false

/- Plain mathematics of percentages: levels of texts, texts of levels. No program. -/
namespace Go.Proofs.YtflkgkchoagphaaGreatDoor.Z
open Go

theorem allGet {α : Type} {l : List α} {p : α → Bool} (h : ∀ j (h : j < l.length), p l[j] = true) : l.all p = true := by
  rw [List.all_eq_true]
  intro x hx
  obtain ⟨j, hj, rfl⟩ := List.getElem_of_mem hx
  exact h j hj
theorem allNot {α : Type} {l : List α} {p : α → Bool} {j : Nat} (hj : j < l.length) (h : p l[j] = false) : l.all p = false := by
  rw [List.all_eq_false]
  exact ⟨_, List.getElem_mem hj, by simp [h]⟩
def before (l : List UInt8) : List UInt8 := l.takeWhile (· != 46)
def behind (l : List UInt8) : List UInt8 := (l.dropWhile (· != 46)).tail
end Go.Proofs.YtflkgkchoagphaaGreatDoor.Z

/- The reference of levels: small functions. -/
namespace Go.Proofs.YtflkgkchoagphaaGreatDoor
open Go.RowKit
open Z

def isJ (n : Int) : Prop := -9223372036854775808 ≤ n ∧ n ≤ 9223372036854775807
/-- whether an int is a level -/
def lvl (v : Int) : Bool := decide (0 ≤ v) && decide (v ≤ 65535)
end Go.Proofs.YtflkgkchoagphaaGreatDoor

/- The reference of levels: percentages. -/

namespace Go.Proofs.YtflkgkchoagphaaGreatDoor
open Go.RowKit
open Z

end Go.Proofs.YtflkgkchoagphaaGreatDoor

/- The reference of levels: Percent. -/
namespace Go.Proofs.YtflkgkchoagphaaGreatDoor
open Go.RowKit
open Z

end Go.Proofs.YtflkgkchoagphaaGreatDoor
