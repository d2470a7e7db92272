/- Law 7: the reference's Token. -/
import Derived.Test.YtlcpfhgobfjioaaDoorLxP
set_option linter.unusedVariables false
set_option linter.unusedSimpArgs false
namespace Go.Proofs.YtlcpfhgobfjioaaDoor.Z
open Go
/-- the token at a place, and the place behind it; -1 if there is none -/
def rtok (l : List UInt8) (k : Nat) : Tk × Int :=
  if (kindR l k).2.1 ≠ 0 then ((0, [], 0), -1)
  else (((kindR l k).1, txtK (kindR l k).1 (cutL l k (kindR l k).2.2), (k : Nat)), ((kindR l k).2.2 : Nat))
end Go.Proofs.YtlcpfhgobfjioaaDoor.Z
namespace Go.Proofs.YtlcpfhgobfjioaaDoor
open Go.RowKit Go.Shelf
open Z
theorem str_cut {s : ByteArray} {a b : Nat} (hb : b ≤ s.size) : s.extract a b = str (cutL s.data.toList a b) := by rw [← cut_str hb]; rfl
theorem cut_head {l : List UInt8} {a b : Nat} {c : UInt8} (hc : l[a]? = some c) (hab : a < b) : cutL l a b = c :: cutL l (a + 1) b := by
  have ha : a < l.length := by
    by_cases h : a < l.length
    · exact h
    · rw [List.getElem?_eq_none (by omega)] at hc; cases hc
  unfold cutL
  rw [List.drop_eq_getElem_cons ha, show b - a = (b - (a + 1)) + 1 by omega, List.take_succ_cons]
  rw [List.getElem?_eq_getElem ha] at hc
  cases hc; rfl
theorem prefix_cons (c : UInt8) (t : List UInt8) : Lib.hasPrefix (c :: t) [34] = (c == 34) := by
  unfold Lib.hasPrefix
  rw [Bool.eq_iff_iff]
  simp [List.isPrefixOf]
  exact eq_comm
end Go.Proofs.YtlcpfhgobfjioaaDoor
