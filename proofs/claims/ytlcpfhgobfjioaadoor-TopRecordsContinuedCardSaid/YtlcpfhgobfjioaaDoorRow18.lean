/- T4: a list of records that comes in is nowhere only where it has no room. -/
import Derived.Test.YtlcpfhgobfjioaaDoorRow17
set_option linter.unusedVariables false
set_option linter.unusedSimpArgs false
namespace Go.Proofs.YtlcpfhgobfjioaaDoor
open Go.ChangeShapes Go.WideShapes Go.ChangeAt Go.RowKit Go.Deep Go.Joins
open Rc
section
variable {H : Type} {enc : TypeId × Value → H} {w : World} {base : Nat} {spare : Nat → Bool} {held : Bool}
theorem slice_none {t e : TypeId} (hs : Tryd.prog.underlying t = some (.slice e)) {a : Option Addr} {n cap : Nat} {d : DataW H} {p : List MemPlace} (h : DataW.Trod enc Tryd.prog w base spare held t (.slice a n cap) d p) (ha : a = none) : cap = 0 := by
  obtain ⟨fuel, hf⟩ := h
  rcases open_slice hs (show DataW.trod enc Tryd.prog w base spare held fuel _ [.slice a n cap] = some (d, p) from hf) with ⟨hcs, -⟩ | ⟨a', len, cap', m, n', D, Pl, hcs, -⟩
  · simp only [List.cons.injEq, Value.slice.injEq, and_true] at hcs
    exact hcs.2.2
  · simp only [List.cons.injEq, Value.slice.injEq, and_true] at hcs
    rw [ha] at hcs
    exact absurd hcs.1 (by simp)
end
end Go.Proofs.YtlcpfhgobfjioaaDoor
