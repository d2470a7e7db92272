/- T4: lists of texts that come in. -/
import Derived.Test.YtlcpfhgobfjioaaDoorRow15
import Derived.Test.YtlcpfhgobfjioaaDoorNuB
import Derived.SliceStrings
import Derived.Carry
import Derived.Lib.SmallJoins
set_option linter.unusedVariables false
set_option linter.unusedSimpArgs false
namespace Go.Proofs.YtlcpfhgobfjioaaDoor
open Go.ChangeShapes Go.WideShapes Go.ChangeAt Go.RowKit Go.Joins
section
variable {H : Type} {enc : TypeId × Value → H} {w : World} {base : Nat} {spare : Nat → Bool} {held : Bool}
set_option maxRecDepth 100000 in
theorem open_texts {t e : TypeId} (hs : Tryd.prog.underlying t = some (.slice e)) (he : Tryd.prog.underlying e = some .string) (hC : Tryd.prog.cellsOf e = 1)
    {b0 : Nat} {v : Value} {d : DataW H} {p : List MemPlace} (hval : Value.okWide Tryd.prog w .any b0 t v) (h : DataW.Trod enc Tryd.prog w base spare held t v d p) :
    ∃ (a : Option Addr) (l : List ByteArray) (cap : Nat), v = .slice a l.length cap ∧ l.length ≤ cap ∧ cap ≤ maxLen ∧ RdS w a l ∧ ∀ s ∈ l, s.size ≤ maxLen := by
  obtain ⟨a1, n1, c1, rfl⟩ := okWide_slice hs hval
  obtain ⟨fuel, hf⟩ := h
  rcases open_strings hs he hC (show DataW.trod enc Tryd.prog w base spare held fuel _ [.slice a1 n1 c1] = some (d, p) from hf) with ⟨hcs, -⟩ | ⟨a, len, cap, ss, hcs, -, hl, hm, hlen, -, hx, hz⟩
  · simp only [List.cons.injEq, Value.slice.injEq, and_true] at hcs
    obtain ⟨rfl, rfl, rfl⟩ := hcs
    exact ⟨none, [], 0, rfl, Nat.le_refl _, Nat.zero_le _, fun k hk => absurd hk (by simp), by simp⟩
  · simp only [List.cons.injEq, Value.slice.injEq, and_true] at hcs
    obtain ⟨rfl, rfl, rfl⟩ := hcs
    have hle : n1 ≤ ss.length := by rw [hlen]; split <;> omega
    have hll : (ss.take n1).length = n1 := by rw [List.length_take]; omega
    refine ⟨some a, ss.take n1, c1, by rw [hll], by omega, hm, fun k hk => ?_, fun s hs => hz s (List.mem_of_mem_take hs)⟩
    have h0 := hx 0 (by omega)
    have ha : a = ⟨a.block, a.off, none⟩ := spot_none (by simpa [Addr.add] using h0)
    have hk' := hx k (by omega)
    refine ⟨a.block, a.off, by rw [← ha], ?_⟩
    rw [ha, WideShapes.add_plain] at hk'
    rw [hk', List.getElem_take, List.getD, List.getElem?_eq_getElem (by omega)]; rfl
end
end Go.Proofs.YtlcpfhgobfjioaaDoor
