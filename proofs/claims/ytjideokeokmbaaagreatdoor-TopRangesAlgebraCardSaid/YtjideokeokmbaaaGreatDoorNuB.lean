/- Numbers of cues: the rest of the reference. -/
import Derived.Test.YtjideokeokmbaaaGreatDoorNuA
import Derived.Deep.RegionHeld3
import Derived.IntWalk
set_option linter.unusedVariables false
set_option linter.unusedSimpArgs false
namespace Go.Proofs.YtjideokeokmbaaaGreatDoor
open Go.RowKit Go.Shelf
open Z

/-- a pair of a text and the number of an error -/
def vTI (p : List UInt8 × Int) : Value := .tuple #[.string (str p.1), .int .i64 p.2]
theorem nuCmp_err {a b : List UInt8} (h : both2 a b ≠ 0) : nuCmp a b = (0, both2 a b) := if_neg h
theorem nuCmp_ok {a b : List UInt8} (h : both2 a b = 0) : nuCmp a b = (ordN (nuV a) (nuV b), 0) := if_pos h
theorem both2_zero {a b : List UInt8} (h : both2 a b = 0) : nuE a = 0 ∧ nuE b = 0 := by
  unfold both2 at h
  by_cases h1 : nuE a = 0
  · rw [if_pos h1] at h; exact ⟨h1, h⟩
  · rw [if_neg h1] at h; exact absurd h h1
/-- a slice of texts, as it is read -/
def RdS (w : World) (a : Option Addr) (l : List ByteArray) : Prop := ∀ k (h : k < l.length), ∃ b o, a = some ⟨b, o, none⟩ ∧ w.cell? ⟨b, o + k, none⟩ = some (.string l[k])
theorem cellLt {w : World} {b o : Nat} {v : Value} (h : w.cell? ⟨b, o, none⟩ = some v) : b < w.heap.size := by
  by_cases hb : b < w.heap.size
  · exact hb
  · exfalso
    have : w.heap[b]? = none := Array.getElem?_eq_none (by omega)
    simp [World.cell?, this] at h
theorem cell_gr {W w1 : World} (h : Gr W w1) {b o : Nat} {v : Value} (hc : W.cell? ⟨b, o, none⟩ = some v) : w1.cell? ⟨b, o, none⟩ = some v :=
  (Below.cell h (p := ⟨b, o, none⟩) (cellLt hc)).trans hc
theorem RdS.gr {w w' : World} {a : Option Addr} {l : List ByteArray} (h : RdS w a l) (hg : Gr w w') : RdS w' a l := fun k hk => by
  obtain ⟨b, o, e, hat⟩ := h k hk
  exact ⟨b, o, e, cell_gr hg hat⟩
end Go.Proofs.YtjideokeokmbaaaGreatDoor
