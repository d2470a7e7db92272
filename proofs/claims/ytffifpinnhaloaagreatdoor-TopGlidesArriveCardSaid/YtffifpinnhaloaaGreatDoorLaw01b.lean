/- The law's helpers of layer 1: few and right. -/
import Derived.Test.YtffifpinnhaloaaGreatDoorRefB
set_option linter.unusedVariables false
set_option linter.unusedSimpArgs false
namespace Go.Proofs.YtffifpinnhaloaaGreatDoor
open Go.RowKit
open Z

/-- a block that holds texts -/
def Strs (w : World) (g : Nat) (l : List ByteArray) : Prop := ∀ i (h : i < l.length), w.cell? ⟨g, i, none⟩ = some (.string l[i])
def fewB (s : ByteArray) : Bool := (decide (s.size ≤ 400) || !(chk s.data.toList == 0)) && decide (s.size ≤ 5000)
def rightB (s : ByteArray) : Bool := decide (s.size ≤ 400) && (chk s.data.toList == 0)
theorem all_get {α : Type} {l : List α} {p : α → Bool} (h : ∀ j (h : j < l.length), p l[j] = true) : l.all p = true := by
  rw [List.all_eq_true]
  intro x hx
  obtain ⟨j, hj, rfl⟩ := List.getElem_of_mem hx
  exact h j hj
theorem all_not {α : Type} {l : List α} {p : α → Bool} {j : Nat} (hj : j < l.length) (h : p l[j] = false) : l.all p = false := by
  rw [List.all_eq_false]
  exact ⟨_, List.getElem_mem hj, by simp [h]⟩
theorem strs_one {w : World} {g : Nat} {s : ByteArray} (h0 : w.cell? ⟨g, 0, none⟩ = some (.string s)) : Strs w g [s] := fun i hi => by
  have : i = 0 := by simp at hi; omega
  subst this; exact h0
theorem strs_two {w : World} {g : Nat} {s t : ByteArray} (h0 : w.cell? ⟨g, 0, none⟩ = some (.string s)) (h1 : w.cell? ⟨g, 1, none⟩ = some (.string t)) : Strs w g [s, t] := fun i hi => by
  have : i = 0 ∨ i = 1 := by simp at hi; omega
  rcases this with rfl | rfl
  · exact h0
  · exact h1
theorem strs_three {w : World} {g : Nat} {s t u : ByteArray} (h0 : w.cell? ⟨g, 0, none⟩ = some (.string s)) (h1 : w.cell? ⟨g, 1, none⟩ = some (.string t)) (h2 : w.cell? ⟨g, 2, none⟩ = some (.string u)) : Strs w g [s, t, u] := fun i hi => by
  have : i = 0 ∨ i = 1 ∨ i = 2 := by simp at hi; omega
  rcases this with rfl | rfl | rfl
  · exact h0
  · exact h1
  · exact h2
end Go.Proofs.YtffifpinnhaloaaGreatDoor
