/- The law's helpers of layer 2: short. -/
import Derived.Test.YtffifpinnhaloaaGreatDoorLaw02a
import Derived.Test.YtffifpinnhaloaaGreatDoorLaw01b
set_option linter.unusedVariables false
set_option linter.unusedSimpArgs false
namespace Go.Proofs.YtffifpinnhaloaaGreatDoor
open Go.RowKit Go.Shelf
open Z

def shortB (s : ByteArray) : Bool := decide (s.size ≤ 120) && (chkS s == 0)
theorem retG_Few {w0 : World} {s : ByteArray} (hs : s.size ≤ maxLen) : RetG w0 35 #[.string s] (.bool (decide (s.size ≤ 120))) := .of fun w1 _ => ret_Few2 hs
theorem retG_Check2 {w0 : World} {s : ByteArray} (hs : s.size ≤ 400000) : RetG w0 74 #[.string s] (.int .i64 (chkS s)) := .of fun w1 _ => r2_Check s hs
theorem memL2 {s t : ByteArray} (hs : s.size ≤ maxLen) (ht : t.size ≤ maxLen) : ∀ x ∈ [s, t], x.size ≤ maxLen := fun x hx => by
  simp only [List.mem_cons, List.not_mem_nil, or_false] at hx
  rcases hx with rfl | rfl
  · exact hs
  · exact ht
theorem memL3 {s t u : ByteArray} (hs : s.size ≤ maxLen) (ht : t.size ≤ maxLen) (hu : u.size ≤ maxLen) : ∀ x ∈ [s, t, u], x.size ≤ maxLen := fun x hx => by
  simp only [List.mem_cons, List.not_mem_nil, or_false] at hx
  rcases hx with rfl | rfl | rfl
  · exact hs
  · exact ht
  · exact hu
/-- a short text is that of a number of up to 120 digits -/
theorem short_RT {s : ByteArray} (h : shortB s = true) : ∃ r : Rat, s = RT r ∧ Sh 120 r := by
  unfold shortB at h
  rw [Bool.and_eq_true] at h
  obtain ⟨r, h1, h2, _⟩ := text_sh (s := s) (k := 120) (by simpa using h.2) (of_decide_eq_true h.1)
  exact ⟨r, h1, h2⟩
end Go.Proofs.YtffifpinnhaloaaGreatDoor
