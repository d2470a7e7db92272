/- What the calls of the laws of layer 1 return, each from whatever world that has grown. -/
import Derived.Test.YtjcneleacldfcaaDoorRet
import Derived.Test.YtjcneleacldfcaaDoorLaw01a
import Derived.Test.YtjcneleacldfcaaDoorLaw01b
import Derived.Test.YtjcneleacldfcaaDoorInt06a
set_option linter.unusedVariables false
set_option linter.unusedSimpArgs false
namespace Go.Proofs.YtjcneleacldfcaaDoor
open Go.RowKit Go.Shelf
open Z

theorem ret_awake {w0 : World} (ht : Tab w0) : Ret w0 9 #[] (.bool true) := .mk fun w hg => l1_awake w (htab_gr ht hg)

/-- the new list of texts that a law hands to few and right -/
theorem strs_new1 (s : ByteArray) (w : World) (t : TypeId) : Strs (w.alloc (.cells #[.string s] t)) w.heap.size [s] := strs_one (by simp)
theorem strs_new2 (s t : ByteArray) (w : World) (ty : TypeId) : Strs (w.alloc (.cells #[.string s, .string t] ty)) w.heap.size [s, t] := strs_two (by simp) (by simp)
theorem strs_new3 (s t u : ByteArray) (w : World) (ty : TypeId) : Strs (w.alloc (.cells #[.string s, .string t, .string u] ty)) w.heap.size [s, t, u] := strs_three (by simp) (by simp) (by simp)
theorem mem1 {s : ByteArray} (hs : s.size ≤ maxLen) : ∀ x ∈ [s], x.size ≤ maxLen := fun x hx => by
  simp only [List.mem_singleton] at hx; subst hx; exact hs
theorem mem2 {s t : ByteArray} (hs : s.size ≤ maxLen) (ht : t.size ≤ maxLen) : ∀ x ∈ [s, t], x.size ≤ maxLen := fun x hx => by
  simp only [List.mem_cons, List.not_mem_nil, or_false] at hx
  rcases hx with rfl | rfl
  · exact hs
  · exact ht
theorem mem3 {s t u : ByteArray} (hs : s.size ≤ maxLen) (ht : t.size ≤ maxLen) (hu : u.size ≤ maxLen) : ∀ x ∈ [s, t, u], x.size ≤ maxLen := fun x hx => by
  simp only [List.mem_cons, List.not_mem_nil, or_false] at hx
  rcases hx with rfl | rfl | rfl
  · exact hs
  · exact ht
  · exact hu
theorem few_new1 (s : ByteArray) (w0 w : World) (ty : TypeId) (hg : Gr w0 w) (hs : s.size ≤ maxLen) :
    Calls Tryd.prog 8 #[.slice (some ⟨w.heap.size, 0, none⟩) 1 1] (w.alloc (.cells #[.string s] ty)) (fun e w' => e = .returned (.bool (fewB s)) ∧ Gr w0 w') := by
  refine (l1_few w.heap.size [s] 1 _ (by simp) (by simp) (strs_new1 s w ty) (mem1 hs)).mono ?_
  rintro e w' ⟨rfl, rfl⟩
  exact ⟨by simp, hg.alloc _⟩
theorem few_new2 (s t : ByteArray) (w0 w : World) (ty : TypeId) (hg : Gr w0 w) (hs : s.size ≤ maxLen) (ht : t.size ≤ maxLen) :
    Calls Tryd.prog 8 #[.slice (some ⟨w.heap.size, 0, none⟩) 2 2] (w.alloc (.cells #[.string s, .string t] ty)) (fun e w' => e = .returned (.bool (fewB s && fewB t)) ∧ Gr w0 w') := by
  refine (l1_few w.heap.size [s, t] 2 _ (by simp) (by simp) (strs_new2 s t w ty) (mem2 hs ht)).mono ?_
  rintro e w' ⟨rfl, rfl⟩
  exact ⟨by simp, hg.alloc _⟩
/-- a right text is that of an int of up to 400 digits -/
theorem right_Tx {s : ByteArray} (h : rightB s = true) : ∃ a : Int, s = Tx a ∧ Sm 400 a := by
  unfold rightB at h
  rw [Bool.and_eq_true] at h
  have h1 : s.size ≤ 400 := of_decide_eq_true h.1
  have h2 : chk s.data.toList = 0 := by simpa using h.2
  rcases chk_cases s with h3 | ⟨a, rfl, _, _⟩
  · rw [h2] at h3; simp at h3
  · refine ⟨a, rfl, ?_, by omega⟩
    rw [size_Tx, itoa_length] at h1
    omega
end Go.Proofs.YtjcneleacldfcaaDoor
