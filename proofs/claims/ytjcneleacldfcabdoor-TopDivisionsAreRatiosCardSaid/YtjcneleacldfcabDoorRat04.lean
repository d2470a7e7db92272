/- The reference of rational numbers: its parts. -/
import Derived.Test.YtjcneleacldfcabDoorRet0
import Derived.Test.YtjcneleacldfcabDoorRat03
set_option linter.unusedVariables false
set_option linter.unusedSimpArgs false
namespace Go.Proofs.YtjcneleacldfcabDoor
open Go.RowKit
open Z

theorem sm_den {k : Nat} {r : Rat} (h : Sh k r) (hk : k ≤ 1000000) : Sm k (r.den : Int) := ⟨h.d, hk⟩
theorem sm_num {k : Nat} {r : Rat} (h : Sh k r) (hk : k ≤ 1000000) : Sm k r.num := ⟨h.1, hk⟩
theorem top_at {l : List UInt8} {k : Nat} (hk : k < l.length) (h : ∀ j (hj : j < l.length), j < k → l[j] ≠ 47) (he : l[k] = 47) : (top l).length = k ∧ parted l = true := by
  have hp : parted l = true := by unfold parted; simp only [List.contains_eq_mem, decide_eq_true_eq]; rw [← he]; exact List.getElem_mem hk
  refine ⟨?_, hp⟩
  have e : l = l.take k ++ 47 :: l.drop (k + 1) := by
    rw [← he, ← List.drop_eq_getElem_cons hk, List.take_append_drop]
  have hn : (47 : UInt8) ∉ l.take k := by
    intro hm
    obtain ⟨j, hj, hje⟩ := List.getElem_of_mem hm
    rw [List.length_take] at hj
    rw [List.getElem_take] at hje
    exact h j (by omega) (by omega) hje
  rw [e, (top_of hn).2.1, List.length_take]
  omega
theorem top_all {l : List UInt8} (h : ∀ j (hj : j < l.length), l[j] ≠ 47) : parted l = false := by
  unfold parted
  simp only [List.contains_eq_mem, decide_eq_false_iff_not]
  intro hm
  obtain ⟨j, hj, hje⟩ := List.getElem_of_mem hm
  exact h j hj hje
theorem top_len (l : List UInt8) : (top l).length ≤ l.length ∧ (parted l = true ↔ (top l).length < l.length) := by
  cases hp : parted l with
  | false => have := (unparted_top hp).1; rw [this]; simp
  | true =>
    have h := congrArg List.length (parted_split hp)
    rw [List.length_append, List.length_cons] at h
    exact ⟨by omega, by simp; omega⟩
theorem mem_takeW {p : UInt8 → Bool} : ∀ {l : List UInt8} {c : UInt8}, c ∈ l.takeWhile p → p c = true
  | [], _, h => by simp at h
  | d :: r, c, h => by
    rw [List.takeWhile_cons] at h
    split at h
    · rename_i hd
      rcases List.mem_cons.1 h with rfl | h
      · exact hd
      · exact mem_takeW h
    · simp at h
theorem drop_past (a b : List UInt8) : (a ++ 47 :: b).drop (a.length + 1) = b := by
  have := List.drop_left' (l₁ := a ++ [47]) (l₂ := b) (i := a.length + 1) (by simp)
  rwa [List.append_assoc] at this
theorem str_top (s : ByteArray) : str (top s.data.toList) = s.extract 0 (top s.data.toList).length := by
  apply ba_ext
  rw [data_str]
  have h : (s.extract 0 (top s.data.toList).length).data.toList = s.data.toList.take (top s.data.toList).length := by
    simp [ByteArray.data_extract, Array.toList_extract, List.extract_eq_take_drop]
  rw [h]
  cases hp : parted s.data.toList with
  | false => rw [(unparted_top hp).1, List.take_length]
  | true =>
    conv => rhs; rw [parted_split hp]
    rw [(top_of _).2.1, List.take_left']
    · rfl
    · unfold top
      intro hm
      have := mem_takeW hm
      simp at this
theorem str_bot (s : ByteArray) (hp : parted s.data.toList = true) : str (bot s.data.toList) = s.extract ((top s.data.toList).length + 1) s.size := by
  apply ba_ext
  rw [data_str]
  have h : (s.extract ((top s.data.toList).length + 1) s.size).data.toList = s.data.toList.drop ((top s.data.toList).length + 1) := by
    have e : s.size = s.data.toList.length := by simp
    rw [e]
    simp only [ByteArray.data_extract, Array.toList_extract, List.extract_eq_take_drop]
    rw [List.take_of_length_le]
    simp only [List.length_drop]; omega
  rw [h]
  have := drop_past (top s.data.toList) (bot s.data.toList)
  rw [← parted_split hp] at this
  exact this.symm

section
variable {w0 : World}
theorem str_itoa (a : Int) : str (Lib.itoa a) = Tx a := rfl
theorem rt_maxLen {k : Nat} {r : Rat} (h : Sh k r) (hk : k ≤ 100000) : (RT r).size ≤ maxLen := by have := RT_size h; unfold maxLen; omega
theorem ret_CheckI {s : ByteArray} (hs : s.size ≤ maxLen) : Ret w0 13 #[.string s] (.int .i64 (chk s.data.toList)) := .same fun w => r1_Check s w hs
end
theorem Tx_is1 (a : Int) : ((Tx a).toList == [49]) = decide (a = 1) := by
  by_cases h : a = 1
  · subst h; rw [toList_Tx, itoa_one]; rfl
  · rw [decide_eq_false h, beq_eq_false_iff_ne]
    intro e
    rw [toList_Tx, ← itoa_one] at e
    exact h (by have := congrArg ival e; rwa [ival_itoa, ival_itoa] at this)
theorem RT_one {r : Rat} (h : r.den = 1) : RT r = Tx r.num := by unfold RT; rw [if_pos h]
theorem RT_many {r : Rat} (h : r.den ≠ 1) : RT r = Tx r.num ++ ⟨#[47]⟩ ++ Tx (r.den : Int) := by unfold RT; rw [if_neg h]
end Go.Proofs.YtjcneleacldfcabDoor
