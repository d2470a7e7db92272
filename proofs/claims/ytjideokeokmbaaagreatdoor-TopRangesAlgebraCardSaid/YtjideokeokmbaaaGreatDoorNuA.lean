/- Numbers of cues: the reference's functions. -/
import Derived.Test.YtjideokeokmbaaaGreatDoorNuM
import Derived.Test.YtjideokeokmbaaaGreatDoorShelf
import Derived.Laws.Runes
import Derived.Deep.QuietTactic
import Derived.BigQuiet
set_option linter.unusedVariables false
set_option linter.unusedSimpArgs false
namespace Go.Proofs.YtjideokeokmbaaaGreatDoor
open Go.RowKit Go.Shelf
open Z

/-- what taking a text apart at its first point gives -/
def splV (l : List UInt8) : Value := .tuple #[.string (str (before l)), .string (str (cutB l)), .bool (dotted l)]
/-- the tests on a leading and on a last zero -/
theorem nu_lead (W : List UInt8) (h : 1 ≤ W.length) : ((str W).size ≤ 1 ∧ lead0 W = false) ∨ (1 < (str W).size ∧ (∀ h : 0 < (str W).size, (((str W)[0].toNat : Int) == 48) = true) ∧ lead0 W = true) ∨ (1 < (str W).size ∧ (∀ h : 0 < (str W).size, (((str W)[0].toNat : Int) == 48) = false) ∧ lead0 W = false) := by
  have hWs : (str W).size = W.length := str_size W
  unfold lead0
  by_cases h4 : W.length ≤ 1
  · left; exact ⟨by omega, by rw [decide_eq_false (by omega)]; rfl⟩
  · right
    have hz : 0 < (str W).size := by omega
    have hget : (str W)[0] = W[0]'(by omega) := by rw [get_data]; simp only [data_str]
    rw [decide_eq_true (show 1 < W.length by omega), Bool.true_and, List.head?_eq_getElem?, List.getElem?_eq_getElem (by omega)]
    by_cases h5 : W[0]'(by omega) = 48
    · left
      refine ⟨by omega, fun _ => by rw [hget, h5]; rfl, ?_⟩
      rw [h5]; rfl
    · right
      refine ⟨by omega, fun _ => ?_, ?_⟩
      · rw [beq_eq_false_iff_ne]; intro e; exact h5 (by rw [← hget]; exact UInt8.toNat_inj.1 (by show (str W)[0].toNat = 48; omega))
      · simpa using h5
theorem nu_last (R : List UInt8) (h : 1 ≤ R.length) : ∃ m, (str R).size = m + 1 ∧ (∀ hm : m < (str R).size, (((str R)[m].toNat : Int) == 48) = (R.getLast? == some 48)) := by
  obtain ⟨t, c, rfl⟩ := snoc_of_ne R (by intro e; subst e; simp at h)
  refine ⟨t.length, by rw [str_size]; simp, fun hm => ?_⟩
  have hget : (str (t ++ [c]))[t.length] = c := by rw [get_data]; simp only [data_str]; simp
  rw [hget]
  simp only [List.getLast?_append, List.getLast?_singleton, Option.some_or]
  by_cases hc : c = 48
  · subst hc; rfl
  · have h1 : ((c.toNat : Int) == 48) = false := by rw [beq_eq_false_iff_ne]; intro e; exact hc (UInt8.toNat_inj.1 (by show c.toNat = 48; omega))
    rw [h1]; simp [hc]
theorem cutB_len (l : List UInt8) : (cutB l).length ≤ l.length := by
  unfold cutB behind
  split
  · have := (List.dropWhile_sublist (l := l) (· != 46)).length_le
    rw [List.length_tail]; omega
  · simp
theorem bef_len (l : List UInt8) : (before l).length ≤ l.length := by unfold before; exact (List.takeWhile_sublist _).length_le
theorem is0 (s : ByteArray) : (s.toList == [48]) = decide (s.data.toList = [48]) := by
  rw [ByteArray.toList_eq]
  by_cases h : s.data.toList = [48]
  · rw [h]; rfl
  · rw [decide_eq_false h, beq_eq_false_iff_ne]; exact h
/-- how the digits of a right number add up, one after the other -/
theorem nu_steps {l : List UInt8} (h : nuE l = 0) : ∃ D : Nat → Nat, D 0 = 0 ∧ D ((before l).length + 3) = nuV l ∧ (∀ k, D k ≤ 9999999) ∧
    (∀ k (hk : k < (str (before l)).size), 48 ≤ ((str (before l))[k]).toNat ∧ ((str (before l))[k]).toNat ≤ 57 ∧ D (k + 1) = 10 * D k + (((str (before l))[k]).toNat - 48)) ∧
    (∀ j (hj : j < (str (cutB l)).size), 48 ≤ ((str (cutB l))[j]).toNat ∧ ((str (cutB l))[j]).toNat ≤ 57 ∧ D ((before l).length + j + 1) = 10 * D ((before l).length + j) + (((str (cutB l))[j]).toNat - 48)) ∧
    (∀ j, (str (cutB l)).size ≤ j → j < 3 → D ((before l).length + j + 1) = 10 * D ((before l).length + j)) := by
  obtain ⟨h1, h2, h3, h4⟩ := nuE_zero h
  obtain ⟨d1, d2, d3⟩ := formN_digits h1
  have hp := pad3_len h4
  have hall : (before l ++ pad3 (cutB l)).all isD = true := by rw [List.all_append, d1, pad3_all d3]; rfl
  have hlen : (before l ++ pad3 (cutB l)).length = (before l).length + 3 := by rw [List.length_append, hp]
  refine ⟨fun k => dec ((before l ++ pad3 (cutB l)).take k), by simp [dec], ?_, fun k => ?_, fun k hk => ?_, fun j hj => ?_, fun j hj h3j => ?_⟩
  · show dec (List.take _ _) = _
    rw [List.take_of_length_le (by omega)]; rfl
  · have h5 := dec_lt ((before l ++ pad3 (cutB l)).take k) (List.all_eq_true.2 fun c hc => List.all_eq_true.1 hall c (List.mem_of_mem_take hc))
    have h8 : 10 ^ ((before l ++ pad3 (cutB l)).take k).length ≤ 10 ^ 7 := Nat.pow_le_pow_right (by decide) (by rw [List.length_take]; omega)
    show dec _ ≤ _
    omega
  · rw [str_size] at hk
    have hg : (str (before l))[k]'(by rw [str_size]; exact hk) = (before l)[k] := by rw [get_data]; simp only [data_str]
    have hd := isD_iff.1 (List.all_eq_true.1 d1 _ (List.getElem_mem hk))
    rw [hg]
    refine ⟨hd.1, hd.2, ?_⟩
    show dec _ = 10 * dec _ + _
    rw [dec_take_succ _ _ (by omega), List.getElem_append_left hk]; rfl
  · rw [str_size] at hj
    have hg : (str (cutB l))[j]'(by rw [str_size]; exact hj) = (cutB l)[j] := by rw [get_data]; simp only [data_str]
    have hd := isD_iff.1 (List.all_eq_true.1 d3 _ (List.getElem_mem hj))
    rw [hg]
    refine ⟨hd.1, hd.2, ?_⟩
    show dec _ = 10 * dec _ + _
    rw [dec_take_succ _ _ (by omega), List.getElem_append_right (by omega)]
    have : (pad3 (cutB l))[(before l).length + j - (before l).length]'(by omega) = (cutB l)[j] := by
      unfold pad3
      rw [List.getElem_append_left (by omega)]
      congr 1; omega
    rw [this]; rfl
  · rw [str_size] at hj
    show dec _ = 10 * dec _
    rw [dec_take_succ _ _ (by omega), List.getElem_append_right (by omega)]
    have : (pad3 (cutB l))[(before l).length + j - (before l).length]'(by omega) = 48 := by
      unfold pad3
      rw [List.getElem_append_right (by omega), List.getElem_replicate]
    rw [this]; rfl
theorem enc_digit {u : Nat} (h : u < 10) : Utf8.encode (48 + (u : Int)) = ⟨#[UInt8.ofNat (48 + u)]⟩ := by
  have : u = 0 ∨ u = 1 ∨ u = 2 ∨ u = 3 ∨ u = 4 ∨ u = 5 ∨ u = 6 ∨ u = 7 ∨ u = 8 ∨ u = 9 := by omega
  rcases this with rfl | rfl | rfl | rfl | rfl | rfl | rfl | rfl | rfl | rfl <;> decide +kernel
def lenOf (v : Value) : Nat := (strOf v).size
theorem is_nil (l : List UInt8) : ((str l).toList == []) = decide (l = []) := by
  rw [ByteArray.toList_eq, data_str]
  by_cases h : l = []
  · subst h; rfl
  · rw [decide_eq_false h, beq_eq_false_iff_ne]; exact h
end Go.Proofs.YtjideokeokmbaaaGreatDoor
