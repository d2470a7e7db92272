/- Law 7: the reference's Word, Number, Plain, Quote, Unquote. -/
import Derived.Test.YtlcpfhgobfjioaaDoorLxT
set_option linter.unusedVariables false
set_option linter.unusedSimpArgs false
namespace Go.Proofs.YtlcpfhgobfjioaaDoor
open Go.RowKit Go.Shelf
open Z
theorem empty_beq (s : ByteArray) : (s.toList == []) = decide (s.size = 0) := by
  rw [ByteArray.toList_eq, Bool.eq_iff_iff, beq_iff_eq, decide_eq_true_eq]
  constructor
  · intro h
    have : s.data.toList.length = 0 := by rw [h]; rfl
    simpa using this
  · intro h
    exact List.eq_nil_of_length_eq_zero (by simpa using h)
theorem head_cons {s : ByteArray} (h : 0 < s.size) : ∃ t, s.data.toList = s[0] :: t := by
  have hl : 0 < s.data.toList.length := by simpa using h
  exact ⟨s.data.toList.drop 1, by rw [get_data s 0 h]; exact (List.drop_eq_getElem_cons hl : s.data.toList.drop 0 = _)⟩
theorem run_all {p : UInt8 → Bool} {l : List UInt8} (h : runK p l 0 = l.length) : ∀ c ∈ l, p c = true := by
  have ht : (l.takeWhile p).length = l.length := by unfold runK at h; simpa using h
  have : l.takeWhile p = l := (List.takeWhile_sublist p).eq_of_length ht
  intro c hc
  rw [← this] at hc
  exact List.all_eq_true.1 List.all_takeWhile c hc
theorem bne_not (a b : List UInt8) : (a != b) = !(a == b) := rfl
theorem quote_str (s : ByteArray) : (⟨#[34]⟩ : ByteArray) ++ s ++ (⟨#[34]⟩ : ByteArray) = str ([34] ++ s.data.toList ++ [34]) := by
  rw [show (⟨#[34]⟩ : ByteArray) = str [34] from rfl]
  conv => lhs; arg 1; arg 2; rw [show s = str s.data.toList from rfl]
  rw [str_app, str_app]
end Go.Proofs.YtlcpfhgobfjioaaDoor
