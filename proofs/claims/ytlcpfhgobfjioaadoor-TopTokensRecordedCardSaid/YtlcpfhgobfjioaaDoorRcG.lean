/- Records: Next of the reference. -/
import Derived.Test.YtlcpfhgobfjioaaDoorRcF
set_option linter.unusedVariables false
set_option linter.unusedSimpArgs false
namespace Go.Proofs.YtlcpfhgobfjioaaDoor
open Go.RowKit
open Z Rc

theorem ext_ext (s : ByteArray) (p i j : Nat) (h : p + j ≤ s.size) : (s.extract p s.size).extract i j = s.extract (p + i) (p + j) := by
  apply ba_ext
  rw [Lib.extract_data, ext_drop', Lib.extract_data, List.drop_drop]
  congr 1; omega
theorem bt_at (s : ByteArray) (p i : Nat) : bt (s.extract p s.size).data.toList i = bt s.data.toList (p + i) := bt_ext s p i
theorem two_ext (r : ByteArray) (m : Nat) (h : m + 2 ≤ r.size) : r.extract m (m + 2) = str (two (256 * bt r.data.toList m + bt r.data.toList (m + 1))) := by
  have hsz : r.data.toList.length = r.size := by simp
  apply ba_ext
  rw [Lib.extract_data, data_str, show m + 2 - m = 1 + 1 by omega, List.take_succ_eq_append_getElem (by rw [List.length_drop]; omega), List.take_succ_eq_append_getElem (by rw [List.length_drop]; omega), List.take_zero]
  have b0 := bt_lt r.data.toList m
  have b1 := bt_lt r.data.toList (m + 1)
  unfold two
  rw [show (256 * bt r.data.toList m + bt r.data.toList (m + 1)) / 256 = bt r.data.toList m by omega, show (256 * bt r.data.toList m + bt r.data.toList (m + 1)) % 256 = bt r.data.toList (m + 1) by omega, by8_bt (by omega), by8_bt (by omega)]
  simp [List.getElem_drop]
theorem two_inj {a b : Nat} (ha : a < 65536) (hb : b < 65536) (h : str (two a) = str (two b)) : a = b := by
  have e : two a = two b := by have := congrArg (fun x : ByteArray => x.data.toList) h; simpa [data_str] using this
  have h1 := two_bt ha
  have h2 := two_bt hb
  rw [e] at h1
  omega
end Go.Proofs.YtlcpfhgobfjioaaDoor
