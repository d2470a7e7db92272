/- The reference of rational numbers: checking and the quotient. -/
import Derived.Test.YtjcneleacldfcabDoorRat04
set_option linter.unusedVariables false
set_option linter.unusedSimpArgs false
namespace Go.Proofs.YtjcneleacldfcabDoor
open Go.RowKit
open Z

theorem chk_is3 (s : ByteArray) : (chk s.data.toList == 3) = !(formB s.data.toList) := by
  unfold chk
  cases formB s.data.toList with
  | false => rfl
  | true => simp only [if_true]; split <;> rfl
theorem chk_zeroF {l : List UInt8} (h : chk l = 0) : formB l = true ∧ (body l).length ≤ 4096 := by
  unfold chk at h
  cases hf : formB l with
  | false => rw [hf] at h; simp at h
  | true => rw [hf] at h; simp only [if_true] at h; split at h
            · cases h
            · exact ⟨rfl, by omega⟩
theorem str_form (l : List UInt8) (h : formB l = true) : str l = Tx (ival l) := by
  have := Tx_ival (str l) (by rw [data_str]; exact h)
  rw [data_str] at this; exact this.symm
theorem size_str' (l : List UInt8) : (str l).size = l.length := by simp [str, ByteArray.size]
theorem bot_len (l : List UInt8) : (bot l).length ≤ l.length + 1 := by
  cases hp : parted l with
  | false => rw [(unparted_top hp).2]; simp
  | true => have h := congrArg List.length (parted_split hp); rw [List.length_append, List.length_cons] at h; omega
theorem body_nd {l : List UInt8} (h : formB l = true) : (body l).length = Lib.nDigits (ival l).natAbs := by
  rw [← body_itoa_len, itoa_ival l h]
/-- what Check asks, for texts with the form of integers -/
def chk4 (p x y : Int) : Int :=
  if p = 1 ∧ (y ≤ 0 ∨ y = 1) then 3 else if 4096 < Lib.nDigits x.natAbs ∨ 4096 < Lib.nDigits y.natAbs then 23 else if p = 1 ∧ Nat.gcd x.natAbs y.natAbs ≠ 1 then 3 else 0
theorem chk2_form {l : List UInt8} (h1 : formB (top l) = true) (h2 : formB (bot l) = true) : chk2 l = chk4 (if parted l = true then 1 else 0) (ival (top l)) (ival (bot l)) := by
  unfold chk2 chk4
  rw [if_neg (by rw [h1, h2]; simp), body_nd h1, body_nd h2]
  cases parted l <;> simp
theorem sm_form {l : List UInt8} (h : formB l = true) (hl : l.length ≤ 800000) : Sm 800000 (ival l) := by
  refine ⟨?_, by omega⟩
  rw [← body_nd h]
  have : (body l).length ≤ l.length := by unfold body; split <;> simp
  omega
end Go.Proofs.YtjcneleacldfcabDoor
