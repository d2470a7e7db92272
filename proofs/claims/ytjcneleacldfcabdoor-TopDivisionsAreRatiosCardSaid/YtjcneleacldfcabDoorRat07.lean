/- The reference of rational numbers: the operations with their errors. -/
import Derived.Test.YtjcneleacldfcabDoorRat06
set_option linter.unusedVariables false
set_option linter.unusedSimpArgs false
namespace Go.Proofs.YtjcneleacldfcabDoor
open Go.RowKit
open Z

theorem lg_neg (x : Int) : lg (-x) = lg x := by unfold lg; rw [Int.natAbs_neg]
theorem addR_neg (a b : Rat) : addR a (-b) = subR a b := by
  unfold addR subR crossL
  rw [Rat.neg_num, Rat.neg_den, Int.neg_mul, lg_neg, ← Int.sub_eq_add_neg, ← Rat.sub_eq_add_neg]
theorem InR.neg {a : Rat} (h : InR a) : InR (-a) := Sh.neg h
theorem RT_is0 (r : Rat) : ((RT r).toList == [48]) = decide (r = 0) := by
  have hl : (RT r).toList = (RT r).data.toList := ByteArray.toList_eq _
  rw [hl]
  by_cases h : r = 0
  · subst h; rw [decide_eq_true rfl, data_RT, Rat.zero_den, if_pos rfl, Rat.zero_num, itoa_zero]; rfl
  · rw [decide_eq_false h, beq_eq_false_iff_ne]
    intro e
    have h2 : RT r = RT 0 := by
      apply ba_ext
      rw [e, data_RT, Rat.zero_den, if_pos rfl, Rat.zero_num, itoa_zero]
    exact h (RT_inj h2)
section
variable {w0 : World}
theorem ba_len {s : ByteArray} (hs : s.size ≤ 400000) : s.size ≤ maxLen := by unfold maxLen; omega
theorem least_cmp {a b : Rat} : (if b < a then RT b else RT a) = if cmpQ a b < 0 then RT a else RT b := by
  rcases cmpQ_cases a b with ⟨h, e, _⟩ | ⟨rfl, e, _⟩ | ⟨h, e, _⟩
  · rw [e, if_neg (by rw [Rat.not_lt]; exact Rat.le_of_lt h), if_pos (by omega)]
  · rw [e, if_neg Rat.lt_irrefl, if_neg (by omega)]
  · rw [e, if_pos h, if_neg (by omega)]
theorem most_cmp {a b : Rat} : (if a < b then RT b else RT a) = if 0 < cmpQ a b then RT a else RT b := by
  rcases cmpQ_cases a b with ⟨h, e, _⟩ | ⟨rfl, e, _⟩ | ⟨h, e, _⟩
  · rw [e, if_pos h, if_neg (by omega)]
  · rw [e, if_neg Rat.lt_irrefl, if_neg (by omega)]
  · rw [e, if_neg (by rw [Rat.not_lt]; exact Rat.le_of_lt h), if_pos (by omega)]
theorem cmp2_zero {s t : ByteArray} (h : (cmp2 s t).2 = 0) : ∃ a b : Rat, s = RT a ∧ t = RT b ∧ InR a ∧ InR b ∧ (cmp2 s t).1 = cmpQ a b := by
  rcases both2_cases s t with h1 | ⟨a, b, rfl, rfl, ha, hb⟩
  · rw [cmp2_err h1] at h; exact absurd h h1
  · refine ⟨a, b, rfl, rfl, ha, hb, ?_⟩
    rw [cmp2_ok ha hb] at h ⊢
    split at h
    · cases h
    · rename_i hx; rw [if_neg hx]
end
end Go.Proofs.YtjcneleacldfcabDoor
