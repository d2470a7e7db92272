/- Rational numbers: the laws that the statements of layer 2 ask for. -/
import Derived.Test.YtffifpinnhaloaaGreatDoorRatA
set_option linter.unusedVariables false
set_option linter.unusedSimpArgs false
namespace Go.Proofs.YtffifpinnhaloaaGreatDoor
open Go.RowKit
open Z

theorem mix0 (a b : Rat) : a + (b - a) * 0 = a := by grind
theorem mix1 (a b : Rat) : a + (b - a) * 1 = b := by grind
theorem mix_turn (a b w : Rat) : a + (b - a) * w = b + (a - b) * (1 - w) := by grind
theorem mix_less (b m w : Rat) : b - (m + (b - m) * w) = (b - m) * (1 - w) := by grind
theorem mix_ge {a b w : Rat} (h : a ≤ b) (h0 : 0 ≤ w) (h1 : w ≤ 1) : a ≤ a + (b - a) * w ∧ a + (b - a) * w ≤ b := by
  have d : 0 ≤ b - a := by rw [← Rat.le_iff_sub_nonneg]; exact h
  have e : 0 ≤ 1 - w := by rw [← Rat.le_iff_sub_nonneg]; exact h1
  have p := Rat.mul_nonneg d h0
  have q := Rat.mul_nonneg d e
  constructor <;> grind
theorem mix_le {a b w : Rat} (h : b ≤ a) (h0 : 0 ≤ w) (h1 : w ≤ 1) : b ≤ a + (b - a) * w ∧ a + (b - a) * w ≤ a := by
  have d : 0 ≤ a - b := by rw [← Rat.le_iff_sub_nonneg]; exact h
  have e : 0 ≤ 1 - w := by rw [← Rat.le_iff_sub_nonneg]; exact h1
  have p := Rat.mul_nonneg d h0
  have q := Rat.mul_nonneg d e
  constructor <;> grind
theorem floor_part (a : Rat) : 0 ≤ a - (a.floor : Rat) ∧ a - (a.floor : Rat) < 1 := by
  have h1 := Rat.floor_le a
  have h2 := Rat.lt_floor_add_one a
  rw [Rat.intCast_add] at h2
  have h3 : ((1:Int):Rat) = 1 := rfl
  rw [h3] at h2
  constructor <;> grind
theorem near_part (a : Rat) (n : Int) (hn : n = (a + 1/2).floor) : -(1/2) < (n : Rat) - a ∧ (n : Rat) - a ≤ 1/2 := by
  have h1 := Rat.floor_le (a + 1/2)
  have h2 := Rat.lt_floor_add_one (a + 1/2)
  rw [Rat.intCast_add] at h2
  have h3 : ((1:Int):Rat) = 1 := rfl
  rw [h3] at h2
  rw [← hn] at h1 h2
  constructor <;> grind
theorem turned_w (n : Int) : Rat.divInt (255 - n) 255 = 1 - Rat.divInt n 255 := by
  rw [Rat.divInt_eq_div, Rat.divInt_eq_div, Rat.intCast_sub]
  have : ((255:Int):Rat) = 255 := rfl
  rw [this]; grind
theorem w_range (n : Int) (h : 0 ≤ n) (h1 : n ≤ 255) : 0 ≤ Rat.divInt n 255 ∧ Rat.divInt n 255 ≤ 1 := by
  constructor
  · exact Rat.divInt_nonneg h (by omega)
  · have := Rat.divInt_nonneg (a := 255 - n) (b := 255) (by omega) (by omega)
    rw [turned_w] at this
    rw [Rat.le_iff_sub_nonneg]; exact this
theorem sub_cmp (a b : Rat) : (a - b < 0 ↔ a < b) ∧ (0 < a - b ↔ b < a) := by constructor <;> constructor <;> intro h <;> grind
theorem quot (a b : Rat) (h : b ≠ 0) : a * b / b = a := Rat.mul_div_cancel h
theorem div_back (a b : Rat) (h : b ≠ 0) : a / b * b = a := Rat.div_mul_cancel h
theorem lackb (a b : Int) (hb : b ≠ 0) : (Rat.divInt a b - ((a.fdiv b : Int) : Rat)) * (b : Rat) = ((a.fmod b : Int) : Rat) := by
  have h := Int.mul_fdiv_add_fmod a b
  have hb' : (b : Rat) ≠ 0 := fun e => hb (by have := congrArg Rat.num e; rwa [Rat.num_intCast] at this)
  rw [Rat.divInt_eq_div]
  have h2 : (a : Rat) = (b : Rat) * ((a.fdiv b : Int) : Rat) + ((a.fmod b : Int) : Rat) := by rw [← Rat.intCast_mul, ← Rat.intCast_add, h]
  have h3 := Rat.div_mul_cancel (a := (a : Rat)) hb'
  grind
theorem floor_div (a b : Int) (hb : b ≠ 0) : (Rat.divInt a b).floor = a.fdiv b := by
  have hn := gs_num (p := a) hb
  have hd := gs_den (p := a) hb
  have hg := gs_ne (p := a) hb
  have da : gs a b ∣ a := by
    unfold gs; split
    · exact Int.neg_dvd.2 (Int.ofNat_dvd_left.2 (Nat.gcd_dvd_left _ _))
    · exact Int.ofNat_dvd_left.2 (Nat.gcd_dvd_left _ _)
  have db : gs a b ∣ b := by
    unfold gs; split
    · exact Int.neg_dvd.2 (Int.ofNat_dvd_left.2 (Nat.gcd_dvd_right _ _))
    · exact Int.ofNat_dvd_left.2 (Nat.gcd_dvd_right _ _)
  rw [Int.fdiv_eq_ediv_of_dvd da] at hn
  rw [Int.fdiv_eq_ediv_of_dvd db] at hd
  have ea : a = (Rat.divInt a b).num * gs a b := by rw [← hn, Int.ediv_mul_cancel da]
  have eb : b = ((Rat.divInt a b).den : Int) * gs a b := by rw [← hd, Int.ediv_mul_cancel db]
  rw [← floor_parts]
  clear hn hd da db
  generalize (Rat.divInt a b).num = n at *
  generalize ((Rat.divInt a b).den : Int) = d at *
  generalize gs a b = g at *
  rw [ea, eb]
  by_cases h : 0 < g
  · rw [Int.mul_fdiv_mul_of_pos_left _ _ h]
  · rw [← Int.neg_fdiv_neg (n * g), ← Int.mul_neg, ← Int.mul_neg, Int.mul_fdiv_mul_of_pos_left _ _ (by omega)]
theorem cmp_sub (a b : Rat) : cmpQ (a - b) ((0 : Int) : Rat) = cmpQ a b := by
  have h := sub_cmp a b
  have e : ((0 : Int) : Rat) = 0 := rfl
  rw [e]
  rcases cmpQ_cases a b with ⟨x, e1, _⟩ | ⟨x, e1, _⟩ | ⟨x, e1, _⟩
  · rw [e1]; exact cmpQ_lt (h.1.2 x)
  · rw [e1, x, Rat.sub_self]; exact cmpQ_self 0
  · rw [e1]; exact cmpQ_gt (h.2.2 x)
end Go.Proofs.YtffifpinnhaloaaGreatDoor
