/- Curves: the value of a segment by whole numbers; how long these are. -/
import Derived.Test.YtlbnibicehpobaaGreatDoorCvM
import Derived.Test.YtlbnibicehpobaaGreatDoorCvN
import Derived.Test.YtlbnibicehpobaaGreatDoorRatF
set_option linter.unusedVariables false
set_option linter.unusedSimpArgs false
namespace Go.Proofs.YtlbnibicehpobaaGreatDoor.Z
open Go
theorem rat_parts (r : Rat) : r * (((r.den : Int)) : Rat) = ((r.num : Int) : Rat) := by
  have h := self_parts r
  rw [Rat.divInt_eq_div, Rat.div_def] at h
  have hn : (((r.den : Int)) : Rat) ≠ 0 := by
    have := cast_lt (den_pos r)
    have e0 : ((0 : Int) : Rat) = 0 := rfl
    grind
  have hc := Rat.mul_inv_cancel _ hn
  generalize (((r.den : Int)) : Rat) = d at *
  generalize d⁻¹ = i at *
  grind
theorem climb_val {num den K up wide fx fy tx ty : Int} {r : Rat} (hd : den ≠ 0) (hK : K ≠ 0) (hx : fx < tx) (hs : up * (tx - fx) = (ty - fy) * wide)
    (e1 : num * K = wide * fy * r.den + up * (r.num - fx * r.den)) (e2 : den * K = wide * r.den) : Rat.divInt num den = segV (fx, fy) (tx, ty) r := by
  obtain ⟨m, m1, m2, -⟩ := seg_m (p := (fx, fy)) (q := (tx, ty)) hx
  simp only at m1 m2
  have hW : ((tx : Rat) - (fx : Rat)) ≠ 0 := seg_ne (p := (fx, fy)) (q := (tx, ty)) hx
  have hs' : (up : Rat) * ((tx : Rat) - fx) = ((ty : Rat) - fy) * wide := by
    rw [← Rat.intCast_sub, ← Rat.intCast_sub, ← Rat.intCast_mul, ← Rat.intCast_mul, hs]
  have hu : (up : Rat) = m * wide := by
    refine rcancel hW ?_
    rw [hs', ← m1]; grind
  have e1' : (num : Rat) * K = (wide : Rat) * fy * ((r.den : Int) : Rat) + up * (((r.num : Int) : Rat) - fx * ((r.den : Int) : Rat)) := by
    have := congrArg (fun x : Int => (x : Rat)) e1
    simpa only [Rat.intCast_mul, Rat.intCast_add, Rat.intCast_sub] using this
  have e2' : (den : Rat) * K = (wide : Rat) * ((r.den : Int) : Rat) := by
    have := congrArg (fun x : Int => (x : Rat)) e2
    simpa only [Rat.intCast_mul] using this
  have hK' : (K : Rat) ≠ 0 := by
    intro e
    exact hK (Rat.intCast_inj.1 (e.trans rfl))
  have hd' : (den : Rat) ≠ 0 := by
    intro e
    exact hd (Rat.intCast_inj.1 (e.trans rfl))
  have hr := rat_parts r
  rw [Rat.divInt_eq_div]
  have hfin : segV (fx, fy) (tx, ty) r * den = num := by
    refine rcancel hK' ?_
    rw [m2, Rat.mul_assoc, e2', e1', hu]
    generalize (((r.den : Int)) : Rat) = d at *
    generalize ((r.num : Int) : Rat) = n at *
    grind
  rw [← hfin, Rat.div_def, Rat.mul_assoc, Rat.mul_inv_cancel _ hd', Rat.mul_one]
theorem climb_slope {rise width : Int} (hw : 0 < width) : (Rat.divInt rise width).num * width = rise * (Rat.divInt rise width).den := by
  have h := rat_parts (Rat.divInt rise width)
  have hn : (width : Rat) ≠ 0 := by
    have := cast_lt hw
    have e0 : ((0 : Int) : Rat) = 0 := rfl
    grind
  have h2 : Rat.divInt rise width * (width : Rat) = (rise : Rat) := by
    rw [Rat.divInt_eq_div, Rat.div_def, Rat.mul_assoc, Rat.mul_comm (width : Rat)⁻¹, Rat.mul_inv_cancel _ hn, Rat.mul_one]
  apply Rat.intCast_inj.1
  rw [Rat.intCast_mul, Rat.intCast_mul]
  rw [← h, ← h2]
  generalize Rat.divInt rise width = s
  grind
/-- numbers up to 10^25 times the denominator are integers of the program -/
def Fit (D : Nat) : Prop := 1 ≤ D ∧ ∀ x : Int, x.natAbs ≤ 10000000000000000000000000 * D → Lib.nDigits x.natAbs ≤ 4096
theorem fit_of {k : Nat} {r : Rat} (h : Sh k r) (hk : k ≤ 4000) : Fit r.den := by
  refine ⟨by have := den_pos r; omega, fun x hx => ?_⟩
  have hk1 := h.pos
  have h2 := (nDigits_le_iff r.den k hk1).1 h.2
  have e26 : (10 : Nat) ^ 26 = 100000000000000000000000000 := by decide
  have h3 : Lib.nDigits x.natAbs ≤ k + 26 := by
    rw [nDigits_le_iff _ _ (by omega), Nat.pow_add, e26]
    generalize (10 : Nat) ^ k = P at *
    omega
  omega
theorem Fit.nonneg {D : Nat} (h : Fit D) {x : Int} (h0 : 0 ≤ x) (h1 : x ≤ 10000000000000000000000000 * (D : Int)) : Lib.nDigits x.natAbs ≤ 4096 := h.2 x (by omega)
end Go.Proofs.YtlbnibicehpobaaGreatDoor.Z
