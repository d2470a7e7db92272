/- Plain mathematics of single glides, and of the levels of chains. -/
import Derived.Test.YtffifpinnhaloaaGreatDoorGlM
import Derived.Test.YtffifpinnhaloaaGreatDoorLaw02p
set_option linter.unusedVariables false
set_option linter.unusedSimpArgs false
namespace Go.Proofs.YtffifpinnhaloaaGreatDoor
open Go.RowKit
open Z

theorem sh_ofG {k : Nat} {a : Rat} (ha : Sh k a) {x st ti t : Int} (x0 : 0 ≤ x) (x1 : x ≤ 65535) (st0 : 0 ≤ st) (st1 : st ≤ 10000000) (ti0 : 0 ≤ ti) (ti1 : ti ≤ 10000000) : Sh (2 * k + 20) (ofG a x st ti t) := by
  unfold ofG
  split
  · exact (sh_lvl x0 x1).mono (by omega)
  · split
    · exact ha.mono (by omega)
    · exact (ha.add (((sh_lvl x0 x1).sub ha).mul (sh_part (p := t - st) (q := ti) (by omega) (by omega) (by omega) (by omega)))).mono (by omega)
theorem part_mono {p p' q : Int} (hq : 0 < q) (h : p ≤ p') : Rat.divInt p q ≤ Rat.divInt p' q := by
  rw [Rat.divInt_eq_div, Rat.divInt_eq_div, Rat.div_def, Rat.div_def]
  exact Rat.mul_le_mul_of_nonneg_right (Rat.intCast_le_intCast.2 h) (Rat.le_of_lt (Rat.inv_pos.2 (Rat.intCast_pos.2 hq)))
theorem part_self {q : Int} (hq : 0 < q) : Rat.divInt q q = 1 := by
  rw [Rat.divInt_eq_div, Rat.div_def, Rat.mul_inv_cancel _ (by have := Rat.intCast_pos.2 hq; grind)]
theorem part_01 {p q : Int} (hq : 0 < q) (h0 : 0 ≤ p) (h1 : p ≤ q) : 0 ≤ Rat.divInt p q ∧ Rat.divInt p q ≤ 1 := by
  refine ⟨?_, ?_⟩
  · have := part_mono hq h0; rwa [divInt_zero] at this
  · have := part_mono hq h1; rwa [part_self hq] at this
/-- a glide stays between its levels, and goes one way -/
theorem ofG_up {a : Rat} {x st ti t : Int} (h : a ≤ (x : Rat)) (_ti0 : 0 ≤ ti) : a ≤ ofG a x st ti t ∧ ofG a x st ti t ≤ (x : Rat) := by
  unfold ofG
  split
  · exact ⟨h, Rat.le_refl⟩
  · split
    · exact ⟨Rat.le_refl, h⟩
    · obtain ⟨w0, w1⟩ := part_01 (p := t - st) (q := ti) (by omega) (by omega) (by omega)
      exact mix_ge h w0 w1
theorem ofG_down {a : Rat} {x st ti t : Int} (h : (x : Rat) ≤ a) (_ti0 : 0 ≤ ti) : (x : Rat) ≤ ofG a x st ti t ∧ ofG a x st ti t ≤ a := by
  unfold ofG
  split
  · exact ⟨Rat.le_refl, h⟩
  · split
    · exact ⟨h, Rat.le_refl⟩
    · obtain ⟨w0, w1⟩ := part_01 (p := t - st) (q := ti) (by omega) (by omega) (by omega)
      exact mix_le h w0 w1
theorem ofG_mono {a : Rat} {x st ti s t : Int} (h : a ≤ (x : Rat)) (ti0 : 0 ≤ ti) (hst : s ≤ t) : ofG a x st ti s ≤ ofG a x st ti t := by
  by_cases h1 : st + ti ≤ t
  · rw [show ofG a x st ti t = (x : Rat) by unfold ofG; rw [if_pos h1]]
    exact (ofG_up h ti0).2
  · by_cases h2 : s ≤ st
    · rw [show ofG a x st ti s = a by unfold ofG; rw [if_neg (by omega), if_pos h2]]
      exact (ofG_up h ti0).1
    · unfold ofG
      rw [if_neg (by omega), if_neg (by omega), if_neg (by omega), if_neg (by omega)]
      have h4 := part_mono (p := s - st) (p' := t - st) (q := ti) (by omega) (by omega)
      have h3 : 0 ≤ (x : Rat) - a := by grind
      have := Rat.mul_le_mul_of_nonneg_left h4 h3
      grind
theorem ofG_anti {a : Rat} {x st ti s t : Int} (h : (x : Rat) ≤ a) (ti0 : 0 ≤ ti) (hst : s ≤ t) : ofG a x st ti t ≤ ofG a x st ti s := by
  by_cases h1 : st + ti ≤ t
  · rw [show ofG a x st ti t = (x : Rat) by unfold ofG; rw [if_pos h1]]
    exact (ofG_down h ti0).1
  · by_cases h2 : s ≤ st
    · rw [show ofG a x st ti s = a by unfold ofG; rw [if_neg (by omega), if_pos h2]]
      exact (ofG_down h ti0).2
    · unfold ofG
      rw [if_neg (by omega), if_neg (by omega), if_neg (by omega), if_neg (by omega)]
      have h4 := part_mono (p := s - st) (p' := t - st) (q := ti) (by omega) (by omega)
      have h3 : 0 ≤ a - (x : Rat) := by grind
      have := Rat.mul_le_mul_of_nonneg_left h4 h3
      grind
theorem ofG_lvl {a : Rat} {x st ti t : Int} (ha : lvlQ a = true) (x0 : 0 ≤ x) (x1 : x ≤ 65535) (ti0 : 0 ≤ ti) : lvlQ (ofG a x st ti t) = true := by
  have hx := lvlQ_iff.1 (lvlQ_int x0 x1)
  have ha := lvlQ_iff.1 ha
  rw [lvlQ_iff]
  rcases Rat.le_total (a := a) (b := (x : Rat)) with h | h
  · have := ofG_up (st := st) (t := t) h ti0; grind
  · have := ofG_down (st := st) (t := t) h ti0; grind
theorem nearest_mono {a b : Rat} (h : a ≤ b) : nearest a ≤ nearest b := by
  unfold nearest
  exact Rat.floor_monotone (by grind)
theorem coarse_near (A : Rat) : A - ((257 * ((2 * nearest A + 257) / 514) : Int) : Rat) ≤ 257/2 ∧ -(257/2) ≤ A - ((257 * ((2 * nearest A + 257) / 514) : Int) : Rat) := by
  have h := near_diff A
  generalize nearest A = n at *
  have h1 : n - 257 * ((2 * n + 257) / 514) ≤ 128 := by omega
  have h2 : -128 ≤ n - 257 * ((2 * n + 257) / 514) := by omega
  generalize 257 * ((2 * n + 257) / 514) = m at *
  have h1' : (n : Rat) ≤ (m : Rat) + 128 := by
    have := Rat.intCast_le_intCast.2 (show n ≤ m + 128 by omega)
    rw [Rat.intCast_add] at this; exact this
  have h2' : (m : Rat) ≤ (n : Rat) + 128 := by
    have := Rat.intCast_le_intCast.2 (show m ≤ n + 128 by omega)
    rw [Rat.intCast_add] at this; exact this
  constructor <;> grind
/-- how far a glide has gone -/
def goneI (p ti : Int) : Int := if p ≤ 0 then 0 else if ti ≤ p then ti else p
theorem ofG_gone {a : Rat} {x st ti t : Int} (h : 0 < ti) : ofG a x st ti t = a + ((x : Rat) - a) * Rat.divInt (goneI (t - st) ti) ti := by
  unfold ofG goneI
  by_cases h1 : st + ti ≤ t
  · rw [if_pos h1, if_neg (by omega), if_pos (by omega), part_self h]; grind
  · rw [if_neg h1]
    by_cases h2 : t ≤ st
    · rw [if_pos h2, if_pos (by omega), divInt_zero]; grind
    · rw [if_neg h2, if_neg (by omega), if_neg (by omega)]
theorem divInt_sub' {p p' q : Int} : Rat.divInt p' q - Rat.divInt p q = Rat.divInt (p' - p) q := by
  rw [Rat.divInt_eq_div, Rat.divInt_eq_div, Rat.divInt_eq_div, Rat.div_def, Rat.div_def, Rat.div_def, Rat.intCast_sub]; grind
theorem ofG_slope {a : Rat} {x st ti t : Int} {m : Int} (ha : lvlQ a = true) (x0 : 0 ≤ x) (x1 : x ≤ 65535) (h : 0 < m) (hm : m ≤ ti) :
    ofG a x st ti (t + 1) - ofG a x st ti t ≤ Rat.divInt 65535 m ∧ ofG a x st ti t - ofG a x st ti (t + 1) ≤ Rat.divInt 65535 m := by
  rw [ofG_gone (by omega), ofG_gone (by omega)]
  have hx := lvlQ_iff.1 (lvlQ_int x0 x1)
  have ha := lvlQ_iff.1 ha
  have hd : goneI (t + 1 - st) ti - goneI (t - st) ti = 0 ∨ goneI (t + 1 - st) ti - goneI (t - st) ti = 1 := by unfold goneI; split <;> split <;> (try split) <;> (try split) <;> omega
  have e := divInt_sub' (p := goneI (t - st) ti) (p' := goneI (t + 1 - st) ti) (q := ti)
  generalize Rat.divInt (goneI (t + 1 - st) ti) ti = P' at *
  generalize Rat.divInt (goneI (t - st) ti) ti = P at *
  generalize goneI (t + 1 - st) ti - goneI (t - st) ti = d at *
  have hD : Rat.divInt 65535 m = 65535 * (m : Rat)⁻¹ := by rw [Rat.divInt_eq_div, Rat.div_def]; rfl
  have hti : 0 < (ti : Rat) := Rat.intCast_pos.2 (by omega)
  have hm0 : 0 < (m : Rat) := Rat.intCast_pos.2 h
  have hmt : (m : Rat) ≤ (ti : Rat) := Rat.intCast_le_intCast.2 hm
  have i1 : 0 < (ti : Rat)⁻¹ := Rat.inv_pos.2 hti
  have i0 : 0 < (m : Rat)⁻¹ := Rat.inv_pos.2 hm0
  have c1 : (ti : Rat) * (ti : Rat)⁻¹ = 1 := Rat.mul_inv_cancel _ (by grind)
  have c0 : (m : Rat) * (m : Rat)⁻¹ = 1 := Rat.mul_inv_cancel _ (by grind)
  have i2 : (ti : Rat)⁻¹ ≤ (m : Rat)⁻¹ := by
    have := Rat.mul_le_mul_of_nonneg_right hmt (Rat.le_of_lt (Rat.mul_pos i1 i0))
    have e1 : (m : Rat) * ((ti : Rat)⁻¹ * (m : Rat)⁻¹) = (ti : Rat)⁻¹ := by grind
    have e2 : (ti : Rat) * ((ti : Rat)⁻¹ * (m : Rat)⁻¹) = (m : Rat)⁻¹ := by grind
    rwa [e1, e2] at this
  rw [hD]
  have hP : P' - P = 0 ∨ P' - P = (ti : Rat)⁻¹ := by
    rcases hd with rfl | rfl
    · left; rw [e, divInt_zero]
    · right; rw [e, Rat.divInt_eq_div, Rat.div_def, show ((1 : Int) : Rat) = 1 from rfl, Rat.one_mul]
  generalize (ti : Rat)⁻¹ = T at *
  generalize (m : Rat)⁻¹ = M at *
  generalize (x : Rat) = X at *
  have b1 : X * T ≤ 65535 * T := Rat.mul_le_mul_of_nonneg_right hx.2 (Rat.le_of_lt i1)
  have b2 : a * T ≤ 65535 * T := Rat.mul_le_mul_of_nonneg_right ha.2 (Rat.le_of_lt i1)
  have b3 : 0 ≤ X * T := Rat.mul_nonneg hx.1 (Rat.le_of_lt i1)
  have b4 : 0 ≤ a * T := Rat.mul_nonneg ha.1 (Rat.le_of_lt i1)
  rcases hP with hP | hP
  · have : P' = P := by grind
    subst this
    constructor <;> grind
  · have : P' = P + T := by grind
    subst this
    constructor <;> grind
/-- the level of a chain -/
def valL : List Gl → Int → ByteArray
  | [], _ => ⟨#[]⟩
  | [g], t => g.at t
  | g :: h :: r, t => if h.st ≤ t then valL (h :: r) t else g.at t
theorem valL_at : ∀ {l : List Gl} {t : Int} {k : Nat} (h : IsAt l t k), valL l t = (l[k]'h.1).at t
  | [], _, _, h => absurd h.1 (by simp)
  | [g], t, k, h => by
    have : k = 0 := by have := h.1; simp at this; omega
    subst this; rfl
  | g :: h' :: r, t, k, h => by
    unfold valL
    by_cases hst : h'.st ≤ t
    · rw [if_pos hst]
      cases k with
      | zero => have := h.2.2 (by simp); simp at this; omega
      | succ k =>
        have h1 : IsAt (h' :: r) t k := ⟨by have := h.1; simpa using this, fun j hj hjk => by
          have := h.2.1 (j + 1) (by simpa using hj) (by omega)
          simpa using this, fun hk => by
          have := h.2.2 (by simpa using hk)
          simpa using this⟩
        rw [valL_at h1]
        simp
    · rw [if_neg hst]
      cases k with
      | zero => rfl
      | succ k => have := h.2.1 0 (by simp) (by omega); simp at this; omega
/-- what the value of a chain is -/
def valE (l : List Gl) (t : Int) : ByteArray × Int := if chainE l = 0 then (if l = [] then (⟨#[]⟩, 12) else (valL l t, 0)) else (⟨#[]⟩, chainE l)
end Go.Proofs.YtffifpinnhaloaaGreatDoor
