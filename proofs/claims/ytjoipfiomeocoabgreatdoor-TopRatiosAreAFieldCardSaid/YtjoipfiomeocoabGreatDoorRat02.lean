/- Rational numbers: what the operations return. -/
import Derived.Test.YtjoipfiomeocoabGreatDoorRat01
set_option linter.unusedVariables false
set_option linter.unusedSimpArgs false
namespace Go.Proofs.YtjoipfiomeocoabGreatDoor
open Go.RowKit
open Z

/-- the divisor by which a quotient is reduced: it has the sign of the denominator -/
def gs (p q : Int) : Int := if q < 0 then -((Nat.gcd p.natAbs q.natAbs : Nat) : Int) else ((Nat.gcd p.natAbs q.natAbs : Nat) : Int)
theorem gcd_pos {p q : Int} (hq : q ≠ 0) : 0 < Nat.gcd p.natAbs q.natAbs := Nat.gcd_pos_of_pos_right _ (by omega)
theorem gs_ne {p q : Int} (hq : q ≠ 0) : gs p q ≠ 0 := by
  have := gcd_pos (p := p) hq
  unfold gs; split <;> omega
theorem gs_num {p q : Int} (hq : q ≠ 0) : p.fdiv (gs p q) = (Rat.divInt p q).num := by
  have hg := gcd_pos (p := p) hq
  have hd : ((Nat.gcd p.natAbs q.natAbs : Nat) : Int) ∣ p := Int.ofNat_dvd_left.2 (Nat.gcd_dvd_left _ _)
  rw [Rat.num_divInt, show q.gcd p = Nat.gcd p.natAbs q.natAbs by rw [Int.gcd, Nat.gcd_comm]]
  unfold gs
  by_cases h : q < 0
  · rw [if_pos h, Int.sign_eq_neg_one_of_neg h, Int.fdiv_eq_ediv_of_dvd (Int.neg_dvd.2 hd), Int.ediv_neg, Int.neg_mul, Int.one_mul, Int.neg_ediv_of_dvd hd]
  · rw [if_neg h, Int.sign_eq_one_of_pos (by omega), Int.fdiv_eq_ediv_of_dvd hd, Int.one_mul]
theorem gs_den {p q : Int} (hq : q ≠ 0) : q.fdiv (gs p q) = ((Rat.divInt p q).den : Int) := by
  have hg := gcd_pos (p := p) hq
  have hd : ((Nat.gcd p.natAbs q.natAbs : Nat) : Int) ∣ q := Int.ofNat_dvd_left.2 (Nat.gcd_dvd_right _ _)
  rw [Rat.den_divInt, if_neg hq, show q.gcd p = Nat.gcd p.natAbs q.natAbs by rw [Int.gcd, Nat.gcd_comm], Int.natCast_ediv]
  unfold gs
  by_cases h : q < 0
  · rw [if_pos h, Int.fdiv_eq_ediv_of_dvd (Int.neg_dvd.2 hd), Int.ediv_neg, ← Int.neg_ediv_of_dvd hd]
    congr 1; omega
  · rw [if_neg h, Int.fdiv_eq_ediv_of_dvd hd]
    congr 1; omega
theorem num_le {p q : Int} (hq : q ≠ 0) : (Rat.divInt p q).num.natAbs ≤ p.natAbs := by
  have hg := gcd_pos (p := p) hq
  rw [Rat.num_divInt, show q.gcd p = Nat.gcd p.natAbs q.natAbs by rw [Int.gcd, Nat.gcd_comm]]
  have hd : ((Nat.gcd p.natAbs q.natAbs : Nat) : Int) ∣ q.sign * p := Int.dvd_mul_of_dvd_right (Int.ofNat_dvd_left.2 (Nat.gcd_dvd_left _ _))
  rw [Int.natAbs_ediv_of_dvd hd, Int.natAbs_mul, Int.natAbs_natCast]
  refine Nat.le_trans (Nat.div_le_self _ _) ?_
  have : q.sign.natAbs ≤ 1 := by rw [Int.natAbs_sign]; split <;> omega
  calc q.sign.natAbs * p.natAbs ≤ 1 * p.natAbs := Nat.mul_le_mul_right _ this
    _ = p.natAbs := Nat.one_mul _
theorem den_le {p q : Int} (hq : q ≠ 0) : (Rat.divInt p q).den ≤ q.natAbs := by
  rw [Rat.den_divInt, if_neg hq]
  exact Nat.div_le_self _ _
theorem den_pos (r : Rat) : (0 : Int) < r.den := by have := r.den_nz; omega
theorem add_parts (a b : Rat) : a + b = Rat.divInt (a.num * b.den + b.num * a.den) ((a.den : Int) * b.den) := by
  rw [Rat.add_def', ← Rat.divInt_ofNat, Int.natCast_mul]
theorem sub_parts (a b : Rat) : a - b = Rat.divInt (a.num * b.den - b.num * a.den) ((a.den : Int) * b.den) := by
  rw [Rat.sub_def', ← Rat.divInt_ofNat, Int.natCast_mul]
theorem mul_parts (a b : Rat) : a * b = Rat.divInt (a.num * b.num) ((a.den : Int) * b.den) := by
  rw [Rat.mul_def', ← Rat.divInt_ofNat, Int.natCast_mul]
theorem div_parts (a b : Rat) : a / b = Rat.divInt (a.num * b.den) ((a.den : Int) * b.num) := by
  rw [Rat.div_def, Rat.inv_def]
  conv => lhs; rw [← Rat.num_divInt_den a, Rat.divInt_mul_divInt]
theorem self_parts (a : Rat) : Rat.divInt a.num a.den = a := Rat.num_divInt_den a
theorem floor_parts (a : Rat) : a.num.fdiv a.den = a.floor := by
  rw [Rat.floor_def, Int.fdiv_eq_ediv_of_nonneg _ (by omega)]
/-- which of two numbers is greater -/
def cmpQ (a b : Rat) : Int := if a < b then -1 else if b < a then 1 else 0
theorem lt_parts (a b : Rat) : a < b ↔ a.num * b.den < b.num * a.den := Rat.lt_iff a b
/-- the nearest integer -/
def nearest (a : Rat) : Int := (a + 1/2).floor
theorem half_num : ((1:Rat)/2).num = 1 ∧ ((1:Rat)/2).den = 2 := by decide +kernel
theorem round_parts (a : Rat) : nearest a = if a.num.fmod a.den < a.den - a.num.fmod a.den then a.num.fdiv a.den else a.num.fdiv a.den + 1 := by
  unfold nearest
  have hd := den_pos a
  have hf := floor_parts a
  have hm := Int.mul_fdiv_add_fmod a.num a.den
  have h0 := Int.fmod_nonneg_of_pos a.num hd
  have h1 := Int.fmod_lt_of_pos a.num hd
  generalize a.num.fdiv a.den = q at *
  generalize a.num.fmod a.den = m at *
  have hle : ∀ x : Int, x ≤ (a + 1/2).floor ↔ 2 * x * a.den ≤ 2 * a.num + a.den := by
    intro x
    rw [Rat.le_floor_iff, add_parts, half_num.1, half_num.2]
    have hpos : (0 : Int) < (a.den : Int) * ((2 : Nat) : Int) := by omega
    rw [Rat.divInt_eq_div, Rat.le_iff_sub_nonneg, ← Rat.le_iff_sub_nonneg]
    have hposR : (0 : Rat) < (((a.den : Int) * ((2:Nat):Int) : Int) : Rat) := Rat.intCast_pos.2 hpos
    have key : (x : Rat) ≤ ((a.num * ((2:Nat):Int) + 1 * a.den : Int) : Rat) / (((a.den : Int) * ((2:Nat):Int) : Int) : Rat) ↔ x * ((a.den : Int) * ((2:Nat):Int)) ≤ a.num * ((2:Nat):Int) + 1 * a.den := by
      rw [← Rat.not_lt, Rat.div_lt_iff hposR, ← Rat.intCast_mul, Rat.intCast_lt_intCast]; omega
    rw [key]
    constructor
    · intro h; rw [Int.one_mul] at h; rw [show x * ((a.den : Int) * ((2:Nat):Int)) = 2 * x * a.den by rw [Int.mul_comm 2 x, Int.mul_assoc, Int.mul_comm 2 (a.den : Int)]; rfl] at h; omega
    · intro h; rw [Int.one_mul]; rw [show x * ((a.den : Int) * ((2:Nat):Int)) = 2 * x * a.den by rw [Int.mul_comm 2 x, Int.mul_assoc, Int.mul_comm 2 (a.den : Int)]; rfl]; omega
  have hup : ∀ x : Int, (∀ y : Int, y ≤ (a + 1/2).floor ↔ y ≤ x) → (a + 1/2).floor = x := by
    intro x h
    have h2 := (h (a + 1/2).floor).1 (by omega)
    have h3 := (h x).2 (by omega)
    omega
  apply hup
  intro y
  rw [hle y]
  generalize (a.den : Int) = d at *
  rw [← hm]
  split
  · rename_i hlt
    constructor
    · intro h
      by_cases hy : y ≤ q
      · exact hy
      · exfalso
        have : 2 * (q + 1) * d ≤ 2 * y * d := Int.mul_le_mul_of_nonneg_right (by omega) (by omega)
        rw [show 2 * (q + 1) * d = 2 * (d * q) + 2 * d by rw [Int.mul_add, Int.add_mul, Int.mul_assoc, Int.mul_comm q d]; omega] at this
        omega
    · intro h
      have : 2 * y * d ≤ 2 * q * d := Int.mul_le_mul_of_nonneg_right (by omega) (by omega)
      rw [show 2 * q * d = 2 * (d * q) by rw [Int.mul_assoc, Int.mul_comm q d]] at this
      omega
  · rename_i hge
    constructor
    · intro h
      by_cases hy : y ≤ q + 1
      · exact hy
      · exfalso
        have : 2 * (q + 2) * d ≤ 2 * y * d := Int.mul_le_mul_of_nonneg_right (by omega) (by omega)
        rw [show 2 * (q + 2) * d = 2 * (d * q) + 4 * d by rw [Int.mul_add, Int.add_mul, Int.mul_assoc, Int.mul_comm q d]; omega] at this
        omega
    · intro h
      have : 2 * y * d ≤ 2 * (q + 1) * d := Int.mul_le_mul_of_nonneg_right (by omega) (by omega)
      rw [show 2 * (q + 1) * d = 2 * (d * q) + 2 * d by rw [Int.mul_add, Int.add_mul, Int.mul_assoc, Int.mul_comm q d]; omega] at this
      omega

theorem cmpQ_parts (a b : Rat) : cmpZ (a.num * b.den) (b.num * a.den) = cmpQ a b := by
  unfold cmpZ cmpQ
  simp only [Rat.lt_iff]
theorem cmpQ_lt {a b : Rat} (h : a < b) : cmpQ a b = -1 := by unfold cmpQ; rw [if_pos h]
theorem cmpQ_gt {a b : Rat} (h : b < a) : cmpQ a b = 1 := by unfold cmpQ; rw [if_neg (by rw [Rat.not_lt]; exact Rat.le_of_lt h), if_pos h]
theorem cmpQ_self (a : Rat) : cmpQ a a = 0 := by unfold cmpQ; rw [if_neg Rat.lt_irrefl, if_neg Rat.lt_irrefl]
theorem cmpQ_cases (a b : Rat) : (a < b ∧ cmpQ a b = -1 ∧ cmpQ b a = 1) ∨ (a = b ∧ cmpQ a b = 0 ∧ cmpQ b a = 0) ∨ (b < a ∧ cmpQ a b = 1 ∧ cmpQ b a = -1) := by
  by_cases h : a < b
  · exact .inl ⟨h, cmpQ_lt h, cmpQ_gt h⟩
  · by_cases h' : b < a
    · exact .inr (.inr ⟨h', cmpQ_gt h', cmpQ_lt h'⟩)
    · have e : a = b := Rat.le_antisymm (Rat.not_lt.1 h') (Rat.not_lt.1 h)
      subst e
      exact .inr (.inl ⟨rfl, cmpQ_self _, cmpQ_self _⟩)
theorem cmpQ_range (a b : Rat) : cmpQ a b = -1 ∨ cmpQ a b = 0 ∨ cmpQ a b = 1 := by
  rcases cmpQ_cases a b with ⟨_, h, _⟩ | ⟨_, h, _⟩ | ⟨_, h, _⟩
  · exact .inl h
  · exact .inr (.inl h)
  · exact .inr (.inr h)

/-- more than 4096 digits -/
def lg (x : Int) : Bool := decide (4096 < Lib.nDigits x.natAbs)
theorem longR_lg (x : Int) : longR x = if lg x = true then (⟨#[]⟩, 23) else (Tx x, 0) := by
  unfold longR lg
  by_cases h : 4096 < Lib.nDigits x.natAbs
  · rw [if_pos h, if_pos (by simpa using h)]
  · rw [if_neg h, if_neg (by simpa using h)]
theorem lg_false {x : Int} : lg x = false ↔ Lib.nDigits x.natAbs ≤ 4096 := by unfold lg; simp
theorem nDigits_mono {u v : Nat} (h : u ≤ v) : Lib.nDigits u ≤ Lib.nDigits v := by
  have h1 := Lib.nDigits_pos v
  have h2 := (nDigits_le_iff v (Lib.nDigits v) (by omega)).1 (Nat.le_refl _)
  exact (nDigits_le_iff u (Lib.nDigits v) (by omega)).2 (by omega)
theorem lg_mono {x y : Int} (h : y.natAbs ≤ x.natAbs) (hx : lg x = false) : lg y = false :=
  lg_false.2 (Nat.le_trans (nDigits_mono h) (lg_false.1 hx))
theorem InR.num {r : Rat} (h : InR r) : lg r.num = false := lg_false.2 h.1
theorem InR.den {r : Rat} (h : InR r) : lg (r.den : Int) = false := lg_false.2 (by rw [Int.natAbs_natCast]; exact h.2)
theorem InR.mk {r : Rat} (h : lg r.num = false) (h' : lg (r.den : Int) = false) : InR r := ⟨lg_false.1 h, by have := lg_false.1 h'; rwa [Int.natAbs_natCast] at this⟩
theorem InR.divInt {p q : Int} (hq : q ≠ 0) (hp : lg p = false) (hq' : lg q = false) : InR (Rat.divInt p q) :=
  .mk (lg_mono (num_le hq) hp) (lg_mono (by rw [Int.natAbs_natCast]; exact den_le hq) hq')

/-- the number of a text -/
def rv (s : ByteArray) : Rat := Rat.divInt (ival (top s.data.toList)) (ival (bot s.data.toList))
theorem rv_RT (r : Rat) : rv (RT r) = r := by
  unfold rv
  rw [(top_RT r).1, (top_RT r).2.1, ival_itoa, ival_itoa]
  exact Rat.num_divInt_den r
theorem RT_inj {a b : Rat} (h : RT a = RT b) : a = b := by have := congrArg rv h; rwa [rv_RT, rv_RT] at this
def chkS (s : ByteArray) : Int := chk2 s.data.toList
theorem chkS_val (s : ByteArray) : chkS s = 0 ∨ chkS s = 3 ∨ chkS s = 23 := chk2_val _
theorem chkS_RT {r : Rat} (h : InR r) : chkS (RT r) = 0 := chk2_RT h
theorem chkS_cases (s : ByteArray) : chkS s ≠ 0 ∨ (∃ r : Rat, s = RT r ∧ InR r) := by
  rcases chk2_cases s with h | ⟨r, h1, h2, _⟩
  · left; intro e; have e2 : chk2 s.data.toList = 0 := e; rw [e2] at h; simp at h
  · exact .inr ⟨r, h1, h2⟩
def both2 (s t : ByteArray) : Int := if chkS s = 0 then chkS t else chkS s
theorem both2_val (s t : ByteArray) : both2 s t = 0 ∨ both2 s t = 3 ∨ both2 s t = 23 := by
  unfold both2; split
  · exact chkS_val t
  · exact chkS_val s
theorem both2_RT {a b : Rat} (ha : InR a) (hb : InR b) : both2 (RT a) (RT b) = 0 := by unfold both2; rw [if_pos (chkS_RT ha), chkS_RT hb]
theorem both2_cases (s t : ByteArray) : both2 s t ≠ 0 ∨ (∃ a b : Rat, s = RT a ∧ t = RT b ∧ InR a ∧ InR b) := by
  rcases chkS_cases s with h | ⟨a, rfl, ha⟩
  · left; unfold both2; rw [if_neg h]; exact h
  · rcases chkS_cases t with h | ⟨b, rfl, hb⟩
    · left; unfold both2; rw [if_pos (chkS_RT ha)]; exact h
    · exact .inr ⟨a, b, rfl, rfl, ha, hb⟩
/-- the result of an operation for two texts -/
def op2 (s t : ByteArray) (f : Rat → Rat → ByteArray × Int) : ByteArray × Int := if both2 s t = 0 then f (rv s) (rv t) else (⟨#[]⟩, both2 s t)
theorem op2_err {s t : ByteArray} {f : Rat → Rat → ByteArray × Int} (h : both2 s t ≠ 0) : op2 s t f = (⟨#[]⟩, both2 s t) := by unfold op2; rw [if_neg h]
theorem op2_ok {a b : Rat} {f : Rat → Rat → ByteArray × Int} (ha : InR a) (hb : InR b) : op2 (RT a) (RT b) f = f a b := by unfold op2; rw [if_pos (both2_RT ha hb), rv_RT, rv_RT]
def crossL (a b : Rat) : Bool := lg (a.num * b.den) || lg (b.num * a.den)
def addR (a b : Rat) : ByteArray × Int := if (crossL a b || lg (a.num * b.den + b.num * a.den) || lg ((a.den : Int) * b.den)) = true then (⟨#[]⟩, 23) else (RT (a + b), 0)
def subR (a b : Rat) : ByteArray × Int := if (crossL a b || lg (a.num * b.den - b.num * a.den) || lg ((a.den : Int) * b.den)) = true then (⟨#[]⟩, 23) else (RT (a - b), 0)
def mulR (a b : Rat) : ByteArray × Int := if (lg (a.num * b.num) || lg ((a.den : Int) * b.den)) = true then (⟨#[]⟩, 23) else (RT (a * b), 0)
def divR (a b : Rat) : ByteArray × Int := if b = 0 then (⟨#[]⟩, 15) else if (lg (a.num * b.den) || lg ((a.den : Int) * b.num)) = true then (⟨#[]⟩, 23) else (RT (a / b), 0)
def cmp2 (s t : ByteArray) : Int × Int := if both2 s t = 0 then (if crossL (rv s) (rv t) = true then (0, 23) else (cmpQ (rv s) (rv t), 0)) else (0, both2 s t)
theorem cmp2_err {s t : ByteArray} (h : both2 s t ≠ 0) : cmp2 s t = (0, both2 s t) := by unfold cmp2; rw [if_neg h]
theorem cmp2_ok {a b : Rat} (ha : InR a) (hb : InR b) : cmp2 (RT a) (RT b) = if crossL a b = true then (0, 23) else (cmpQ a b, 0) := by
  unfold cmp2; rw [if_pos (both2_RT ha hb), rv_RT, rv_RT]
/-- the lesser and the greater one -/
def minR (s t : ByteArray) : ByteArray × Int := if (cmp2 s t).2 = 0 then (if (cmp2 s t).1 < 0 then s else t, 0) else (⟨#[]⟩, (cmp2 s t).2)
def maxR (s t : ByteArray) : ByteArray × Int := if (cmp2 s t).2 = 0 then (if 0 < (cmp2 s t).1 then s else t, 0) else (⟨#[]⟩, (cmp2 s t).2)
def floorR (s : ByteArray) : ByteArray × Int := if chkS s = 0 then (Tx (rv s).floor, 0) else (⟨#[]⟩, chkS s)
def roundR (s : ByteArray) : ByteArray × Int := if chkS s = 0 then (Tx (nearest (rv s)), 0) else (⟨#[]⟩, chkS s)
def negR (s : ByteArray) : ByteArray × Int := if chkS s = 0 then (RT (-(rv s)), 0) else (⟨#[]⟩, chkS s)
def mixR (s t u : ByteArray) : ByteArray × Int :=
  if chkS s ≠ 0 then (⟨#[]⟩, chkS s) else if chkS t ≠ 0 then (⟨#[]⟩, chkS t) else if chkS u ≠ 0 then (⟨#[]⟩, chkS u) else
  if (op2 t s subR).2 ≠ 0 then (⟨#[]⟩, (op2 t s subR).2) else
  if (op2 (op2 t s subR).1 u mulR).2 ≠ 0 then (⟨#[]⟩, (op2 (op2 t s subR).1 u mulR).2) else op2 s (op2 (op2 t s subR).1 u mulR).1 addR
def whole (n : Int) : ByteArray := Tx n
def clampR (s : ByteArray) (low high : Int) : ByteArray × Int :=
  if chkS s ≠ 0 then (⟨#[]⟩, chkS s) else if high < low then (⟨#[]⟩, 2) else
  if (cmp2 s (Tx low)).2 ≠ 0 then (⟨#[]⟩, (cmp2 s (Tx low)).2) else if (cmp2 s (Tx high)).2 ≠ 0 then (⟨#[]⟩, (cmp2 s (Tx high)).2) else
  if (cmp2 s (Tx low)).1 < 0 then (Tx low, 0) else if 0 < (cmp2 s (Tx high)).1 then (Tx high, 0) else (s, 0)
def ofR (s t : ByteArray) : ByteArray × Int := if both s t = 0 then (if ival t.data.toList = 0 then (⟨#[]⟩, 15) else (RT (Rat.divInt (ival s.data.toList) (ival t.data.toList)), 0)) else (⟨#[]⟩, both s t)
def partR (a b : Int) : ByteArray × Int := if b = 0 then (⟨#[]⟩, 15) else (RT (Rat.divInt a b), 0)
theorem RT_int (n : Int) : RT ((n : Int) : Rat) = Tx n := by unfold RT; rw [Rat.den_intCast, if_pos rfl, Rat.num_intCast]
end Go.Proofs.YtjoipfiomeocoabGreatDoor
