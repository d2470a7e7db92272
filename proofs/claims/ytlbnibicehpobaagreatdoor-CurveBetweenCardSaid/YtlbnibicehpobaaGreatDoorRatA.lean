/- RatA: Rat01, Rat02, Rat03, Rat04, joined. -/
import Derived.Test.YtlbnibicehpobaaGreatDoorRefB
import Derived.Lib.IndexMore
import Derived.Test.YtlbnibicehpobaaGreatDoorRet0
set_option linter.unusedVariables false
set_option linter.unusedSimpArgs false

/- Texts of rational numbers. -/
namespace Go.Proofs.YtlbnibicehpobaaGreatDoor
open Go.RowKit
open Z

/-- what stands before and behind the first slash of a text -/
def top (l : List UInt8) : List UInt8 := l.takeWhile (· != 47)
def rest (l : List UInt8) : List UInt8 := l.dropWhile (· != 47)
def parted (l : List UInt8) : Bool := l.contains 47
def bot (l : List UInt8) : List UInt8 := if parted l then (rest l).tail else [49]
theorem parted_split {l : List UInt8} (h : parted l = true) : l = top l ++ 47 :: bot l := by
  have h1 : top l ++ rest l = l := List.takeWhile_append_dropWhile
  have h2 : rest l = 47 :: (rest l).tail := by
    unfold parted at h
    unfold rest
    induction l with
    | nil => simp at h
    | cons c r ih =>
      by_cases hc : c = 47
      · subst hc; rfl
      · have h3 : (c != 47) = true := by simpa using hc
        rw [List.dropWhile_cons, if_pos h3]
        refine ih ?_ List.takeWhile_append_dropWhile
        simp only [List.contains_cons, Bool.or_eq_true, beq_iff_eq] at h
        rcases h with h | h
        · exact absurd h.symm hc
        · exact h
  unfold bot
  rw [if_pos h]
  exact (h1.symm.trans (by rw [← h2]))
theorem takeWhile_all {p : UInt8 → Bool} : ∀ {l : List UInt8}, (∀ c ∈ l, p c = true) → l.takeWhile p = l
  | [], _ => rfl
  | c :: r, h => by
    rw [List.takeWhile_cons, if_pos (h c (List.mem_cons_self ..)), takeWhile_all fun d hd => h d (List.mem_cons_of_mem _ hd)]
theorem unparted_top {l : List UInt8} (h : parted l = false) : top l = l ∧ bot l = [49] := by
  refine ⟨?_, by unfold bot; rw [h]; rfl⟩
  unfold top
  refine takeWhile_all ?_
  intro c hc
  unfold parted at h
  simp only [List.contains_eq_mem, decide_eq_false_iff_not] at h
  simp only [bne_iff_ne, ne_eq]
  intro e; subst e; exact h hc
theorem top_of {a b : List UInt8} (ha : (47 : UInt8) ∉ a) : parted (a ++ 47 :: b) = true ∧ top (a ++ 47 :: b) = a ∧ bot (a ++ 47 :: b) = b := by
  have hp : parted (a ++ 47 :: b) = true := by unfold parted; simp
  have hall : ∀ c ∈ a, (c != 47) = true := by
    intro c hc
    simp only [bne_iff_ne, ne_eq]
    intro e; subst e; exact ha hc
  have ht : top (a ++ 47 :: b) = a := by
    unfold top
    rw [List.takeWhile_append_of_pos hall]
    simp
  refine ⟨hp, ht, ?_⟩
  have h := parted_split hp
  rw [ht] at h
  have h2 := List.append_cancel_left h
  simp only [List.cons.injEq, true_and] at h2
  exact h2.symm
theorem noslash_digits {l : List UInt8} (h : l.all isD = true) : (47 : UInt8) ∉ l := by
  intro hc
  rw [List.all_eq_true] at h
  have := isD_iff.1 (h _ hc)
  simp at this
theorem noslash_itoa (a : Int) : (47 : UInt8) ∉ Lib.itoa a := by
  unfold Lib.itoa
  split
  · intro h
    rcases List.mem_cons.1 h with h | h
    · exact absurd h (by decide)
    · exact noslash_digits (dec_decDigits _).2.1 h
  · exact noslash_digits (dec_decDigits _).2.1
theorem noslash_form {l : List UInt8} (h : formB l = true) : (47 : UInt8) ∉ l := by
  rw [← itoa_ival _ h]; exact noslash_itoa _

/-- the text of a rational number -/
def RT (r : Rat) : ByteArray := if r.den = 1 then Tx r.num else Tx r.num ++ ⟨#[47]⟩ ++ Tx (r.den : Int)
theorem data_RT (r : Rat) : (RT r).data.toList = if r.den = 1 then Lib.itoa r.num else Lib.itoa r.num ++ 47 :: Lib.itoa (r.den : Int) := by
  unfold RT
  split
  · exact data_Tx _
  · simp only [ByteArray.data_append, Array.toList_append, data_Tx]
    simp
theorem itoa_one : Lib.itoa 1 = [49] := by
  have h := congrArg (fun s : ByteArray => s.data.toList) Tx_one
  simp only [data_Tx] at h
  exact h
theorem top_RT (r : Rat) : top (RT r).data.toList = Lib.itoa r.num ∧ bot (RT r).data.toList = Lib.itoa (r.den : Int) ∧ (parted (RT r).data.toList = true ↔ r.den ≠ 1) := by
  rw [data_RT]
  by_cases h : r.den = 1
  · rw [if_pos h]
    have hp : parted (Lib.itoa r.num) = false := by
      unfold parted
      simp only [List.contains_eq_mem, decide_eq_false_iff_not]
      exact noslash_itoa _
    refine ⟨(unparted_top hp).1, ?_, by rw [hp]; simp [h]⟩
    rw [(unparted_top hp).2, h]
    exact itoa_one.symm
  · rw [if_neg h]
    have := top_of (b := Lib.itoa (r.den : Int)) (noslash_itoa r.num)
    exact ⟨this.2.1, this.2.2, by rw [this.1]; simp [h]⟩
/-- what Check answers for a text -/
def chk2 (l : List UInt8) : Int :=
  if formB (top l) = false ∨ formB (bot l) = false then 3
  else if parted l = true ∧ (ival (bot l) ≤ 0 ∨ ival (bot l) = 1) then 3
  else if 4096 < (body (top l)).length ∨ 4096 < (body (bot l)).length then 23
  else if parted l = true ∧ Nat.gcd (ival (top l)).natAbs (ival (bot l)).natAbs ≠ 1 then 3
  else 0
theorem chk2_val (l : List UInt8) : chk2 l = 0 ∨ chk2 l = 3 ∨ chk2 l = 23 := by
  unfold chk2; repeat' split
  all_goals simp
/-- numerator and denominator of up to 4096 digits -/
def InR (r : Rat) : Prop := Lib.nDigits r.num.natAbs ≤ 4096 ∧ Lib.nDigits r.den ≤ 4096
theorem body_itoa_len (a : Int) : (body (Lib.itoa a)).length = Lib.nDigits a.natAbs := by
  have h := str_body_Tx a
  have h2 := congrArg ByteArray.size h
  rw [show (str (body (Tx a).data.toList)).size = (body (Tx a).data.toList).length by show (body (Tx a).data.toList).toArray.size = _; simp, data_Tx, size_Tx_nat] at h2
  exact h2
theorem chk2_RT {r : Rat} (h : InR r) : chk2 (RT r).data.toList = 0 := by
  obtain ⟨h1, h2, h3⟩ := top_RT r
  unfold chk2
  rw [h1, h2, body_itoa_len, body_itoa_len, ival_itoa, ival_itoa]
  have hd := r.den_nz
  rw [if_neg (by rw [form_itoa, form_itoa]; simp), if_neg (by rw [h3]; omega), if_neg (by have := h.1; have := h.2; rw [Int.natAbs_natCast]; omega), if_neg]
  rintro ⟨_, h4⟩
  exact h4 r.reduced
theorem chk2_cases (s : ByteArray) : (chk2 s.data.toList == 0) = false ∨ (∃ r : Rat, s = RT r ∧ InR r ∧ chk2 s.data.toList = 0) := by
  by_cases h0 : chk2 s.data.toList = 0
  · right
    have hc := h0
    unfold chk2 at h0
    split at h0
    · simp at h0
    · rename_i g1
      split at h0
      · simp at h0
      · rename_i g2
        split at h0
        · simp at h0
        · rename_i g3
          split at h0
          · simp at h0
          · rename_i g4
            obtain ⟨l, hl⟩ : ∃ l, l = s.data.toList := ⟨_, rfl⟩
            rw [← hl] at g1 g2 g3 g4 hc ⊢
            have f1 : formB (top l) = true := by cases h : formB (top l) <;> simp_all
            have f2 : formB (bot l) = true := by cases h : formB (bot l) <;> simp_all
            have e1 := itoa_ival _ f1
            have e2 := itoa_ival _ f2
            have n1 := body_itoa_len (ival (top l))
            have n2 := body_itoa_len (ival (bot l))
            rw [e1] at n1
            rw [e2] at n2
            cases hp : parted l with
            | false =>
              have ht := unparted_top hp
              refine ⟨((ival (top l) : Int) : Rat), ?_, ⟨?_, ?_⟩, hc⟩
              · apply ba_ext
                rw [data_RT, Rat.den_intCast, if_pos rfl, Rat.num_intCast, e1, ht.1, hl]
              · rw [Rat.num_intCast]; omega
              · rw [Rat.den_intCast, Lib.nDigits_small (by omega)]; omega
            | true =>
              have hpos : 1 < ival (bot l) := by
                have : ¬ (ival (bot l) ≤ 0 ∨ ival (bot l) = 1) := fun h => g2 ⟨hp, h⟩
                omega
              have hgcd : Nat.gcd (ival (top l)).natAbs (ival (bot l)).natAbs = 1 := by
                by_cases h : Nat.gcd (ival (top l)).natAbs (ival (bot l)).natAbs = 1
                · exact h
                · exact absurd ⟨hp, h⟩ g4
              refine ⟨⟨ival (top l), (ival (bot l)).natAbs, by omega, hgcd⟩, ?_, ⟨?_, ?_⟩, hc⟩
              · apply ba_ext
                rw [data_RT]
                simp only
                rw [if_neg (by omega), e1, show (((ival (bot l)).natAbs : Nat) : Int) = ival (bot l) by omega, e2, ← hl]
                exact parted_split hp
              · simp only; omega
              · simp only; omega
  · left; simpa using h0
end Go.Proofs.YtlbnibicehpobaaGreatDoor

/- Rational numbers: what the operations return. -/
namespace Go.Proofs.YtlbnibicehpobaaGreatDoor
open Go.RowKit
open Z

/-- the divisor by which a quotient is reduced: it has the sign of the denominator -/
def gs (p q : Int) : Int := if q < 0 then -((Nat.gcd p.natAbs q.natAbs : Nat) : Int) else ((Nat.gcd p.natAbs q.natAbs : Nat) : Int)
theorem gcd_pos {p q : Int} (hq : q ≠ 0) : 0 < Nat.gcd p.natAbs q.natAbs := Nat.gcd_pos_of_pos_right _ (by omega)
theorem gs_ne {p q : Int} (hq : q ≠ 0) : gs p q ≠ 0 := by
  have := gcd_pos (p := p) hq
  unfold gs; split <;> omega
theorem gs_num {p q : Int} (hq : q ≠ 0) : p.fdiv (gs p q) = (Rat.divInt p q).num := by
  have hg := gcd_pos (p := p) hq
  have hd : ((Nat.gcd p.natAbs q.natAbs : Nat) : Int) ∣ p := Int.ofNat_dvd_left.2 (Nat.gcd_dvd_left _ _)
  rw [Rat.num_divInt, show q.gcd p = Nat.gcd p.natAbs q.natAbs by rw [Int.gcd, Nat.gcd_comm]]
  unfold gs
  by_cases h : q < 0
  · rw [if_pos h, Int.sign_eq_neg_one_of_neg h, Int.fdiv_eq_ediv_of_dvd (Int.neg_dvd.2 hd), Int.ediv_neg, Int.neg_mul, Int.one_mul, Int.neg_ediv_of_dvd hd]
  · rw [if_neg h, Int.sign_eq_one_of_pos (by omega), Int.fdiv_eq_ediv_of_dvd hd, Int.one_mul]
theorem gs_den {p q : Int} (hq : q ≠ 0) : q.fdiv (gs p q) = ((Rat.divInt p q).den : Int) := by
  have hg := gcd_pos (p := p) hq
  have hd : ((Nat.gcd p.natAbs q.natAbs : Nat) : Int) ∣ q := Int.ofNat_dvd_left.2 (Nat.gcd_dvd_right _ _)
  rw [Rat.den_divInt, if_neg hq, show q.gcd p = Nat.gcd p.natAbs q.natAbs by rw [Int.gcd, Nat.gcd_comm], Int.natCast_ediv]
  unfold gs
  by_cases h : q < 0
  · rw [if_pos h, Int.fdiv_eq_ediv_of_dvd (Int.neg_dvd.2 hd), Int.ediv_neg, ← Int.neg_ediv_of_dvd hd]
    congr 1; omega
  · rw [if_neg h, Int.fdiv_eq_ediv_of_dvd hd]
    congr 1; omega
theorem num_le {p q : Int} (hq : q ≠ 0) : (Rat.divInt p q).num.natAbs ≤ p.natAbs := by
  have hg := gcd_pos (p := p) hq
  rw [Rat.num_divInt, show q.gcd p = Nat.gcd p.natAbs q.natAbs by rw [Int.gcd, Nat.gcd_comm]]
  have hd : ((Nat.gcd p.natAbs q.natAbs : Nat) : Int) ∣ q.sign * p := Int.dvd_mul_of_dvd_right (Int.ofNat_dvd_left.2 (Nat.gcd_dvd_left _ _))
  rw [Int.natAbs_ediv_of_dvd hd, Int.natAbs_mul, Int.natAbs_natCast]
  refine Nat.le_trans (Nat.div_le_self _ _) ?_
  have : q.sign.natAbs ≤ 1 := by rw [Int.natAbs_sign]; split <;> omega
  calc q.sign.natAbs * p.natAbs ≤ 1 * p.natAbs := Nat.mul_le_mul_right _ this
    _ = p.natAbs := Nat.one_mul _
theorem den_le {p q : Int} (hq : q ≠ 0) : (Rat.divInt p q).den ≤ q.natAbs := by
  rw [Rat.den_divInt, if_neg hq]
  exact Nat.div_le_self _ _
theorem den_pos (r : Rat) : (0 : Int) < r.den := by have := r.den_nz; omega
theorem add_parts (a b : Rat) : a + b = Rat.divInt (a.num * b.den + b.num * a.den) ((a.den : Int) * b.den) := by
  rw [Rat.add_def', ← Rat.divInt_ofNat, Int.natCast_mul]
theorem sub_parts (a b : Rat) : a - b = Rat.divInt (a.num * b.den - b.num * a.den) ((a.den : Int) * b.den) := by
  rw [Rat.sub_def', ← Rat.divInt_ofNat, Int.natCast_mul]
theorem mul_parts (a b : Rat) : a * b = Rat.divInt (a.num * b.num) ((a.den : Int) * b.den) := by
  rw [Rat.mul_def', ← Rat.divInt_ofNat, Int.natCast_mul]
theorem div_parts (a b : Rat) : a / b = Rat.divInt (a.num * b.den) ((a.den : Int) * b.num) := by
  rw [Rat.div_def, Rat.inv_def]
  conv => lhs; rw [← Rat.num_divInt_den a, Rat.divInt_mul_divInt]
theorem self_parts (a : Rat) : Rat.divInt a.num a.den = a := Rat.num_divInt_den a
theorem floor_parts (a : Rat) : a.num.fdiv a.den = a.floor := by
  rw [Rat.floor_def, Int.fdiv_eq_ediv_of_nonneg _ (by omega)]
/-- which of two numbers is greater -/
def cmpQ (a b : Rat) : Int := if a < b then -1 else if b < a then 1 else 0
theorem lt_parts (a b : Rat) : a < b ↔ a.num * b.den < b.num * a.den := Rat.lt_iff a b
/-- the nearest integer -/
def nearest (a : Rat) : Int := (a + 1/2).floor
theorem half_num : ((1:Rat)/2).num = 1 ∧ ((1:Rat)/2).den = 2 := by decide +kernel
theorem round_parts (a : Rat) : nearest a = if a.num.fmod a.den < a.den - a.num.fmod a.den then a.num.fdiv a.den else a.num.fdiv a.den + 1 := by
  unfold nearest
  have hd := den_pos a
  have hf := floor_parts a
  have hm := Int.mul_fdiv_add_fmod a.num a.den
  have h0 := Int.fmod_nonneg_of_pos a.num hd
  have h1 := Int.fmod_lt_of_pos a.num hd
  generalize a.num.fdiv a.den = q at *
  generalize a.num.fmod a.den = m at *
  have hle : ∀ x : Int, x ≤ (a + 1/2).floor ↔ 2 * x * a.den ≤ 2 * a.num + a.den := by
    intro x
    rw [Rat.le_floor_iff, add_parts, half_num.1, half_num.2]
    have hpos : (0 : Int) < (a.den : Int) * ((2 : Nat) : Int) := by omega
    rw [Rat.divInt_eq_div, Rat.le_iff_sub_nonneg, ← Rat.le_iff_sub_nonneg]
    have hposR : (0 : Rat) < (((a.den : Int) * ((2:Nat):Int) : Int) : Rat) := Rat.intCast_pos.2 hpos
    have key : (x : Rat) ≤ ((a.num * ((2:Nat):Int) + 1 * a.den : Int) : Rat) / (((a.den : Int) * ((2:Nat):Int) : Int) : Rat) ↔ x * ((a.den : Int) * ((2:Nat):Int)) ≤ a.num * ((2:Nat):Int) + 1 * a.den := by
      rw [← Rat.not_lt, Rat.div_lt_iff hposR, ← Rat.intCast_mul, Rat.intCast_lt_intCast]; omega
    rw [key]
    constructor
    · intro h; rw [Int.one_mul] at h; rw [show x * ((a.den : Int) * ((2:Nat):Int)) = 2 * x * a.den by rw [Int.mul_comm 2 x, Int.mul_assoc, Int.mul_comm 2 (a.den : Int)]; rfl] at h; omega
    · intro h; rw [Int.one_mul]; rw [show x * ((a.den : Int) * ((2:Nat):Int)) = 2 * x * a.den by rw [Int.mul_comm 2 x, Int.mul_assoc, Int.mul_comm 2 (a.den : Int)]; rfl]; omega
  have hup : ∀ x : Int, (∀ y : Int, y ≤ (a + 1/2).floor ↔ y ≤ x) → (a + 1/2).floor = x := by
    intro x h
    have h2 := (h (a + 1/2).floor).1 (by omega)
    have h3 := (h x).2 (by omega)
    omega
  apply hup
  intro y
  rw [hle y]
  generalize (a.den : Int) = d at *
  rw [← hm]
  split
  · rename_i hlt
    constructor
    · intro h
      by_cases hy : y ≤ q
      · exact hy
      · exfalso
        have : 2 * (q + 1) * d ≤ 2 * y * d := Int.mul_le_mul_of_nonneg_right (by omega) (by omega)
        rw [show 2 * (q + 1) * d = 2 * (d * q) + 2 * d by rw [Int.mul_add, Int.add_mul, Int.mul_assoc, Int.mul_comm q d]; omega] at this
        omega
    · intro h
      have : 2 * y * d ≤ 2 * q * d := Int.mul_le_mul_of_nonneg_right (by omega) (by omega)
      rw [show 2 * q * d = 2 * (d * q) by rw [Int.mul_assoc, Int.mul_comm q d]] at this
      omega
  · rename_i hge
    constructor
    · intro h
      by_cases hy : y ≤ q + 1
      · exact hy
      · exfalso
        have : 2 * (q + 2) * d ≤ 2 * y * d := Int.mul_le_mul_of_nonneg_right (by omega) (by omega)
        rw [show 2 * (q + 2) * d = 2 * (d * q) + 4 * d by rw [Int.mul_add, Int.add_mul, Int.mul_assoc, Int.mul_comm q d]; omega] at this
        omega
    · intro h
      have : 2 * y * d ≤ 2 * (q + 1) * d := Int.mul_le_mul_of_nonneg_right (by omega) (by omega)
      rw [show 2 * (q + 1) * d = 2 * (d * q) + 2 * d by rw [Int.mul_add, Int.add_mul, Int.mul_assoc, Int.mul_comm q d]; omega] at this
      omega

theorem cmpQ_parts (a b : Rat) : cmpZ (a.num * b.den) (b.num * a.den) = cmpQ a b := by
  unfold cmpZ cmpQ
  simp only [Rat.lt_iff]
theorem cmpQ_lt {a b : Rat} (h : a < b) : cmpQ a b = -1 := by unfold cmpQ; rw [if_pos h]
theorem cmpQ_gt {a b : Rat} (h : b < a) : cmpQ a b = 1 := by unfold cmpQ; rw [if_neg (by rw [Rat.not_lt]; exact Rat.le_of_lt h), if_pos h]
theorem cmpQ_self (a : Rat) : cmpQ a a = 0 := by unfold cmpQ; rw [if_neg Rat.lt_irrefl, if_neg Rat.lt_irrefl]
theorem cmpQ_cases (a b : Rat) : (a < b ∧ cmpQ a b = -1 ∧ cmpQ b a = 1) ∨ (a = b ∧ cmpQ a b = 0 ∧ cmpQ b a = 0) ∨ (b < a ∧ cmpQ a b = 1 ∧ cmpQ b a = -1) := by
  by_cases h : a < b
  · exact .inl ⟨h, cmpQ_lt h, cmpQ_gt h⟩
  · by_cases h' : b < a
    · exact .inr (.inr ⟨h', cmpQ_gt h', cmpQ_lt h'⟩)
    · have e : a = b := Rat.le_antisymm (Rat.not_lt.1 h') (Rat.not_lt.1 h)
      subst e
      exact .inr (.inl ⟨rfl, cmpQ_self _, cmpQ_self _⟩)
theorem cmpQ_range (a b : Rat) : cmpQ a b = -1 ∨ cmpQ a b = 0 ∨ cmpQ a b = 1 := by
  rcases cmpQ_cases a b with ⟨_, h, _⟩ | ⟨_, h, _⟩ | ⟨_, h, _⟩
  · exact .inl h
  · exact .inr (.inl h)
  · exact .inr (.inr h)

/-- more than 4096 digits -/
def lg (x : Int) : Bool := decide (4096 < Lib.nDigits x.natAbs)
theorem longR_lg (x : Int) : longR x = if lg x = true then (⟨#[]⟩, 23) else (Tx x, 0) := by
  unfold longR lg
  by_cases h : 4096 < Lib.nDigits x.natAbs
  · rw [if_pos h, if_pos (by simpa using h)]
  · rw [if_neg h, if_neg (by simpa using h)]
theorem lg_false {x : Int} : lg x = false ↔ Lib.nDigits x.natAbs ≤ 4096 := by unfold lg; simp
theorem nDigits_mono {u v : Nat} (h : u ≤ v) : Lib.nDigits u ≤ Lib.nDigits v := by
  have h1 := Lib.nDigits_pos v
  have h2 := (nDigits_le_iff v (Lib.nDigits v) (by omega)).1 (Nat.le_refl _)
  exact (nDigits_le_iff u (Lib.nDigits v) (by omega)).2 (by omega)
theorem lg_mono {x y : Int} (h : y.natAbs ≤ x.natAbs) (hx : lg x = false) : lg y = false :=
  lg_false.2 (Nat.le_trans (nDigits_mono h) (lg_false.1 hx))
theorem InR.num {r : Rat} (h : InR r) : lg r.num = false := lg_false.2 h.1
theorem InR.den {r : Rat} (h : InR r) : lg (r.den : Int) = false := lg_false.2 (by rw [Int.natAbs_natCast]; exact h.2)
theorem InR.mk {r : Rat} (h : lg r.num = false) (h' : lg (r.den : Int) = false) : InR r := ⟨lg_false.1 h, by have := lg_false.1 h'; rwa [Int.natAbs_natCast] at this⟩
theorem InR.divInt {p q : Int} (hq : q ≠ 0) (hp : lg p = false) (hq' : lg q = false) : InR (Rat.divInt p q) :=
  .mk (lg_mono (num_le hq) hp) (lg_mono (by rw [Int.natAbs_natCast]; exact den_le hq) hq')

/-- the number of a text -/
def rv (s : ByteArray) : Rat := Rat.divInt (ival (top s.data.toList)) (ival (bot s.data.toList))
theorem rv_RT (r : Rat) : rv (RT r) = r := by
  unfold rv
  rw [(top_RT r).1, (top_RT r).2.1, ival_itoa, ival_itoa]
  exact Rat.num_divInt_den r
theorem RT_inj {a b : Rat} (h : RT a = RT b) : a = b := by have := congrArg rv h; rwa [rv_RT, rv_RT] at this
def chkS (s : ByteArray) : Int := chk2 s.data.toList
theorem chkS_val (s : ByteArray) : chkS s = 0 ∨ chkS s = 3 ∨ chkS s = 23 := chk2_val _
theorem chkS_RT {r : Rat} (h : InR r) : chkS (RT r) = 0 := chk2_RT h
theorem chkS_cases (s : ByteArray) : chkS s ≠ 0 ∨ (∃ r : Rat, s = RT r ∧ InR r) := by
  rcases chk2_cases s with h | ⟨r, h1, h2, _⟩
  · left; intro e; have e2 : chk2 s.data.toList = 0 := e; rw [e2] at h; simp at h
  · exact .inr ⟨r, h1, h2⟩
def both2 (s t : ByteArray) : Int := if chkS s = 0 then chkS t else chkS s
theorem both2_val (s t : ByteArray) : both2 s t = 0 ∨ both2 s t = 3 ∨ both2 s t = 23 := by
  unfold both2; split
  · exact chkS_val t
  · exact chkS_val s
theorem both2_RT {a b : Rat} (ha : InR a) (hb : InR b) : both2 (RT a) (RT b) = 0 := by unfold both2; rw [if_pos (chkS_RT ha), chkS_RT hb]
theorem both2_cases (s t : ByteArray) : both2 s t ≠ 0 ∨ (∃ a b : Rat, s = RT a ∧ t = RT b ∧ InR a ∧ InR b) := by
  rcases chkS_cases s with h | ⟨a, rfl, ha⟩
  · left; unfold both2; rw [if_neg h]; exact h
  · rcases chkS_cases t with h | ⟨b, rfl, hb⟩
    · left; unfold both2; rw [if_pos (chkS_RT ha)]; exact h
    · exact .inr ⟨a, b, rfl, rfl, ha, hb⟩
/-- the result of an operation for two texts -/
def op2 (s t : ByteArray) (f : Rat → Rat → ByteArray × Int) : ByteArray × Int := if both2 s t = 0 then f (rv s) (rv t) else (⟨#[]⟩, both2 s t)
theorem op2_err {s t : ByteArray} {f : Rat → Rat → ByteArray × Int} (h : both2 s t ≠ 0) : op2 s t f = (⟨#[]⟩, both2 s t) := by unfold op2; rw [if_neg h]
theorem op2_ok {a b : Rat} {f : Rat → Rat → ByteArray × Int} (ha : InR a) (hb : InR b) : op2 (RT a) (RT b) f = f a b := by unfold op2; rw [if_pos (both2_RT ha hb), rv_RT, rv_RT]
def crossL (a b : Rat) : Bool := lg (a.num * b.den) || lg (b.num * a.den)
def addR (a b : Rat) : ByteArray × Int := if (crossL a b || lg (a.num * b.den + b.num * a.den) || lg ((a.den : Int) * b.den)) = true then (⟨#[]⟩, 23) else (RT (a + b), 0)
def subR (a b : Rat) : ByteArray × Int := if (crossL a b || lg (a.num * b.den - b.num * a.den) || lg ((a.den : Int) * b.den)) = true then (⟨#[]⟩, 23) else (RT (a - b), 0)
def mulR (a b : Rat) : ByteArray × Int := if (lg (a.num * b.num) || lg ((a.den : Int) * b.den)) = true then (⟨#[]⟩, 23) else (RT (a * b), 0)
def divR (a b : Rat) : ByteArray × Int := if b = 0 then (⟨#[]⟩, 15) else if (lg (a.num * b.den) || lg ((a.den : Int) * b.num)) = true then (⟨#[]⟩, 23) else (RT (a / b), 0)
def cmp2 (s t : ByteArray) : Int × Int := if both2 s t = 0 then (if crossL (rv s) (rv t) = true then (0, 23) else (cmpQ (rv s) (rv t), 0)) else (0, both2 s t)
theorem cmp2_err {s t : ByteArray} (h : both2 s t ≠ 0) : cmp2 s t = (0, both2 s t) := by unfold cmp2; rw [if_neg h]
theorem cmp2_ok {a b : Rat} (ha : InR a) (hb : InR b) : cmp2 (RT a) (RT b) = if crossL a b = true then (0, 23) else (cmpQ a b, 0) := by
  unfold cmp2; rw [if_pos (both2_RT ha hb), rv_RT, rv_RT]
/-- the lesser and the greater one -/
def minR (s t : ByteArray) : ByteArray × Int := if (cmp2 s t).2 = 0 then (if (cmp2 s t).1 < 0 then s else t, 0) else (⟨#[]⟩, (cmp2 s t).2)
def maxR (s t : ByteArray) : ByteArray × Int := if (cmp2 s t).2 = 0 then (if 0 < (cmp2 s t).1 then s else t, 0) else (⟨#[]⟩, (cmp2 s t).2)
def floorR (s : ByteArray) : ByteArray × Int := if chkS s = 0 then (Tx (rv s).floor, 0) else (⟨#[]⟩, chkS s)
def roundR (s : ByteArray) : ByteArray × Int := if chkS s = 0 then (Tx (nearest (rv s)), 0) else (⟨#[]⟩, chkS s)
def negR (s : ByteArray) : ByteArray × Int := if chkS s = 0 then (RT (-(rv s)), 0) else (⟨#[]⟩, chkS s)
def mixR (s t u : ByteArray) : ByteArray × Int :=
  if chkS s ≠ 0 then (⟨#[]⟩, chkS s) else if chkS t ≠ 0 then (⟨#[]⟩, chkS t) else if chkS u ≠ 0 then (⟨#[]⟩, chkS u) else
  if (op2 t s subR).2 ≠ 0 then (⟨#[]⟩, (op2 t s subR).2) else
  if (op2 (op2 t s subR).1 u mulR).2 ≠ 0 then (⟨#[]⟩, (op2 (op2 t s subR).1 u mulR).2) else op2 s (op2 (op2 t s subR).1 u mulR).1 addR
def whole (n : Int) : ByteArray := Tx n
def clampR (s : ByteArray) (low high : Int) : ByteArray × Int :=
  if chkS s ≠ 0 then (⟨#[]⟩, chkS s) else if high < low then (⟨#[]⟩, 2) else
  if (cmp2 s (Tx low)).2 ≠ 0 then (⟨#[]⟩, (cmp2 s (Tx low)).2) else if (cmp2 s (Tx high)).2 ≠ 0 then (⟨#[]⟩, (cmp2 s (Tx high)).2) else
  if (cmp2 s (Tx low)).1 < 0 then (Tx low, 0) else if 0 < (cmp2 s (Tx high)).1 then (Tx high, 0) else (s, 0)
def ofR (s t : ByteArray) : ByteArray × Int := if both s t = 0 then (if ival t.data.toList = 0 then (⟨#[]⟩, 15) else (RT (Rat.divInt (ival s.data.toList) (ival t.data.toList)), 0)) else (⟨#[]⟩, both s t)
def partR (a b : Int) : ByteArray × Int := if b = 0 then (⟨#[]⟩, 15) else (RT (Rat.divInt a b), 0)
theorem RT_int (n : Int) : RT ((n : Int) : Rat) = Tx n := by unfold RT; rw [Rat.den_intCast, if_pos rfl, Rat.num_intCast]
end Go.Proofs.YtlbnibicehpobaaGreatDoor

/- Rational numbers of few digits: what the operations return for them. -/
namespace Go.Proofs.YtlbnibicehpobaaGreatDoor
open Go.RowKit
open Z

/-- numerator and denominator of up to k digits -/
def Sh (k : Nat) (r : Rat) : Prop := Lib.nDigits r.num.natAbs ≤ k ∧ Lib.nDigits r.den ≤ k
theorem Sh.mono {k k' : Nat} {r : Rat} (h : Sh k r) (hk : k ≤ k') : Sh k' r := ⟨Nat.le_trans h.1 hk, Nat.le_trans h.2 hk⟩
theorem Sh.inR {k : Nat} {r : Rat} (h : Sh k r) (hk : k ≤ 4096) : InR r := ⟨Nat.le_trans h.1 hk, Nat.le_trans h.2 hk⟩
theorem InR.sh {r : Rat} (h : InR r) : Sh 4096 r := h
theorem Sh.divInt {k : Nat} {p q : Int} (hq : q ≠ 0) (hp : Lib.nDigits p.natAbs ≤ k) (hq' : Lib.nDigits q.natAbs ≤ k) : Sh k (Rat.divInt p q) :=
  ⟨Nat.le_trans (nDigits_mono (num_le hq)) hp, Nat.le_trans (nDigits_mono (den_le hq)) hq'⟩
theorem nd_mul {k k' : Nat} {x y : Int} (h : Lib.nDigits x.natAbs ≤ k) (h' : Lib.nDigits y.natAbs ≤ k') (hk : 1 ≤ k) (hk' : 1 ≤ k') : Lib.nDigits (x * y).natAbs ≤ k + k' := by
  have h1 := (nDigits_le_iff _ k hk).1 h
  have h2 := (nDigits_le_iff _ k' hk').1 h'
  refine (nDigits_le_iff _ (k + k') (by omega)).2 ?_
  rw [Int.natAbs_mul, Nat.pow_add]
  exact Nat.mul_lt_mul'' h1 h2
theorem nd_add {k : Nat} {x y : Int} (h : Lib.nDigits x.natAbs ≤ k) (h' : Lib.nDigits y.natAbs ≤ k) (hk : 1 ≤ k) : Lib.nDigits (x + y).natAbs ≤ k + 1 := by
  have h1 := (nDigits_le_iff _ k hk).1 h
  have h2 := (nDigits_le_iff _ k hk).1 h'
  refine (nDigits_le_iff _ (k + 1) (by omega)).2 ?_
  rw [Nat.pow_succ]
  have := Int.natAbs_add_le x y
  omega
theorem nd_sub {k : Nat} {x y : Int} (h : Lib.nDigits x.natAbs ≤ k) (h' : Lib.nDigits y.natAbs ≤ k) (hk : 1 ≤ k) : Lib.nDigits (x - y).natAbs ≤ k + 1 := by
  rw [Int.sub_eq_add_neg]; exact nd_add h (by rwa [Int.natAbs_neg]) hk
theorem Sh.pos {k : Nat} {r : Rat} (h : Sh k r) : 1 ≤ k := Nat.le_trans (Lib.nDigits_pos _) h.2
theorem Sh.d {k : Nat} {r : Rat} (h : Sh k r) : Lib.nDigits (r.den : Int).natAbs ≤ k := by rw [Int.natAbs_natCast]; exact h.2
theorem den_ne (r : Rat) : (r.den : Int) ≠ 0 := by have := r.den_nz; omega
theorem dens_ne (a b : Rat) : (a.den : Int) * b.den ≠ 0 := Int.mul_ne_zero (den_ne a) (den_ne b)
theorem Sh.add {k k' : Nat} {a b : Rat} (ha : Sh k a) (hb : Sh k' b) : Sh (k + k' + 1) (a + b) := by
  rw [add_parts]
  have := ha.pos; have := hb.pos
  refine .divInt (dens_ne a b) (nd_add (nd_mul ha.1 hb.d ha.pos hb.pos) ?_ (by omega)) (Nat.le_succ_of_le (nd_mul ha.d hb.d ha.pos hb.pos))
  rw [Nat.add_comm]; exact nd_mul hb.1 ha.d hb.pos ha.pos
theorem Sh.sub {k k' : Nat} {a b : Rat} (ha : Sh k a) (hb : Sh k' b) : Sh (k + k' + 1) (a - b) := by
  rw [sub_parts]
  have := ha.pos; have := hb.pos
  refine .divInt (dens_ne a b) (nd_sub (nd_mul ha.1 hb.d ha.pos hb.pos) ?_ (by omega)) (Nat.le_succ_of_le (nd_mul ha.d hb.d ha.pos hb.pos))
  rw [Nat.add_comm]; exact nd_mul hb.1 ha.d hb.pos ha.pos
theorem Sh.mul {k k' : Nat} {a b : Rat} (ha : Sh k a) (hb : Sh k' b) : Sh (k + k') (a * b) := by
  rw [mul_parts]
  exact .divInt (dens_ne a b) (nd_mul ha.1 hb.1 ha.pos hb.pos) (nd_mul ha.d hb.d ha.pos hb.pos)
theorem num_ne {b : Rat} (h : b ≠ 0) : b.num ≠ 0 := fun e => h (Rat.num_eq_zero.1 e)
theorem Sh.div {k k' : Nat} {a b : Rat} (ha : Sh k a) (hb : Sh k' b) (h0 : b ≠ 0) : Sh (k + k') (a / b) := by
  rw [div_parts]
  exact .divInt (Int.mul_ne_zero (den_ne a) (num_ne h0)) (nd_mul ha.1 hb.d ha.pos hb.pos) (nd_mul ha.d hb.1 ha.pos hb.pos)
theorem Sh.neg {k : Nat} {a : Rat} (ha : Sh k a) : Sh k (-a) := ⟨by rw [Rat.neg_num, Int.natAbs_neg]; exact ha.1, ha.2⟩
theorem cross_sh {k k' : Nat} {a b : Rat} (ha : Sh k a) (hb : Sh k' b) (hk : k + k' ≤ 4096) : crossL a b = false := by
  unfold crossL
  rw [lg_false.2 (Nat.le_trans (nd_mul ha.1 hb.d ha.pos hb.pos) hk), lg_false.2 (Nat.le_trans (nd_mul hb.1 ha.d hb.pos ha.pos) (by omega))]; rfl
theorem addR_sh {k k' : Nat} {a b : Rat} (ha : Sh k a) (hb : Sh k' b) (hk : k + k' + 1 ≤ 4096) : addR a b = (RT (a + b), 0) := by
  unfold addR
  rw [cross_sh ha hb (by omega), lg_false.2 (Nat.le_trans (nd_add (k := k + k') (nd_mul ha.1 hb.d ha.pos hb.pos) (by rw [Nat.add_comm]; exact nd_mul hb.1 ha.d hb.pos ha.pos) (by have := ha.pos; omega)) hk), lg_false.2 (Nat.le_trans (nd_mul ha.d hb.d ha.pos hb.pos) (by omega))]; rfl
theorem subR_sh {k k' : Nat} {a b : Rat} (ha : Sh k a) (hb : Sh k' b) (hk : k + k' + 1 ≤ 4096) : subR a b = (RT (a - b), 0) := by
  unfold subR
  rw [cross_sh ha hb (by omega), lg_false.2 (Nat.le_trans (nd_sub (k := k + k') (nd_mul ha.1 hb.d ha.pos hb.pos) (by rw [Nat.add_comm]; exact nd_mul hb.1 ha.d hb.pos ha.pos) (by have := ha.pos; omega)) hk), lg_false.2 (Nat.le_trans (nd_mul ha.d hb.d ha.pos hb.pos) (by omega))]; rfl
theorem mulR_sh {k k' : Nat} {a b : Rat} (ha : Sh k a) (hb : Sh k' b) (hk : k + k' ≤ 4096) : mulR a b = (RT (a * b), 0) := by
  unfold mulR
  rw [lg_false.2 (Nat.le_trans (nd_mul ha.1 hb.1 ha.pos hb.pos) hk), lg_false.2 (Nat.le_trans (nd_mul ha.d hb.d ha.pos hb.pos) hk)]; rfl
theorem divR_sh {k k' : Nat} {a b : Rat} (ha : Sh k a) (hb : Sh k' b) (hk : k + k' ≤ 4096) (h0 : b ≠ 0) : divR a b = (RT (a / b), 0) := by
  unfold divR
  rw [if_neg h0, lg_false.2 (Nat.le_trans (nd_mul ha.1 hb.d ha.pos hb.pos) hk), lg_false.2 (Nat.le_trans (nd_mul ha.d hb.1 ha.pos hb.pos) hk)]; rfl
theorem cmp2_sh {k k' : Nat} {a b : Rat} (ha : Sh k a) (hb : Sh k' b) (hk : k + k' ≤ 4096) : cmp2 (RT a) (RT b) = (cmpQ a b, 0) := by
  have := ha.pos; have := hb.pos
  rw [cmp2_ok (ha.inR (by omega)) (hb.inR (by omega)), cross_sh ha hb hk]; rfl
theorem negR_ok {a : Rat} (ha : InR a) : negR (RT a) = (RT (-a), 0) := by unfold negR; rw [if_pos (chkS_RT ha), rv_RT]
theorem floorR_ok {a : Rat} (ha : InR a) : floorR (RT a) = (Tx a.floor, 0) := by unfold floorR; rw [if_pos (chkS_RT ha), rv_RT]
theorem roundR_ok {a : Rat} (ha : InR a) : roundR (RT a) = (Tx (nearest a), 0) := by unfold roundR; rw [if_pos (chkS_RT ha), rv_RT]
theorem floor_abs (a : Rat) : a.floor.natAbs ≤ a.num.natAbs := by
  rw [← floor_parts]; exact fdiv_natAbs_le _ _ (den_ne a)
/-- 0 - a needs no more digits than a -/
theorem neg_sub0 {a : Rat} (ha : InR a) : op2 (Tx 0) (RT a) subR = negR (RT a) := by
  have h0 : InR 0 := ⟨by rw [Rat.zero_num, Lib.nDigits_small (by decide)]; omega, by rw [Rat.zero_den, Lib.nDigits_small (by decide)]; omega⟩
  have e0 : Tx 0 = RT 0 := (RT_int 0).symm
  rw [e0, op2_ok h0 ha, negR_ok ha]
  unfold subR crossL
  have z : lg 0 = false := lg_false.2 h0.1
  rw [Rat.zero_num, Rat.zero_den, Int.zero_mul, Int.zero_sub, z, show ((1 : Nat) : Int) = 1 from rfl, Int.mul_one, Int.one_mul, ha.num, ha.den, lg_mono (x := a.num) (by omega) ha.num, Rat.sub_eq_add_neg, Rat.zero_add]; rfl
theorem nearest_in {a : Rat} (ha : InR a) : lg (nearest a) = false ∧ lg a.floor = false ∧ lg ((a.den : Int) - a.num.fmod a.den) = false ∧ lg (a.num.fmod a.den) = false := by
  have hf := lg_mono (floor_abs a) ha.num
  have hd := den_pos a
  have h0 := Int.fmod_nonneg_of_pos a.num hd
  have h1 := Int.fmod_lt_of_pos a.num hd
  refine ⟨?_, hf, lg_mono (by omega) ha.den, lg_mono (by omega) ha.den⟩
  rw [round_parts]
  split
  · rw [floor_parts]; exact hf
  · rename_i hge
    have h2 : ¬ a.den = 1 := by
      intro e
      have : (a.den : Int) = 1 := by omega
      rw [this] at hge h1 h0; omega
    have hm := Int.mul_fdiv_add_fmod a.num a.den
    by_cases hz : a.num = 0
    · rw [hz, Int.zero_fdiv]
      exact lg_false.2 (by rw [show ((0 : Int) + 1).natAbs = 1 from rfl, Lib.nDigits_small (by decide)]; omega)
    · refine lg_mono ?_ ha.num
      generalize a.num.fdiv a.den = q at *
      generalize a.num.fmod a.den = m at *
      have h3 : (2 : Int) ≤ a.den := by omega
      generalize (a.den : Int) = d at *
      generalize a.num = n at *
      by_cases hq : 0 ≤ q
      · have : 2 * q ≤ d * q := Int.mul_le_mul_of_nonneg_right h3 hq
        omega
      · have h5 : d * (q + 1) ≤ 2 * (q + 1) := Int.mul_le_mul_of_nonpos_right h3 (by omega)
        rw [Int.mul_add, Int.mul_one] at h5
        omega
/-- a right text of up to k bytes is that of a number of up to k digits -/
theorem text_sh {s : ByteArray} {k : Nat} (h : chkS s = 0) (hs : s.size ≤ k) : ∃ r : Rat, s = RT r ∧ Sh k r ∧ rv s = r := by
  rcases chkS_cases s with h1 | ⟨r, rfl, _⟩
  · exact absurd h h1
  · refine ⟨r, rfl, ?_, rv_RT r⟩
    have h2 : (RT r).size = (RT r).data.toList.length := by show (RT r).data.size = _; simp
    rw [h2, data_RT] at hs
    have h3 := itoa_length r.num
    have h4 := itoa_length (r.den : Int)
    rw [Int.natAbs_natCast] at h4
    unfold Sh
    by_cases hd : r.den = 1
    · rw [if_pos hd] at hs
      have := Lib.nDigits_pos r.num.natAbs
      have e1 : Lib.nDigits r.den = 1 := by rw [hd]; exact Lib.nDigits_small (by decide)
      rw [e1]
      split at h3 <;> omega
    · rw [if_neg hd] at hs
      simp only [List.length_append, List.length_cons] at hs
      split at h3 <;> split at h4 <;> omega
theorem RT_size {k : Nat} {r : Rat} (h : Sh k r) : (RT r).size ≤ 2 * k + 2 := by
  have h2 : (RT r).size = (RT r).data.toList.length := by show (RT r).data.size = _; simp
  rw [h2, data_RT]
  have h3 := itoa_length r.num
  have h4 := itoa_length (r.den : Int)
  rw [Int.natAbs_natCast] at h4
  have := h.1; have := h.2
  split
  · split at h3 <;> omega
  · simp only [List.length_append, List.length_cons]
    split at h3 <;> split at h4 <;> omega
theorem RT_len {r : Rat} (h : InR r) : (RT r).size ≤ 900000 := by have := RT_size h.sh; omega
/-- literals -/
theorem RT_rv {s : ByteArray} (h : chkS s = 0) : RT (rv s) = s := by
  rcases chkS_cases s with h1 | ⟨r, rfl, _⟩
  · exact absurd h h1
  · rw [rv_RT]
theorem lit_op {s t u : ByteArray} {f : Rat → Rat → ByteArray × Int} {g : Rat → Rat → Rat} (hf : ∀ a b : Rat, Sh 100 a → Sh 100 b → f a b = (RT (g a b), 0)) (hs : chkS s = 0) (ht : chkS t = 0) (hu : chkS u = 0) (ls : s.size ≤ 100) (lt : t.size ≤ 100)
    (he : g (rv s) (rv t) = rv u) : op2 s t f = (u, 0) := by
  obtain ⟨a, rfl, ha, ea⟩ := text_sh hs ls
  obtain ⟨b, rfl, hb, eb⟩ := text_sh ht lt
  rw [op2_ok (ha.inR (by omega)) (hb.inR (by omega)), hf a b ha hb, ← ea, ← eb, he, RT_rv hu]
theorem lit_addR {s t u : ByteArray} (hs : chkS s = 0) (ht : chkS t = 0) (hu : chkS u = 0) (ls : s.size ≤ 100) (lt : t.size ≤ 100) (he : rv s + rv t = rv u) : op2 s t addR = (u, 0) :=
  lit_op (g := fun a b => a + b) (fun a b ha hb => addR_sh ha hb (by omega)) hs ht hu ls lt he
theorem lit_subR {s t u : ByteArray} (hs : chkS s = 0) (ht : chkS t = 0) (hu : chkS u = 0) (ls : s.size ≤ 100) (lt : t.size ≤ 100) (he : rv s - rv t = rv u) : op2 s t subR = (u, 0) :=
  lit_op (g := fun a b => a - b) (fun a b ha hb => subR_sh ha hb (by omega)) hs ht hu ls lt he
theorem lit_mulR {s t u : ByteArray} (hs : chkS s = 0) (ht : chkS t = 0) (hu : chkS u = 0) (ls : s.size ≤ 100) (lt : t.size ≤ 100) (he : rv s * rv t = rv u) : op2 s t mulR = (u, 0) :=
  lit_op (g := fun a b => a * b) (fun a b ha hb => mulR_sh ha hb (by omega)) hs ht hu ls lt he
theorem lit_divR {s t u : ByteArray} (hs : chkS s = 0) (ht : chkS t = 0) (hu : chkS u = 0) (ls : s.size ≤ 100) (lt : t.size ≤ 100) (h0 : rv t ≠ 0) (he : rv s / rv t = rv u) : op2 s t divR = (u, 0) := by
  obtain ⟨a, rfl, ha, ea⟩ := text_sh hs ls
  obtain ⟨b, rfl, hb, eb⟩ := text_sh ht lt
  rw [op2_ok (ha.inR (by omega)) (hb.inR (by omega)), divR_sh ha hb (by omega) (by rw [← eb]; exact h0), ← ea, ← eb, he, RT_rv hu]
theorem lit_ofR {s t u : ByteArray} {a b : Int} (h : both s t = 0) (ha : ival s.data.toList = a) (hb : ival t.data.toList = b) (h0 : b ≠ 0) (hu : chkS u = 0) (he : Rat.divInt a b = rv u) : ofR s t = (u, 0) := by
  unfold ofR; rw [if_pos h, ha, hb, if_neg h0, he, RT_rv hu]
theorem lit_floorR {s u : ByteArray} (h : chkS s = 0) (hu : formB u.data.toList = true) (he : (rv s).floor = ival u.data.toList) : floorR s = (u, 0) := by
  unfold floorR; rw [if_pos h, he, Tx_ival u hu]
theorem lit_roundR {s u : ByteArray} (h : chkS s = 0) (hu : formB u.data.toList = true) (he : nearest (rv s) = ival u.data.toList) : roundR s = (u, 0) := by
  unfold roundR; rw [if_pos h, he, Tx_ival u hu]
example : op2 ⟨#[49, 47, 54]⟩ ⟨#[49, 47, 51]⟩ addR = (⟨#[49, 47, 50]⟩, 0) := lit_addR (by decide +kernel) (by decide +kernel) (by decide +kernel) (by decide) (by decide) (by decide +kernel)
end Go.Proofs.YtlbnibicehpobaaGreatDoor

/- The reference of rational numbers: its parts. -/
namespace Go.Proofs.YtlbnibicehpobaaGreatDoor
open Go.RowKit
open Z

theorem sm_den {k : Nat} {r : Rat} (h : Sh k r) (hk : k ≤ 1000000) : Sm k (r.den : Int) := ⟨h.d, hk⟩
theorem sm_num {k : Nat} {r : Rat} (h : Sh k r) (hk : k ≤ 1000000) : Sm k r.num := ⟨h.1, hk⟩
theorem top_at {l : List UInt8} {k : Nat} (hk : k < l.length) (h : ∀ j (hj : j < l.length), j < k → l[j] ≠ 47) (he : l[k] = 47) : (top l).length = k ∧ parted l = true := by
  have hp : parted l = true := by unfold parted; simp only [List.contains_eq_mem, decide_eq_true_eq]; rw [← he]; exact List.getElem_mem hk
  refine ⟨?_, hp⟩
  have e : l = l.take k ++ 47 :: l.drop (k + 1) := by
    rw [← he, ← List.drop_eq_getElem_cons hk, List.take_append_drop]
  have hn : (47 : UInt8) ∉ l.take k := by
    intro hm
    obtain ⟨j, hj, hje⟩ := List.getElem_of_mem hm
    rw [List.length_take] at hj
    rw [List.getElem_take] at hje
    exact h j (by omega) (by omega) hje
  rw [e, (top_of hn).2.1, List.length_take]
  omega
theorem top_all {l : List UInt8} (h : ∀ j (hj : j < l.length), l[j] ≠ 47) : parted l = false := by
  unfold parted
  simp only [List.contains_eq_mem, decide_eq_false_iff_not]
  intro hm
  obtain ⟨j, hj, hje⟩ := List.getElem_of_mem hm
  exact h j hj hje
theorem top_len (l : List UInt8) : (top l).length ≤ l.length ∧ (parted l = true ↔ (top l).length < l.length) := by
  cases hp : parted l with
  | false => have := (unparted_top hp).1; rw [this]; simp
  | true =>
    have h := congrArg List.length (parted_split hp)
    rw [List.length_append, List.length_cons] at h
    exact ⟨by omega, by simp; omega⟩
theorem mem_takeW {p : UInt8 → Bool} : ∀ {l : List UInt8} {c : UInt8}, c ∈ l.takeWhile p → p c = true
  | [], _, h => by simp at h
  | d :: r, c, h => by
    rw [List.takeWhile_cons] at h
    split at h
    · rename_i hd
      rcases List.mem_cons.1 h with rfl | h
      · exact hd
      · exact mem_takeW h
    · simp at h
theorem drop_past (a b : List UInt8) : (a ++ 47 :: b).drop (a.length + 1) = b := by
  have := List.drop_left' (l₁ := a ++ [47]) (l₂ := b) (i := a.length + 1) (by simp)
  rwa [List.append_assoc] at this
theorem str_top (s : ByteArray) : str (top s.data.toList) = s.extract 0 (top s.data.toList).length := by
  apply ba_ext
  rw [data_str]
  have h : (s.extract 0 (top s.data.toList).length).data.toList = s.data.toList.take (top s.data.toList).length := by
    simp [ByteArray.data_extract, Array.toList_extract, List.extract_eq_take_drop]
  rw [h]
  cases hp : parted s.data.toList with
  | false => rw [(unparted_top hp).1, List.take_length]
  | true =>
    conv => rhs; rw [parted_split hp]
    rw [(top_of _).2.1, List.take_left']
    · rfl
    · unfold top
      intro hm
      have := mem_takeW hm
      simp at this
theorem str_bot (s : ByteArray) (hp : parted s.data.toList = true) : str (bot s.data.toList) = s.extract ((top s.data.toList).length + 1) s.size := by
  apply ba_ext
  rw [data_str]
  have h : (s.extract ((top s.data.toList).length + 1) s.size).data.toList = s.data.toList.drop ((top s.data.toList).length + 1) := by
    have e : s.size = s.data.toList.length := by simp
    rw [e]
    simp only [ByteArray.data_extract, Array.toList_extract, List.extract_eq_take_drop]
    rw [List.take_of_length_le]
    simp only [List.length_drop]; omega
  rw [h]
  have := drop_past (top s.data.toList) (bot s.data.toList)
  rw [← parted_split hp] at this
  exact this.symm

set_option maxHeartbeats 1000000 in
set_option maxRecDepth 100000 in
theorem r2_slash (s : ByteArray) (w : World) (hs : s.size ≤ maxLen) :
    Calls Tryz.prog 55 #[.string s] w fun e w' => e = .returned (.int .i64 ((top s.data.toList).length : Nat)) ∧ w = w' := by
  unfold maxLen at hs
  have hsz : s.data.toList.length = s.size := by simp
  go_enter Tryz.func55, Tryz.ntmps55
  go_wp2
  go_loop [3] (fun i => ∃ k : Nat, k ≤ s.size ∧ i = .int .i64 k ∧ Hid (∀ j (hj : j < s.data.toList.length), j < k → s.data.toList[j] ≠ 47)) (fun i => s.size - (intOf i).toNat)
  case atStart => exact ⟨0, Nat.zero_le _, rfl, fun j hj h => absurd h (by omega)⟩
  case round =>
    obtain ⟨k, hk, rfl, HK⟩ := hrel
    by_cases hlt : k < s.size
    · by_cases hc : s[k] = 47
      · have ht := (top_at (l := s.data.toList) (k := k) (by omega) HK.out (by rw [get_data] at hc; exact hc)).1
        have HT : Hid ((((top s.data.toList).length : Nat) : Int) = (k : Int)) := by show _ = _; rw [ht]
        have hcb : ((s[k].toNat : Int) == 47) = true := by rw [hc]; rfl
        clear hc ht
        go_wp2
        go_ret
        exact ⟨ret_int HT.out.symm, rfl⟩
      · have hcb : ((s[k].toNat : Int) == 47) = false := by
          rw [beq_eq_false_iff_ne]; intro e
          exact hc (UInt8.toNat_inj.1 (by show s[k].toNat = 47; omega))
        have HC := Lib.hid hc
        clear hc
        go_wp2
        go_round
        case rel =>
          refine ⟨k + 1, by omega, by go_num, fun j hj h => ?_⟩
          by_cases hjk : j = k
          · subst hjk; have := HC.out; rw [get_data] at this; exact this
          · exact HK.out j hj (by omega)
        case measure => simp [intOf]; omega
    · have ht := (unparted_top (top_all (l := s.data.toList) (fun j hj => HK.out j hj (by omega)))).1
      have HT : Hid ((((top s.data.toList).length : Nat) : Int) = (s.size : Int)) := by show _ = _; rw [ht, hsz]
      clear ht
      go_wp2
      go_ret
      exact ⟨ret_int HT.out.symm, rfl⟩
set_option maxHeartbeats 1000000 in
set_option maxRecDepth 100000 in
theorem r2_Top (s : ByteArray) (w : World) (hs : s.size ≤ maxLen) :
    Calls Tryz.prog 52 #[.string s] w fun e w' => e = .returned (.string (str (top s.data.toList))) ∧ w = w' := by
  have H := Lib.hid (r2_slash s w hs)
  have hle := (top_len s.data.toList).1
  rw [show s.data.toList.length = s.size by simp] at hle
  have HS := Lib.hid (str_top s)
  unfold maxLen at hs
  generalize (top s.data.toList).length = n at H hle HS
  go_enter Tryz.func52, Tryz.ntmps52
  go_wp2_with (go_at_call 55; refine (H.out).mono ?_; rintro e w' ⟨rfl, rfl⟩)
  go_ret
  exact ⟨ret_str (by rw [HS.out]), rfl⟩
set_option maxHeartbeats 1000000 in
set_option maxRecDepth 100000 in
theorem r2_Bottom (s : ByteArray) (w : World) (hs : s.size ≤ maxLen) :
    Calls Tryz.prog 53 #[.string s] w fun e w' => e = .returned (.string (str (bot s.data.toList))) ∧ w = w' := by
  have H := Lib.hid (r2_slash s w hs)
  have hl := top_len s.data.toList
  rw [show s.data.toList.length = s.size by simp] at hl
  cases hp : parted s.data.toList with
  | false =>
    have hlen : ((top s.data.toList).length : Int) = (s.size : Int) := by rw [(unparted_top hp).1]; simp
    rw [hlen] at H
    have HF : Hid (str (bot s.data.toList) = ⟨#[49]⟩) := by show _ = _; rw [(unparted_top hp).2]; rfl
    unfold maxLen at hs
    clear hl hp hlen
    go_enter Tryz.func53, Tryz.ntmps53
    go_wp2_with (go_at_call 55; refine (H.out).mono ?_; rintro e w' ⟨rfl, rfl⟩)
    go_ret
    exact ⟨ret_str HF.out.symm, rfl⟩
  | true =>
    have hlt := hl.2.1 hp
    have HS := Lib.hid (str_bot s hp)
    unfold maxLen at hs
    clear hl hp
    generalize (top s.data.toList).length = n at H hlt HS
    have hne : ((n : Int) == (s.size : Int)) = false := by rw [beq_eq_false_iff_ne]; omega
    go_enter Tryz.func53, Tryz.ntmps53
    go_wp2_with (go_at_call 55; refine (H.out).mono ?_; rintro e w' ⟨rfl, rfl⟩)
    go_ret
    exact ⟨ret_str (by rw [HS.out]), rfl⟩
section
variable {w0 : World}
theorem ret_Top {s : ByteArray} (hs : s.size ≤ maxLen) : Ret w0 52 #[.string s] (.string (str (top s.data.toList))) := .same fun w => r2_Top s w hs
theorem ret_Bottom {s : ByteArray} (hs : s.size ≤ maxLen) : Ret w0 53 #[.string s] (.string (str (bot s.data.toList))) := .same fun w => r2_Bottom s w hs
theorem str_itoa (a : Int) : str (Lib.itoa a) = Tx a := rfl
theorem rt_maxLen {k : Nat} {r : Rat} (h : Sh k r) (hk : k ≤ 100000) : (RT r).size ≤ maxLen := by have := RT_size h; unfold maxLen; omega
theorem ret_TopR {k : Nat} {r : Rat} (h : Sh k r) (hk : k ≤ 100000) : Ret w0 52 #[.string (RT r)] (.string (Tx r.num)) := by
  have := ret_Top (w0 := w0) (rt_maxLen h hk)
  rwa [(top_RT r).1, str_itoa] at this
theorem ret_BottomR {k : Nat} {r : Rat} (h : Sh k r) (hk : k ≤ 100000) : Ret w0 53 #[.string (RT r)] (.string (Tx (r.den : Int))) := by
  have := ret_Bottom (w0 := w0) (rt_maxLen h hk)
  rwa [(top_RT r).2.1, str_itoa] at this
theorem ret_Sum {k k' : Nat} {a b : Int} (ha : Sm k a) (hb : Sm k' b) (hk : max k k' + 1 ≤ 1000000) : Ret w0 63 #[.string (Tx a), .string (Tx b)] (.string (Tx (a + b))) := .mk fun w _ => r1_Sum a b w ha hb hk
theorem ret_Product {k k' : Nat} {a b : Int} (ha : Sm k a) (hb : Sm k' b) (hk : k + k' ≤ 900000) : Ret w0 61 #[.string (Tx a), .string (Tx b)] (.string (Tx (a * b))) := .mk fun w _ => r1_Product a b w ha hb hk
theorem ret_Order1 {k k' : Nat} {a b : Int} (ha : Sm k a) (hb : Sm k' b) : Ret w0 60 #[.string (Tx a), .string (Tx b)] (.int .i64 (cmpZ a b)) := .mk fun w _ => r1_Order a b w ha hb
theorem ret_Common {k : Nat} {a b : Int} (ha : Sm k a) (hb : Sm k b) (hk : k + k + 2 ≤ 900000) : Ret w0 58 #[.string (Tx a), .string (Tx b)] (.string (Tx ((Nat.gcd a.natAbs b.natAbs : Nat) : Int))) := .mk fun w _ => r1_Common a b w ha hb hk
theorem ret_FloorI {k k' : Nat} {a b : Int} (ha : Sm k a) (hb : Sm k' b) (hk : k + 1 ≤ 900000 ∧ k' + 1 ≤ 900000) (hb0 : b ≠ 0) : Ret w0 86 #[.string (Tx a), .string (Tx b)] (.string (Tx (a.fdiv b))) := .mk fun w _ => r1_Floor a b w ha hb hk hb0
theorem ret_SignI {k : Nat} {a : Int} (ha : Sm k a) : Ret w0 56 #[.string (Tx a)] (.int .i64 a.sign) := .same fun w => r1_Sign a w ha
theorem ret_NegatedI {k : Nat} {a : Int} (ha : Sm k a) : Ret w0 85 #[.string (Tx a)] (.string (Tx (-a))) := .same fun w => r1_Negated a w ha
theorem ret_DigitsI {k : Nat} {a : Int} (ha : Sm k a) : Ret w0 57 #[.string (Tx a)] (.int .i64 (Lib.nDigits a.natAbs : Nat)) := .same fun w => r1_Digits a w ha
theorem ret_CheckI {s : ByteArray} (hs : s.size ≤ maxLen) : Ret w0 77 #[.string s] (.int .i64 (chk s.data.toList)) := .same fun w => r1_Check s w hs
theorem ret_WholeI {n : Int} (h1 : -9223372036854775808 ≤ n) (h2 : n ≤ 9223372036854775807) : Ret w0 59 #[.int .i64 n] (.string (Tx n)) := .mk fun w _ => r1_Whole n w h1 h2
end
theorem Tx_is1 (a : Int) : ((Tx a).toList == [49]) = decide (a = 1) := by
  by_cases h : a = 1
  · subst h; rw [toList_Tx, itoa_one]; rfl
  · rw [decide_eq_false h, beq_eq_false_iff_ne]
    intro e
    rw [toList_Tx, ← itoa_one] at e
    exact h (by have := congrArg ival e; rwa [ival_itoa, ival_itoa] at this)
theorem RT_one {r : Rat} (h : r.den = 1) : RT r = Tx r.num := by unfold RT; rw [if_pos h]
theorem RT_many {r : Rat} (h : r.den ≠ 1) : RT r = Tx r.num ++ ⟨#[47]⟩ ++ Tx (r.den : Int) := by unfold RT; rw [if_neg h]
end Go.Proofs.YtlbnibicehpobaaGreatDoor
