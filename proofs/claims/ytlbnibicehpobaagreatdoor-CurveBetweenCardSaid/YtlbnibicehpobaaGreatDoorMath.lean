/- Plain mathematics of decimal texts: the value of a text of digits, canonical texts, and that the canonical text of an integer is unique. No program. -/
import Derived.Lib.ItoaNum
import Derived.RowKit
set_option linter.unusedVariables false
set_option linter.unusedSimpArgs false
namespace Go.Proofs.YtlbnibicehpobaaGreatDoor.Z
open Go

def isD (c : UInt8) : Bool := decide (48 ≤ c.toNat) && decide (c.toNat ≤ 57)
def dv (c : UInt8) : Nat := c.toNat - 48
def dec (l : List UInt8) : Nat := l.foldl (fun n c => 10 * n + dv c) 0
/-- the digits of a text without its sign -/
def body (l : List UInt8) : List UInt8 := if l.head? = some 45 then l.tail else l
def formB (l : List UInt8) : Bool := (body l).all isD && !(body l).isEmpty && !((body l).head? == some 48 && decide (1 < l.length))
/-- the number of the error of a text -/
def chk (l : List UInt8) : Int := if formB l then (if 4096 < (body l).length then 23 else 0) else 3
/-- the integer of a text -/
def ival (l : List UInt8) : Int := if l.head? = some 45 then -(dec (body l) : Int) else dec (body l)
/-- the canonical text of an integer -/
def Tx (a : Int) : ByteArray := ⟨(Lib.itoa a).toArray⟩

theorem isD_iff {c : UInt8} : isD c = true ↔ 48 ≤ c.toNat ∧ c.toNat ≤ 57 := by simp [isD]

theorem dec_nil : dec [] = 0 := rfl
theorem dec_snoc (l : List UInt8) (c : UInt8) : dec (l ++ [c]) = 10 * dec l + dv c := by simp [dec]
theorem dec_foldl (l : List UInt8) (n : Nat) : l.foldl (fun n c => 10 * n + dv c) n = n * 10 ^ l.length + dec l := by
  induction l generalizing n with
  | nil => simp [dec]
  | cons c l ih =>
    simp only [List.foldl_cons, dec, List.length_cons]
    rw [ih, ih (10 * 0 + dv c), Nat.pow_succ]
    simp only [Nat.mul_zero, Nat.zero_add, Nat.add_mul]
    rw [show 10 * n * 10 ^ l.length = n * (10 ^ l.length * 10) by rw [Nat.mul_comm 10 n, Nat.mul_assoc, Nat.mul_comm 10]]
    omega
theorem dec_append (a b : List UInt8) : dec (a ++ b) = dec a * 10 ^ b.length + dec b := by
  rw [dec, List.foldl_append, dec_foldl]; rfl
theorem dec_cons (c : UInt8) (l : List UInt8) : dec (c :: l) = dv c * 10 ^ l.length + dec l := by
  have := dec_append [c] l
  simpa [dec] using this
theorem dv_lt {c : UInt8} (h : isD c = true) : dv c < 10 := by have := isD_iff.1 h; unfold dv; omega
theorem dec_lt (l : List UInt8) (h : l.all isD = true) : dec l < 10 ^ l.length := by
  induction l with
  | nil => simp [dec]
  | cons c l ih =>
    simp only [List.all_cons, Bool.and_eq_true] at h
    rw [dec_cons, List.length_cons, Nat.pow_succ]
    have := ih h.2
    have h2 := dv_lt h.1
    have h3 : dv c * 10 ^ l.length ≤ 9 * 10 ^ l.length := Nat.mul_le_mul_right _ (by omega)
    omega
theorem snoc_of_ne {α : Type} (l : List α) (h : l ≠ []) : ∃ t c, l = t ++ [c] := ⟨l.dropLast, l.getLast h, (List.dropLast_concat_getLast h).symm⟩

/-- a text of digits without leading zeros -/
def lead (l : List UInt8) : Bool := l.all isD && !l.isEmpty && !(l.head? == some 48)
theorem lead_pos (l : List UInt8) (h : lead l = true) : 10 ^ (l.length - 1) ≤ dec l := by
  cases l with
  | nil => simp [lead] at h
  | cons c l =>
    simp only [lead, List.all_cons, Bool.and_eq_true, List.head?_cons, Bool.not_eq_true', List.isEmpty_cons] at h
    obtain ⟨⟨⟨h1, h2⟩, _⟩, h3⟩ := h
    have h4 := isD_iff.1 h1
    have h5 : c ≠ 48 := by simpa using h3
    have h6 : c.toNat ≠ 48 := fun e => h5 (UInt8.toNat_inj.1 e)
    rw [dec_cons]
    have h7 : 1 ≤ dv c := by unfold dv; omega
    have h8 : 1 * 10 ^ l.length ≤ dv c * 10 ^ l.length := Nat.mul_le_mul_right _ h7
    simp only [List.length_cons, Nat.add_sub_cancel]
    omega
theorem digit_back {c : UInt8} (h : isD c = true) : UInt8.ofNat (48 + dv c) = c := by
  have h1 := isD_iff.1 h
  unfold dv
  rw [show 48 + (c.toNat - 48) = c.toNat by omega]
  exact UInt8.ofNat_toNat
theorem decDigits_dec : ∀ (n : Nat) (l : List UInt8), l.length = n → lead l = true → Lib.decDigits (dec l) = l := by
  intro n
  induction n with
  | zero => intro l hl h; cases l <;> simp_all [lead]
  | succ n ih =>
    intro l hl h
    have hne : l ≠ [] := by intro e; subst e; simp at hl
    obtain ⟨t, c, rfl⟩ := snoc_of_ne l hne
    simp only [List.length_append, List.length_cons, List.length_nil, Nat.zero_add, Nat.add_right_cancel_iff] at hl
    have hc : isD c = true := by simp [lead] at h; exact h.1.2
    have hcl := dv_lt hc
    rw [dec_snoc]
    by_cases ht : t = []
    · subst ht
      rw [dec_nil, Lib.decDigits, dif_pos (by omega)]
      simp [digit_back hc]
    · have hlt : lead t = true := by
        cases t with
        | nil => exact absurd rfl ht
        | cons x t => simp [lead] at h ⊢; exact ⟨⟨h.1.1, h.1.2.1⟩, h.2⟩
      have hp := lead_pos t hlt
      have h1 : 1 ≤ 10 ^ (t.length - 1) := Nat.one_le_pow _ _ (by decide)
      rw [Lib.decDigits, dif_neg (by omega), show (10 * dec t + dv c) / 10 = dec t by omega, show (10 * dec t + dv c) % 10 = dv c by omega, ih t hl hlt, digit_back hc]

theorem ofNat_digit {u : Nat} (h : u < 10) : isD (UInt8.ofNat (48 + u)) = true ∧ dv (UInt8.ofNat (48 + u)) = u := by
  have : (UInt8.ofNat (48 + u)).toNat = 48 + u := by rw [UInt8.toNat_ofNat']; omega
  constructor
  · rw [isD_iff, this]; omega
  · unfold dv; rw [this]; omega
theorem dec_decDigits (u : Nat) : dec (Lib.decDigits u) = u ∧ (Lib.decDigits u).all isD = true ∧ (1 ≤ u → lead (Lib.decDigits u) = true) := by
  induction u using Nat.strongRecOn with
  | _ u ih =>
    by_cases h : u < 10
    · rw [Lib.decDigits, dif_pos h]
      obtain ⟨h1, h2⟩ := ofNat_digit h
      generalize UInt8.ofNat (48 + u) = c at h1 h2
      refine ⟨by simp [dec, h2], by simp [h1], fun h3 => ?_⟩
      simp only [lead, List.all_cons, h1, List.all_nil, Bool.and_self, List.isEmpty_cons, Bool.not_false, List.head?_cons, Bool.true_and, Bool.not_eq_true', beq_eq_false_iff_ne, ne_eq, Option.some.injEq]
      intro e
      have : dv c = 0 := by rw [e]; rfl
      omega
    · rw [Lib.decDigits, dif_neg h]
      obtain ⟨h1, h2, h3⟩ := ih (u / 10) (by omega)
      obtain ⟨h4, h5⟩ := ofNat_digit (show u % 10 < 10 by omega)
      generalize UInt8.ofNat (48 + u % 10) = c at h4 h5
      refine ⟨by rw [dec_snoc, h1, h5]; omega, by simp [h2, h4], fun _ => ?_⟩
      have h6 := h3 (by omega)
      cases hd : Lib.decDigits (u / 10) with
      | nil => rw [hd] at h6; simp [lead] at h6
      | cons x t => rw [hd] at h6; simp [lead] at h6 ⊢; exact ⟨⟨h6.1.1, h6.1.2, h4⟩, h6.2⟩

theorem decDigits_zero : Lib.decDigits 0 = [48] := by rw [Lib.decDigits, dif_pos (by omega)]; rfl
theorem itoa_zero : Lib.itoa 0 = [48] := by unfold Lib.itoa; simp [decDigits_zero]
theorem lead_head {l : List UInt8} (h : lead l = true) : l.head? ≠ some 45 := by
  cases l with
  | nil => simp
  | cons c l =>
    simp only [List.head?_cons, ne_eq, Option.some.injEq]
    intro e; subst e
    simp [lead, isD] at h
theorem decDigits_head (u : Nat) : (Lib.decDigits u).head? ≠ some 45 := by
  by_cases h : u = 0
  · subst h; rw [decDigits_zero]; decide
  · exact lead_head ((dec_decDigits u).2.2 (by omega))
theorem decDigits_ne (u : Nat) : Lib.decDigits u ≠ [] := by
  have h1 := Lib.decDigits_length u
  have h2 := Lib.nDigits_pos u
  intro e; rw [e] at h1; simp at h1; omega

theorem body_itoa (a : Int) : body (Lib.itoa a) = Lib.decDigits a.natAbs := by
  unfold Lib.itoa
  by_cases h : a < 0
  · rw [if_pos h]; rfl
  · rw [if_neg h]
    unfold body
    rw [if_neg (decDigits_head _)]
    congr 1; omega
theorem head_itoa (a : Int) : (Lib.itoa a).head? = some 45 ↔ a < 0 := by
  unfold Lib.itoa
  by_cases h : a < 0
  · rw [if_pos h]; simp [h]
  · rw [if_neg h]; simp [h, decDigits_head]
theorem ival_itoa (a : Int) : ival (Lib.itoa a) = a := by
  unfold ival
  rw [body_itoa, (dec_decDigits _).1]
  by_cases h : a < 0
  · rw [if_pos ((head_itoa a).2 h)]; omega
  · rw [if_neg (fun e => h ((head_itoa a).1 e))]; omega
theorem itoa_length (a : Int) : (Lib.itoa a).length = Lib.nDigits a.natAbs + if a < 0 then 1 else 0 := by
  unfold Lib.itoa
  by_cases h : a < 0
  · rw [if_pos h, if_pos h]; simp [Lib.decDigits_length]
  · rw [if_neg h, if_neg h, Lib.decDigits_length]; congr 2; omega
theorem form_itoa (a : Int) : formB (Lib.itoa a) = true := by
  unfold formB
  rw [body_itoa, itoa_length]
  obtain ⟨_, h2, h3⟩ := dec_decDigits a.natAbs
  rw [h2]
  by_cases h : a = 0
  · subst h; simp [decDigits_zero, Lib.nDigits_small]
  · have h4 := h3 (by omega)
    simp only [lead, Bool.and_eq_true, Bool.not_eq_true'] at h4
    simp [h4.1.2, h4.2]
/-- A text of the right form is the canonical text of its integer. -/
theorem itoa_ival (l : List UInt8) (h : formB l = true) : Lib.itoa (ival l) = l := by
  simp only [formB, Bool.and_eq_true, Bool.not_eq_true', Bool.and_eq_false_iff, beq_eq_false_iff_ne, decide_eq_false_iff_not] at h
  obtain ⟨⟨h1, h2⟩, h3⟩ := h
  by_cases hn : l.head? = some 45
  · cases l with
    | nil => simp at hn
    | cons c t =>
      simp only [List.head?_cons, Option.some.injEq] at hn
      subst hn
      have hb : body (45 :: t) = t := rfl
      rw [hb] at h1 h2 h3
      cases t with
      | nil => simp at h2
      | cons x t =>
        have hl : lead (x :: t) = true := by
          have h3 : ¬ (x :: t).head? = some 48 := Or.resolve_right h3 (fun h => h (by simp))
          simp only [lead, h1, Bool.true_and, List.isEmpty_cons, Bool.not_false]
          simpa using h3
        have hp := lead_pos _ hl
        have h1p : 1 ≤ 10 ^ ((x :: t).length - 1) := Nat.one_le_pow _ _ (by decide)
        have hi : ival (45 :: x :: t) = -(dec (x :: t) : Int) := by unfold ival; rw [if_pos (show (45 :: x :: t).head? = some 45 from rfl), hb]
        rw [hi]
        unfold Lib.itoa
        rw [if_pos (by omega), show (-(dec (x :: t) : Int)).natAbs = dec (x :: t) by omega, decDigits_dec _ _ rfl hl]
  · have hb : body l = l := by unfold body; rw [if_neg hn]
    rw [hb] at h1 h2 h3
    unfold ival Lib.itoa
    rw [if_neg hn, hb, if_neg (by omega), show ((dec l : Int)).toNat = dec l by omega]
    by_cases hz : l.head? = some 48
    · have hlen : ¬ 1 < l.length := Or.resolve_left h3 (fun h => h hz)
      cases l with
      | nil => simp at hz
      | cons c t =>
        cases t with
        | nil => simp at hz; subst hz; exact decDigits_zero
        | cons x t => simp at hlen
    · refine decDigits_dec _ _ rfl ?_
      simp only [lead, h1, h2, Bool.true_and, Bool.not_false]
      simpa using hz

theorem data_Tx (a : Int) : (Tx a).data.toList = Lib.itoa a := by simp [Tx]
theorem size_Tx (a : Int) : (Tx a).size = (Lib.itoa a).length := by show (Lib.itoa a).toArray.size = _; simp
theorem ba_ext {s t : ByteArray} (h : s.data.toList = t.data.toList) : s = t := by
  cases s; cases t; simp only [ByteArray.mk.injEq] at *; exact Array.toList_inj.1 h
theorem Tx_ival (s : ByteArray) (h : formB s.data.toList = true) : Tx (ival s.data.toList) = s := ba_ext (by rw [data_Tx, itoa_ival _ h])
theorem Tx_inj {a b : Int} (h : Tx a = Tx b) : a = b := by
  have : Lib.itoa a = Lib.itoa b := by rw [← data_Tx, ← data_Tx, h]
  rw [← ival_itoa a, ← ival_itoa b, this]
/-- Either a text is right, and is that of an integer, or it is not. -/
theorem cases_text (s : ByteArray) : (∃ a : Int, s = Tx a) ∨ formB s.data.toList = false := by
  cases h : formB s.data.toList
  · exact .inr rfl
  · exact .inl ⟨_, (Tx_ival s h).symm⟩
theorem chk_Tx (a : Int) : chk (Tx a).data.toList = if 4096 < Lib.nDigits a.natAbs then 23 else 0 := by
  unfold chk
  rw [data_Tx, form_itoa, body_itoa, Lib.decDigits_length]; rfl
theorem nDigits_le_iff (u k : Nat) (hk : 1 ≤ k) : Lib.nDigits u ≤ k ↔ u < 10 ^ k := by
  constructor
  · intro h
    exact Nat.lt_of_lt_of_le (Lib.lt_pow_nDigits u) (Nat.pow_le_pow_right (by decide) h)
  · intro h
    by_cases h0 : u = 0
    · subst h0; rw [Lib.nDigits_small (by omega)]; exact hk
    · have h1 := lead_pos _ ((dec_decDigits u).2.2 (by omega))
      rw [(dec_decDigits u).1, Lib.decDigits_length] at h1
      have := Lib.nDigits_pos u
      rcases Nat.lt_or_ge k (Lib.nDigits u) with h2 | h2
      · have h3 : 10 ^ k ≤ 10 ^ (Lib.nDigits u - 1) := Nat.pow_le_pow_right (by decide) (by omega)
        omega
      · exact h2
end Go.Proofs.YtlbnibicehpobaaGreatDoor.Z
