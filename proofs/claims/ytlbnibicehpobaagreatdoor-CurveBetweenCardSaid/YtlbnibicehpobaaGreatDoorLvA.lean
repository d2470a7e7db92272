/- LvA: Lv01, Lv03, Lv04, Lv05, joined. -/
import Derived.Test.YtlbnibicehpobaaGreatDoorMath
import Derived.Test.YtlbnibicehpobaaGreatDoorRet0
import Derived.Test.YtlbnibicehpobaaGreatDoorRefB
set_option linter.unusedVariables false
set_option linter.unusedSimpArgs false

/- Plain mathematics of percentages: levels of texts, texts of levels. No program. -/
namespace Go.Proofs.YtlbnibicehpobaaGreatDoor.Z
open Go

theorem allGet {α : Type} {l : List α} {p : α → Bool} (h : ∀ j (h : j < l.length), p l[j] = true) : l.all p = true := by
  rw [List.all_eq_true]
  intro x hx
  obtain ⟨j, hj, rfl⟩ := List.getElem_of_mem hx
  exact h j hj
theorem allNot {α : Type} {l : List α} {p : α → Bool} {j : Nat} (hj : j < l.length) (h : p l[j] = false) : l.all p = false := by
  rw [List.all_eq_false]
  exact ⟨_, List.getElem_mem hj, by simp [h]⟩
/-- the level of thousandths of a percent -/
def lvOf (n : Nat) : Nat := (65535 * n + 50000) / 100000
def dig3 (l : List UInt8) : Bool := l.all isD && decide (1 ≤ l.length) && decide (l.length ≤ 3)
def before (l : List UInt8) : List UInt8 := l.takeWhile (· != 46)
def behind (l : List UInt8) : List UInt8 := (l.dropWhile (· != 46)).tail
def dotted (l : List UInt8) : Bool := l.contains 46
def decs (l : List UInt8) : List UInt8 := if dotted l then behind l else [48, 48, 48]
def pad3 (l : List UInt8) : List UInt8 := l ++ List.replicate (3 - l.length) 48
def lead0 (l : List UInt8) : Bool := decide (1 < l.length) && (l.head? == some 48)
def pctN (l : List UInt8) : Nat := 1000 * dec (before l) + dec (pad3 (decs l))
def fullL : List UInt8 := [102, 117, 108, 108]
/-- the level of a text, and the number of the error -/
def pctR (l : List UInt8) : Int × Int :=
  if l = fullL then (65535, 0)
  else if dig3 (before l) = true ∧ dig3 (decs l) = true then
    (if lead0 (before l) = true then (0, 3) else if 100000 < pctN l then (0, 2) else ((lvOf (pctN l) : Nat), 0))
  else (0, 3)

theorem dig3_len {l : List UInt8} (h : dig3 l = true) : l.all isD = true ∧ 1 ≤ l.length ∧ l.length ≤ 3 := by
  unfold dig3 at h
  simp only [Bool.and_eq_true, decide_eq_true_eq] at h
  exact ⟨h.1.1, h.1.2, h.2⟩
theorem dec_lt3 {l : List UInt8} (h : dig3 l = true) : dec l < 1000 := by
  obtain ⟨h1, h2, h3⟩ := dig3_len h
  have := dec_lt l h1
  have h4 : 10 ^ l.length ≤ 10 ^ 3 := Nat.pow_le_pow_right (by decide) h3
  omega
theorem dec_zeros : ∀ k : Nat, dec (List.replicate k 48) = 0
  | 0 => rfl
  | k + 1 => by rw [List.replicate_succ, dec_cons, dec_zeros k]; rw [show dv 48 = 0 from rfl]; omega
theorem dec_pad3 (l : List UInt8) : dec (pad3 l) = dec l * 10 ^ (3 - l.length) := by
  unfold pad3; rw [dec_append, dec_zeros, List.length_replicate, Nat.add_zero]
theorem dec_pad3_lt {l : List UInt8} (h : dig3 l = true) : dec (pad3 l) < 1000 := by
  obtain ⟨h1, h2, h3⟩ := dig3_len h
  have h4 := dec_lt l h1
  rw [dec_pad3]
  generalize dec l = x at *
  generalize hn : l.length = n at *
  have : n = 1 ∨ n = 2 ∨ n = 3 := by omega
  rcases this with rfl | rfl | rfl <;> simp at h4 ⊢ <;> omega
theorem pctN_le {l : List UInt8} (h1 : dig3 (before l) = true) (h2 : dig3 (decs l) = true) : pctN l ≤ 999999 := by
  have := dec_lt3 h1
  have := dec_pad3_lt h2
  unfold pctN; omega

/-- 10, 100, 1000 .. -/
def unitN (d : Nat) : Nat := 10 ^ d
theorem unit0 : unitN 0 = 1 := rfl
theorem unit1 : unitN 1 = 10 := rfl
theorem unit2 : unitN 2 = 100 := rfl
theorem unit3 : unitN 3 = 1000 := rfl
/-- the least percentage with d decimals whose level is at least v -/
def leastM (v d : Nat) : Nat := (2 * v * (100 * unitN d) + 131069 - 100 * unitN d) / 131070
theorem least_iff {v d m : Nat} (hd : d ≤ 3) : leastM v d ≤ m ↔ v ≤ lvOf (m * unitN (3 - d)) := by
  have : d = 0 ∨ d = 1 ∨ d = 2 ∨ d = 3 := by omega
  unfold leastM lvOf
  rcases this with rfl | rfl | rfl | rfl
  · simp only [unit0, show unitN (3 - 0) = 1000 from rfl]; omega
  · simp only [unit1, show unitN (3 - 1) = 100 from rfl]; omega
  · simp only [unit2, show unitN (3 - 2) = 10 from rfl]; omega
  · simp only [unit3, show unitN (3 - 3) = 1 from rfl]; omega
theorem least_le {v d : Nat} (hv : v ≤ 65534) (hd : d ≤ 3) : leastM v d ≤ 100 * unitN d := by
  have : d = 0 ∨ d = 1 ∨ d = 2 ∨ d = 3 := by omega
  unfold leastM
  rcases this with rfl | rfl | rfl | rfl
  · simp only [unit0]; omega
  · simp only [unit1]; omega
  · simp only [unit2]; omega
  · simp only [unit3]; omega
theorem least_3 {v : Nat} (hv : v ≤ 65534) : lvOf (leastM v 3 * unitN (3 - 3)) = v := by
  unfold leastM lvOf
  simp only [unit3, show unitN (3 - 3) = 1 from rfl]; omega
theorem lvOf_mono {a b : Nat} (h : a ≤ b) : lvOf a ≤ lvOf b := by unfold lvOf; omega
/-- whether some percentage with d decimals has the level v -/
def hasD (v d : Nat) : Bool := lvOf (leastM v d * unitN (3 - d)) == v
theorem hasD_of {v d m : Nat} (hd : d ≤ 3) (h : lvOf (m * unitN (3 - d)) = v) : hasD v d = true := by
  have h1 : leastM v d ≤ m := (least_iff hd).2 (by omega)
  have h2 := (least_iff (v := v) (m := leastM v d) hd).1 (Nat.le_refl _)
  have h3 : lvOf (leastM v d * unitN (3 - d)) ≤ lvOf (m * unitN (3 - d)) := lvOf_mono (Nat.mul_le_mul_right _ h1)
  unfold hasD; simp; omega
theorem hasD_none {v d m : Nat} (hd : d ≤ 3) (h : hasD v d = false) : lvOf (m * unitN (3 - d)) ≠ v := fun e => by
  rw [hasD_of hd e] at h; cases h
/-- the first one that has it is the least -/
theorem first_least {v d m : Nat} (hd : d ≤ 3) (h : lvOf (m * unitN (3 - d)) = v) (hn : ∀ j, j < m → lvOf (j * unitN (3 - d)) ≠ v) : m = leastM v d := by
  have h1 : leastM v d ≤ m := (least_iff hd).2 (by omega)
  by_cases h2 : leastM v d < m
  · have h3 := hasD_of hd h
    unfold hasD at h3
    exact absurd (by simpa using h3) (hn _ h2)
  · omega
/-- how many decimals the text of a level has -/
def decN (v : Nat) : Nat := if hasD v 0 = true then 0 else if hasD v 1 = true then 1 else if hasD v 2 = true then 2 else 3
/-- a percentage with d decimals as text -/
def pText (m d : Nat) : List UInt8 := Lib.decDigits (m / unitN d) ++ (if d = 0 then [] else 46 :: (Lib.decDigits (unitN d + m % unitN d)).tail)
def textR (v : Nat) : List UInt8 := if v = 65535 then fullL else pText (leastM v (decN v)) (decN v)

theorem dig_one {n : Nat} (h : n < 10) : Lib.decDigits n = [UInt8.ofNat (48 + n)] := by rw [Lib.decDigits, dif_pos h]
theorem dig_more {n : Nat} (h : 10 ≤ n) : Lib.decDigits n = Lib.decDigits (n / 10) ++ [UInt8.ofNat (48 + n % 10)] := by rw [Lib.decDigits, dif_neg (by omega)]
theorem tail1 {x : Nat} (h : x < 10) : (Lib.decDigits (10 + x)).tail = [UInt8.ofNat (48 + x)] := by
  rw [dig_more (by omega), dig_one (by omega)]
  simp only [List.cons_append, List.nil_append, List.tail_cons]
  rw [show (10 + x) % 10 = x by omega]
theorem tail2 {x : Nat} (h : x < 100) : (Lib.decDigits (100 + x)).tail = [UInt8.ofNat (48 + x / 10), UInt8.ofNat (48 + x % 10)] := by
  rw [dig_more (by omega), dig_more (by omega), dig_one (by omega)]
  simp only [List.cons_append, List.nil_append, List.tail_cons]
  rw [show (100 + x) % 10 = x % 10 by omega, show (100 + x) / 10 % 10 = x / 10 by omega]
theorem tail3 {x : Nat} (h : x < 1000) : (Lib.decDigits (1000 + x)).tail = [UInt8.ofNat (48 + x / 100), UInt8.ofNat (48 + x / 10 % 10), UInt8.ofNat (48 + x % 10)] := by
  rw [dig_more (by omega), dig_more (by omega), dig_more (by omega), dig_one (by omega)]
  simp only [List.cons_append, List.nil_append, List.tail_cons]
  rw [show (1000 + x) % 10 = x % 10 by omega, show (1000 + x) / 10 % 10 = x / 10 % 10 by omega, show (1000 + x) / 10 / 10 % 10 = x / 100 by omega]
theorem all_tail {l : List UInt8} (h : l.all isD = true) : l.tail.all isD = true := by
  cases l with
  | nil => rfl
  | cons c l => rw [List.all_cons, Bool.and_eq_true] at h; exact h.2
theorem tail_facts {m d : Nat} (hd : 1 ≤ d ∧ d ≤ 3) : ((Lib.decDigits (unitN d + m % unitN d)).tail).all isD = true ∧ ((Lib.decDigits (unitN d + m % unitN d)).tail).length = d ∧ dec ((Lib.decDigits (unitN d + m % unitN d)).tail) = m % unitN d := by
  have hall := all_tail (dec_decDigits (unitN d + m % unitN d)).2.1
  refine ⟨hall, ?_⟩
  have : d = 1 ∨ d = 2 ∨ d = 3 := by omega
  rcases this with rfl | rfl | rfl
  · rw [unit1, tail1 (Nat.mod_lt _ (by decide))]
    refine ⟨rfl, ?_⟩
    have h1 := ofNat_digit (u := m % 10) (by omega)
    rw [dec_cons, h1.2]; simp [dec]
  · rw [unit2, tail2 (Nat.mod_lt _ (by decide))]
    refine ⟨rfl, ?_⟩
    have h1 := ofNat_digit (u := m % 100 / 10) (by omega)
    have h2 := ofNat_digit (u := m % 100 % 10) (by omega)
    rw [dec_cons, dec_cons, h1.2, h2.2]; simp [dec]; omega
  · rw [unit3, tail3 (Nat.mod_lt _ (by decide))]
    refine ⟨rfl, ?_⟩
    have h1 := ofNat_digit (u := m % 1000 / 100) (by omega)
    have h2 := ofNat_digit (u := m % 1000 / 10 % 10) (by omega)
    have h3 := ofNat_digit (u := m % 1000 % 10) (by omega)
    rw [dec_cons, dec_cons, dec_cons, h1.2, h2.2, h3.2]; simp [dec]; omega
/-- the reference writes thousandths, and takes as many as there are decimals -/
theorem ref_tail {m d : Nat} (hd : 1 ≤ d ∧ d ≤ 3) : ((Lib.decDigits (1000 + (m * unitN (3 - d)) % 1000)).drop 1).take d = (Lib.decDigits (unitN d + m % unitN d)).tail := by
  have : d = 1 ∨ d = 2 ∨ d = 3 := by omega
  rw [List.drop_one, tail3 (Nat.mod_lt _ (by decide))]
  rcases this with rfl | rfl | rfl
  · rw [unit1, tail1 (Nat.mod_lt _ (by decide)), show unitN (3 - 1) = 100 from rfl]
    simp only [List.take_succ_cons, List.take_zero]
    rw [show m * 100 % 1000 / 100 = m % 10 by omega]
  · rw [unit2, tail2 (Nat.mod_lt _ (by decide)), show unitN (3 - 2) = 10 from rfl]
    simp only [List.take_succ_cons, List.take_zero]
    rw [show m * 10 % 1000 / 100 = m % 100 / 10 by omega, show m * 10 % 1000 / 10 % 10 = m % 100 % 10 by omega]
  · rw [unit3, tail3 (Nat.mod_lt _ (by decide)), show unitN (3 - 3) = 1 from rfl, Nat.mul_one]
    simp only [List.take_succ_cons, List.take_zero]
theorem ref_whole {m d : Nat} (hd : d ≤ 3) : m * unitN (3 - d) / 1000 = m / unitN d := by
  have : d = 0 ∨ d = 1 ∨ d = 2 ∨ d = 3 := by omega
  rcases this with rfl | rfl | rfl | rfl
  · rw [unit0, show unitN (3 - 0) = 1000 from rfl]; omega
  · rw [unit1, show unitN (3 - 1) = 100 from rfl]; omega
  · rw [unit2, show unitN (3 - 2) = 10 from rfl]; omega
  · rw [unit3, show unitN (3 - 3) = 1 from rfl]; omega

theorem takeW_all {p : UInt8 → Bool} : ∀ {l : List UInt8}, (∀ c ∈ l, p c = true) → l.takeWhile p = l
  | [], _ => rfl
  | c :: r, h => by
    rw [List.takeWhile_cons, if_pos (h c (List.mem_cons_self ..)), takeW_all fun d hd => h d (List.mem_cons_of_mem _ hd)]
theorem dropW_all {p : UInt8 → Bool} : ∀ {l : List UInt8} (r : List UInt8), (∀ c ∈ l, p c = true) → (l ++ r).dropWhile p = r.dropWhile p
  | [], _, _ => rfl
  | c :: l, r, h => by
    rw [List.cons_append, List.dropWhile_cons, if_pos (h c (List.mem_cons_self ..)), dropW_all r fun d hd => h d (List.mem_cons_of_mem _ hd)]
theorem digits_no {l : List UInt8} (h : l.all isD = true) : ∀ c ∈ l, (c != 46) = true := by
  intro c hc
  have h1 := isD_iff.1 (List.all_eq_true.1 h c hc)
  simp only [bne_iff_ne, ne_eq]
  intro e; subst e; simp at h1
theorem dotted_of {a b : List UInt8} (ha : a.all isD = true) : dotted (a ++ 46 :: b) = true ∧ before (a ++ 46 :: b) = a ∧ behind (a ++ 46 :: b) = b := by
  have hn := digits_no ha
  refine ⟨by unfold dotted; simp, ?_, ?_⟩
  · unfold before
    rw [List.takeWhile_append_of_pos hn]; simp
  · unfold behind
    rw [dropW_all _ hn]; rfl
theorem undotted_of {a : List UInt8} (ha : a.all isD = true) : dotted a = false ∧ before a = a := by
  have hn := digits_no ha
  refine ⟨?_, takeW_all hn⟩
  unfold dotted
  simp only [List.contains_eq_mem, decide_eq_false_iff_not]
  intro hm
  have := hn 46 hm
  simp at this
theorem small_dig {n : Nat} (h : n ≤ 100) : dig3 (Lib.decDigits n) = true ∧ lead0 (Lib.decDigits n) = false := by
  obtain ⟨h1, h2, h3⟩ := dec_decDigits n
  have h4 := Lib.decDigits_length n
  have h5 : 1 ≤ Lib.nDigits n := Lib.nDigits_pos n
  constructor
  · unfold dig3
    rw [h2]
    have h6 : (Lib.decDigits n).length ≤ 3 := by
      by_cases h10 : n < 10
      · rw [dig_one h10]; simp
      · rw [dig_more (by omega)]
        by_cases h100 : n / 10 < 10
        · rw [dig_one h100]; simp
        · rw [dig_more (by omega), dig_one (by omega)]; simp
    simp; omega
  · unfold lead0
    by_cases h0 : n = 0
    · subst h0; rw [decDigits_zero]; rfl
    · have h6 := h3 (by omega)
      unfold lead at h6
      simp only [Bool.and_eq_true, Bool.not_eq_true'] at h6
      rw [h6.2]; simp
theorem pText_not_full (m d : Nat) : pText m d ≠ fullL := by
  unfold pText fullL
  have h1 := (dec_decDigits (m / unitN d)).2.1
  have h2 := decDigits_ne (m / unitN d)
  cases hl : Lib.decDigits (m / unitN d) with
  | nil => exact absurd hl h2
  | cons c r =>
    rw [hl, List.all_cons, Bool.and_eq_true] at h1
    intro e
    rw [List.cons_append, List.cons.injEq] at e
    rw [e.1] at h1
    exact absurd h1.1 (by decide)
/-- the level of a percentage with d decimals -/
theorem pct_pText {m d : Nat} (hd : d ≤ 3) (hm : m ≤ 100 * unitN d) : pctR (pText m d) = (((lvOf (m * unitN (3 - d)) : Nat) : Int), 0) := by
  have hw : m / unitN d ≤ 100 := by
    have : d = 0 ∨ d = 1 ∨ d = 2 ∨ d = 3 := by omega
    rcases this with rfl | rfl | rfl | rfl
    · rw [unit0] at *; omega
    · rw [unit1] at *; omega
    · rw [unit2] at *; omega
    · rw [unit3] at *; omega
  obtain ⟨w1, w2⟩ := small_dig hw
  have w3 := (dec_decDigits (m / unitN d)).1
  have w4 := (dec_decDigits (m / unitN d)).2.1
  have hlast : pctN (pText m d) = m * unitN (3 - d) ∧ before (pText m d) = Lib.decDigits (m / unitN d) ∧ dig3 (decs (pText m d)) = true := by
    by_cases h0 : d = 0
    · subst h0
      have e : pText m 0 = Lib.decDigits (m / unitN 0) := by unfold pText; simp
      obtain ⟨u1, u2⟩ := undotted_of w4
      rw [e]
      refine ⟨?_, u2, ?_⟩
      · unfold pctN decs
        rw [u1, u2, w3, unit0, show unitN (3 - 0) = 1000 from rfl]
        simp [pad3, dec, dv]; omega
      · unfold decs; rw [u1]; rfl
    · have e : pText m d = Lib.decDigits (m / unitN d) ++ 46 :: (Lib.decDigits (unitN d + m % unitN d)).tail := by unfold pText; rw [if_neg h0]
      obtain ⟨t1, t2, t3⟩ := tail_facts (m := m) (d := d) ⟨by omega, hd⟩
      obtain ⟨u1, u2, u3⟩ := dotted_of (b := (Lib.decDigits (unitN d + m % unitN d)).tail) w4
      rw [e]
      refine ⟨?_, u2, ?_⟩
      · unfold pctN decs
        rw [u1, u2, u3, w3, if_pos rfl, dec_pad3, t2, t3]
        have : d = 1 ∨ d = 2 ∨ d = 3 := by omega
        rcases this with rfl | rfl | rfl
        · rw [unit1, show unitN (3 - 1) = 100 from rfl]; omega
        · rw [unit2, show unitN (3 - 2) = 10 from rfl]; omega
        · rw [unit3, show unitN (3 - 3) = 1 from rfl]; omega
      · unfold decs
        rw [u1, u3, if_pos rfl]
        unfold dig3
        rw [t1, t2]
        simp; omega
  obtain ⟨l1, l2, l3⟩ := hlast
  have hle : m * unitN (3 - d) ≤ 100000 := by
    have : d = 0 ∨ d = 1 ∨ d = 2 ∨ d = 3 := by omega
    rcases this with rfl | rfl | rfl | rfl
    · rw [unit0] at *; rw [show unitN (3 - 0) = 1000 from rfl]; omega
    · rw [unit1] at *; rw [show unitN (3 - 1) = 100 from rfl]; omega
    · rw [unit2] at *; rw [show unitN (3 - 2) = 10 from rfl]; omega
    · rw [unit3] at *; rw [show unitN (3 - 3) = 1 from rfl]; omega
  unfold pctR
  rw [if_neg (pText_not_full m d), if_pos (by rw [l2]; exact ⟨w1, l3⟩), l2, w2, l1, if_neg (by decide), if_neg (by omega)]
theorem decN_le (v : Nat) : decN v ≤ 3 := by unfold decN; split <;> (try split) <;> (try split) <;> omega
theorem decN_has {v : Nat} (hv : v ≤ 65534) : lvOf (leastM v (decN v) * unitN (3 - decN v)) = v := by
  have h3 := least_3 hv
  unfold decN
  split
  · rename_i h; unfold hasD at h; simpa using h
  · split
    · rename_i h; unfold hasD at h; simpa using h
    · split
      · rename_i h; unfold hasD at h; simpa using h
      · exact h3
theorem decN_none {v d : Nat} (h : d < decN v) : hasD v d = false := by
  unfold decN at h
  split at h
  · omega
  · rename_i h0
    split at h
    · have : d = 0 := by omega
      subst this; simpa using h0
    · rename_i h1
      split at h
      · have : d = 0 ∨ d = 1 := by omega
        rcases this with rfl | rfl
        · simpa using h0
        · simpa using h1
      · rename_i h2
        have : d = 0 ∨ d = 1 ∨ d = 2 := by omega
        rcases this with rfl | rfl | rfl
        · simpa using h0
        · simpa using h1
        · simpa using h2
/-- a level is read back from its text -/
theorem pct_text {v : Nat} (hv : v ≤ 65535) : pctR (textR v) = ((v : Int), 0) := by
  unfold textR
  by_cases h : v = 65535
  · subst h; rw [if_pos rfl]; rfl
  · rw [if_neg h, pct_pText (decN_le v) (least_le (by omega) (decN_le v)), decN_has (by omega)]
theorem lvOf_le {n : Nat} (h : n ≤ 100000) : lvOf n ≤ 65535 := by unfold lvOf; omega
theorem pctR_cases (l : List UInt8) : (∃ v : Nat, pctR l = ((v : Int), 0) ∧ v ≤ 65535) ∨ pctR l = (0, 2) ∨ pctR l = (0, 3) := by
  unfold pctR
  split
  · exact .inl ⟨65535, rfl, by omega⟩
  · split
    · split
      · exact .inr (.inr rfl)
      · split
        · exact .inr (.inl rfl)
        · exact .inl ⟨_, rfl, lvOf_le (by omega)⟩
    · exact .inr (.inr rfl)
end Go.Proofs.YtlbnibicehpobaaGreatDoor.Z

/- The reference of levels: small functions. -/
namespace Go.Proofs.YtlbnibicehpobaaGreatDoor
open Go.RowKit
open Z

def isJ (n : Int) : Prop := -9223372036854775808 ≤ n ∧ n ≤ 9223372036854775807
/-- whether an int is a level -/
def lvl (v : Int) : Bool := decide (0 ≤ v) && decide (v ≤ 65535)
theorem lvl_yes {v : Int} (h0 : 0 ≤ v) (h1 : v ≤ 65535) : lvl v = true := by unfold lvl; simp; omega
theorem lvl_low {v : Int} (h0 : v < 0) : lvl v = false := by unfold lvl; simp; omega
theorem lvl_high {v : Int} (h0 : 65535 < v) : lvl v = false := by unfold lvl; simp; omega
theorem lvl_range {v : Int} (h : lvl v = true) : 0 ≤ v ∧ v ≤ 65535 := by unfold lvl at h; simpa using h
theorem lvl_cases (v : Int) : (lvl v = true ∧ 0 ≤ v ∧ v ≤ 65535) ∨ (lvl v = false ∧ v < 0) ∨ (lvl v = false ∧ 65535 < v) := by
  by_cases h0 : v < 0
  · exact .inr (.inl ⟨lvl_low h0, h0⟩)
  · by_cases h1 : 65535 < v
    · exact .inr (.inr ⟨lvl_high h1, h1⟩)
    · exact .inl ⟨lvl_yes (by omega) (by omega), by omega, by omega⟩

set_option maxHeartbeats 1000000 in
theorem r4_Is (v : Int) (w : World) (hv : isJ v) : Calls Tryz.prog 39 #[.int .i64 v] w fun e w' => e = .returned (.bool (lvl v)) ∧ w = w' := by
  obtain ⟨hv0, hv1⟩ := hv
  rcases lvl_cases v with ⟨h, h0, h1⟩ | ⟨h, h0⟩ | ⟨h, h0⟩
  all_goals
    rw [h]; clear h
    go_enter Tryz.func39, Tryz.ntmps39
    go_wp2
    go_ret
    first
      | exact ⟨rfl, rfl⟩
      | exact ⟨ret_bool (decide_eq_true (by omega)), rfl⟩
      | exact ⟨ret_bool (decide_eq_false (by omega)), rfl⟩
theorem dec_take_succ (l : List UInt8) (k : Nat) (h : k < l.length) : dec (l.take (k + 1)) = 10 * dec (l.take k) + dv l[k] := by
  rw [List.take_succ_eq_append_getElem h, dec_snoc]
end Go.Proofs.YtlbnibicehpobaaGreatDoor

/- The reference of levels: percentages. -/

namespace Go.Proofs.YtlbnibicehpobaaGreatDoor
open Go.RowKit
open Z

theorem dot_at {l : List UInt8} {k : Nat} (hk : k < l.length) (h : ∀ j (hj : j < l.length), j < k → l[j] ≠ 46) (he : l[k] = 46) : dotted l = true ∧ before l = l.take k ∧ behind l = l.drop (k + 1) := by
  have e : l = l.take k ++ 46 :: l.drop (k + 1) := by
    rw [← he, ← List.drop_eq_getElem_cons hk, List.take_append_drop]
  have hn : ∀ c ∈ l.take k, (c != 46) = true := by
    intro c hm
    obtain ⟨j, hj, hje⟩ := List.getElem_of_mem hm
    rw [List.length_take] at hj
    rw [List.getElem_take] at hje
    simp only [bne_iff_ne, ne_eq]
    rw [← hje]
    exact h j (by omega) (by omega)
  have h1 : dotted l = true := by rw [e]; unfold dotted; simp
  have h2 : before l = l.take k := by
    unfold before
    conv => lhs; rw [e]
    rw [List.takeWhile_append_of_pos hn]; simp
  have h3 : behind l = l.drop (k + 1) := by
    unfold behind
    conv => lhs; rw [e]
    rw [dropW_all _ hn]; rfl
  exact ⟨h1, h2, h3⟩
theorem dot_none {l : List UInt8} (h : ∀ j (hj : j < l.length), l[j] ≠ 46) : dotted l = false ∧ before l = l ∧ decs l = [48, 48, 48] := by
  have hn : ∀ c ∈ l, (c != 46) = true := by
    intro c hm
    obtain ⟨j, hj, hje⟩ := List.getElem_of_mem hm
    simp only [bne_iff_ne, ne_eq]
    rw [← hje]
    exact h j hj
  have h1 : dotted l = false := by
    unfold dotted
    simp only [List.contains_eq_mem, decide_eq_false_iff_not]
    intro hm
    have := hn 46 hm
    simp at this
  exact ⟨h1, takeW_all hn, by unfold decs; rw [h1]; rfl⟩
theorem decs_dot {l : List UInt8} (h : dotted l = true) : decs l = behind l := by unfold decs; rw [h]; rfl
theorem ext_take (s : ByteArray) (k : Nat) : s.extract 0 k = str (s.data.toList.take k) := by
  apply ba_ext
  rw [data_str]
  simp [ByteArray.data_extract, Array.toList_extract, List.extract_eq_take_drop]
theorem ext_drop (s : ByteArray) (k : Nat) : s.extract k s.size = str (s.data.toList.drop k) := by
  apply ba_ext
  rw [data_str]
  have e : s.size = s.data.toList.length := by simp
  rw [e]
  simp only [ByteArray.data_extract, Array.toList_extract, List.extract_eq_take_drop]
  rw [List.take_of_length_le]
  simp only [List.length_drop]; omega
theorem str_data (s : ByteArray) : str s.data.toList = s := by apply ba_ext; rw [data_str]
theorem str_app (a b : List UInt8) : str a ++ str b = str (a ++ b) := by apply ba_ext; simp [str]
theorem str_size (l : List UInt8) : (str l).size = l.length := by show Array.size _ = _; simp [str]
theorem isfull (s : ByteArray) : (s.toList == fullL) = decide (s.data.toList = fullL) := by
  rw [ByteArray.toList_eq]
  by_cases h : s.data.toList = fullL
  · rw [h]; rfl
  · rw [decide_eq_false h]; simpa using h
end Go.Proofs.YtlbnibicehpobaaGreatDoor

/- The reference of levels: Percent. -/
namespace Go.Proofs.YtlbnibicehpobaaGreatDoor
open Go.RowKit
open Z

def strOf (v : Value) : ByteArray := match v with | .string s => s | _ => ⟨#[]⟩
theorem app_nil (R : ByteArray) : (Value.string R) = .string (R ++ str []) := by
  congr 1; apply ba_ext; simp [str]
theorem app_rep (R : ByteArray) (j : Nat) : R ++ str (List.replicate (j + 1) 48) = R ++ str (List.replicate j 48) ++ ⟨#[48]⟩ := by
  apply ba_ext; simp [str, List.replicate_succ']
theorem dot_or {l : List UInt8} (h : ¬ ∃ k, ∃ hk : k < l.length, (∀ j (hj : j < l.length), j < k → l[j] ≠ 46) ∧ l[k] = 46) : ∀ j (hj : j < l.length), l[j] ≠ 46 := by
  intro j
  induction j using Nat.strongRecOn with
  | _ j ih =>
    intro hj e
    exact h ⟨j, hj, fun i hi hij => ih i hij hi, e⟩
end Go.Proofs.YtlbnibicehpobaaGreatDoor
