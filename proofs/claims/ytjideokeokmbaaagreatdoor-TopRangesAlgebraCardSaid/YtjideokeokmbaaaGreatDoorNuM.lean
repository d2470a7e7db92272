/- Plain mathematics of numbers of cues: thousandths of texts, texts of thousandths. No program. -/
import Derived.Test.YtjideokeokmbaaaGreatDoorLvA
set_option linter.unusedVariables false
set_option linter.unusedSimpArgs false
namespace Go.Proofs.YtjideokeokmbaaaGreatDoor.Z
open Go

def digB (l : List UInt8) : Bool := l.all isD && decide (1 ≤ l.length)
/-- what stands behind the first point, nothing if there is none -/
def cutB (l : List UInt8) : List UInt8 := if dotted l = true then behind l else []
def badZ (l : List UInt8) : Bool := (decide (1 < (before l).length) && ((before l).head? == some 48)) || (dotted l && ((cutB l).getLast? == some 48))
def formN (l : List UInt8) : Bool := (digB (before l) && (!dotted l || digB (cutB l))) && !badZ l
/-- the number of the error of a text, and its thousandths -/
def nuE (l : List UInt8) : Int := if formN l = true then (if l = [48] ∨ 4 < (before l).length ∨ 3 < (cutB l).length then 2 else 0) else 3
def nuV (l : List UInt8) : Nat := dec (before l ++ pad3 (cutB l))
def nuR (l : List UInt8) : Int × Int := if nuE l = 0 then ((nuV l : Nat), 0) else (0, nuE l)
/-- as the program does it -/
def intF (l : List UInt8) : Bool := digB l && (decide (l = [48]) || !(l.head? == some 48))
def pointF (l : List UInt8) : Bool := (intF (before l) && digB (cutB l)) && !((cutB l).getLast? == some 48)
def valN (a b : List UInt8) : Nat := dec (a ++ pad3 b)
def valE (a b : List UInt8) : Int := if 4 < a.length ∨ 3 < b.length then 2 else if valN a b = 0 then 2 else 0
def valR (a b : List UInt8) : Int × Int := if valE a b = 0 then ((valN a b : Nat), 0) else (0, 2)

theorem digB_len {l : List UInt8} (h : digB l = true) : l.all isD = true ∧ 1 ≤ l.length := by
  unfold digB at h
  simp only [Bool.and_eq_true, decide_eq_true_eq] at h
  exact h
theorem digB_nil : digB [] = false := by decide
theorem before_none {l : List UInt8} (h : dotted l = false) : before l = l := by
  unfold before
  refine takeW_all fun c hc => ?_
  unfold dotted at h
  simp only [List.contains_eq_mem, decide_eq_false_iff_not] at h
  simp only [bne_iff_ne, ne_eq]
  intro e; subst e; exact h hc
theorem dotted_not {l : List UInt8} (h : dotted l = true) : l.all isD = false := by
  unfold dotted at h
  simp only [List.contains_eq_mem, decide_eq_true_eq] at h
  rw [List.all_eq_false]
  exact ⟨46, h, by decide⟩
theorem cutB_none {l : List UInt8} (h : dotted l = false) : cutB l = [] := by unfold cutB; rw [h]; rfl
theorem dec_zero_iff : ∀ {l : List UInt8}, l.all isD = true → (dec l = 0 ↔ ∀ c ∈ l, c = 48)
  | [], _ => by simp [dec]
  | c :: l, h => by
    rw [List.all_cons, Bool.and_eq_true] at h
    have ih := dec_zero_iff h.2
    rw [dec_cons]
    have hp : 0 < 10 ^ l.length := Nat.pow_pos (by decide)
    have hc := isD_iff.1 h.1
    constructor
    · intro e
      have h1 : dv c * 10 ^ l.length = 0 := by omega
      have h2 : dec l = 0 := by omega
      have h3 : dv c = 0 := by
        rcases Nat.mul_eq_zero.1 h1 with h | h
        · exact h
        · omega
      have h4 : c = 48 := by
        unfold dv at h3
        apply UInt8.toNat_inj.1
        show c.toNat = 48
        omega
      intro d hd
      rcases List.mem_cons.1 hd with rfl | hd
      · exact h4
      · exact ih.1 h2 d hd
    · intro e
      rw [ih.2 fun d hd => e d (List.mem_cons_of_mem _ hd), e c (List.mem_cons_self ..)]
      simp [dv]
theorem intF_head {l : List UInt8} (h : digB l = true) : (decide (l = [48]) || !(l.head? == some 48)) = !(decide (1 < l.length) && (l.head? == some 48)) := by
  obtain ⟨_, h1⟩ := digB_len h
  cases l with
  | nil => simp at h1
  | cons c r =>
    cases r with
    | nil => simp; by_cases hc : c = 48 <;> simp [hc]
    | cons d r => simp
theorem formN_plain {l : List UInt8} (h : dotted l = false) : formN l = intF l := by
  unfold formN badZ intF
  rw [before_none h, h]
  by_cases hd : digB l = true
  · rw [intF_head hd]; simp
  · simp only [Bool.not_eq_true] at hd; rw [hd]; rfl
theorem formN_point {l : List UInt8} (h : dotted l = true) : formN l = pointF l ∧ intF l = false := by
  constructor
  · unfold formN badZ pointF intF
    rw [h]
    by_cases hd : digB (before l) = true
    · rw [intF_head hd, hd]
      simp only [Bool.not_true, Bool.false_or, Bool.true_and]
      generalize digB (cutB l) = x
      generalize (decide (1 < (before l).length) && ((before l).head? == some 48)) = y
      generalize ((cutB l).getLast? == some 48) = z
      cases x <;> cases y <;> cases z <;> rfl
    · simp only [Bool.not_eq_true] at hd; rw [hd]; rfl
  · unfold intF digB; rw [dotted_not h]; rfl
theorem pad3_all {l : List UInt8} (h : l.all isD = true) : (pad3 l).all isD = true := by
  unfold pad3
  rw [List.all_append, h, Bool.true_and, List.all_eq_true]
  intro c hc
  rw [(List.mem_replicate.1 hc).2]; rfl
theorem valN_zero {a b : List UInt8} (ha : a.all isD = true) (hb : b.all isD = true) : valN a b = 0 ↔ (∀ c ∈ a, c = 48) ∧ ∀ c ∈ b, c = 48 := by
  unfold valN
  rw [dec_zero_iff (by rw [List.all_append, ha, pad3_all hb]; rfl)]
  constructor
  · intro h
    exact ⟨fun c hc => h c (List.mem_append_left _ hc), fun c hc => h c (List.mem_append_right _ (by unfold pad3; exact List.mem_append_left _ hc))⟩
  · rintro ⟨h1, h2⟩ c hc
    rcases List.mem_append.1 hc with hc | hc
    · exact h1 c hc
    · unfold pad3 at hc
      rcases List.mem_append.1 hc with hc | hc
      · exact h2 c hc
      · exact (List.mem_replicate.1 hc).2
theorem intF_zero {l : List UInt8} (h : intF l = true) : (∀ c ∈ l, c = 48) ↔ l = [48] := by
  unfold intF at h
  rw [Bool.and_eq_true] at h
  have h1 := intF_head h.1
  rw [h.2] at h1
  obtain ⟨_, h2⟩ := digB_len h.1
  constructor
  · intro e
    cases l with
    | nil => simp at h2
    | cons c r =>
      have e1 := e c (List.mem_cons_self ..)
      subst e1
      cases r with
      | nil => rfl
      | cons d r => simp at h1
  · rintro rfl c hc
    simpa using hc
theorem getLast_of {l : List UInt8} (h : 1 ≤ l.length) (hl : ∀ c ∈ l, c = 48) : l.getLast? = some 48 := by
  have hne : l ≠ [] := by intro e; subst e; simp at h
  rw [List.getLast?_eq_some_getLast hne, hl _ (List.getLast_mem hne)]
theorem way_val {l a b : List UInt8} (he : nuE l = valE a b) (hv : nuV l = valN a b) : (if nuE l = 0 then ((nuV l : Int), (0 : Int)) else (0, nuE l)) = valR a b := by
  unfold valR
  rw [he, hv]
  have : valE a b = 0 ∨ valE a b = 2 := by unfold valE; split <;> (try split) <;> simp
  rcases this with h | h <;> rw [h] <;> rfl
/-- the program's way has the result of the definition -/
theorem nu_way (l : List UInt8) : nuR l = if intF l = true then valR l [] else if pointF l = true then valR (before l) (cutB l) else (0, 3) := by
  unfold nuR
  by_cases hd : dotted l = true
  · obtain ⟨h1, h2⟩ := formN_point hd
    rw [h2, if_neg Bool.false_ne_true]
    by_cases hp : pointF l = true
    · rw [if_pos hp]
      have hp' := hp
      unfold pointF at hp'
      simp only [Bool.and_eq_true, Bool.not_eq_true'] at hp'
      obtain ⟨⟨p1, p2⟩, p3⟩ := hp'
      have hnz : l ≠ [48] := fun e => by rw [e] at hd; exact absurd hd (by decide)
      have hv : valN (before l) (cutB l) ≠ 0 := fun e => by
        have pi := p1
        unfold intF at pi
        rw [Bool.and_eq_true] at pi
        have := ((valN_zero (digB_len pi.1).1 (digB_len p2).1).1 e).2
        rw [getLast_of (digB_len p2).2 this] at p3
        exact absurd p3 (by decide)
      exact way_val (by unfold nuE valE; rw [h1, if_pos hp]; simp only [hnz, false_or, hv, if_false]) rfl
    · rw [if_neg hp]
      have he : nuE l = 3 := by unfold nuE; rw [h1, if_neg hp]
      rw [he]; rfl
  · simp only [Bool.not_eq_true] at hd
    have h1 := formN_plain hd
    have hb := before_none hd
    have hc := cutB_none hd
    by_cases hi : intF l = true
    · rw [if_pos hi]
      have pi := hi
      unfold intF at pi
      rw [Bool.and_eq_true] at pi
      have hz : valN l [] = 0 ↔ l = [48] := by
        rw [valN_zero (digB_len pi.1).1 rfl, ← intF_zero hi]
        simp
      refine way_val ?_ (by unfold nuV valN; rw [hb, hc])
      have n3 : ¬ 3 < ([] : List UInt8).length := by simp
      unfold nuE valE
      rw [h1, if_pos hi, hb, hc]
      simp only [hz, n3, or_false]
      by_cases h4 : 4 < l.length
      · simp only [h4, or_true, if_true]
      · simp only [h4, or_false, if_false]
    · rw [if_neg hi]
      have hp : pointF l = false := by unfold pointF; rw [hc, digB_nil]; simp
      have he : nuE l = 3 := by unfold nuE; rw [h1, if_neg hi]
      rw [he, hp]; rfl
theorem nuE_cases (l : List UInt8) : nuE l = 0 ∨ nuE l = 2 ∨ nuE l = 3 := by unfold nuE; split <;> (try split) <;> simp
theorem nuE_zero {l : List UInt8} (h : nuE l = 0) : formN l = true ∧ l ≠ [48] ∧ (before l).length ≤ 4 ∧ (cutB l).length ≤ 3 := by
  unfold nuE at h
  by_cases h1 : formN l = true
  · rw [if_pos h1] at h
    by_cases h2 : l = [48] ∨ 4 < (before l).length ∨ 3 < (cutB l).length
    · rw [if_pos h2] at h; cases h
    · refine ⟨h1, fun e => h2 (.inl e), ?_, ?_⟩
      · have := fun e => h2 (.inr (.inl e)); omega
      · have := fun e => h2 (.inr (.inr e)); omega
  · rw [if_neg h1] at h; cases h
theorem formN_digits {l : List UInt8} (h : formN l = true) : (before l).all isD = true ∧ 1 ≤ (before l).length ∧ (cutB l).all isD = true := by
  unfold formN at h
  simp only [Bool.and_eq_true, Bool.or_eq_true, Bool.not_eq_true'] at h
  obtain ⟨⟨h1, h2⟩, _⟩ := h
  refine ⟨(digB_len h1).1, (digB_len h1).2, ?_⟩
  rcases h2 with h2 | h2
  · rw [cutB_none h2]; rfl
  · exact (digB_len h2).1
theorem pad3_len {l : List UInt8} (h : l.length ≤ 3) : (pad3 l).length = 3 := by unfold pad3; rw [List.length_append, List.length_replicate]; omega
theorem nuV_le {l : List UInt8} (h : nuE l = 0) : 1 ≤ nuV l ∧ nuV l ≤ 9999999 := by
  obtain ⟨h1, h2, h3, h4⟩ := nuE_zero h
  obtain ⟨d1, d2, d3⟩ := formN_digits h1
  constructor
  · have hw := nu_way l
    unfold nuR at hw
    rw [if_pos h] at hw
    by_cases h0 : nuV l = 0
    · rw [h0] at hw
      split at hw
      · rename_i hi
        have hdt : dotted l = false := by
          by_cases hd : dotted l = true
          · rw [(formN_point hd).2] at hi; cases hi
          · simpa using hd
        unfold valR at hw
        have hv : valN l [] = 0 := by rw [← h0]; unfold valN nuV; rw [before_none hdt, cutB_none hdt]
        have he : valE l [] = 2 := by unfold valE; rw [hv]; split <;> simp
        rw [if_neg (by rw [he]; decide)] at hw
        cases hw
      · split at hw
        · unfold valR at hw
          have hv : valN (before l) (cutB l) = 0 := h0
          have he : valE (before l) (cutB l) = 2 := by unfold valE; rw [hv]; split <;> simp
          rw [if_neg (by rw [he]; decide)] at hw
          cases hw
        · cases hw
    · omega
  · have h5 : (before l ++ pad3 (cutB l)).all isD = true := by rw [List.all_append, d1, pad3_all d3]; rfl
    have h6 := dec_lt _ h5
    have h7 : (before l ++ pad3 (cutB l)).length ≤ 7 := by rw [List.length_append, pad3_len h4]; omega
    have h8 : 10 ^ (before l ++ pad3 (cutB l)).length ≤ 10 ^ 7 := Nat.pow_le_pow_right (by decide) h7
    unfold nuV
    omega
theorem nuR_zero {l : List UInt8} (h : nuE l = 0) : nuR l = ((nuV l : Int), 0) := by unfold nuR; rw [if_pos h]
theorem nuR_err {l : List UInt8} (h : nuE l ≠ 0) : nuR l = (0, nuE l) := by unfold nuR; rw [if_neg h]

/-- texts of thousandths -/
def trimZ (l : List UInt8) : List UInt8 := (l.reverse.dropWhile (· == 48)).reverse
def decsN (n : Nat) : List UInt8 := trimZ (Lib.decDigits (1000 + n % 1000)).tail
def nuT (n : Nat) : List UInt8 := Lib.decDigits (n / 1000) ++ (if n % 1000 = 0 then [] else 46 :: decsN n)
/-- how many decimals thousandths have -/
def decC (n : Nat) : Nat := if n % 1000 = 0 then 0 else if n % 100 = 0 then 1 else if n % 10 = 0 then 2 else 3
theorem dgt_zero {u : Nat} (h : u < 10) : UInt8.ofNat (48 + u) = 48 ↔ u = 0 := by
  constructor
  · intro e
    have := (ofNat_digit h).2
    rw [e] at this
    exact this.symm
  · rintro rfl; rfl
theorem trimZ3 (a b c : UInt8) : trimZ [a, b, c] = if c ≠ 48 then [a, b, c] else if b ≠ 48 then [a, b] else if a ≠ 48 then [a] else [] := by
  unfold trimZ
  by_cases hc : c = 48
  · by_cases hb : b = 48
    · by_cases ha : a = 48
      · simp [ha, hb, hc]
      · simp [ha, hb, hc]
    · simp [hb, hc]
  · simp [hc]
theorem decsN_eq (n : Nat) : decsN n = if n % 10 ≠ 0 then [UInt8.ofNat (48 + n % 1000 / 100), UInt8.ofNat (48 + n % 1000 / 10 % 10), UInt8.ofNat (48 + n % 1000 % 10)]
    else if n % 100 ≠ 0 then [UInt8.ofNat (48 + n % 1000 / 100), UInt8.ofNat (48 + n % 1000 / 10 % 10)] else if n % 1000 ≠ 0 then [UInt8.ofNat (48 + n % 1000 / 100)] else [] := by
  unfold decsN
  rw [tail3 (Nat.mod_lt _ (by decide)), trimZ3]
  have h1 : UInt8.ofNat (48 + n % 1000 % 10) ≠ 48 ↔ n % 10 ≠ 0 := by rw [Ne, dgt_zero (by omega)]; omega
  have h2 : UInt8.ofNat (48 + n % 1000 / 10 % 10) ≠ 48 ↔ n % 1000 / 10 % 10 ≠ 0 := by rw [Ne, dgt_zero (by omega)]
  have h3 : UInt8.ofNat (48 + n % 1000 / 100) ≠ 48 ↔ n % 1000 / 100 ≠ 0 := by rw [Ne, dgt_zero (by omega)]
  simp only [h1, h2, h3]
  by_cases a1 : n % 10 = 0
  · by_cases a2 : n % 100 = 0
    · by_cases a3 : n % 1000 = 0
      · rw [if_neg (by omega), if_neg (by omega), if_neg (by omega), if_neg (by omega), if_neg (by omega), if_neg (by omega)]
      · rw [if_neg (by omega), if_neg (by omega), if_pos (by omega), if_neg (by omega), if_neg (by omega), if_pos (by omega)]
    · rw [if_neg (by omega), if_pos (by omega), if_neg (by omega), if_pos (by omega)]
  · rw [if_pos (by omega), if_pos (by omega)]
theorem decsN_facts {n : Nat} (h : n % 1000 ≠ 0) : (decsN n).all isD = true ∧ (decsN n).length = decC n ∧ dec (pad3 (decsN n)) = n % 1000 ∧ (decsN n).getLast? ≠ some 48 ∧ decsN n ≠ [] := by
  have o1 := ofNat_digit (u := n % 1000 / 100) (by omega)
  have o2 := ofNat_digit (u := n % 1000 / 10 % 10) (by omega)
  have o3 := ofNat_digit (u := n % 1000 % 10) (by omega)
  have z1 := dgt_zero (u := n % 1000 / 100) (by omega)
  have z2 := dgt_zero (u := n % 1000 / 10 % 10) (by omega)
  have z3 := dgt_zero (u := n % 1000 % 10) (by omega)
  rw [decsN_eq]
  unfold decC
  rw [if_neg h]
  generalize UInt8.ofNat (48 + n % 1000 / 100) = a at *
  generalize UInt8.ofNat (48 + n % 1000 / 10 % 10) = b at *
  generalize UInt8.ofNat (48 + n % 1000 % 10) = c at *
  by_cases a1 : n % 10 = 0
  · rw [if_neg (by omega)]
    by_cases a2 : n % 100 = 0
    · rw [if_neg (by omega), if_pos h, if_pos a2]
      refine ⟨by simp [o1.1], rfl, ?_, ?_, by simp⟩
      · rw [dec_pad3, dec_cons, o1.2]; simp [dec]; omega
      · simp only [List.getLast?_singleton, ne_eq, Option.some.injEq]
        rw [z1]; omega
    · rw [if_pos a2, if_neg a2, if_pos a1]
      refine ⟨by simp [o1.1, o2.1], rfl, ?_, ?_, by simp⟩
      · rw [dec_pad3, dec_cons, dec_cons, o1.2, o2.2]; simp [dec]; omega
      · simp only [List.getLast?_cons_cons, List.getLast?_singleton, ne_eq, Option.some.injEq]
        rw [z2]; omega
  · rw [if_pos a1, if_neg (by omega), if_neg a1]
    refine ⟨by simp [o1.1, o2.1, o3.1], rfl, ?_, ?_, by simp⟩
    · rw [dec_pad3, dec_cons, dec_cons, dec_cons, o1.2, o2.2, o3.2]; simp [dec]; omega
    · simp only [List.getLast?_cons_cons, List.getLast?_singleton, ne_eq, Option.some.injEq]
      rw [z3]; omega
theorem decC_le (n : Nat) : decC n ≤ 3 := by unfold decC; split <;> (try split) <;> (try split) <;> omega
theorem digits_len4 {n : Nat} (h : n ≤ 9999) : (Lib.decDigits n).length ≤ 4 ∧ 1 ≤ (Lib.decDigits n).length := by
  have h2 := Lib.decDigits_length n
  have h3 := Lib.nDigits_pos n
  have h4 : Lib.nDigits n ≤ 4 := (nDigits_le_iff n 4 (by omega)).2 (by omega)
  omega
theorem digits_headz {n : Nat} : (decide (1 < (Lib.decDigits n).length) && ((Lib.decDigits n).head? == some 48)) = false := by
  by_cases h : n = 0
  · subst h; rw [decDigits_zero]; rfl
  · have := (dec_decDigits n).2.2 (by omega)
    unfold lead at this
    simp only [Bool.and_eq_true, Bool.not_eq_true'] at this
    rw [this.2]; simp
/-- the text of thousandths: its parts -/
theorem nuT_parts {n : Nat} : before (nuT n) = Lib.decDigits (n / 1000) ∧ (dotted (nuT n) = !decide (n % 1000 = 0)) ∧ cutB (nuT n) = (if n % 1000 = 0 then [] else decsN n) := by
  have hd := (dec_decDigits (n / 1000)).2.1
  unfold nuT
  by_cases h : n % 1000 = 0
  · rw [if_pos h, List.append_nil]
    obtain ⟨u1, u2⟩ := undotted_of hd
    refine ⟨u2, by rw [u1]; simp [h], by rw [cutB_none u1, if_pos h]⟩
  · rw [if_neg h]
    obtain ⟨u1, u2, u3⟩ := dotted_of (b := decsN n) hd
    refine ⟨u2, by rw [u1]; simp [h], ?_⟩
    unfold cutB
    rw [u1, if_pos rfl, u3, if_neg h]
/-- the thousandths are read back -/
theorem nu_text {n : Nat} (h1 : 1 ≤ n) (h2 : n ≤ 9999999) : nuE (nuT n) = 0 ∧ nuV (nuT n) = n := by
  obtain ⟨p1, p2, p3⟩ := nuT_parts (n := n)
  have hd := (dec_decDigits (n / 1000)).2.1
  have hv := (dec_decDigits (n / 1000)).1
  have hl := digits_len4 (n := n / 1000) (by omega)
  have hdb : digB (Lib.decDigits (n / 1000)) = true := by unfold digB; rw [hd]; simp; omega
  constructor
  · unfold nuE
    have hf : formN (nuT n) = true := by
      unfold formN badZ
      rw [p1, p2, p3, digits_headz, hdb]
      by_cases h : n % 1000 = 0
      · simp [h]
      · obtain ⟨f1, f2, f3, f4, f5⟩ := decsN_facts h
        have hdc : digB (decsN n) = true := by
          unfold digB; rw [f1]; simp only [Bool.true_and, decide_eq_true_eq]
          cases hh : decsN n with
          | nil => exact absurd hh f5
          | cons c r => simp
        rw [if_neg h, hdc]
        simp [h]
        exact f4
    rw [if_pos hf, if_neg]
    rw [p1, p3]
    rintro (e | e | e)
    · by_cases h : n % 1000 = 0
      · unfold nuT at e
        rw [if_pos h, List.append_nil] at e
        rw [e] at hv
        have : n / 1000 = 0 := by rw [← hv]; rfl
        omega
      · rw [e] at p2
        simp [h] at p2
        exact absurd p2 (by decide)
    · omega
    · by_cases h : n % 1000 = 0
      · rw [if_pos h] at e; simp at e
      · rw [if_neg h, (decsN_facts h).2.1] at e
        have := decC_le n
        omega
  · unfold nuV
    rw [p1, p3, dec_append, hv]
    by_cases h : n % 1000 = 0
    · rw [if_pos h, pad3_len (by simp)]
      show n / 1000 * 10 ^ 3 + 0 = n
      omega
    · obtain ⟨f1, f2, f3, f4, f5⟩ := decsN_facts h
      rw [if_neg h, f3, pad3_len (by rw [f2]; exact decC_le n)]
      omega
theorem nuT_len {n : Nat} (h : n ≤ 9999999) : (nuT n).length ≤ 8 := by
  unfold nuT
  have hl := digits_len4 (n := n / 1000) (by omega)
  rw [List.length_append]
  by_cases h : n % 1000 = 0
  · rw [if_pos h]; simp; omega
  · rw [if_neg h, List.length_cons, (decsN_facts h).2.1]
    have := decC_le n
    omega

/-- digits of n, and zeros ahead of them, so that there are at least k -/
def pre (n k : Nat) : List UInt8 := if n = 0 ∧ k = 0 then [] else pre (n / 10) (k - 1) ++ [UInt8.ofNat (48 + n % 10)]
termination_by n + k
decreasing_by omega
theorem pre_nil : pre 0 0 = [] := by rw [pre, if_pos ⟨rfl, rfl⟩]
theorem pre_step {n k : Nat} (h : ¬ (n = 0 ∧ k = 0)) : pre n k = pre (n / 10) (k - 1) ++ [UInt8.ofNat (48 + n % 10)] := by rw [pre, if_neg h]
theorem pre_zero {n : Nat} (h : 1 ≤ n) : pre n 0 = Lib.decDigits n := by
  induction n using Nat.strongRecOn with
  | _ n ih =>
    rw [pre_step (by omega)]
    by_cases h10 : n < 10
    · rw [dig_one h10, show n / 10 = 0 by omega, pre_nil, List.nil_append, show n % 10 = n by omega]
    · rw [dig_more (by omega), ih (n / 10) (by omega) (by omega)]
theorem pre_one (n : Nat) : pre n 1 = Lib.decDigits n := by
  rw [pre_step (by omega)]
  by_cases h10 : n < 10
  · rw [dig_one h10, show n / 10 = 0 by omega, pre_nil, List.nil_append, show n % 10 = n by omega]
  · rw [dig_more (by omega), show 1 - 1 = 0 from rfl, pre_zero (by omega)]
theorem pre_three {n : Nat} (h : n < 1000) : pre n 3 = (Lib.decDigits (1000 + n)).tail := by
  rw [tail3 h, pre_step (by omega), pre_step (by omega), pre_step (by omega), show n / 10 / 10 / 10 = 0 by omega, pre_nil, show n / 10 / 10 % 10 = n / 100 by omega]; rfl
theorem trimZ_snoc (l : List UInt8) : trimZ (l ++ [48]) = trimZ l := by unfold trimZ; simp
theorem trimZ_last {l : List UInt8} {c : UInt8} (h : c ≠ 48) : trimZ (l ++ [c]) = l ++ [c] := by unfold trimZ; simp [h]
theorem trimZ_nil : trimZ [] = [] := rfl
/-- the pair of a text and an error; the order; what is between -/
def ofN (n : Int) : List UInt8 × Int := if 1 ≤ n ∧ n ≤ 9999999 then (nuT n.toNat, 0) else ([], 2)
def upN (n u : Nat) : Nat := (n / u + 1) * u
def betO (x y : Nat) : Option Nat := if upN x 1000 < y then some (upN x 1000) else if upN x 100 < y then some (upN x 100) else if upN x 10 < y then some (upN x 10) else if upN x 1 < y then some (upN x 1) else none
def both2 (a b : List UInt8) : Int := if nuE a = 0 then nuE b else nuE a
def ordN (x y : Nat) : Int := if x < y then -1 else if y < x then 1 else 0
def nuCmp (a b : List UInt8) : Int × Int := if both2 a b = 0 then (ordN (nuV a) (nuV b), 0) else (0, both2 a b)
def betV (x y : Nat) : List UInt8 × Int := match betO x y with
  | some n => (nuT n, 0)
  | none => ([], 12)
def betN (a b : List UInt8) : List UInt8 × Int := if both2 a b = 0 then (if nuV b ≤ nuV a then ([], 9) else betV (nuV a) (nuV b)) else ([], both2 a b)
def aftN (a : List UInt8) : List UInt8 × Int := if nuE a = 0 then ofN (upN (nuV a) 1000 : Nat) else ([], nuE a)
/-- the first number that is not 0 -/
def firstN : List Int → Int
  | [] => 0
  | a :: r => if a = 0 then firstN r else a
theorem firstN_all : ∀ {l : List Int}, (∀ j (hj : j < l.length), l[j] = 0) → firstN l = 0
  | [], _ => rfl
  | a :: r, h => by
    rw [firstN, if_pos (show a = 0 from h 0 (by simp))]
    exact firstN_all fun j hj => h (j + 1) (by simpa using hj)
theorem firstN_at : ∀ {l : List Int} {k : Nat} (hk : k < l.length), (∀ j (hj : j < l.length), j < k → l[j] = 0) → l[k] ≠ 0 → firstN l = l[k]
  | [], k, hk, _, _ => absurd hk (by simp)
  | a :: r, 0, hk, _, hne => by
    have h0 : a ≠ 0 := hne
    rw [firstN, if_neg h0]; rfl
  | a :: r, k + 1, hk, h, hne => by
    have h0 : a = 0 := h 0 (by simp) (by omega)
    rw [firstN, if_pos h0]
    exact firstN_at (l := r) (k := k) (by simpa using hk) (fun j hj hjk => h (j + 1) (by simpa using hj) (by omega)) hne
/-- the error that the k-th text of a list shows -/
def stepS (l : List ByteArray) (k : Nat) : Int := match l[k]? with
  | none => 0
  | some s => if nuE s.data.toList ≠ 0 then nuE s.data.toList else if k = 0 then 0 else match l[k - 1]? with
    | none => 0
    | some p => if nuV s.data.toList ≤ nuV p.data.toList then 9 else 0
def ascE (l : List ByteArray) : Int := firstN ((List.range l.length).map (stepS l))
theorem stepS_at {l : List ByteArray} {k : Nat} (hk : k < l.length) : stepS l k = if nuE (l[k]).data.toList ≠ 0 then nuE (l[k]).data.toList else if k = 0 then 0 else if nuV (l[k]).data.toList ≤ nuV (l[k - 1]'(by omega)).data.toList then 9 else 0 := by
  unfold stepS
  rw [List.getElem?_eq_getElem hk, List.getElem?_eq_getElem (show k - 1 < l.length by omega)]
theorem ascE_at {l : List ByteArray} {k : Nat} {c : Int} (hk : k < l.length) (h : ∀ j, j < k → stepS l j = 0) (hc : stepS l k = c) (hne : c ≠ 0) : ascE l = c := by
  unfold ascE
  have := firstN_at (l := (List.range l.length).map (stepS l)) (k := k) (by simpa using hk) (fun j hj hjk => by simpa using h j hjk) (by simpa [hc] using hne)
  rw [this]; simpa using hc
theorem ascE_ok {l : List ByteArray} (h : ∀ j, j < l.length → stepS l j = 0) : ascE l = 0 := by
  unfold ascE
  exact firstN_all fun j hj => by simpa using h j (by simpa using hj)
theorem upN_gt (n u : Nat) (h : 0 < u) : n < upN n u ∧ upN n u ≤ n + u := by
  unfold upN
  have h1 := Nat.div_add_mod n u
  have h2 := Nat.mod_lt n h
  rw [Nat.add_mul, Nat.one_mul, Nat.mul_comm]
  omega
theorem betO_some {x y n : Nat} (h : betO x y = some n) : x < n ∧ n < y := by
  have h1 := upN_gt x 1000 (by decide)
  have h2 := upN_gt x 100 (by decide)
  have h3 := upN_gt x 10 (by decide)
  have h4 := upN_gt x 1 (by decide)
  unfold betO at h
  split at h
  · cases h; omega
  · split at h
    · cases h; omega
    · split at h
      · cases h; omega
      · split at h
        · cases h; omega
        · cases h
theorem betO_none {x y : Nat} (hl : x < y) : betO x y = none ↔ y = x + 1 := by
  have h1 := upN_gt x 1000 (by decide)
  have h2 := upN_gt x 100 (by decide)
  have h3 := upN_gt x 10 (by decide)
  have h4 : upN x 1 = x + 1 := by unfold upN; omega
  unfold betO
  by_cases e : y = x + 1
  · rw [if_neg (by omega), if_neg (by omega), if_neg (by omega), if_neg (by omega)]; simp [e]
  · simp only [e, iff_false]
    split
    · simp
    · split
      · simp
      · split
        · simp
        · rw [if_pos (by omega)]; simp
def unitU (k : Nat) : Nat := match k with
  | 0 => 1000
  | 1 => 100
  | 2 => 10
  | 3 => 1
  | _ => 0
theorem betO_eq (x y : Nat) : betO x y = if upN x (unitU 0) < y then some (upN x (unitU 0)) else if upN x (unitU 1) < y then some (upN x (unitU 1)) else if upN x (unitU 2) < y then some (upN x (unitU 2)) else if upN x (unitU 3) < y then some (upN x (unitU 3)) else none := rfl
theorem bet_at {x y k : Nat} (hk : k ≤ 3) (hn : ∀ j, j < k → ¬ upN x (unitU j) < y) (h : upN x (unitU k) < y) : betO x y = some (upN x (unitU k)) := by
  have : k = 0 ∨ k = 1 ∨ k = 2 ∨ k = 3 := by omega
  rw [betO_eq]
  rcases this with rfl | rfl | rfl | rfl
  · rw [if_pos h]
  · rw [if_neg (hn 0 (by omega)), if_pos h]
  · rw [if_neg (hn 0 (by omega)), if_neg (hn 1 (by omega)), if_pos h]
  · rw [if_neg (hn 0 (by omega)), if_neg (hn 1 (by omega)), if_neg (hn 2 (by omega)), if_pos h]
theorem bet_end {x y : Nat} (hn : ∀ j, j < 4 → ¬ upN x (unitU j) < y) : betO x y = none := by
  rw [betO_eq, if_neg (hn 0 (by omega)), if_neg (hn 1 (by omega)), if_neg (hn 2 (by omega)), if_neg (hn 3 (by omega))]
theorem unit_next {k : Nat} (h : k ≤ 3) : ((unitU k : Nat) : Int).tdiv 10 = ((unitU (k + 1) : Nat) : Int) ∧ 1 ≤ unitU k ∧ unitU k ≤ 1000 ∧ unitU (k + 1) < unitU k := by
  have : k = 0 ∨ k = 1 ∨ k = 2 ∨ k = 3 := by omega
  rcases this with rfl | rfl | rfl | rfl <;> decide
theorem up_parts (x u : Nat) (h : 1 ≤ u) : (x : Int).tdiv (u : Int) = ((x / u : Nat) : Int) ∧ (((x / u : Nat) : Int) + 1) * (u : Int) = ((upN x u : Nat) : Int) ∧ x / u ≤ x ∧ upN x u ≤ x + u := by
  refine ⟨?_, ?_, Nat.div_le_self _ _, (upN_gt x u h).2⟩
  · rw [Int.tdiv_eq_ediv_of_nonneg (by omega)]; rfl
  · unfold upN; simp
end Go.Proofs.YtjideokeokmbaaaGreatDoor.Z
