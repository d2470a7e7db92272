/- Texts of rational numbers. -/
import Derived.Test.YtjoipfiomeocoabGreatDoorRefB
import Derived.Lib.IndexMore
set_option linter.unusedVariables false
set_option linter.unusedSimpArgs false
namespace Go.Proofs.YtjoipfiomeocoabGreatDoor
open Go.RowKit
open Z

/-- what stands before and behind the first slash of a text -/
def top (l : List UInt8) : List UInt8 := l.takeWhile (· != 47)
def rest (l : List UInt8) : List UInt8 := l.dropWhile (· != 47)
def parted (l : List UInt8) : Bool := l.contains 47
def bot (l : List UInt8) : List UInt8 := if parted l then (rest l).tail else [49]
theorem parted_split {l : List UInt8} (h : parted l = true) : l = top l ++ 47 :: bot l := by
  have h1 : top l ++ rest l = l := List.takeWhile_append_dropWhile
  have h2 : rest l = 47 :: (rest l).tail := by
    unfold parted at h
    unfold rest
    induction l with
    | nil => simp at h
    | cons c r ih =>
      by_cases hc : c = 47
      · subst hc; rfl
      · have h3 : (c != 47) = true := by simpa using hc
        rw [List.dropWhile_cons, if_pos h3]
        refine ih ?_ List.takeWhile_append_dropWhile
        simp only [List.contains_cons, Bool.or_eq_true, beq_iff_eq] at h
        rcases h with h | h
        · exact absurd h.symm hc
        · exact h
  unfold bot
  rw [if_pos h]
  exact (h1.symm.trans (by rw [← h2]))
theorem takeWhile_all {p : UInt8 → Bool} : ∀ {l : List UInt8}, (∀ c ∈ l, p c = true) → l.takeWhile p = l
  | [], _ => rfl
  | c :: r, h => by
    rw [List.takeWhile_cons, if_pos (h c (List.mem_cons_self ..)), takeWhile_all fun d hd => h d (List.mem_cons_of_mem _ hd)]
theorem unparted_top {l : List UInt8} (h : parted l = false) : top l = l ∧ bot l = [49] := by
  refine ⟨?_, by unfold bot; rw [h]; rfl⟩
  unfold top
  refine takeWhile_all ?_
  intro c hc
  unfold parted at h
  simp only [List.contains_eq_mem, decide_eq_false_iff_not] at h
  simp only [bne_iff_ne, ne_eq]
  intro e; subst e; exact h hc
theorem top_of {a b : List UInt8} (ha : (47 : UInt8) ∉ a) : parted (a ++ 47 :: b) = true ∧ top (a ++ 47 :: b) = a ∧ bot (a ++ 47 :: b) = b := by
  have hp : parted (a ++ 47 :: b) = true := by unfold parted; simp
  have hall : ∀ c ∈ a, (c != 47) = true := by
    intro c hc
    simp only [bne_iff_ne, ne_eq]
    intro e; subst e; exact ha hc
  have ht : top (a ++ 47 :: b) = a := by
    unfold top
    rw [List.takeWhile_append_of_pos hall]
    simp
  refine ⟨hp, ht, ?_⟩
  have h := parted_split hp
  rw [ht] at h
  have h2 := List.append_cancel_left h
  simp only [List.cons.injEq, true_and] at h2
  exact h2.symm
theorem noslash_digits {l : List UInt8} (h : l.all isD = true) : (47 : UInt8) ∉ l := by
  intro hc
  rw [List.all_eq_true] at h
  have := isD_iff.1 (h _ hc)
  simp at this
theorem noslash_itoa (a : Int) : (47 : UInt8) ∉ Lib.itoa a := by
  unfold Lib.itoa
  split
  · intro h
    rcases List.mem_cons.1 h with h | h
    · exact absurd h (by decide)
    · exact noslash_digits (dec_decDigits _).2.1 h
  · exact noslash_digits (dec_decDigits _).2.1
theorem noslash_form {l : List UInt8} (h : formB l = true) : (47 : UInt8) ∉ l := by
  rw [← itoa_ival _ h]; exact noslash_itoa _

/-- the text of a rational number -/
def RT (r : Rat) : ByteArray := if r.den = 1 then Tx r.num else Tx r.num ++ ⟨#[47]⟩ ++ Tx (r.den : Int)
theorem data_RT (r : Rat) : (RT r).data.toList = if r.den = 1 then Lib.itoa r.num else Lib.itoa r.num ++ 47 :: Lib.itoa (r.den : Int) := by
  unfold RT
  split
  · exact data_Tx _
  · simp only [ByteArray.data_append, Array.toList_append, data_Tx]
    simp
theorem itoa_one : Lib.itoa 1 = [49] := by
  have h := congrArg (fun s : ByteArray => s.data.toList) Tx_one
  simp only [data_Tx] at h
  exact h
theorem top_RT (r : Rat) : top (RT r).data.toList = Lib.itoa r.num ∧ bot (RT r).data.toList = Lib.itoa (r.den : Int) ∧ (parted (RT r).data.toList = true ↔ r.den ≠ 1) := by
  rw [data_RT]
  by_cases h : r.den = 1
  · rw [if_pos h]
    have hp : parted (Lib.itoa r.num) = false := by
      unfold parted
      simp only [List.contains_eq_mem, decide_eq_false_iff_not]
      exact noslash_itoa _
    refine ⟨(unparted_top hp).1, ?_, by rw [hp]; simp [h]⟩
    rw [(unparted_top hp).2, h]
    exact itoa_one.symm
  · rw [if_neg h]
    have := top_of (b := Lib.itoa (r.den : Int)) (noslash_itoa r.num)
    exact ⟨this.2.1, this.2.2, by rw [this.1]; simp [h]⟩
/-- what Check answers for a text -/
def chk2 (l : List UInt8) : Int :=
  if formB (top l) = false ∨ formB (bot l) = false then 3
  else if parted l = true ∧ (ival (bot l) ≤ 0 ∨ ival (bot l) = 1) then 3
  else if 4096 < (body (top l)).length ∨ 4096 < (body (bot l)).length then 23
  else if parted l = true ∧ Nat.gcd (ival (top l)).natAbs (ival (bot l)).natAbs ≠ 1 then 3
  else 0
theorem chk2_val (l : List UInt8) : chk2 l = 0 ∨ chk2 l = 3 ∨ chk2 l = 23 := by
  unfold chk2; repeat' split
  all_goals simp
/-- numerator and denominator of up to 4096 digits -/
def InR (r : Rat) : Prop := Lib.nDigits r.num.natAbs ≤ 4096 ∧ Lib.nDigits r.den ≤ 4096
theorem body_itoa_len (a : Int) : (body (Lib.itoa a)).length = Lib.nDigits a.natAbs := by
  have h := str_body_Tx a
  have h2 := congrArg ByteArray.size h
  rw [show (str (body (Tx a).data.toList)).size = (body (Tx a).data.toList).length by show (body (Tx a).data.toList).toArray.size = _; simp, data_Tx, size_Tx_nat] at h2
  exact h2
theorem chk2_RT {r : Rat} (h : InR r) : chk2 (RT r).data.toList = 0 := by
  obtain ⟨h1, h2, h3⟩ := top_RT r
  unfold chk2
  rw [h1, h2, body_itoa_len, body_itoa_len, ival_itoa, ival_itoa]
  have hd := r.den_nz
  rw [if_neg (by rw [form_itoa, form_itoa]; simp), if_neg (by rw [h3]; omega), if_neg (by have := h.1; have := h.2; rw [Int.natAbs_natCast]; omega), if_neg]
  rintro ⟨_, h4⟩
  exact h4 r.reduced
theorem chk2_cases (s : ByteArray) : (chk2 s.data.toList == 0) = false ∨ (∃ r : Rat, s = RT r ∧ InR r ∧ chk2 s.data.toList = 0) := by
  by_cases h0 : chk2 s.data.toList = 0
  · right
    have hc := h0
    unfold chk2 at h0
    split at h0
    · simp at h0
    · rename_i g1
      split at h0
      · simp at h0
      · rename_i g2
        split at h0
        · simp at h0
        · rename_i g3
          split at h0
          · simp at h0
          · rename_i g4
            obtain ⟨l, hl⟩ : ∃ l, l = s.data.toList := ⟨_, rfl⟩
            rw [← hl] at g1 g2 g3 g4 hc ⊢
            have f1 : formB (top l) = true := by cases h : formB (top l) <;> simp_all
            have f2 : formB (bot l) = true := by cases h : formB (bot l) <;> simp_all
            have e1 := itoa_ival _ f1
            have e2 := itoa_ival _ f2
            have n1 := body_itoa_len (ival (top l))
            have n2 := body_itoa_len (ival (bot l))
            rw [e1] at n1
            rw [e2] at n2
            cases hp : parted l with
            | false =>
              have ht := unparted_top hp
              refine ⟨((ival (top l) : Int) : Rat), ?_, ⟨?_, ?_⟩, hc⟩
              · apply ba_ext
                rw [data_RT, Rat.den_intCast, if_pos rfl, Rat.num_intCast, e1, ht.1, hl]
              · rw [Rat.num_intCast]; omega
              · rw [Rat.den_intCast, Lib.nDigits_small (by omega)]; omega
            | true =>
              have hpos : 1 < ival (bot l) := by
                have : ¬ (ival (bot l) ≤ 0 ∨ ival (bot l) = 1) := fun h => g2 ⟨hp, h⟩
                omega
              have hgcd : Nat.gcd (ival (top l)).natAbs (ival (bot l)).natAbs = 1 := by
                by_cases h : Nat.gcd (ival (top l)).natAbs (ival (bot l)).natAbs = 1
                · exact h
                · exact absurd ⟨hp, h⟩ g4
              refine ⟨⟨ival (top l), (ival (bot l)).natAbs, by omega, hgcd⟩, ?_, ⟨?_, ?_⟩, hc⟩
              · apply ba_ext
                rw [data_RT]
                simp only
                rw [if_neg (by omega), e1, show (((ival (bot l)).natAbs : Nat) : Int) = ival (bot l) by omega, e2, ← hl]
                exact parted_split hp
              · simp only; omega
              · simp only; omega
  · left; simpa using h0
end Go.Proofs.YtjoipfiomeocoabGreatDoor
