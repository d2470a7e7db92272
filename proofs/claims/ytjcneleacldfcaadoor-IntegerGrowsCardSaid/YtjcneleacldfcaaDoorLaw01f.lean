/- IntegerGrows. -/
import Derived.Test.YtjcneleacldfcaaDoorLaw01e
set_option linter.unusedVariables false
set_option linter.unusedSimpArgs false
namespace Go.Proofs.YtjcneleacldfcaaDoor
open Go.RowKit Go.Shelf
open Z

/-- the number of i nines -/
def nine (i : Nat) : Int := ((10 ^ i - 1 : Nat) : Int)
theorem dec_nines : ∀ i, dec (List.replicate i 57) + 1 = 10 ^ i
  | 0 => rfl
  | i + 1 => by
    have h1 := dec_nines i
    rw [List.replicate_succ', dec_snoc, Nat.pow_succ]
    have : dv 57 = 9 := rfl
    omega
theorem Tx_nine (i : Nat) (hi : 1 ≤ i) : (⟨(Lib.repeatL [57] i).toArray⟩ : ByteArray) = Tx (nine i) := by
  have h1 : Lib.repeatL [57] i = List.replicate i 57 := by
    have := Lib.repeatL_replicate 57 1 i
    rw [Nat.mul_one] at this; exact this
  rw [h1]
  obtain ⟨j, rfl⟩ : ∃ j, i = j + 1 := ⟨i - 1, by omega⟩
  have hb : body (List.replicate (j + 1) (57 : UInt8)) = List.replicate (j + 1) 57 := by
    unfold body; rw [List.replicate_succ]; rfl
  have hf : formB (List.replicate (j + 1) (57 : UInt8)) = true := by
    unfold formB
    rw [hb, List.all_replicate]
    rw [List.replicate_succ]; rfl
  have h2 := Tx_ival ⟨(List.replicate (j + 1) (57 : UInt8)).toArray⟩ (by simpa using hf)
  rw [← h2]
  congr 1
  have h3 := dec_nines (j + 1)
  have h4 : ((⟨(List.replicate (j + 1) (57 : UInt8)).toArray⟩ : ByteArray)).data.toList = List.replicate (j + 1) 57 := by simp
  rw [h4]
  unfold ival nine
  rw [hb, if_neg (by rw [List.replicate_succ]; simp)]
  omega
theorem nine_digits (i : Nat) (hi : 1 ≤ i) : Lib.nDigits (nine i).natAbs = i := by
  obtain ⟨j, rfl⟩ : ∃ j, i = j + 1 := ⟨i - 1, by omega⟩
  have h0 : 1 ≤ 10 ^ j := Nat.one_le_pow _ _ (by decide)
  have h1 : 10 ^ (j + 1) = 10 ^ j * 10 := Nat.pow_succ ..
  unfold nine
  rw [Int.natAbs_natCast]
  refine Lib.nDigits_unique j _ ?_ ?_ <;> omega
theorem nine_pq {P Q : Nat} (hP : 1 ≤ P) (hQ : 1 ≤ Q) : P * Q * 10 ≤ (P * 10 - 1) * (Q * 10 - 1) ∧ (P * 10 - 1) * (Q * 10 - 1) < P * Q * 100 := by
  have h4 : P ≤ P * Q := Nat.le_mul_of_pos_right _ (by omega)
  have h5 : Q ≤ P * Q := Nat.le_mul_of_pos_left _ (by omega)
  obtain ⟨A, hA⟩ : ∃ A, P * 10 = A + 1 := ⟨P * 10 - 1, by omega⟩
  obtain ⟨B, hB⟩ : ∃ B, Q * 10 = B + 1 := ⟨Q * 10 - 1, by omega⟩
  have h6 : (P * 10) * (Q * 10) = P * Q * 100 := by rw [Nat.mul_mul_mul_comm]
  rw [hA, hB, Nat.add_mul, Nat.mul_add, Nat.mul_one, Nat.one_mul] at h6
  rw [hA, hB, Nat.add_sub_cancel, Nat.add_sub_cancel]
  generalize A * B = C at h6 ⊢
  generalize P * Q = R at h4 h5 h6 ⊢
  omega
theorem nine_mul (i k : Nat) (hi : 1 ≤ i) (hk : 1 ≤ k) : Lib.nDigits (nine i * nine k).natAbs = i + k := by
  obtain ⟨j, rfl⟩ : ∃ j, i = j + 1 := ⟨i - 1, by omega⟩
  obtain ⟨l, rfl⟩ : ∃ l, k = l + 1 := ⟨k - 1, by omega⟩
  have h0 : 1 ≤ 10 ^ j := Nat.one_le_pow _ _ (by decide)
  have h0' : 1 ≤ 10 ^ l := Nat.one_le_pow _ _ (by decide)
  have h1 : 10 ^ (j + 1) = 10 ^ j * 10 := Nat.pow_succ ..
  have h1' : 10 ^ (l + 1) = 10 ^ l * 10 := Nat.pow_succ ..
  have h2 : 10 ^ (j + l + 1) = 10 ^ j * 10 ^ l * 10 := by rw [Nat.pow_succ, Nat.pow_add]
  have h3 : 10 ^ (j + l + 1 + 1) = 10 ^ j * 10 ^ l * 100 := by rw [Nat.pow_succ, h2]; omega
  unfold nine
  rw [Int.natAbs_mul, Int.natAbs_natCast, Int.natAbs_natCast, show j + 1 + (l + 1) = (j + l + 1) + 1 by omega]
  rw [h1, h1']
  refine Lib.nDigits_unique (j + l + 1) _ ?_ ?_
  · rw [h2]
    generalize 10 ^ j = P at h0 ⊢
    generalize 10 ^ l = Q at h0' ⊢
    have := (nine_pq h0 h0').1
    omega
  · rw [h3]
    generalize 10 ^ j = P at h0 ⊢
    generalize 10 ^ l = Q at h0' ⊢
    have := (nine_pq h0 h0').2
    omega
theorem nine_add (i k : Nat) (hi : 1 ≤ i) (hk : 1 ≤ k) (h : k ≤ i) : Lib.nDigits (nine i + nine k).natAbs = i + 1 := by
  obtain ⟨j, rfl⟩ : ∃ j, i = j + 1 := ⟨i - 1, by omega⟩
  obtain ⟨l, rfl⟩ : ∃ l, k = l + 1 := ⟨k - 1, by omega⟩
  have h0 : 1 ≤ 10 ^ j := Nat.one_le_pow _ _ (by decide)
  have h0' : 1 ≤ 10 ^ l := Nat.one_le_pow _ _ (by decide)
  have h1 : 10 ^ (j + 1) = 10 ^ j * 10 := Nat.pow_succ ..
  have h1' : 10 ^ (l + 1) = 10 ^ l * 10 := Nat.pow_succ ..
  have h2 : 10 ^ (j + 1 + 1) = 10 ^ j * 10 * 10 := by rw [Nat.pow_succ, h1]
  have h3 : 10 ^ l ≤ 10 ^ j := Nat.pow_le_pow_right (by decide) (by omega)
  unfold nine
  rw [← Int.natCast_add, Int.natAbs_natCast]
  refine Lib.nDigits_unique (j + 1) _ ?_ ?_ <;> omega
theorem nine_pos (i : Nat) : 0 ≤ nine i := by unfold nine; omega
theorem ret_Repeat {w0 : World} (i : Nat) (h1 : 1 ≤ i) (h2 : i ≤ 4096) : Ret w0 39 #[.string ⟨#[57]⟩, .int .i64 (i : Int)] (.string (Tx (nine i))) := .mk fun w _ => by
  have H := Tryd.strings_Repeat ⟨#[57]⟩ i w (by omega) (by show 1 * i ≤ _; omega)
  rw [← Tx_nine i h1]
  exact H
set_option maxHeartbeats 4000000 in
set_option maxRecDepth 100000 in
theorem l1_IntegerGrows (n m : Int) (w : World) (hn0 : 0 ≤ n) (hn1 : n < 65536) (hm0 : 0 ≤ m) (hm1 : m < 65536) (htab : Tab w) :
    Calls Tryd.prog 7 #[.int .u16 n, .int .u16 m] w (fun e w' => e = .returned (.bool true) ∧ Gr w w') := by
  have HAW := Lib.hid (ret_awake htab)
  have HG := Lib.hid (Gr.refl w)
  obtain ⟨j, hj⟩ : ∃ j : Nat, n.tmod 4096 = (j : Int) := ⟨(n.tmod 4096).toNat, by have := Int.tmod_nonneg 4096 hn0; omega⟩
  obtain ⟨l, hl⟩ : ∃ l : Nat, m.tmod 4096 = (l : Int) := ⟨(m.tmod 4096).toNat, by have := Int.tmod_nonneg 4096 hm0; omega⟩
  have hj1 : j < 4096 := by have := Int.tmod_lt_of_pos n (show (0 : Int) < 4096 by omega); omega
  have hl1 : l < 4096 := by have := Int.tmod_lt_of_pos m (show (0 : Int) < 4096 by omega); omega
  have R1 : Hid (Ret w 39 #[.string ⟨#[57]⟩, .int .i64 (1 + (j : Int))] (.string (Tx (nine (j + 1))))) := by
    have := ret_Repeat (w0 := w) (j + 1) (by omega) (by omega)
    rwa [show ((j + 1 : Nat) : Int) = 1 + (j : Int) by omega] at this
  have R2 : Hid (Ret w 39 #[.string ⟨#[57]⟩, .int .i64 (1 + (l : Int))] (.string (Tx (nine (l + 1))))) := by
    have := ret_Repeat (w0 := w) (l + 1) (by omega) (by omega)
    rwa [show ((l + 1 : Nat) : Int) = 1 + (l : Int) by omega] at this
  have ia : In (nine (j + 1)) := by unfold In; rw [nine_digits _ (by omega)]; omega
  have ib : In (nine (l + 1)) := by unfold In; rw [nine_digits _ (by omega)]; omega
  have C1 := Lib.hid (any_Mul htab ia.len ib.len)
  have C2 := Lib.hid (any_Add htab ia.len ib.len)
  rw [opR_Tx ia ib] at C1 C2
  have dm := nine_mul (j + 1) (l + 1) (by omega) (by omega)
  have da : Lib.nDigits (nine (j + 1) + nine (l + 1)).natAbs = max (j + 1) (l + 1) + 1 := by
    rcases Nat.le_total l j with h | h
    · rw [nine_add _ _ (by omega) (by omega) (by omega)]; omega
    · rw [Int.add_comm, nine_add _ _ (by omega) (by omega) (by omega)]; omega
  have pm : 0 ≤ nine (j + 1) * nine (l + 1) := Int.mul_nonneg (nine_pos _) (nine_pos _)
  have pa : 0 ≤ nine (j + 1) + nine (l + 1) := Int.add_nonneg (nine_pos _) (nine_pos _)
  have sm : (Tx (nine (j + 1) * nine (l + 1))).size = j + 1 + (l + 1) := by rw [size_Tx, itoa_length, dm, if_neg (by omega)]; rfl
  have sa : (Tx (nine (j + 1) + nine (l + 1))).size = max (j + 1) (l + 1) + 1 := by rw [size_Tx, itoa_length, da, if_neg (by omega)]
  unfold longR at C1 C2
  rw [dm] at C1
  rw [da] at C2
  generalize Tx (nine (j + 1) * nine (l + 1)) = x1 at C1 sm
  generalize Tx (nine (j + 1) + nine (l + 1)) = x2 at C2 sa
  have sm1 : x1.size ≤ j + 1 + (l + 1) := Nat.le_of_eq sm
  have sm2 : j + 1 + (l + 1) ≤ x1.size := Nat.le_of_eq sm.symm
  have sa1 : x2.size ≤ max (j + 1) (l + 1) + 1 := Nat.le_of_eq sa
  have sa2 : max (j + 1) (l + 1) + 1 ≤ x2.size := Nat.le_of_eq sa.symm
  clear htab ia ib dm da pm pa sm sa
  generalize Tx (nine (j + 1)) = s at R1 C1 C2
  generalize Tx (nine (l + 1)) = t at R2 C1 C2
  by_cases hA : 4096 < max (j + 1) (l + 1) + 1
  · rw [if_pos (show 4096 < j + 1 + (l + 1) by omega)] at C1
    rw [if_pos hA] at C2
    simp only [vSI] at C1 C2
    go_enter Tryd.func7, Tryd.ntmps7
    go_wp2_with fail
    refine (R1.out _ HG.out).mono ?_
    rintro e w1 ⟨rfl, hg⟩
    replace HG := Lib.hid hg; clear hg
    go_wp2_with fail
    refine (R2.out _ HG.out).mono ?_
    rintro e w2 ⟨rfl, hg⟩
    replace HG := Lib.hid hg; clear hg
    go_wp2_with fail
    refine (C1.out _ HG.out).mono ?_
    rintro e w3 ⟨rfl, hg⟩
    replace HG := Lib.hid hg; clear hg
    go_wp2_with fail
    refine (C2.out _ HG.out).mono ?_
    rintro e w4 ⟨rfl, hg⟩
    replace HG := Lib.hid hg; clear hg
    go_wp2_with fail
    refine (HAW.out _ HG.out).mono ?_
    rintro e w5 ⟨rfl, hg⟩
    replace HG := Lib.hid hg; clear hg
    go_wp2
    go_ret
    exact ⟨rfl, HG.out⟩
  · rw [if_neg hA] at C2
    by_cases hM : 4096 < j + 1 + (l + 1)
    · rw [if_pos hM] at C1
      simp only [vSI] at C1 C2
      go_enter Tryd.func7, Tryd.ntmps7
      go_wp2_with fail
      refine (R1.out _ HG.out).mono ?_
      rintro e w1 ⟨rfl, hg⟩
      replace HG := Lib.hid hg; clear hg
      go_wp2_with fail
      refine (R2.out _ HG.out).mono ?_
      rintro e w2 ⟨rfl, hg⟩
      replace HG := Lib.hid hg; clear hg
      go_wp2_with fail
      refine (C1.out _ HG.out).mono ?_
      rintro e w3 ⟨rfl, hg⟩
      replace HG := Lib.hid hg; clear hg
      go_wp2_with fail
      refine (C2.out _ HG.out).mono ?_
      rintro e w4 ⟨rfl, hg⟩
      replace HG := Lib.hid hg; clear hg
      go_wp2_with fail
      refine (HAW.out _ HG.out).mono ?_
      rintro e w5 ⟨rfl, hg⟩
      replace HG := Lib.hid hg; clear hg
      go_wp2
      go_ret
      exact ⟨rfl, HG.out⟩
    · rw [if_neg hM] at C1
      simp only [vSI] at C1 C2
      go_enter Tryd.func7, Tryd.ntmps7
      go_wp2_with fail
      refine (R1.out _ HG.out).mono ?_
      rintro e w1 ⟨rfl, hg⟩
      replace HG := Lib.hid hg; clear hg
      go_wp2_with fail
      refine (R2.out _ HG.out).mono ?_
      rintro e w2 ⟨rfl, hg⟩
      replace HG := Lib.hid hg; clear hg
      go_wp2_with fail
      refine (C1.out _ HG.out).mono ?_
      rintro e w3 ⟨rfl, hg⟩
      replace HG := Lib.hid hg; clear hg
      go_wp2_with fail
      refine (C2.out _ HG.out).mono ?_
      rintro e w4 ⟨rfl, hg⟩
      replace HG := Lib.hid hg; clear hg
      go_wp2_with fail
      refine (HAW.out _ HG.out).mono ?_
      rintro e w5 ⟨rfl, hg⟩
      replace HG := Lib.hid hg; clear hg
      go_wp2
      go_ret
      exact ⟨rfl, HG.out⟩
end Go.Proofs.YtjcneleacldfcaaDoor
