/- Contracts of the reference's small functions on integers. -/
import Derived.Test.YtlbnibicehpobaaGreatDoorRows
import Derived.Test.YtlbnibicehpobaaGreatDoorMath
import Derived.WalkKit
import Derived.WalkSpells
import Derived.WalkLawsBesides
import Derived.Lib.Strings
import Derived.Lib.Hide
import Derived.Outline
set_option linter.unusedVariables false
set_option linter.unusedSimpArgs false
namespace Go.Proofs.YtlbnibicehpobaaGreatDoor
open Go.RowKit
open Z

/-- the world has grown: what was there is as it was -/
def Gr (w w' : World) : Prop := Below w.heap.size w w'
theorem Gr.refl (w : World) : Gr w w := Below.refl _ _
theorem Gr.trans {a b c : World} (h : Gr a b) (k : Gr b c) : Gr a c := Below.trans h (Below.mono k h.size)
theorem Gr.drew {a w : World} (h : Gr a w) : Gr a w.drew := Below.drew h
theorem Gr.alloc {a w : World} (h : Gr a w) (o : Obj) : Gr a (w.alloc o) := Below.alloc h h.size o

def str (l : List UInt8) : ByteArray := ⟨l.toArray⟩
theorem data_str (l : List UInt8) : (str l).data.toList = l := by simp [str]

theorem get_data (s : ByteArray) (i : Nat) (h : i < s.size) : s[i] = s.data.toList[i]'(by simpa using h) := rfl
theorem body_cases (s : ByteArray) : (0 < s.size ∧ (∃ h : 0 < s.size, s[0] = 45) ∧ body s.data.toList = s.data.toList.tail) ∨ body s.data.toList = s.data.toList := by
  unfold body
  split
  · rename_i h
    left
    cases hs : s.data.toList with
    | nil => rw [hs] at h; simp at h
    | cons c t =>
      rw [hs] at h
      have hz : 0 < s.size := by show 0 < s.data.size; rw [← Array.length_toList, hs]; simp
      refine ⟨hz, ⟨hz, ?_⟩, rfl⟩
      rw [get_data]; simp only [hs, List.getElem_cons_zero]; simpa using h
  · right; rfl

theorem ret_str {s t : ByteArray} (h : s = t) : Ending.returned (.string s) = Ending.returned (.string t) := by rw [h]
theorem ret_int {k : IntKind} {a b : Int} (h : a = b) : Ending.returned (.int k a) = Ending.returned (.int k b) := by rw [h]
theorem ret_bool {a b : Bool} (h : a = b) : Ending.returned (.bool a) = Ending.returned (.bool b) := by rw [h]

theorem toList_Tx (a : Int) : (Tx a).toList = Lib.itoa a := by rw [ByteArray.toList_eq, data_Tx]
theorem itoa_eq_zero {a : Int} (h : Lib.itoa a = [48]) : a = 0 := by
  have := ival_itoa a
  rw [h] at this
  rw [← this]; rfl
theorem Tx_is0 (a : Int) : ((Tx a).toList == [48]) = decide (a = 0) := by
  rw [toList_Tx]
  by_cases h : a = 0
  · subst h; simp [itoa_zero]
  · simp only [h, decide_false, beq_eq_false_iff_ne, ne_eq]
    exact fun e => h (itoa_eq_zero e)
theorem Tx_pos (a : Int) : 0 < (Tx a).size := by rw [size_Tx, itoa_length]; have := Lib.nDigits_pos a.natAbs; omega
theorem Tx_head (a : Int) (h : 0 < (Tx a).size) : ((((Tx a)[0]).toNat : Int) == 45) = decide (a < 0) := by
  have h1 := head_itoa a
  rw [get_data]
  simp only [data_Tx]
  rw [List.head?_eq_getElem?, List.getElem?_eq_getElem (by rw [← data_Tx]; simpa using h)] at h1
  simp only [Option.some.injEq] at h1
  by_cases h2 : a < 0
  · simp only [h2, decide_true, beq_iff_eq]
    rw [h1.2 h2]; rfl
  · simp only [h2, decide_false, beq_eq_false_iff_ne, ne_eq]
    intro h3
    refine h2 (h1.1 ?_)
    exact UInt8.toNat_inj.1 (by have : ((45 : UInt8).toNat : Int) = 45 := rfl; omega)
theorem Tx_minus (a : Int) (h : 0 < a) : (⟨#[45]⟩ : ByteArray) ++ Tx a = Tx (-a) := by
  apply ba_ext
  simp only [ByteArray.data_append, Array.toList_append, data_Tx]
  unfold Lib.itoa
  rw [if_neg (by omega), if_pos (by omega)]
  simp only [List.cons_append, List.nil_append, List.cons.injEq, true_and]
  congr 1; omega
theorem Tx_drop (a : Int) (h : a < 0) : (Tx a).extract 1 (Tx a).size = Tx (-a) := by
  apply ba_ext
  rw [Lib.extract_data, data_Tx, data_Tx, size_Tx, itoa_length, if_pos h]
  unfold Lib.itoa
  rw [if_pos h, if_neg (show ¬ -a < 0 by omega)]
  simp only [List.drop_succ_cons, List.drop_zero, Nat.add_sub_cancel]
  rw [List.take_of_length_le (by rw [Lib.decDigits_length]; exact Nat.le_refl _)]
  congr 1; omega

theorem body_drop (s : ByteArray) (h : 0 < s.size) (h1 : ((s[0].toNat : Int) == 45) = true) : str (body s.data.toList) = s.extract 1 s.size := by
  have h2 : s[0] = 45 := by
    have h0 : (s[0].toNat : Int) = 45 := by simpa using h1
    exact UInt8.toNat_inj.1 (by have : ((45 : UInt8).toNat : Int) = 45 := rfl; omega)
  have h3 : s.data.toList.head? = some 45 := by
    rw [List.head?_eq_getElem?, List.getElem?_eq_getElem (by simpa using h)]; rw [get_data] at h2; rw [h2]
  apply ba_ext
  rw [data_str, Lib.extract_data]
  unfold body
  rw [if_pos h3, List.drop_one, List.take_of_length_le (by simp)]
theorem body_same (s : ByteArray) (h1 : ∀ h : 0 < s.size, ((s[0].toNat : Int) == 45) = false) : str (body s.data.toList) = s := by
  apply ba_ext
  rw [data_str]
  unfold body
  rw [if_neg]
  intro h3
  cases hs : s.data.toList with
  | nil => rw [hs] at h3; simp at h3
  | cons c t =>
    have hz : 0 < s.size := by show 0 < s.data.size; rw [← Array.length_toList, hs]; simp
    have h4 := h1 hz
    rw [get_data] at h4
    simp only [hs, List.getElem_cons_zero] at h4
    rw [hs] at h3
    simp at h3 h4
    subst h3
    exact h4 rfl

set_option maxHeartbeats 400000 in
theorem r1_body (s : ByteArray) (w : World) (hs : s.size ≤ maxLen) :
    Calls Tryz.prog 78 #[.string s] w fun e w' => e = .returned (.string (str (body s.data.toList))) ∧ w = w' := by
  unfold maxLen at hs
  go_enter Tryz.func78, Tryz.ntmps78
  go_wp2
  all_goals go_ret
  · exact ⟨ret_str (body_drop _ ‹_› ‹_›).symm, rfl⟩
  · exact ⟨ret_str (body_same _ (fun _ => ‹_›)).symm, rfl⟩
  · exact ⟨ret_str (body_same _ (fun h => absurd h ‹_›)).symm, rfl⟩

theorem str_body_Tx (a : Int) : str (body (Tx a).data.toList) = Tx a.natAbs := by
  apply ba_ext
  rw [data_str, data_Tx, data_Tx, body_itoa]
  unfold Lib.itoa; rw [if_neg (by omega)]; simp
/-- an integer with at most k digits -/
def Sm (k : Nat) (a : Int) : Prop := Lib.nDigits a.natAbs ≤ k ∧ k ≤ 1000000
theorem Sm.size {k : Nat} {a : Int} (h : Sm k a) : (Tx a).size ≤ k + 1 ∧ k ≤ 1000000 := by
  rw [size_Tx, itoa_length]; have := h.1; have := h.2; split <;> omega
theorem Sm.len {k : Nat} {a : Int} (h : Sm k a) : (Tx a).size ≤ maxLen := by have := h.size; unfold maxLen; omega
theorem Sm.len2 {k : Nat} {a : Int} (h : Sm k a) : (Tx a).size ≤ 1000001 := by have := h.size; omega
theorem Sm.abs {k : Nat} {a : Int} (h : Sm k a) : Sm k (a.natAbs : Int) := by simpa [Sm] using h
theorem Sm.neg {k : Nat} {a : Int} (h : Sm k a) : Sm k (-a) := by simpa [Sm] using h

theorem r1_body_Tx {k : Nat} (a : Int) (w : World) (hs : Sm k a) :
    Calls Tryz.prog 78 #[.string (Tx a)] w fun e w' => e = .returned (.string (Tx a.natAbs)) ∧ w = w' := by
  have := r1_body (Tx a) w hs.len
  rw [str_body_Tx] at this
  exact this
theorem sign_neg' {a : Int} (h : a < 0) : a.sign = -1 := Int.sign_eq_neg_one_of_neg h
theorem sign_pos' {a : Int} (h : 0 < a) : a.sign = 1 := Int.sign_eq_one_of_pos h

/-- the three signs, with the tests on a text that they decide -/
theorem tests_neg {a : Int} (h : a < 0) : ((Tx a).toList == [48]) = false ∧ 0 < (Tx a).size ∧ ∀ hz : 0 < (Tx a).size, (((Tx a)[0].toNat : Int) == 45) = true :=
  ⟨by rw [Tx_is0]; simp; omega, Tx_pos a, fun hz => by rw [Tx_head]; simp [h]⟩
theorem tests_pos {a : Int} (h : 0 < a) : ((Tx a).toList == [48]) = false ∧ 0 < (Tx a).size ∧ ∀ hz : 0 < (Tx a).size, (((Tx a)[0].toNat : Int) == 45) = false :=
  ⟨by rw [Tx_is0]; simp; omega, Tx_pos a, fun hz => by rw [Tx_head]; simp; omega⟩
theorem tests_zero : ((Tx 0).toList == [48]) = true := by rw [Tx_is0]; rfl

set_option maxHeartbeats 400000 in
theorem r1_Sign {k : Nat} (a : Int) (w : World) (hs : Sm k a) :
    Calls Tryz.prog 56 #[.string (Tx a)] w fun e w' => e = .returned (.int .i64 a.sign) ∧ w = w' := by
  have hs' := hs.len2
  rcases Int.lt_trichotomy a 0 with h | h | h
  · obtain ⟨t1, t2, t3⟩ := tests_neg h
    go_enter Tryz.func56, Tryz.ntmps56
    go_wp2
    go_ret
    exact ⟨ret_int (sign_neg' h).symm, rfl⟩
  · subst h
    have t1 := tests_zero
    go_enter Tryz.func56, Tryz.ntmps56
    go_wp2
    go_ret
    exact ⟨rfl, rfl⟩
  · obtain ⟨t1, t2, t3⟩ := tests_pos h
    go_enter Tryz.func56, Tryz.ntmps56
    go_wp2
    go_ret
    exact ⟨ret_int (sign_pos' h).symm, rfl⟩
theorem size_Tx_nat (n : Nat) : (Tx (n : Int)).size = Lib.nDigits n := by rw [size_Tx, itoa_length, if_neg (by omega)]; simp
set_option maxHeartbeats 400000 in
theorem r1_Digits {k : Nat} (a : Int) (w : World) (hs : Sm k a) :
    Calls Tryz.prog 57 #[.string (Tx a)] w fun e w' => e = .returned (.int .i64 (Lib.nDigits a.natAbs)) ∧ w = w' := by
  have hs1 := hs.abs.len2
  go_enter Tryz.func57, Tryz.ntmps57
  go_wp2_with (go_at_call 78; refine (r1_body_Tx _ _ hs).mono ?_; rintro e w' ⟨rfl, rfl⟩)
  go_ret
  exact ⟨ret_int (by rw [size_Tx_nat]), rfl⟩
set_option maxHeartbeats 400000 in
theorem r1_Magnitude {k : Nat} (a : Int) (w : World) (hs : Sm k a) :
    Calls Tryz.prog 79 #[.string (Tx a)] w fun e w' => e = .returned (.string (Tx a.natAbs)) ∧ w = w' := by
  go_enter Tryz.func79, Tryz.ntmps79
  go_wp2_with (go_at_call 78; refine (r1_body_Tx _ _ hs).mono ?_; rintro e w' ⟨rfl, rfl⟩)
  go_ret
  exact ⟨rfl, rfl⟩
set_option maxHeartbeats 400000 in
theorem r1_Negated {k : Nat} (a : Int) (w : World) (hs : Sm k a) :
    Calls Tryz.prog 85 #[.string (Tx a)] w fun e w' => e = .returned (.string (Tx (-a))) ∧ w = w' := by
  have hs' := hs.len2
  rcases Int.lt_trichotomy a 0 with h | h | h
  · obtain ⟨t1, t2, t3⟩ := tests_neg h
    go_enter Tryz.func85, Tryz.ntmps85
    go_wp2
    go_ret
    exact ⟨ret_str (Tx_drop a h), rfl⟩
  · subst h
    have t1 := tests_zero
    go_enter Tryz.func85, Tryz.ntmps85
    go_wp2
    go_ret
    exact ⟨rfl, rfl⟩
  · obtain ⟨t1, t2, t3⟩ := tests_pos h
    go_enter Tryz.func85, Tryz.ntmps85
    go_wp2
    go_ret
    exact ⟨ret_str (Tx_minus a h), rfl⟩
set_option maxHeartbeats 400000 in
theorem r1_signed (n : Nat) (b : Bool) (w : World) (k : Nat) (hs : Sm k n) :
    Calls Tryz.prog 83 #[.string (Tx n), .bool b] w fun e w' => e = .returned (.string (Tx (if b then -(n : Int) else n))) ∧ w = w' := by
  have hs' := hs.len2
  cases b
  · go_enter Tryz.func83, Tryz.ntmps83
    go_wp2
    go_ret
    exact ⟨rfl, rfl⟩
  · by_cases h : n = 0
    · subst h
      have t1 := tests_zero
      go_enter Tryz.func83, Tryz.ntmps83
      go_wp2
      go_ret
      exact ⟨rfl, rfl⟩
    · have h' : 0 < (n : Int) := by omega
      obtain ⟨t1, t2, t3⟩ := tests_pos h'
      go_enter Tryz.func83, Tryz.ntmps83
      go_wp2
      go_ret
      exact ⟨ret_str (Tx_minus _ h'), rfl⟩
end Go.Proofs.YtlbnibicehpobaaGreatDoor
