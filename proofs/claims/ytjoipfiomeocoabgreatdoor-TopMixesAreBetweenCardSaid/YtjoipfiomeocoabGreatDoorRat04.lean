/- The reference of rational numbers: its parts. -/
import Derived.Test.YtjoipfiomeocoabGreatDoorRet0
import Derived.Test.YtjoipfiomeocoabGreatDoorRat03
set_option linter.unusedVariables false
set_option linter.unusedSimpArgs false
namespace Go.Proofs.YtjoipfiomeocoabGreatDoor
open Go.RowKit
open Z

theorem sm_den {k : Nat} {r : Rat} (h : Sh k r) (hk : k ≤ 1000000) : Sm k (r.den : Int) := ⟨h.d, hk⟩
theorem sm_num {k : Nat} {r : Rat} (h : Sh k r) (hk : k ≤ 1000000) : Sm k r.num := ⟨h.1, hk⟩
theorem top_at {l : List UInt8} {k : Nat} (hk : k < l.length) (h : ∀ j (hj : j < l.length), j < k → l[j] ≠ 47) (he : l[k] = 47) : (top l).length = k ∧ parted l = true := by
  have hp : parted l = true := by unfold parted; simp only [List.contains_eq_mem, decide_eq_true_eq]; rw [← he]; exact List.getElem_mem hk
  refine ⟨?_, hp⟩
  have e : l = l.take k ++ 47 :: l.drop (k + 1) := by
    rw [← he, ← List.drop_eq_getElem_cons hk, List.take_append_drop]
  have hn : (47 : UInt8) ∉ l.take k := by
    intro hm
    obtain ⟨j, hj, hje⟩ := List.getElem_of_mem hm
    rw [List.length_take] at hj
    rw [List.getElem_take] at hje
    exact h j (by omega) (by omega) hje
  rw [e, (top_of hn).2.1, List.length_take]
  omega
theorem top_all {l : List UInt8} (h : ∀ j (hj : j < l.length), l[j] ≠ 47) : parted l = false := by
  unfold parted
  simp only [List.contains_eq_mem, decide_eq_false_iff_not]
  intro hm
  obtain ⟨j, hj, hje⟩ := List.getElem_of_mem hm
  exact h j hj hje
theorem top_len (l : List UInt8) : (top l).length ≤ l.length ∧ (parted l = true ↔ (top l).length < l.length) := by
  cases hp : parted l with
  | false => have := (unparted_top hp).1; rw [this]; simp
  | true =>
    have h := congrArg List.length (parted_split hp)
    rw [List.length_append, List.length_cons] at h
    exact ⟨by omega, by simp; omega⟩
theorem mem_takeW {p : UInt8 → Bool} : ∀ {l : List UInt8} {c : UInt8}, c ∈ l.takeWhile p → p c = true
  | [], _, h => by simp at h
  | d :: r, c, h => by
    rw [List.takeWhile_cons] at h
    split at h
    · rename_i hd
      rcases List.mem_cons.1 h with rfl | h
      · exact hd
      · exact mem_takeW h
    · simp at h
theorem drop_past (a b : List UInt8) : (a ++ 47 :: b).drop (a.length + 1) = b := by
  have := List.drop_left' (l₁ := a ++ [47]) (l₂ := b) (i := a.length + 1) (by simp)
  rwa [List.append_assoc] at this
theorem str_top (s : ByteArray) : str (top s.data.toList) = s.extract 0 (top s.data.toList).length := by
  apply ba_ext
  rw [data_str]
  have h : (s.extract 0 (top s.data.toList).length).data.toList = s.data.toList.take (top s.data.toList).length := by
    simp [ByteArray.data_extract, Array.toList_extract, List.extract_eq_take_drop]
  rw [h]
  cases hp : parted s.data.toList with
  | false => rw [(unparted_top hp).1, List.take_length]
  | true =>
    conv => rhs; rw [parted_split hp]
    rw [(top_of _).2.1, List.take_left']
    · rfl
    · unfold top
      intro hm
      have := mem_takeW hm
      simp at this
theorem str_bot (s : ByteArray) (hp : parted s.data.toList = true) : str (bot s.data.toList) = s.extract ((top s.data.toList).length + 1) s.size := by
  apply ba_ext
  rw [data_str]
  have h : (s.extract ((top s.data.toList).length + 1) s.size).data.toList = s.data.toList.drop ((top s.data.toList).length + 1) := by
    have e : s.size = s.data.toList.length := by simp
    rw [e]
    simp only [ByteArray.data_extract, Array.toList_extract, List.extract_eq_take_drop]
    rw [List.take_of_length_le]
    simp only [List.length_drop]; omega
  rw [h]
  have := drop_past (top s.data.toList) (bot s.data.toList)
  rw [← parted_split hp] at this
  exact this.symm

set_option maxHeartbeats 1000000 in
set_option maxRecDepth 100000 in
theorem r2_slash (s : ByteArray) (w : World) (hs : s.size ≤ maxLen) :
    Calls Tryz.prog 55 #[.string s] w fun e w' => e = .returned (.int .i64 ((top s.data.toList).length : Nat)) ∧ w = w' := by
  unfold maxLen at hs
  have hsz : s.data.toList.length = s.size := by simp
  go_enter Tryz.func55, Tryz.ntmps55
  go_wp2
  go_loop [3] (fun i => ∃ k : Nat, k ≤ s.size ∧ i = .int .i64 k ∧ Hid (∀ j (hj : j < s.data.toList.length), j < k → s.data.toList[j] ≠ 47)) (fun i => s.size - (intOf i).toNat)
  case atStart => exact ⟨0, Nat.zero_le _, rfl, fun j hj h => absurd h (by omega)⟩
  case round =>
    obtain ⟨k, hk, rfl, HK⟩ := hrel
    by_cases hlt : k < s.size
    · by_cases hc : s[k] = 47
      · have ht := (top_at (l := s.data.toList) (k := k) (by omega) HK.out (by rw [get_data] at hc; exact hc)).1
        have HT : Hid ((((top s.data.toList).length : Nat) : Int) = (k : Int)) := by show _ = _; rw [ht]
        have hcb : ((s[k].toNat : Int) == 47) = true := by rw [hc]; rfl
        clear hc ht
        go_wp2
        go_ret
        exact ⟨ret_int HT.out.symm, rfl⟩
      · have hcb : ((s[k].toNat : Int) == 47) = false := by
          rw [beq_eq_false_iff_ne]; intro e
          exact hc (UInt8.toNat_inj.1 (by show s[k].toNat = 47; omega))
        have HC := Lib.hid hc
        clear hc
        go_wp2
        go_round
        case rel =>
          refine ⟨k + 1, by omega, by go_num, fun j hj h => ?_⟩
          by_cases hjk : j = k
          · subst hjk; have := HC.out; rw [get_data] at this; exact this
          · exact HK.out j hj (by omega)
        case measure => simp [intOf]; omega
    · have ht := (unparted_top (top_all (l := s.data.toList) (fun j hj => HK.out j hj (by omega)))).1
      have HT : Hid ((((top s.data.toList).length : Nat) : Int) = (s.size : Int)) := by show _ = _; rw [ht, hsz]
      clear ht
      go_wp2
      go_ret
      exact ⟨ret_int HT.out.symm, rfl⟩
set_option maxHeartbeats 1000000 in
set_option maxRecDepth 100000 in
theorem r2_Top (s : ByteArray) (w : World) (hs : s.size ≤ maxLen) :
    Calls Tryz.prog 52 #[.string s] w fun e w' => e = .returned (.string (str (top s.data.toList))) ∧ w = w' := by
  have H := Lib.hid (r2_slash s w hs)
  have hle := (top_len s.data.toList).1
  rw [show s.data.toList.length = s.size by simp] at hle
  have HS := Lib.hid (str_top s)
  unfold maxLen at hs
  generalize (top s.data.toList).length = n at H hle HS
  go_enter Tryz.func52, Tryz.ntmps52
  go_wp2_with (go_at_call 55; refine (H.out).mono ?_; rintro e w' ⟨rfl, rfl⟩)
  go_ret
  exact ⟨ret_str (by rw [HS.out]), rfl⟩
set_option maxHeartbeats 1000000 in
set_option maxRecDepth 100000 in
theorem r2_Bottom (s : ByteArray) (w : World) (hs : s.size ≤ maxLen) :
    Calls Tryz.prog 53 #[.string s] w fun e w' => e = .returned (.string (str (bot s.data.toList))) ∧ w = w' := by
  have H := Lib.hid (r2_slash s w hs)
  have hl := top_len s.data.toList
  rw [show s.data.toList.length = s.size by simp] at hl
  cases hp : parted s.data.toList with
  | false =>
    have hlen : ((top s.data.toList).length : Int) = (s.size : Int) := by rw [(unparted_top hp).1]; simp
    rw [hlen] at H
    have HF : Hid (str (bot s.data.toList) = ⟨#[49]⟩) := by show _ = _; rw [(unparted_top hp).2]; rfl
    unfold maxLen at hs
    clear hl hp hlen
    go_enter Tryz.func53, Tryz.ntmps53
    go_wp2_with (go_at_call 55; refine (H.out).mono ?_; rintro e w' ⟨rfl, rfl⟩)
    go_ret
    exact ⟨ret_str HF.out.symm, rfl⟩
  | true =>
    have hlt := hl.2.1 hp
    have HS := Lib.hid (str_bot s hp)
    unfold maxLen at hs
    clear hl hp
    generalize (top s.data.toList).length = n at H hlt HS
    have hne : ((n : Int) == (s.size : Int)) = false := by rw [beq_eq_false_iff_ne]; omega
    go_enter Tryz.func53, Tryz.ntmps53
    go_wp2_with (go_at_call 55; refine (H.out).mono ?_; rintro e w' ⟨rfl, rfl⟩)
    go_ret
    exact ⟨ret_str (by rw [HS.out]), rfl⟩
section
variable {w0 : World}
theorem ret_Top {s : ByteArray} (hs : s.size ≤ maxLen) : Ret w0 52 #[.string s] (.string (str (top s.data.toList))) := .same fun w => r2_Top s w hs
theorem ret_Bottom {s : ByteArray} (hs : s.size ≤ maxLen) : Ret w0 53 #[.string s] (.string (str (bot s.data.toList))) := .same fun w => r2_Bottom s w hs
theorem str_itoa (a : Int) : str (Lib.itoa a) = Tx a := rfl
theorem rt_maxLen {k : Nat} {r : Rat} (h : Sh k r) (hk : k ≤ 100000) : (RT r).size ≤ maxLen := by have := RT_size h; unfold maxLen; omega
theorem ret_TopR {k : Nat} {r : Rat} (h : Sh k r) (hk : k ≤ 100000) : Ret w0 52 #[.string (RT r)] (.string (Tx r.num)) := by
  have := ret_Top (w0 := w0) (rt_maxLen h hk)
  rwa [(top_RT r).1, str_itoa] at this
theorem ret_BottomR {k : Nat} {r : Rat} (h : Sh k r) (hk : k ≤ 100000) : Ret w0 53 #[.string (RT r)] (.string (Tx (r.den : Int))) := by
  have := ret_Bottom (w0 := w0) (rt_maxLen h hk)
  rwa [(top_RT r).2.1, str_itoa] at this
theorem ret_Sum {k k' : Nat} {a b : Int} (ha : Sm k a) (hb : Sm k' b) (hk : max k k' + 1 ≤ 1000000) : Ret w0 96 #[.string (Tx a), .string (Tx b)] (.string (Tx (a + b))) := .mk fun w _ => r1_Sum a b w ha hb hk
theorem ret_Product {k k' : Nat} {a b : Int} (ha : Sm k a) (hb : Sm k' b) (hk : k + k' ≤ 900000) : Ret w0 68 #[.string (Tx a), .string (Tx b)] (.string (Tx (a * b))) := .mk fun w _ => r1_Product a b w ha hb hk
theorem ret_Order1 {k k' : Nat} {a b : Int} (ha : Sm k a) (hb : Sm k' b) : Ret w0 67 #[.string (Tx a), .string (Tx b)] (.int .i64 (cmpZ a b)) := .mk fun w _ => r1_Order a b w ha hb
theorem ret_Common {k : Nat} {a b : Int} (ha : Sm k a) (hb : Sm k b) (hk : k + k + 2 ≤ 900000) : Ret w0 58 #[.string (Tx a), .string (Tx b)] (.string (Tx ((Nat.gcd a.natAbs b.natAbs : Nat) : Int))) := .mk fun w _ => r1_Common a b w ha hb hk
theorem ret_FloorI {k k' : Nat} {a b : Int} (ha : Sm k a) (hb : Sm k' b) (hk : k + 1 ≤ 900000 ∧ k' + 1 ≤ 900000) (hb0 : b ≠ 0) : Ret w0 84 #[.string (Tx a), .string (Tx b)] (.string (Tx (a.fdiv b))) := .mk fun w _ => r1_Floor a b w ha hb hk hb0
theorem ret_SignI {k : Nat} {a : Int} (ha : Sm k a) : Ret w0 56 #[.string (Tx a)] (.int .i64 a.sign) := .same fun w => r1_Sign a w ha
theorem ret_NegatedI {k : Nat} {a : Int} (ha : Sm k a) : Ret w0 83 #[.string (Tx a)] (.string (Tx (-a))) := .same fun w => r1_Negated a w ha
theorem ret_DigitsI {k : Nat} {a : Int} (ha : Sm k a) : Ret w0 57 #[.string (Tx a)] (.int .i64 (Lib.nDigits a.natAbs : Nat)) := .same fun w => r1_Digits a w ha
theorem ret_CheckI {s : ByteArray} (hs : s.size ≤ maxLen) : Ret w0 34 #[.string s] (.int .i64 (chk s.data.toList)) := .same fun w => r1_Check s w hs
theorem ret_WholeI {n : Int} (h1 : -9223372036854775808 ≤ n) (h2 : n ≤ 9223372036854775807) : Ret w0 49 #[.int .i64 n] (.string (Tx n)) := .mk fun w _ => r1_Whole n w h1 h2
end
theorem Tx_is1 (a : Int) : ((Tx a).toList == [49]) = decide (a = 1) := by
  by_cases h : a = 1
  · subst h; rw [toList_Tx, itoa_one]; rfl
  · rw [decide_eq_false h, beq_eq_false_iff_ne]
    intro e
    rw [toList_Tx, ← itoa_one] at e
    exact h (by have := congrArg ival e; rwa [ival_itoa, ival_itoa] at this)
theorem RT_one {r : Rat} (h : r.den = 1) : RT r = Tx r.num := by unfold RT; rw [if_pos h]
theorem RT_many {r : Rat} (h : r.den ≠ 1) : RT r = Tx r.num ++ ⟨#[47]⟩ ++ Tx (r.den : Int) := by unfold RT; rw [if_neg h]
end Go.Proofs.YtjoipfiomeocoabGreatDoor
