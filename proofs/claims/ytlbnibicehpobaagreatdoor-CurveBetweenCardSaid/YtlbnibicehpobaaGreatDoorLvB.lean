/- LvB: Lv06, Lv07, Lv08, Lv09, joined. -/
import Derived.Test.YtlbnibicehpobaaGreatDoorLvA
import Derived.Test.YtlbnibicehpobaaGreatDoorShelf
import Derived.Lib.IndexLaws
import Derived.Test.YtlbnibicehpobaaGreatDoorIntG
set_option linter.unusedVariables false
set_option linter.unusedSimpArgs false

/- Levels: the program's percentages. -/
namespace Go.Proofs.YtlbnibicehpobaaGreatDoor
open Go.RowKit Go.Shelf
open Z

set_option maxHeartbeats 1000000 in
theorem lv_Check (v : Int) (w : World) (hv : isJ v) : Calls Tryz.prog 38 #[.int .i64 v] w fun e w' => e = .returned (.int .i64 (if lvl v = true then 0 else 2)) ∧ w = w' := by
  obtain ⟨hv0, hv1⟩ := hv
  rcases lvl_cases v with ⟨h, h0, h1⟩ | ⟨h, h0⟩ | ⟨h, h0⟩
  all_goals
    rw [h]; clear h
    go_enter Tryz.func38, Tryz.ntmps38
    go_wp2
    go_ret
    exact ⟨rfl, rfl⟩
theorem fold_facts (s : ByteArray) (n : Nat) (hall : s.data.toList.all isD = true) (hl : s.size ≤ 3) (hn : n ≤ 999) :
    ∃ f : Nat → Nat, f 0 = n ∧ f s.size = n * 10 ^ s.size + dec s.data.toList ∧ (∀ k, k ≤ s.size → f k ≤ 999999) ∧ (∀ k (h : k < s.size), f (k + 1) = 10 * f k + (s[k].toNat - 48) ∧ 48 ≤ s[k].toNat ∧ s[k].toNat ≤ 57) := by
  have hsz : s.data.toList.length = s.size := by simp
  refine ⟨fun k => n * 10 ^ k + dec (s.data.toList.take k), by simp [dec], ?_, fun k hk => ?_, fun k hk => ?_⟩
  · show n * 10 ^ s.size + dec (s.data.toList.take s.size) = _
    rw [List.take_of_length_le (by omega)]
  · show n * 10 ^ k + dec (s.data.toList.take k) ≤ 999999
    have h1 := dec_lt (s.data.toList.take k) (List.all_eq_true.2 fun c hc => List.all_eq_true.1 hall c (List.mem_of_mem_take hc))
    rw [List.length_take, Nat.min_eq_left (by omega)] at h1
    have : k = 0 ∨ k = 1 ∨ k = 2 ∨ k = 3 := by omega
    rcases this with rfl | rfl | rfl | rfl <;> simp at h1 ⊢ <;> omega
  · have h1 := isD_iff.1 (List.all_eq_true.1 hall _ (List.getElem_mem (show k < s.data.toList.length by omega)))
    refine ⟨?_, by rw [get_data]; exact h1.1, by rw [get_data]; exact h1.2⟩
    show n * 10 ^ (k + 1) + dec (s.data.toList.take (k + 1)) = 10 * (n * 10 ^ k + dec (s.data.toList.take k)) + _
    rw [dec_take_succ _ _ (by omega), Nat.pow_succ, get_data, show dv s.data.toList[k] = s.data.toList[k].toNat - 48 from rfl, Nat.mul_add, show n * (10 ^ k * 10) = 10 * (n * 10 ^ k) by rw [← Nat.mul_assoc, Nat.mul_comm]]
    omega
end Go.Proofs.YtlbnibicehpobaaGreatDoor

/- Levels: the program's Percent. -/
namespace Go.Proofs.YtlbnibicehpobaaGreatDoor
open Go.RowKit Go.Shelf
open Z

theorem indexByte_dot (l : List UInt8) : (dotted l = true ∧ Lib.indexByte l 46 = ((before l).length : Int) ∧ (before l).length < l.length ∧ before l = l.take (before l).length ∧ behind l = l.drop ((before l).length + 1)) ∨ (dotted l = false ∧ Lib.indexByte l 46 = -1 ∧ before l = l) := by
  have hge := Lib.indexByte_ge l 46
  by_cases h : Lib.indexByte l 46 = -1
  · right
    have hn := Lib.indexByte_none h
    have h1 := dot_none (l := l) fun j hj e => hn j (by rw [List.getElem?_eq_getElem hj, e])
    exact ⟨h1.1, h, h1.2.1⟩
  · left
    obtain ⟨o, ho⟩ : ∃ o : Nat, Lib.indexByte l 46 = (o : Int) := ⟨(Lib.indexByte l 46).toNat, by omega⟩
    obtain ⟨h1, h2⟩ := Lib.indexByte_some ho
    have hlt : o < l.length := by
      by_cases hlt : o < l.length
      · exact hlt
      · rw [List.getElem?_eq_none (by omega)] at h1; cases h1
    rw [List.getElem?_eq_getElem hlt] at h1
    have h3 := dot_at hlt (fun j hj hjo e => h2 j hjo (by rw [List.getElem?_eq_getElem hj, e])) (by simpa using h1)
    have h4 : (before l).length = o := by rw [h3.2.1, List.length_take]; omega
    exact ⟨h3.1, by rw [h4]; exact ho, by omega, by rw [h4]; exact h3.2.1, by rw [h4]; exact h3.2.2⟩
/-- what strings.Cut hands back behind the first point -/
def cutR (l : List UInt8) : List UInt8 := if dotted l = true then behind l else []
set_option maxHeartbeats 1000000 in
theorem sl_cutDot (s : ByteArray) (w : World) (hs : s.size ≤ maxLen) :
    Calls Tryz.prog 133 #[.string s, .string ⟨#[46]⟩] w (fun e w' => e = .returned (.tuple #[.string (str (before s.data.toList)), .string (str (cutR s.data.toList)), .bool (dotted s.data.toList)]) ∧ Gr w w') := by
  have HI := Lib.hid (fun w => Tryz.stringslite_Index_one s 46 w)
  have hsz : s.data.toList.length = s.size := by simp
  unfold maxLen at hs
  rcases indexByte_dot s.data.toList with ⟨h1, h2, h3, h4, h5⟩ | ⟨h1, h2, h3⟩
  · rw [h2] at HI
    unfold cutR
    rw [h1, if_pos rfl, h4, h5, ← ext_take, ← ext_drop]
    rw [hsz] at h3
    generalize (before s.data.toList).length = n at *
    clear h1 h2 h4 h5 hsz
    have h1 : (⟨#[46]⟩ : ByteArray).size = 1 := rfl
    go_enter Tryz.func133, Tryz.ntmps133
    go_wp2_with fail
    refine (HI.out _).mono ?_; rintro e w' ⟨rfl, rfl⟩
    go_wp2
    go_quiet (fail)
    go_wp2
    go_ret3
    exact ⟨rfl, below_drewN (Gr.refl _) _⟩
  · rw [h2] at HI
    unfold cutR
    rw [h1, if_neg (by decide), h3, str_data]
    clear h1 h2 h3 hsz
    go_enter Tryz.func133, Tryz.ntmps133
    go_wp2_with fail
    refine (HI.out _).mono ?_; rintro e w' ⟨rfl, rfl⟩
    go_wp2
    go_ret3
    exact ⟨rfl, Gr.refl _⟩
set_option maxHeartbeats 1000000 in
theorem s_cutDot (s : ByteArray) (w : World) (hs : s.size ≤ maxLen) :
    Calls Tryz.prog 114 #[.string s, .string ⟨#[46]⟩] w (fun e w' => e = .returned (.tuple #[.string (str (before s.data.toList)), .string (str (cutR s.data.toList)), .bool (dotted s.data.toList)]) ∧ Gr w w') := by
  have H := Lib.hid (fun w => sl_cutDot s w hs)
  clear hs
  generalize str (before s.data.toList) = a at *
  generalize str (cutR s.data.toList) = b at *
  generalize dotted s.data.toList = c at *
  go_enter Tryz.func114, Tryz.ntmps114
  go_wp2_with fail
  refine (H.out _).mono ?_; rintro e w' ⟨rfl, hg⟩
  have HG := Lib.hid hg; clear hg
  go_wp2
  go_ret3
  exact ⟨rfl, HG.out⟩
theorem before_len (l : List UInt8) : (before l).length ≤ l.length := by unfold before; exact (List.takeWhile_sublist _).length_le
theorem cutR_len (l : List UInt8) : (cutR l).length ≤ l.length := by
  unfold cutR behind
  split
  · have := (List.dropWhile_sublist (l := l) (· != 46)).length_le
    rw [List.length_tail]; omega
  · simp
end Go.Proofs.YtlbnibicehpobaaGreatDoor

/- Levels: the program's least and Text. -/
namespace Go.Proofs.YtlbnibicehpobaaGreatDoor
open Go.RowKit Go.Shelf
open Z

theorem s_Itoa (n : Int) (w : World) (h0 : -9223372036854775808 ≤ n) (h1 : n ≤ 9223372036854775807) (htab : Tab w) :
    Calls Tryz.prog 124 #[.int .i64 n] w (fun e w' => e = .returned (.string (Tx n)) ∧ Gr w w') := by
  refine (Tryz.strconv_Itoa n h0 h1 w htab).mono ?_
  rintro e w' ⟨rfl, k, os, rfl⟩
  exact ⟨rfl, Lib.below_grow _ _ (Nat.le_refl _) _ _⟩
theorem Tx_nat_data (n : Nat) : (Tx (n : Int)).data.toList = Lib.decDigits n := by rw [data_Tx]; unfold Lib.itoa; rw [if_neg (by omega)]; simp
theorem pText_eq (m d : Nat) (hd : 1 ≤ d) : Tx ((m / unitN d : Nat) : Int) ++ ⟨#[46]⟩ ++ (Tx ((unitN d + m % unitN d : Nat) : Int)).extract 1 (Tx ((unitN d + m % unitN d : Nat) : Int)).size = str (pText m d) := by
  rw [ext_drop, ← str_data (Tx ((m / unitN d : Nat) : Int)), Tx_nat_data, Tx_nat_data]
  unfold pText
  rw [if_neg (by omega), List.drop_one]
  apply ba_ext
  simp [str]
theorem pText_zero (m : Nat) : Tx (m : Int) = str (pText m 0) := by
  rw [← str_data (Tx (m : Int)), Tx_nat_data]
  unfold pText; rw [unit0]; simp
theorem Tx_small {n : Nat} (h : n ≤ 100000) : (Tx (n : Int)).size ≤ 100 ∧ 1 ≤ (Tx (n : Int)).size := by
  have h1 : (Tx (n : Int)).size = (Lib.decDigits n).length := by rw [← Tx_nat_data]; simp
  have h2 := Lib.decDigits_length n
  have h3 := Lib.nDigits_pos n
  have h4 : Lib.nDigits n ≤ 100 := (nDigits_le_iff n 100 (by omega)).2 (by omega)
  omega
theorem unit_step (k : Nat) (hk : k ≤ 2) : ((unitN k : Nat) : Int) * 10 = ((unitN (k + 1) : Nat) : Int) ∧ unitN k ≤ 100 := by
  have : k = 0 ∨ k = 1 ∨ k = 2 := by omega
  rcases this with rfl | rfl | rfl <;> decide
end Go.Proofs.YtlbnibicehpobaaGreatDoor

/- Levels: texts, both sides. -/
namespace Go.Proofs.YtlbnibicehpobaaGreatDoor
open Go.RowKit Go.Shelf
open Z

theorem decN_eq {n d : Nat} (hd : d ≤ 3) (h : hasD n d = true) (hn : ∀ d', d' < d → hasD n d' = false) : decN n = d := by
  have h4 : d = 0 ∨ d = 1 ∨ d = 2 ∨ d = 3 := by omega
  unfold decN
  rcases h4 with rfl | rfl | rfl | rfl
  · rw [if_pos h]
  · rw [if_neg (by rw [hn 0 (by omega)]; decide), if_pos h]
  · rw [if_neg (by rw [hn 0 (by omega)]; decide), if_neg (by rw [hn 1 (by omega)]; decide), if_pos h]
  · rw [if_neg (by rw [hn 0 (by omega)]; decide), if_neg (by rw [hn 1 (by omega)]; decide), if_neg (by rw [hn 2 (by omega)]; decide)]
/-- the text of a level, and the number of the error -/
def textI (v : Int) : ByteArray × Int := if lvl v = true then (str (textR v.toNat), 0) else (⟨#[]⟩, 2)
theorem str_full : str fullL = ⟨#[102, 117, 108, 108]⟩ := rfl
theorem ext_part (s : ByteArray) (d : Nat) : s.extract 1 (1 + d) = str ((s.data.toList.drop 1).take d) := by
  apply ba_ext
  rw [data_str]
  simp only [ByteArray.data_extract, Array.toList_extract, List.extract_eq_take_drop]
  rw [show 1 + d - 1 = d by omega]
theorem named_eq (k d U : Nat) (hd : 1 ≤ d ∧ d ≤ 3) (hU : unitN (3 - d) = U) : Tx ((k * U / 1000 : Nat) : Int) ++ (⟨#[46]⟩ ++ (Tx ((1000 + k * U % 1000 : Nat) : Int)).extract 1 (1 + d)) = str (pText k d) := by
  rw [ext_part, ← str_data (Tx ((k * U / 1000 : Nat) : Int)), Tx_nat_data, Tx_nat_data, ← hU, ref_whole hd.2, ref_tail hd]
  unfold pText
  rw [if_neg (by omega)]
  apply ba_ext
  simp [str]
theorem named_zero (k : Nat) : Tx ((k * 1000 / 1000 : Nat) : Int) = str (pText k 0) := by
  rw [← pText_zero, show k * 1000 / 1000 = k by omega]
end Go.Proofs.YtlbnibicehpobaaGreatDoor
