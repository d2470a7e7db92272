/- integer: Of, Small. -/
import Derived.Test.YtlbnibicehpobaaGreatDoorIntH
import Derived.Lib.ParseIntBCases
import Derived.Lib.SmallJoins
import Derived.Lib.AppendIntMem
set_option linter.unusedVariables false
set_option linter.unusedSimpArgs false
namespace Go.Proofs.YtlbnibicehpobaaGreatDoor
open Go.RowKit Go.Shelf
open Z

def decA (acc : Nat) (l : List UInt8) : Nat := l.foldl (fun n c => 10 * n + dv c) acc
theorem decA_le : ∀ (l : List UInt8) (acc : Nat), acc ≤ decA acc l
  | [], acc => Nat.le_refl _
  | c :: r, acc => by
    have := decA_le r (10 * acc + dv c)
    show acc ≤ decA (10 * acc + dv c) r
    omega
theorem parseM : ∀ (l : List UInt8) (acc : Nat), acc ≤ 18446744073709551615 → l.all isD = true →
    Lib.parseUintM 18446744073709551615 acc l = if decA acc l ≤ 18446744073709551615 then .ok (decA acc l) else .range
  | [], acc, h, _ => by
    simp only [Lib.parseUintM]
    rw [if_pos (show decA acc [] ≤ 18446744073709551615 from h)]; rfl
  | c :: r, acc, h, hd => by
    rw [List.all_cons, Bool.and_eq_true] at hd
    have h1 := isD_iff.1 hd.1
    have hv : dv c = c.toNat - 48 := rfl
    have hle := decA_le r (10 * acc + dv c)
    have he : decA acc (c :: r) = decA (10 * acc + dv c) r := rfl
    rw [he]
    simp only [Lib.parseUintM]
    rw [if_pos h1]
    by_cases h2 : 1844674407370955162 ≤ acc
    · rw [if_pos h2, if_neg (by omega)]
    · rw [if_neg h2]
      by_cases h3 : 18446744073709551615 < acc * 10 + (c.toNat - 48)
      · rw [if_pos h3, if_neg (by omega)]
      · rw [if_neg h3, show acc * 10 + (c.toNat - 48) = 10 * acc + dv c by omega]
        exact parseM r _ (by omega) hd.2
theorem parseB_digits (u : Nat) : Lib.parseUintB 64 (Lib.decDigits u) = if u ≤ 18446744073709551615 then .ok u else .range := by
  unfold Lib.parseUintB
  rw [if_neg (decDigits_ne u)]
  have h := parseM (Lib.decDigits u) 0 (by omega) (dec_decDigits u).2.1
  have h2 : decA 0 (Lib.decDigits u) = u := (dec_decDigits u).1
  rw [h2] at h
  exact h
/-- what ParseInt makes of a canonical text -/
theorem parse_itoa (a : Int) : Lib.parseIntB 64 (Lib.itoa a) = if inI a then .ok a else .range := by
  have hin : inI a = (decide (-9223372036854775808 ≤ a) && decide (a ≤ 9223372036854775807)) := rfl
  unfold Lib.itoa
  by_cases h : a < 0
  · rw [if_pos h, Lib.parseIntB_minus, parseB_digits, hin]
    by_cases h1 : -9223372036854775808 ≤ a
    · rw [if_pos (by omega)]
      simp only [Lib.signedC]
      rw [if_neg (by omega), if_pos (by simp; omega)]
      congr 1; omega
    · by_cases h2 : a.natAbs ≤ 18446744073709551615
      · rw [if_pos h2]
        simp only [Lib.signedC]
        rw [if_pos (by omega), if_neg (by simp; omega)]
      · rw [if_neg h2]
        simp only [Lib.signedC]
        rw [if_neg (by simp; omega)]
  · rw [if_neg h, hin]
    have hall := (dec_decDigits a.toNat).2.1
    have hp := parseB_digits a.toNat
    have hne := decDigits_ne a.toNat
    generalize Lib.decDigits a.toNat = ds at hall hp hne
    match ds, hne with
    | c :: r, _ =>
      rw [List.all_cons, Bool.and_eq_true] at hall
      have h1 := isD_iff.1 hall.1
      rw [Lib.parseIntB_plain 64 c r (by omega) (by omega), hp]
      by_cases h2 : a ≤ 9223372036854775807
      · rw [if_pos (by omega)]
        simp only [Lib.signlessC]
        rw [if_neg (by omega), if_pos (by simp; omega)]
        congr 1; omega
      · by_cases h3 : a.toNat ≤ 18446744073709551615
        · rw [if_pos h3]
          simp only [Lib.signlessC]
          rw [if_pos (by omega), if_neg (by simp; omega)]
        · rw [if_neg h3]
          simp only [Lib.signlessC]
          rw [if_neg (by simp; omega)]

set_option maxHeartbeats 1000000 in
theorem i_Of (n : Int) (w : World) (h0 : -9223372036854775808 ≤ n) (h1 : n ≤ 9223372036854775807) (htab : Tab w) :
    Calls Tryz.prog 102 #[.int .i64 n] w (fun e w' => e = .returned (.string (Tx n)) ∧ Gr w w') := by
  have H : Hid (Calls Tryz.prog 124 #[.int .i64 n] w (fun e w' => e = .returned (.string (Tx n)) ∧ Gr w w')) := by
    refine (Tryz.strconv_Itoa n h0 h1 w htab).mono ?_
    rintro e w' ⟨rfl, k, os, rfl⟩
    exact ⟨rfl, Lib.below_grow _ _ (Nat.le_refl _) _ _⟩
  obtain ⟨t, HT⟩ : ∃ t, Hid (Tx n = t) := ⟨_, rfl⟩
  rw [HT.out] at H ⊢
  clear htab
  go_enter Tryz.func102, Tryz.ntmps102
  go_wp2_with fail
  refine H.out.mono ?_
  rintro e w1 ⟨rfl, hg⟩
  have HG := Lib.hid hg; clear hg
  go_wp2
  go_ret
  exact ⟨rfl, HG.out⟩

/-- strconv.ErrRange holds some error -/
def ErrR (w : World) : Prop := ∃ tp p, w.var? Tryz.prog "strconv.ErrRange" = some #[.iface tp p]
theorem ErrR.gr {w w' : World} (h : ErrR w) (hg : Gr w w') : ErrR w' := by
  obtain ⟨tp, p, h⟩ := h
  refine ⟨tp, p, ?_⟩
  unfold World.var? at *
  cases hn : Tryz.prog.globalNamed "strconv.ErrRange" with
  | none => rw [hn] at h; simp at h
  | some g =>
    rw [hn] at h
    simp only [Option.bind_some] at h ⊢
    cases ho : w.heap[g]? with
    | none => rw [ho] at h; simp at h
    | some o =>
      have : w'.heap[g]? = some o := (hg.block g (Array.getElem?_eq_some_iff.1 ho).1).trans ho
      rw [this]; rw [ho] at h; exact h
theorem parse_in (a : Int) (w : World) (hs : (Tx a).size ≤ 100000) (hin : inI a = true) :
    Calls Tryz.prog 97 #[.string (Tx a), .int .i64 10, .int .i64 64] w (fun e w' => e = .returned (.tuple #[.int .i64 a, .nilIface]) ∧ Gr w w') := by
  refine (Tryz.strconv_ParseInt_10_at64_ok (Tx a) (by omega) a (by rw [data_Tx, parse_itoa, if_pos hin]) w).mono ?_
  rintro e w' ⟨rfl, h⟩
  refine ⟨rfl, ?_⟩
  rcases h with rfl | ⟨t, rfl⟩
  · exact Gr.refl _
  · exact Joins.below_bytesWorld _ _ _ _ (Nat.le_refl _)
theorem parse_out (a : Int) (w : World) (hs : (Tx a).size ≤ 100000) (hin : inI a = false) (he : ErrR w) :
    Calls Tryz.prog 97 #[.string (Tx a), .int .i64 10, .int .i64 64] w (fun e w' => ∃ (z : Int) (tp : TypeId) (p : Value), e = .returned (.tuple #[.int .i64 z, .iface tp p]) ∧ Gr w w') := by
  obtain ⟨tp, p, hv⟩ := he
  refine (Tryz.strconv_ParseInt_10_at64_range_var (Tx a) (by omega) (by rw [data_Tx, parse_itoa, hin]; rfl) tp p w hv).mono ?_
  rintro e w' ⟨N, rfl, _, _, h⟩
  exact ⟨_, _, _, rfl, h⟩

set_option maxHeartbeats 1000000 in
theorem i_Small (s : ByteArray) (w : World) (hs : s.size ≤ maxLen) (he : ErrR w) :
    Calls Tryz.prog 70 #[.string s] w (fun e w' => e = retII (smallR s) ∧ Gr w w') := by
  have HC := Lib.hid (fun w => i_Check s w hs)
  have HE := Lib.hid he
  clear he
  rcases chk_cases s with h | ⟨a, h1, ha, h3⟩
  · have HR : Hid (smallR s = (0, chk s.data.toList)) := by show _ = _; unfold smallR; rw [if_neg (by simpa using h)]
    rw [HR.out]
    obtain ⟨c, HCC⟩ : ∃ c, Hid (chk s.data.toList = c) := ⟨_, rfl⟩
    rw [HCC.out] at HC h ⊢
    have h2 : (c != 0) = true := by rw [bne, h]; rfl
    unfold retII
    go_enter Tryz.func70, Tryz.ntmps70
    go_wp2_with fail
    refine (HC.out _).mono ?_
    rintro e w1 ⟨rfl, rfl⟩
    go_wp2
    go_ret2
    exact ⟨rfl, Gr.refl _⟩
  · have hf : smallR s = if inI a then (a, 0) else (0, 2) := by unfold smallR; rw [if_pos h3, h1, data_Tx, ival_itoa]
    rw [h3] at HC
    have hsz : (Tx a).size ≤ 100000 := by rw [size_Tx, itoa_length]; have := ha.1; split <;> omega
    cases hin : inI a
    · rw [hin] at hf
      have HF : Hid (smallR s = (0, 2)) := hf
      rw [HF.out]
      have HP := Lib.hid (fun w he => parse_out a w hsz hin he)
      rw [← h1] at HP
      clear hf hin h1 h3 ha hsz
      unfold retII
      go_enter Tryz.func70, Tryz.ntmps70
      go_wp2_with fail
      refine (HC.out _).mono ?_; rintro e w1 ⟨rfl, rfl⟩
      go_wp2_with fail
      refine (HP.out _ HE.out).mono ?_; rintro e w1 ⟨z, tp, p, rfl, hg⟩
      have HG := Lib.hid hg; clear hg
      go_wp2
      go_ret2
      exact ⟨rfl, HG.out⟩
    · rw [hin] at hf
      have HF : Hid (smallR s = (a, 0)) := hf
      rw [HF.out]
      have HP := Lib.hid (fun w => parse_in a w hsz hin)
      rw [← h1] at HP
      clear hf hin h1 h3 ha hsz
      unfold retII
      go_enter Tryz.func70, Tryz.ntmps70
      go_wp2_with fail
      refine (HC.out _).mono ?_; rintro e w1 ⟨rfl, rfl⟩
      go_wp2_with fail
      refine (HP.out _).mono ?_; rintro e w1 ⟨rfl, hg⟩
      have HG := Lib.hid hg; clear hg
      go_wp2
      go_ret2
      exact ⟨rfl, HG.out⟩
end Go.Proofs.YtlbnibicehpobaaGreatDoor
