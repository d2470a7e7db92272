/- Records: the laws RecordInts, RecordTexts, RecordSums. -/
import Derived.Test.YtebniicnaofdoaaRcG
import Derived.Test.YtebniicnaofdoaaRcH
import Derived.Test.YtebniicnaofdoaaShelf
set_option linter.unusedVariables false
set_option linter.unusedSimpArgs false
namespace Go.Proofs.Ytebniicnaofdoaa
open Go.RowKit
open Z Rc

set_option maxHeartbeats 4000000 in
set_option maxRecDepth 100000 in
theorem l8_RecordInts (n : Int) (s : ByteArray) (a : Int) (w : World) (hn : -9223372036854775808 ≤ n ∧ n ≤ 9223372036854775807) (hs : s.size ≤ maxLen) (_ : -9223372036854775808 ≤ a ∧ a ≤ 9223372036854775807) :
    Calls Try.prog 3 #[.int .i64 n, .string s, .int .i64 a] w fun e w' => e = .returned (.bool true) ∧ Gr w w' := by
  have HA := Lib.hid l8_awake
  have h1 : -9223372036854775808 ≤ n := by omega
  have h2 : n < 9223372036854775808 := by omega
  clear hn
  by_cases h : 400 < s.size
  · unfold maxLen at hs
    go_enter Try.func3, Try.ntmps3
    go_wp2_with fail
    refine (HA.out _).mono ?_; rintro e w1 ⟨rfl, hg1⟩
    have HG1 := Lib.hid hg1; clear hg1
    go_wp2
    go_ret
    exact ⟨rfl, HG1.out⟩
  · have C1 := Lib.hid (fun w => rc_GetInt s a w hs)
    have C2 := Lib.hid (fun w => r8_GetInt s a w hs)
    have C3 := Lib.hid (rc_Int n · h1 h2)
    have C4 := Lib.hid (r8_Int n · h1 h2)
    unfold gV at C1 C2
    unfold maxLen at hs
    clear h1 h2
    generalize str (int8 n) = b at *
    generalize getI s.data.toList a = R at *
    obtain ⟨x, y, z⟩ := R
    simp only [] at C1 C2
    go_enter Try.func3, Try.ntmps3
    go_wp2_with fail
    refine (C1.out _).mono ?_; rintro e w1 ⟨rfl, rfl⟩
    go_wp2_with fail
    refine (C2.out _).mono ?_; rintro e w1 ⟨rfl, rfl⟩
    go_wp2_with fail
    refine (HA.out _).mono ?_; rintro e w1 ⟨rfl, hg1⟩
    have HG1 := Lib.hid hg1; clear hg1
    go_wp2_with fail
    refine (C3.out _).mono ?_; rintro e w2 ⟨rfl, hg2⟩
    have HG2 := Lib.hid (Gr.trans HG1.out hg2); clear hg2
    go_wp2_with fail
    refine (C4.out _).mono ?_; rintro e w3 ⟨rfl, hg3⟩
    have HG3 := Lib.hid (Gr.trans HG2.out hg3); clear hg3
    go_wp2
    go_ret
    exact ⟨by simp, HG3.out⟩
set_option maxHeartbeats 4000000 in
set_option maxRecDepth 100000 in
theorem l8_RecordTexts (t s : ByteArray) (a : Int) (w : World) (ht : t.size ≤ maxLen) (hs : s.size ≤ maxLen) (_ : -9223372036854775808 ≤ a ∧ a ≤ 9223372036854775807) :
    Calls Try.prog 4 #[.string t, .string s, .int .i64 a] w fun e w' => e = .returned (.bool true) ∧ Gr w w' := by
  have HA := Lib.hid l8_awake
  by_cases h : 400 < s.size
  · unfold maxLen at hs ht
    go_enter Try.func4, Try.ntmps4
    go_wp2_with fail
    refine (HA.out _).mono ?_; rintro e w1 ⟨rfl, hg1⟩
    have HG1 := Lib.hid hg1; clear hg1
    go_wp2
    go_ret
    exact ⟨rfl, HG1.out⟩
  · by_cases h2 : 70000 < t.size
    · unfold maxLen at hs ht
      go_enter Try.func4, Try.ntmps4
      go_wp2_with fail
      refine (HA.out _).mono ?_; rintro e w1 ⟨rfl, hg1⟩
      have HG1 := Lib.hid hg1; clear hg1
      go_wp2
      go_ret
      exact ⟨rfl, HG1.out⟩
    · have C1 := Lib.hid (fun w => rc_GetText s a w hs)
      have C2 := Lib.hid (fun w => r8_GetText s a w hs)
      have C3 := Lib.hid (rc_Text t · ht)
      have C4 := Lib.hid (r8_Text t · ht)
      unfold tV at C1 C2
      unfold xV at C3 C4
      unfold maxLen at hs ht
      generalize txE t.data.toList = T at *
      generalize getT s.data.toList a = R at *
      obtain ⟨x, y, z⟩ := R
      obtain ⟨u, v⟩ := T
      simp only [] at C1 C2 C3 C4
      generalize str x = x' at *
      generalize str u = u' at *
      go_enter Try.func4, Try.ntmps4
      go_wp2_with fail
      refine (C1.out _).mono ?_; rintro e w1 ⟨rfl, rfl⟩
      go_wp2_with fail
      refine (C2.out _).mono ?_; rintro e w1 ⟨rfl, rfl⟩
      go_wp2_with fail
      refine (C3.out _).mono ?_; rintro e w1 ⟨rfl, hg1⟩
      have HG1 := Lib.hid hg1; clear hg1
      go_wp2_with fail
      refine (C4.out _).mono ?_; rintro e w2 ⟨rfl, hg2⟩
      have HG2 := Lib.hid (Gr.trans HG1.out hg2); clear hg2
      go_wp2_with fail
      refine (HA.out _).mono ?_; rintro e w3 ⟨rfl, hg3⟩
      have HG3 := Lib.hid (Gr.trans HG2.out hg3); clear hg3
      go_wp2
      go_ret
      exact ⟨by simp, HG3.out⟩

theorem sm_join (s t : List UInt8) : sm (s ++ t) = 256 * (((sP s).2 + (sP t).2 + t.length * (sP s).1) % 255) + ((sP s).1 + (sP t).1) % 255 := by
  unfold sm; rw [(sP_append s t).1, (sP_append s t).2]
set_option maxHeartbeats 4000000 in
set_option maxRecDepth 100000 in
theorem lc_Clone (s : ByteArray) (w : World) (hs : s.size ≤ 2000) : Calls Try.prog 33 #[.string s] w fun e w' => e = .returned (.string s) ∧ Gr w w' := by
  have C := Lib.hid (fun w => Try.stringslite_Clone s w (by omega))
  go_enter Try.func33, Try.ntmps33
  go_wp2_with fail
  refine (C.out _).mono ?_; rintro e w1 ⟨rfl, hg1⟩
  have HG1 : Hid (Gr w w1) := hg1
  clear hg1
  go_wp2
  go_ret
  exact ⟨rfl, HG1.out⟩
set_option maxHeartbeats 4000000 in
set_option maxRecDepth 100000 in
theorem l8_RecordSums (s t : ByteArray) (w : World) (hs : s.size ≤ maxLen) (ht : t.size ≤ maxLen) :
    Calls Try.prog 10 #[.string s, .string t] w fun e w' => e = .returned (.bool true) ∧ Gr w w' := by
  have HA := Lib.hid l8_awake
  by_cases h : 2000 < s.size
  · unfold maxLen at hs ht
    go_enter Try.func10, Try.ntmps10
    go_wp2_with fail
    refine (HA.out _).mono ?_; rintro e w1 ⟨rfl, hg1⟩
    have HG1 := Lib.hid hg1; clear hg1
    go_wp2
    go_ret
    exact ⟨rfl, HG1.out⟩
  · by_cases h2 : 2000 < t.size
    · unfold maxLen at hs ht
      go_enter Try.func10, Try.ntmps10
      go_wp2_with fail
      refine (HA.out _).mono ?_; rintro e w1 ⟨rfl, hg1⟩
      have HG1 := Lib.hid hg1; clear hg1
      go_wp2
      go_ret
      exact ⟨rfl, HG1.out⟩
    · have C1 := Lib.hid (fun w => rc_Sum s w hs)
      have C2 := Lib.hid (fun w => rc_Sum t w ht)
      have C3 := Lib.hid (fun w => lc_Clone s w (by omega))
      have C4 := Lib.hid (fun w => rc_Sum (s ++ t) w (by rw [ByteArray.size_append]; unfold maxLen; omega))
      have hj := sm_join s.data.toList t.data.toList
      have htz : t.data.toList.length = t.size := by simp
      rw [ByteArray.data_append, Array.toList_append, hj, htz] at C4
      obtain ⟨pa, pb⟩ := sP_lt s.data.toList
      obtain ⟨qa, qb⟩ := sP_lt t.data.toList
      unfold sm at C1 C2
      clear hj htz
      generalize (sP s.data.toList).1 = a1 at *
      generalize (sP s.data.toList).2 = b1 at *
      generalize (sP t.data.toList).1 = a2 at *
      generalize (sP t.data.toList).2 = b2 at *
      have hts : t.size ≤ 2000 := by omega
      have hss : s.size ≤ 2000 := by omega
      obtain ⟨q, hq⟩ : ∃ q, t.size * a1 = q := ⟨_, rfl⟩
      have hqb : q ≤ 2000 * 255 := by rw [← hq]; exact Nat.mul_le_mul hts (by omega)
      have hqI : (t.size : Int) * (a1 : Int) = (q : Int) := by rw [← hq]; simp
      rw [hq] at C4
      obtain ⟨A, hA⟩ : ∃ A, 256 * b1 + a1 = A := ⟨_, rfl⟩
      obtain ⟨B, hB⟩ : ∃ B, 256 * b2 + a2 = B := ⟨_, rfl⟩
      rw [hA] at C1
      rw [hB] at C2
      have m1 : (A : Int).tmod 256 = (a1 : Int) := by have : (A : Int).tmod 256 = ((A % 256 : Nat) : Int) := rfl; omega
      have m2 : (B : Int).tmod 256 = (a2 : Int) := by have : (B : Int).tmod 256 = ((B % 256 : Nat) : Int) := rfl; omega
      have d1 : (A : Int).tdiv 256 = (b1 : Int) := by have : (A : Int).tdiv 256 = ((A / 256 : Nat) : Int) := rfl; omega
      have d2 : (B : Int).tdiv 256 = (b2 : Int) := by have : (B : Int).tdiv 256 = ((B / 256 : Nat) : Int) := rfl; omega
      have m3 : ((a1 : Int) + (a2 : Int)).tmod 255 = (((a1 + a2) % 255 : Nat) : Int) := rfl
      have m4 : ((b1 : Int) + (b2 : Int) + (q : Int)).tmod 255 = (((b1 + b2 + q) % 255 : Nat) : Int) := rfl
      have l1 : (a1 + a2) % 255 < 255 := Nat.mod_lt _ (by decide)
      have l2 : (b1 + b2 + q) % 255 < 255 := Nat.mod_lt _ (by decide)
      generalize (a1 + a2) % 255 = lo at *
      generalize (b1 + b2 + q) % 255 = hi at *
      have Ab : A < 65536 := by omega
      have Bb : B < 65536 := by omega
      unfold maxLen at hs ht
      clear hA hB hq h h2
      go_enter Try.func10, Try.ntmps10
      go_wp2_with fail
      refine (C1.out _).mono ?_; rintro e w1 ⟨rfl, rfl⟩
      go_wp2_with fail
      refine (C2.out _).mono ?_; rintro e w1 ⟨rfl, rfl⟩
      go_wp2_with fail
      refine (C3.out _).mono ?_; rintro e w1 ⟨rfl, hg1⟩
      have HG1 := Lib.hid hg1; clear hg1
      go_wp2_with fail
      refine (C4.out _).mono ?_; rintro e w2 ⟨rfl, rfl⟩
      go_wp2_with fail
      refine (HA.out _).mono ?_; rintro e w3 ⟨rfl, hg3⟩
      have HG3 := Lib.hid (Gr.trans HG1.out hg3); clear hg3
      go_wp2
      go_ret
      exact ⟨by simp, HG3.out⟩
end Go.Proofs.Ytebniicnaofdoaa
