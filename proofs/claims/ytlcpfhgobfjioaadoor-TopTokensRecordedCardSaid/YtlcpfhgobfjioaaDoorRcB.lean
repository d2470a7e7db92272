/- Records: the reference's GetInt; texts, both sides. -/
import Derived.Test.YtlcpfhgobfjioaaDoorRcA
set_option linter.unusedVariables false
set_option linter.unusedSimpArgs false
namespace Go.Proofs.YtlcpfhgobfjioaaDoor
open Go.RowKit
open Z Rc

theorem xor_i64 {n : Nat} (h : n < 9223372036854775808) : bits .xor .i64 (-1) (n : Int) = -(n : Int) - 1 := by
  show IntKind.i64.wrap (((BitVec.ofInt 64 (-1)) ^^^ (BitVec.ofInt 64 (n : Int)) : BitVec 64).toNat : Int) = _
  have e : BitVec.ofInt 64 (-1) = BitVec.allOnes 64 := by decide
  rw [e, BitVec.ofInt_natCast, BitVec.allOnes_xor, BitVec.toNat_not, BitVec.toNat_ofNat, Nat.mod_eq_of_lt (by omega : n < 2 ^ 64)]
  simp [IntKind.wrap, IntKind.bits, IntKind.signed]
  omega
theorem ret_g {a b c a' b' c' : Int} (h1 : a = a') (h2 : b = b') (h3 : c = c') : Ending.returned (.tuple #[.int .i64 a, .int .i64 b, .int .i64 c]) = Ending.returned (.tuple #[.int .i64 a', .int .i64 b', .int .i64 c']) := by rw [h1, h2, h3]
theorem bits_or_nat (x y : Int) : ∃ b : Nat, bits .or .u64 x y = (b : Int) := by
  refine ⟨(bits .or .u64 x y).toNat, ?_⟩
  have h : 0 ≤ bits .or .u64 x y := by
    show 0 ≤ IntKind.u64.wrap _
    simp only [IntKind.wrap, IntKind.bits, IntKind.signed]
    simp only [Bool.false_and, Bool.false_eq_true, if_false]
    exact Int.emod_nonneg _ (by decide)
  omega
/-- a text, an offset and a number -/
def tV (r : List UInt8 × Int × Int) : Value := .tuple #[.string (str r.1), .int .i64 r.2.1, .int .i64 r.2.2]
theorem getI_range (l : List UInt8) (a : Int) (h : (getI l a).2.2 = 0) : ∃ k : Nat, (getI l a).2.1 = k ∧ k ≤ l.length := by
  unfold getI at h ⊢
  by_cases hb : a < 0 ∨ (l.length : Int) < a
  · rw [if_pos hb] at h; cases h
  · rw [if_neg hb] at h ⊢
    obtain ⟨p, rfl⟩ : ∃ k : Nat, a = k := ⟨a.toNat, by omega⟩
    obtain ⟨-, q2⟩ := rd_lt (l.drop p) 0 0 (by omega) (by simp)
    simp only [Int.toNat_natCast] at h ⊢
    split at h
    · rename_i hz
      rw [if_pos hz]
      rw [List.length_drop] at q2
      exact ⟨p + (rd 0 0 (l.drop p)).2.1, by simp, by omega⟩
    · rename_i hz; exact absurd h hz
theorem getI_num (l : List UInt8) (a : Int) : -9223372036854775808 ≤ (getI l a).1 ∧ (getI l a).1 < 9223372036854775808 := by
  unfold getI
  by_cases hb : a < 0 ∨ (l.length : Int) < a
  · rw [if_pos hb]; exact ⟨by simp, by simp⟩
  · rw [if_neg hb]
    have := (rd_lt (l.drop a.toNat) 0 0 (by omega) (by simp)).1
    simp only []
    split
    · simp only []
      unfold unz
      split <;> omega
    · exact ⟨by simp, by simp⟩

set_option maxHeartbeats 4000000 in
set_option maxRecDepth 100000 in
theorem rc_GetText (s : ByteArray) (a : Int) (w : World) (hs : s.size ≤ maxLen) :
    Calls Tryd.prog 25 #[.string s, .int .i64 a] w fun e w' => e = .returned (tV (getT s.data.toList a)) ∧ w = w' := by
  have hsz : s.data.toList.length = s.size := by simp
  have HGI := Lib.hid (fun w => rc_GetInt s a w hs)
  unfold gV at HGI
  obtain ⟨n1, n2⟩ := getI_num s.data.toList a
  have HR := Lib.hid (getI_range s.data.toList a)
  unfold maxLen at hs
  unfold tV getT
  rw [hsz] at *
  generalize getI s.data.toList a = R at *
  obtain ⟨n, nx, E⟩ := R
  simp only [] at *
  by_cases hE : E = 0
  · subst hE
    obtain ⟨k, rfl, hk⟩ := HR.out rfl
    simp only [ne_eq, not_true_eq_false, if_false]
    by_cases h1 : n < 0
    · rw [if_pos (.inl h1)]
      go_enter Tryd.func25, Tryd.ntmps25
      go_wp2_with fail
      refine (HGI.out _).mono ?_; rintro e w' ⟨rfl, rfl⟩
      go_wp2
      go_ret3
      exact ⟨rfl, rfl⟩
    · by_cases h2 : 65535 < n
      · rw [if_pos (.inr h2)]
        go_enter Tryd.func25, Tryd.ntmps25
        go_wp2_with fail
        refine (HGI.out _).mono ?_; rintro e w' ⟨rfl, rfl⟩
        go_wp2
        go_ret3
        exact ⟨rfl, rfl⟩
      · rw [if_neg (by omega)]
        obtain ⟨m, rfl⟩ : ∃ m : Nat, n = m := ⟨n.toNat, by omega⟩
        clear n1 n2
        have hm : m ≤ 65535 := by omega
        clear h1 h2
        by_cases h3 : (s.size : Int) - k < m
        · rw [if_pos h3]
          go_enter Tryd.func25, Tryd.ntmps25
          go_wp2_with fail
          refine (HGI.out _).mono ?_; rintro e w' ⟨rfl, rfl⟩
          go_wp2
          go_ret3
          exact ⟨rfl, rfl⟩
        · rw [if_neg h3]
          have HX : Hid (str ((s.data.toList.drop k).take m) = s.extract k (k + m)) := by
            show _ = _
            apply ba_ext
            rw [data_str, Lib.extract_data]
            congr 1; omega
          simp only [Int.toNat_natCast]
          rw [HX.out]
          go_enter Tryd.func25, Tryd.ntmps25
          go_wp2_with fail
          refine (HGI.out _).mono ?_; rintro e w' ⟨rfl, rfl⟩
          go_wp2
          go_ret3
          exact ⟨rfl, rfl⟩
  · have hEb : (E != 0) = true := by simpa using hE
    rw [if_pos hE]
    go_enter Tryd.func25, Tryd.ntmps25
    go_wp2_with fail
    refine (HGI.out _).mono ?_; rintro e w' ⟨rfl, rfl⟩
    go_wp2
    go_ret3
    exact ⟨rfl, rfl⟩
end Go.Proofs.YtlcpfhgobfjioaaDoor
