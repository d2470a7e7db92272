/- Records: offsets, ints and texts as bytes, both sides. -/
import Derived.Test.YtlcpfhgobfjioaaDoorRcL
import Derived.Test.YtlcpfhgobfjioaaDoorRefB
import Derived.IntWalk
import Derived.WalkMore
import Derived.ScopeJumps
set_option linter.unusedVariables false
set_option linter.unusedSimpArgs false
namespace Go.Proofs.YtlcpfhgobfjioaaDoor
open Go.RowKit
open Z Rc

theorem or_u64 {a b i : Nat} (ha : a < 2 ^ i) (hb : b % 2 ^ i = 0) (h : a + b < 18446744073709551616) : bits .or .u64 (a : Int) (b : Int) = ((a + b : Nat) : Int) := by
  have h1 : a ||| b = a + b := by
    have e := Nat.shiftLeft_add_eq_or_of_lt ha (b / 2 ^ i)
    rw [Nat.shiftLeft_eq, Nat.div_mul_cancel (Nat.dvd_of_mod_eq_zero hb)] at e
    rw [Nat.or_comm, ← e, Nat.add_comm]
  show IntKind.u64.wrap (((BitVec.ofInt 64 (a : Int)) ||| (BitVec.ofInt 64 (b : Int)) : BitVec 64).toNat : Int) = _
  rw [BitVec.ofInt_natCast, BitVec.ofInt_natCast, BitVec.toNat_or, BitVec.toNat_ofNat, BitVec.toNat_ofNat, Nat.mod_eq_of_lt (by omega : a < 2 ^ 64), Nat.mod_eq_of_lt (by omega : b < 2 ^ 64), h1]
  exact IntWalk.u64_in _ (by omega)
theorem or_i64 {a b i : Nat} (ha : a < 2 ^ i) (hb : b % 2 ^ i = 0) (h : a + b < 9223372036854775808) : bits .or .i64 (b : Int) (a : Int) = ((b + a : Nat) : Int) := by
  have h1 : b ||| a = b + a := by
    have e := Nat.shiftLeft_add_eq_or_of_lt ha (b / 2 ^ i)
    rw [Nat.shiftLeft_eq, Nat.div_mul_cancel (Nat.dvd_of_mod_eq_zero hb)] at e
    exact e.symm
  show IntKind.i64.wrap (((BitVec.ofInt 64 (b : Int)) ||| (BitVec.ofInt 64 (a : Int)) : BitVec 64).toNat : Int) = _
  rw [BitVec.ofInt_natCast, BitVec.ofInt_natCast, BitVec.toNat_or, BitVec.toNat_ofNat, BitVec.toNat_ofNat, Nat.mod_eq_of_lt (by omega : a < 2 ^ 64), Nat.mod_eq_of_lt (by omega : b < 2 ^ 64), h1]
  exact IntWalk.i64_in _ (by omega)
theorem or_u8 {n : Nat} (h : n < 256) : bits .or .u8 (n : Int) 128 = ((n % 128 + 128 : Nat) : Int) := by
  have h1 : ∀ n : Fin 256, bits .or .u8 ((n.val : Nat) : Int) 128 = ((n.val % 128 + 128 : Nat) : Int) := by decide +kernel
  exact h1 ⟨n, h⟩

set_option maxHeartbeats 1000000 in
theorem rc_isOffset (s : ByteArray) (a : Int) (w : World) :
    Calls Tryd.prog 49 #[.int .i64 a, .string s] w fun e w' => e = .returned (.bool (decide (0 ≤ a) && decide (a ≤ (s.size : Int)))) ∧ w = w' := by
  by_cases h1 : 0 ≤ a
  · by_cases h2 : a ≤ (s.size : Int)
    · go_enter Tryd.func49, Tryd.ntmps49
      go_wp2
      go_ret
      exact ⟨ret_bool (by first | rfl | (simp [h1, h2]; done) | (simp [h1, h2]; omega)), rfl⟩
    · go_enter Tryd.func49, Tryd.ntmps49
      go_wp2
      go_ret
      exact ⟨ret_bool (by first | rfl | (simp [h1, h2]; done) | (simp [h1, h2]; omega)), rfl⟩
  · go_enter Tryd.func49, Tryd.ntmps49
    go_wp2
    go_ret
    exact ⟨ret_bool (by first | rfl | (simp [h1]; done) | (simp [h1]; omega)), rfl⟩
set_option maxHeartbeats 1000000 in
theorem rc_fold (n : Int) (w : World) (h1 : -9223372036854775808 ≤ n) (h2 : n < 9223372036854775808) :
    Calls Tryd.prog 70 #[.int .i64 n] w fun e w' => e = .returned (.int .u64 (zz n : Nat)) ∧ w = w' := by
  by_cases h : n < 0
  · have hz : ((zz n : Nat) : Int) = 2 * (-(n + 1)) + 1 := by unfold zz; rw [if_pos h]; omega
    rw [hz]
    go_enter Tryd.func70, Tryd.ntmps70
    go_wp2
    go_ret
    exact ⟨ret_int (by omega), rfl⟩
  · have hz : ((zz n : Nat) : Int) = 2 * n := by unfold zz; rw [if_neg h]; omega
    rw [hz]
    go_enter Tryd.func70, Tryd.ntmps70
    go_wp2
    go_ret
    exact ⟨ret_int (by omega), rfl⟩
set_option maxHeartbeats 1000000 in
theorem rc_unfold (z : Nat) (w : World) (h : z < 18446744073709551616) :
    Calls Tryd.prog 72 #[.int .u64 z] w fun e w' => e = .returned (.int .i64 (unz z)) ∧ w = w' := by
  have e1 : ((z : Nat) : Int).tmod 2 = ((z % 2 : Nat) : Int) := rfl
  have e2 : ((z : Nat) : Int).tdiv 2 = ((z / 2 : Nat) : Int) := rfl
  by_cases hp : z % 2 = 1
  · have hu : unz z = -((z / 2 : Nat) : Int) - 1 := by unfold unz; rw [if_pos hp]
    have e1' : ((z : Nat) : Int).tmod 2 = 1 := by omega
    have hb : z / 2 < 9223372036854775808 := by omega
    rw [hu]
    clear e1 hu
    generalize z / 2 = y at *
    go_enter Tryd.func72, Tryd.ntmps72
    go_wp2
    go_ret
    exact ⟨ret_int (by omega), rfl⟩
  · have hu : unz z = ((z / 2 : Nat) : Int) := by unfold unz; rw [if_neg hp]
    have e1' : ((z : Nat) : Int).tmod 2 = 0 := by omega
    have hb : z / 2 < 9223372036854775808 := by omega
    rw [hu]
    clear e1 hu
    generalize z / 2 = y at *
    go_enter Tryd.func72, Tryd.ntmps72
    go_wp2
    go_ret
    exact ⟨ret_int (by omega), rfl⟩

theorem pow7_le {k : Nat} (h : k ≤ 8) : 2 ^ (7 * k) ≤ 72057594037927936 := by
  have := Nat.pow_le_pow_right (n := 2) (by decide) (show 7 * k ≤ 56 by omega)
  exact this
theorem put_lt {y c k : Nat} (hy : y < 2 ^ (7 * k)) (h : (k ≤ 8 ∧ c < 256) ∨ (k = 9 ∧ c ≤ 1)) : y + c * 2 ^ (7 * k) < 18446744073709551616 := by
  rcases h with ⟨h1, h2⟩ | ⟨rfl, h2⟩
  · have h3 := pow7_le h1
    have h4 : c * 2 ^ (7 * k) ≤ 255 * 2 ^ (7 * k) := Nat.mul_le_mul_right _ (by omega)
    generalize 2 ^ (7 * k) = P at *
    generalize c * P = Q at *
    omega
  · have h4 : c * 2 ^ (7 * 9) ≤ 1 * 2 ^ (7 * 9) := Nat.mul_le_mul_right _ h2
    have : (2 : Nat) ^ (7 * 9) = 9223372036854775808 := by decide
    rw [this] at *
    omega
theorem put_group {y c k : Nat} (hy : y < 2 ^ (7 * k)) (h : (k ≤ 8 ∧ c < 256) ∨ (k = 9 ∧ c ≤ 1)) : bits .or .u64 (y : Int) (IntKind.u64.wrap ((c : Int) * 2 ^ (7 * k))) = ((y + c * 2 ^ (7 * k) : Nat) : Int) := by
  have hl := put_lt hy h
  have e : (c : Int) * 2 ^ (7 * k) = ((c * 2 ^ (7 * k) : Nat) : Int) := by simp
  rw [e, IntWalk.u64_in _ (by omega)]
  exact or_u64 hy (Nat.mul_mod_left _ _) hl
theorem put_next {y d k : Nat} (hy : y < 2 ^ (7 * k)) (hd : d < 128) : y + d * 2 ^ (7 * k) < 2 ^ (7 * (k + 1)) := by
  have e : 2 ^ (7 * (k + 1)) = 128 * 2 ^ (7 * k) := by rw [show 7 * (k + 1) = 7 + 7 * k by omega, Nat.pow_add]
  have h4 : d * 2 ^ (7 * k) ≤ 127 * 2 ^ (7 * k) := Nat.mul_le_mul_right _ (by omega)
  rw [e]
  omega
set_option maxHeartbeats 2000000 in
set_option maxRecDepth 100000 in
theorem rc_readGroups (s : ByteArray) (w : World) (hs : s.size ≤ maxLen) :
    Calls Tryd.prog 71 #[.string s] w fun e w' => e = .returned (.tuple #[.int .u64 ((rd 0 0 s.data.toList).1 : Nat), .int .i64 ((rd 0 0 s.data.toList).2.1 : Nat), .int .i64 (rd 0 0 s.data.toList).2.2]) ∧ w = w' := by
  have hsz : s.data.toList.length = s.size := by simp
  unfold maxLen at hs
  obtain ⟨R, HR⟩ : ∃ R, Hid (rd 0 0 s.data.toList = R) := ⟨_, rfl⟩
  rw [HR.out]
  go_enter Tryd.func71, Tryd.ntmps71
  go_wp2
  go_step3
  go_wp2
  go_step3
  go_wp2
  go_loop [2, 4, 9] (fun z e4 i => ∃ (k y : Nat), e4 = .int .i64 20 ∧ i = .int .i64 k ∧ k ≤ s.size ∧ k ≤ 9 ∧ z = .int .u64 y ∧ y < 2 ^ (7 * k) ∧ Hid (rd k y (s.data.toList.drop k) = R)) (fun _ _ i => s.size - (intOf i).toNat)
  case atStart => exact ⟨0, 0, rfl, rfl, by omega, by omega, rfl, by simp, by show rd 0 0 _ = R; rw [List.drop_zero]; exact HR.out⟩
  case round =>
    obtain ⟨k, y, rfl, rfl, hk, hk9, rfl, hy, HK⟩ := hrel
    by_cases hlt : k < s.size
    · obtain ⟨c, HC⟩ : ∃ c : Nat, Hid (s[k].toNat = c) := ⟨_, Lib.hid rfl⟩
      have hc : (s[k].toNat : Int) = (c : Int) := by rw [HC.out]
      have hc2 : c < 256 := by rw [← HC.out]; exact UInt8.toNat_lt _
      have HR' : Hid (R = if (k = 9 ∧ 1 < c) ∨ (0 < k ∧ c = 0) then (0, 0, 3) else if c < 128 then (y + c * 2 ^ (7 * k), k + 1, 0) else rd (k + 1) (y + (c - 128) * 2 ^ (7 * k)) (s.data.toList.drop (k + 1))) := by
        show _ = _
        rw [← HK.out, ← List.getElem_cons_drop (h := by omega), rd, ← get_data s k hlt, HC.out]
      clear HK
      by_cases hA : k = 9 ∧ 1 < c
      · obtain ⟨rfl, hc1⟩ := hA
        have hR : R = (0, 0, 3) := by rw [HR'.out, if_pos (.inl ⟨rfl, hc1⟩)]
        subst hR
        go_wp2
        go_ret3
        exact ⟨rfl, rfl⟩
      · by_cases hB : 0 < k ∧ c = 0
        · obtain ⟨hk0, rfl⟩ := hB
          have hR : R = (0, 0, 3) := by rw [HR'.out, if_pos (.inr ⟨hk0, rfl⟩)]
          subst hR
          by_cases hk9' : k = 9
          · subst hk9'
            go_wp2
            go_ret3
            exact ⟨rfl, rfl⟩
          · have hkb : ((k : Int) == 9) = false := by rw [beq_eq_false_iff_ne]; omega
            go_wp2
            go_ret3
            exact ⟨rfl, rfl⟩
        · have hif : ¬ ((k = 9 ∧ 1 < c) ∨ (0 < k ∧ c = 0)) := by omega
          rw [if_neg hif] at HR'
          by_cases h128 : c < 128
          · have hR : R = (y + c * 2 ^ (7 * k), k + 1, 0) := by rw [HR'.out, if_pos h128]
            subst hR
            have HPG := Lib.hid (put_group (c := c) hy (by omega))
            rcases Nat.eq_zero_or_pos k with rfl | hk0
            · go_wp2
              go_ret3
              exact ⟨by have := or_u64 (b := c) (i := 0) (by simpa using hy) (Nat.mod_one _) (by have h1 : y < 1 := (by simpa using hy); omega); simp at this ⊢; exact this, rfl⟩
            · by_cases hk9' : k = 9
              · have hc1 : c = 1 := by omega
                subst hk9' hc1
                go_wp2
                go_ret3
                exact ⟨by have := HPG.out; simp at this ⊢; try exact this, rfl⟩
              · have hkb : ((k : Int) == 9) = false := by rw [beq_eq_false_iff_ne]; omega
                have hcb : ((c : Int) == 0) = false := by rw [beq_eq_false_iff_ne]; omega
                go_wp2
                go_ret3
                exact ⟨by rw [HPG.out]; rfl, rfl⟩
          · obtain ⟨d, rfl⟩ : ∃ d, c = d + 128 := ⟨c - 128, by omega⟩
            have hd : d < 128 := by omega
            have hk8 : k ≤ 8 := by omega
            have HN : Hid (rd (k + 1) (y + d * 2 ^ (7 * k)) (s.data.toList.drop (k + 1)) = R) := by show _ = R; rw [HR'.out, if_neg h128, Nat.add_sub_cancel]
            have HPG := Lib.hid (put_group (c := d) hy (by omega))
            have HLT := Lib.hid (put_next hy hd)
            have hc' : (s[k].toNat : Int) = (d : Int) + 128 := by rw [HC.out]; omega
            clear hc HC HR' hif h128 hA hB hc2
            rcases Nat.eq_zero_or_pos k with rfl | hk0
            · go_wp2
              go_round
              case rel => exact ⟨0 + 1, _, rfl, by go_num, by omega, by omega, by have := or_u64 (b := d) (i := 0) (by simpa using hy) (Nat.mod_one _) (by have h1 : y < 1 := (by simpa using hy); omega); simp at this ⊢; exact this, HLT.out, HN⟩
              case measure => simp [intOf]; omega
            · have hkb : ((k : Int) == 9) = false := by rw [beq_eq_false_iff_ne]; omega
              have hcb : ((d : Int) + 128 == 0) = false := by rw [beq_eq_false_iff_ne]; omega
              go_wp2
              go_round
              case rel => exact ⟨k + 1, _, rfl, by go_num, by omega, by omega, by rw [HPG.out], HLT.out, HN⟩
              case measure => simp [intOf]; omega
    · have hR : R = (0, 0, 20) := by rw [← HK.out, List.drop_of_length_le (by omega)]; rfl
      subst hR
      go_wp2
      go_ret3
      exact ⟨rfl, rfl⟩

theorem getI_drop (l : List UInt8) (a : Nat) (h : a ≤ l.length) : getI l a = if (rd 0 0 (l.drop a)).2.2 = 0 then (unz (rd 0 0 (l.drop a)).1, ((a + (rd 0 0 (l.drop a)).2.1 : Nat) : Int), 0) else (0, 0, (rd 0 0 (l.drop a)).2.2) := by
  unfold getI
  rw [if_neg (by omega)]
  simp
theorem getI_bad (l : List UInt8) (a : Int) (h : (decide (0 ≤ a) && decide (a ≤ (l.length : Int))) = false) : getI l a = (0, 0, 2) := by
  unfold getI
  rw [if_pos]
  simp only [Bool.and_eq_false_iff, decide_eq_false_iff_not] at h
  omega
theorem rd_lt : ∀ (l : List UInt8) (k y : Nat), k ≤ 9 → y < 2 ^ (7 * k) → (rd k y l).1 < 18446744073709551616 ∧ (rd k y l).2.1 ≤ k + l.length := by
  intro l
  induction l with
  | nil => intro k y _ _; exact ⟨by simp [rd], by simp [rd]⟩
  | cons c l ih =>
    intro k y hk hy
    have hc := UInt8.toNat_lt c
    rw [rd]
    split
    · exact ⟨by simp, by simp⟩
    · rename_i hn
      split
      · exact ⟨put_lt hy (by omega), by simp⟩
      · have := ih (k + 1) (y + (c.toNat - 128) * 2 ^ (7 * k)) (by omega) (put_next hy (by omega))
        exact ⟨this.1, by rw [List.length_cons]; omega⟩
def gV (r : Int × Int × Int) : Value := .tuple #[.int .i64 r.1, .int .i64 r.2.1, .int .i64 r.2.2]
theorem ext_drop' (s : ByteArray) (a : Nat) : (s.extract a s.size).data.toList = s.data.toList.drop a := by
  rw [Lib.extract_data, List.take_of_length_le (by simp)]
set_option maxHeartbeats 2000000 in
set_option maxRecDepth 100000 in
theorem rc_GetInt (s : ByteArray) (a : Int) (w : World) (hs : s.size ≤ maxLen) :
    Calls Tryd.prog 51 #[.string s, .int .i64 a] w fun e w' => e = .returned (gV (getI s.data.toList a)) ∧ w = w' := by
  have hsz : s.data.toList.length = s.size := by simp
  have HO := Lib.hid (fun w => rc_isOffset s a w)
  cases hb : (decide (0 ≤ a) && decide (a ≤ (s.size : Int)))
  · rw [getI_bad _ _ (by rw [hsz]; exact hb)]
    unfold gV
    rw [hb] at HO
    clear hb
    go_enter Tryd.func51, Tryd.ntmps51
    go_wp2_with fail
    refine (HO.out _).mono ?_; rintro e w' ⟨rfl, rfl⟩
    go_wp2
    go_ret3
    exact ⟨rfl, rfl⟩
  · rw [hb] at HO
    simp only [Bool.and_eq_true, decide_eq_true_eq] at hb
    obtain ⟨k, rfl⟩ : ∃ k : Nat, a = k := ⟨a.toNat, by omega⟩
    have hk : k ≤ s.size := by omega
    clear hb
    have HRG := Lib.hid (fun w => rc_readGroups (s.extract k s.size) w (by rw [ByteArray.size_extract]; omega))
    rw [ext_drop'] at HRG
    obtain ⟨q1, q2⟩ := rd_lt (s.data.toList.drop k) 0 0 (by omega) (by simp)
    rw [List.length_drop, hsz] at q2
    have HU := Lib.hid (fun w => rc_unfold (rd 0 0 (s.data.toList.drop k)).1 w q1)
    rw [getI_drop _ _ (by omega)]
    unfold maxLen at hs
    generalize rd 0 0 (s.data.toList.drop k) = R at *
    obtain ⟨z, g, E⟩ := R
    simp only [] at *
    unfold gV
    by_cases hE : E = 0
    · subst hE
      rw [if_pos rfl]
      go_enter Tryd.func51, Tryd.ntmps51
      go_wp2_with fail
      refine (HO.out _).mono ?_; rintro e w' ⟨rfl, rfl⟩
      go_wp2_with fail
      refine (HRG.out _).mono ?_; rintro e w' ⟨rfl, rfl⟩
      go_wp2_with fail
      refine (HU.out _).mono ?_; rintro e w' ⟨rfl, rfl⟩
      go_wp2
      go_ret3
      exact ⟨rfl, rfl⟩
    · rw [if_neg hE]
      have hEb : (E != 0) = true := by simpa using hE
      go_enter Tryd.func51, Tryd.ntmps51
      go_wp2_with fail
      refine (HO.out _).mono ?_; rintro e w' ⟨rfl, rfl⟩
      go_wp2_with fail
      refine (HRG.out _).mono ?_; rintro e w' ⟨rfl, rfl⟩
      go_wp2
      go_ret3
      exact ⟨rfl, rfl⟩
end Go.Proofs.YtlcpfhgobfjioaaDoor
