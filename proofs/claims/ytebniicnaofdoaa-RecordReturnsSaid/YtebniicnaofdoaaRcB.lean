/- Records: the reference's GetInt; texts, both sides. -/
import Derived.Test.YtebniicnaofdoaaRcA
set_option linter.unusedVariables false
set_option linter.unusedSimpArgs false
namespace Go.Proofs.Ytebniicnaofdoaa
open Go.RowKit
open Z Rc

theorem xor_i64 {n : Nat} (h : n < 9223372036854775808) : bits .xor .i64 (-1) (n : Int) = -(n : Int) - 1 := by
  show IntKind.i64.wrap (((BitVec.ofInt 64 (-1)) ^^^ (BitVec.ofInt 64 (n : Int)) : BitVec 64).toNat : Int) = _
  have e : BitVec.ofInt 64 (-1) = BitVec.allOnes 64 := by decide
  rw [e, BitVec.ofInt_natCast, BitVec.allOnes_xor, BitVec.toNat_not, BitVec.toNat_ofNat, Nat.mod_eq_of_lt (by omega : n < 2 ^ 64)]
  simp [IntKind.wrap, IntKind.bits, IntKind.signed]
  omega
theorem ret_g {a b c a' b' c' : Int} (h1 : a = a') (h2 : b = b') (h3 : c = c') : Ending.returned (.tuple #[.int .i64 a, .int .i64 b, .int .i64 c]) = Ending.returned (.tuple #[.int .i64 a', .int .i64 b', .int .i64 c']) := by rw [h1, h2, h3]
theorem bits_or_nat (x y : Int) : ∃ b : Nat, bits .or .u64 x y = (b : Int) := by
  refine ⟨(bits .or .u64 x y).toNat, ?_⟩
  have h : 0 ≤ bits .or .u64 x y := by
    show 0 ≤ IntKind.u64.wrap _
    simp only [IntKind.wrap, IntKind.bits, IntKind.signed]
    simp only [Bool.false_and, Bool.false_eq_true, if_false]
    exact Int.emod_nonneg _ (by decide)
  omega
set_option maxHeartbeats 4000000 in
set_option maxRecDepth 100000 in
theorem r8_GetInt (s : ByteArray) (a : Int) (w : World) (hs : s.size ≤ maxLen) :
    Calls Try.prog 13 #[.string s, .int .i64 a] w fun e w' => e = .returned (gV (getI s.data.toList a)) ∧ w = w' := by
  have hsz : s.data.toList.length = s.size := by simp
  have HO := Lib.hid (fun w => r8_place s a w)
  cases hb : (decide (0 ≤ a) && decide (a ≤ (s.size : Int)))
  · rw [getI_bad _ _ (by rw [hsz]; exact hb)]
    unfold gV
    rw [hb] at HO
    clear hb
    go_enter Try.func13, Try.ntmps13
    go_wp2_with fail
    refine (HO.out _).mono ?_; rintro e w' ⟨rfl, rfl⟩
    go_wp2
    go_ret3
    exact ⟨rfl, rfl⟩
  · rw [hb] at HO
    simp only [Bool.and_eq_true, decide_eq_true_eq] at hb
    obtain ⟨p, rfl⟩ : ∃ k : Nat, a = k := ⟨a.toNat, by omega⟩
    have hp : p ≤ s.size := by omega
    clear hb
    have HG := Lib.hid (getI_drop s.data.toList p (by omega))
    unfold maxLen at hs
    obtain ⟨G, hG⟩ : ∃ G, getI s.data.toList p = G := ⟨_, rfl⟩
    rw [hG] at HG ⊢
    obtain ⟨R, HR⟩ : ∃ R, Hid (rd 0 0 (s.data.toList.drop p) = R) := ⟨_, rfl⟩
    rw [HR.out] at HG
    clear hG
    obtain ⟨n0, n1, n2⟩ := G
    unfold gV
    simp only []
    go_enter Try.func13, Try.ntmps13
    go_wp2_with fail
    refine (HO.out _).mono ?_; rintro e w' ⟨rfl, rfl⟩
    go_wp2
    go_loop [7, 8] (fun z i => ∃ (k y : Nat), i = .int .i64 k ∧ p + k ≤ s.size ∧ k ≤ 10 ∧ z = .int .u64 y ∧ Hid (k = 10 → R = (0, 0, 3)) ∧ Hid (k ≤ 9 → y < 2 ^ (7 * k) ∧ rd k y (s.data.toList.drop (p + k)) = R)) (fun _ i => 10 - (intOf i).toNat)
    case atStart => exact ⟨0, 0, rfl, by omega, by omega, rfl, fun h => absurd h (by omega), fun _ => ⟨by simp, by rw [Nat.add_zero]; exact HR.out⟩⟩
    case round =>
      obtain ⟨k, y, rfl, hk, hk10, rfl, HK0, HK⟩ := hrel
      by_cases h10 : k = 10
      · have hR := HK0.out h10
        subst h10 hR
        obtain ⟨rfl, rfl, rfl⟩ : n0 = 0 ∧ n1 = 0 ∧ n2 = 3 := by have := HG.out; simp at this; exact this
        go_wp2
        go_ret3
        exact ⟨rfl, rfl⟩
      · have hk9 : k ≤ 9 := by omega
        have hk10' : k < 10 := by omega
        obtain ⟨hy, hkR⟩ := HK.out hk9
        have HKR := Lib.hid hkR
        clear HK HK0 hk10 h10 hkR
        by_cases hlt : p + k < s.size
        · obtain ⟨c, HC⟩ : ∃ c : Nat, Hid (s[p + k].toNat = c) := ⟨_, Lib.hid rfl⟩
          have hc : (s[p + k].toNat : Int) = (c : Int) := by rw [HC.out]
          have hc2 : c < 256 := by rw [← HC.out]; exact UInt8.toNat_lt _
          have HR' : Hid (R = if (k = 9 ∧ 1 < c) ∨ (0 < k ∧ c = 0) then (0, 0, 3) else if c < 128 then (y + c * 2 ^ (7 * k), k + 1, 0) else rd (k + 1) (y + (c - 128) * 2 ^ (7 * k)) (s.data.toList.drop (p + k + 1))) := by
            show _ = _
            rw [← HKR.out, ← List.getElem_cons_drop (h := by omega), rd, ← get_data s (p + k) hlt, HC.out]
          clear HKR
          have hpk : ((p : Int) + (k : Int) == (s.size : Int)) = false := by rw [beq_eq_false_iff_ne]; omega
          have hcm : (c : Int).tmod 128 = ((c % 128 : Nat) : Int) := rfl
          by_cases h128 : c < 128
          · have hcm' : c % 128 = c := Nat.mod_eq_of_lt h128
            rw [hcm'] at hcm
            have hcm2 : (c : Int) % 128 = (c : Int) := by omega
            clear hcm'
            by_cases hA : k = 9 ∧ 1 < c
            · obtain ⟨rfl, hc1⟩ := hA
              have hR : R = (0, 0, 3) := by rw [HR'.out, if_pos (.inl ⟨rfl, hc1⟩)]
              subst hR
              obtain ⟨rfl, rfl, rfl⟩ : n0 = 0 ∧ n1 = 0 ∧ n2 = 3 := by have := HG.out; simp at this; exact this
              have hcb : ((c : Int) == 0) = false := by rw [beq_eq_false_iff_ne]; omega
              go_wp2
              go_ret3
              exact ⟨rfl, rfl⟩
            · by_cases hB : 0 < k ∧ c = 0
              · obtain ⟨hk0, rfl⟩ := hB
                have hR : R = (0, 0, 3) := by rw [HR'.out, if_pos (.inr ⟨hk0, rfl⟩)]
                subst hR
                obtain ⟨rfl, rfl, rfl⟩ : n0 = 0 ∧ n1 = 0 ∧ n2 = 3 := by have := HG.out; simp at this; exact this
                go_wp2
                go_ret3
                exact ⟨rfl, rfl⟩
              · have hif : ¬ ((k = 9 ∧ 1 < c) ∨ (0 < k ∧ c = 0)) := by omega
                have hR : R = (y + c * 2 ^ (7 * k), k + 1, 0) := by rw [HR'.out, if_neg hif, if_pos h128]
                subst hR
                have hlt64 := put_lt (c := c) hy (by omega)
                have HPG := put_group (c := c) hy (by omega)
                have HG2 : Hid (n0 = unz (y + c * 2 ^ (7 * k)) ∧ n1 = ((p + (k + 1) : Nat) : Int) ∧ n2 = 0) := by have := HG.out; simp at this; show _ ∧ _; simp; exact this
                clear HR' HG
                generalize hZ : y + c * 2 ^ (7 * k) = Z at *
                clear hZ
                have hm1 : ((Z : Nat) : Int) / 2 = ((Z / 2 : Nat) : Int) := by omega
                have hmb : Z / 2 < 9223372036854775808 := by omega
                have hx := xor_i64 hmb
                have h01 : (k = 0 ∨ 0 < k ∧ ((c : Int) == 0) = false) := by
                  rcases Nat.eq_zero_or_pos k with h | h
                  · exact .inl h
                  · refine .inr ⟨h, ?_⟩; rw [beq_eq_false_iff_ne]; omega
                have h02 : (((k : Int) == 9) = false ∨ k = 9 ∧ c ≤ 1) := by
                  by_cases h : k = 9
                  · exact .inr ⟨h, by omega⟩
                  · left; rw [beq_eq_false_iff_ne]; omega
                have HF : Hid (unz Z = if Z % 2 = 1 then -((Z / 2 : Nat) : Int) - 1 else ((Z / 2 : Nat) : Int)) := rfl
                have hcase : (Z % 2 = 1 ∧ (Z : Int) % 2 = 1 ∧ (Z : Int).tmod 2 = 1) ∨ (¬ Z % 2 = 1 ∧ (Z : Int) % 2 = 0 ∧ (Z : Int).tmod 2 = 0) := by
                  have e1 : ((Z : Nat) : Int).tmod 2 = ((Z % 2 : Nat) : Int) := rfl
                  omega
                clear hif hA hB
                rcases hcase with ⟨g1, g2, g3⟩ | ⟨g1, g2, g3⟩
                · rw [if_pos g1] at HF
                  have HG3 : Hid (n0 = -((Z / 2 : Nat) : Int) - 1 ∧ n1 = ((p + (k + 1) : Nat) : Int) ∧ n2 = 0) := by rw [← HF.out]; exact HG2.out
                  clear HF g1 HG2
                  generalize Z / 2 = m at *
                  obtain ⟨rfl, rfl, rfl⟩ := HG3.out
                  clear HG3
                  rcases h01 with rfl | ⟨hk0, hcb⟩
                  · clear h02
                    have e0 : IntKind.u64.wrap ((c : Int) * 2 ^ (7 * 0)) = (c : Int) := by rw [Nat.mul_zero, Int.pow_zero, Int.mul_one]; exact IntWalk.u64_in _ (by omega)
                    rw [e0] at HPG
                    clear e0
                    have hc0' : (s[p]'hlt).toNat = c := HC.out
                    have hc0 : ((s[p]'hlt).toNat : Int) = (c : Int) := by rw [hc0']
                    have hlt0 : p < s.size := hlt
                    have hpk0 : ((p : Int) == (s.size : Int)) = false := by rw [beq_eq_false_iff_ne]; omega
                    clear hc hpk HC hc0'
                    go_wp2
                    go_ret3
                    exact ⟨ret_g rfl (by omega) rfl, rfl⟩
                  · rcases h02 with hkb | ⟨rfl, hc1⟩
                    · go_wp2
                      go_ret3
                      exact ⟨ret_g rfl (by omega) rfl, rfl⟩
                    · have hc0 : c = 1 := by have := (beq_eq_false_iff_ne.1 hcb); omega
                      subst hc0
                      have e9 : IntKind.u64.wrap (((1 : Nat) : Int) * 2 ^ (7 * 9)) = 9223372036854775808 := by decide
                      rw [e9] at HPG
                      clear e9 hcb
                      go_wp2
                      go_ret3
                      exact ⟨ret_g rfl (by omega) rfl, rfl⟩
                · rw [if_neg g1] at HF
                  have HG3 : Hid (n0 = ((Z / 2 : Nat) : Int) ∧ n1 = ((p + (k + 1) : Nat) : Int) ∧ n2 = 0) := by rw [← HF.out]; exact HG2.out
                  clear HF g1 HG2
                  generalize Z / 2 = m at *
                  obtain ⟨rfl, rfl, rfl⟩ := HG3.out
                  clear HG3
                  rcases h01 with rfl | ⟨hk0, hcb⟩
                  · clear h02
                    have e0 : IntKind.u64.wrap ((c : Int) * 2 ^ (7 * 0)) = (c : Int) := by rw [Nat.mul_zero, Int.pow_zero, Int.mul_one]; exact IntWalk.u64_in _ (by omega)
                    rw [e0] at HPG
                    clear e0
                    have hc0' : (s[p]'hlt).toNat = c := HC.out
                    have hc0 : ((s[p]'hlt).toNat : Int) = (c : Int) := by rw [hc0']
                    have hlt0 : p < s.size := hlt
                    have hpk0 : ((p : Int) == (s.size : Int)) = false := by rw [beq_eq_false_iff_ne]; omega
                    clear hc hpk HC hc0'
                    go_wp2
                    go_ret3
                    exact ⟨ret_g rfl (by omega) rfl, rfl⟩
                  · rcases h02 with hkb | ⟨rfl, hc1⟩
                    · go_wp2
                      go_ret3
                      exact ⟨ret_g rfl (by omega) rfl, rfl⟩
                    · have hc0 : c = 1 := by have := (beq_eq_false_iff_ne.1 hcb); omega
                      subst hc0
                      have e9 : IntKind.u64.wrap (((1 : Nat) : Int) * 2 ^ (7 * 9)) = 9223372036854775808 := by decide
                      rw [e9] at HPG
                      clear e9 hcb
                      go_wp2
                      go_ret3
                      exact ⟨ret_g rfl (by omega) rfl, rfl⟩
          · obtain ⟨d, rfl⟩ : ∃ d, c = d + 128 := ⟨c - 128, by omega⟩
            have hd : d < 128 := by omega
            have HN : Hid (k ≤ 8 → rd (k + 1) (y + d * 2 ^ (7 * k)) (s.data.toList.drop (p + (k + 1))) = R) := by
              intro h8; rw [HR'.out, if_neg (by omega), if_neg h128, Nat.add_sub_cancel]; rfl
            have HN9 : Hid (k + 1 = 10 → R = (0, 0, 3)) := by
              intro h9; rw [HR'.out, if_pos (.inl ⟨by omega, by omega⟩)]
            have HPG : Hid (k ≤ 8 → bits .or .u64 (y : Int) (IntKind.u64.wrap ((d : Int) * 2 ^ (7 * k))) = ((y + d * 2 ^ (7 * k) : Nat) : Int)) := fun h8 => put_group hy (by omega)
            have HLT := Lib.hid (put_next (d := d) hy hd)
            have hc' : (s[p + k].toNat : Int) = (d : Int) + 128 := by rw [HC.out]; omega
            have hdm : ((d : Int) + 128).tmod 128 = (d : Int) := by
              have : ((d : Int) + 128).tmod 128 = (((d + 128) % 128 : Nat) : Int) := rfl
              rw [this]; omega
            have hdm2 : ((d : Int) + 128) % 128 = (d : Int) := by omega
            clear hc HC HR' h128 hc2 hcm
            go_wp2
            obtain ⟨b, hb⟩ := bits_or_nat (y : Int) (IntKind.u64.wrap ((d : Int) * 2 ^ (7 * k)))
            go_round
            case rel =>
              refine ⟨k + 1, b, by go_num, by omega, by omega, by rw [hb], HN9, fun h8 => ?_⟩
              have e := HPG.out (by omega)
              rw [hb] at e
              have e' : b = y + d * 2 ^ (7 * k) := by omega
              rw [e']
              exact ⟨HLT.out, HN.out (by omega)⟩
            case measure => simp [intOf]; omega
        · have hR : R = (0, 0, 20) := by rw [← HKR.out, List.drop_of_length_le (by omega)]; rfl
          subst hR
          obtain ⟨rfl, rfl, rfl⟩ : n0 = 0 ∧ n1 = 0 ∧ n2 = 20 := by have := HG.out; simp at this; exact this
          have hpk : ((p : Int) + (k : Int) == (s.size : Int)) = true := by rw [beq_iff_eq]; omega
          go_wp2
          go_ret3
          exact ⟨rfl, rfl⟩

/-- a text, an offset and a number -/
def tV (r : List UInt8 × Int × Int) : Value := .tuple #[.string (str r.1), .int .i64 r.2.1, .int .i64 r.2.2]
theorem getI_range (l : List UInt8) (a : Int) (h : (getI l a).2.2 = 0) : ∃ k : Nat, (getI l a).2.1 = k ∧ k ≤ l.length := by
  unfold getI at h ⊢
  by_cases hb : a < 0 ∨ (l.length : Int) < a
  · rw [if_pos hb] at h; cases h
  · rw [if_neg hb] at h ⊢
    obtain ⟨p, rfl⟩ : ∃ k : Nat, a = k := ⟨a.toNat, by omega⟩
    obtain ⟨-, q2⟩ := rd_lt (l.drop p) 0 0 (by omega) (by simp)
    simp only [Int.toNat_natCast] at h ⊢
    split at h
    · rename_i hz
      rw [if_pos hz]
      rw [List.length_drop] at q2
      exact ⟨p + (rd 0 0 (l.drop p)).2.1, by simp, by omega⟩
    · rename_i hz; exact absurd h hz
theorem getI_num (l : List UInt8) (a : Int) : -9223372036854775808 ≤ (getI l a).1 ∧ (getI l a).1 < 9223372036854775808 := by
  unfold getI
  by_cases hb : a < 0 ∨ (l.length : Int) < a
  · rw [if_pos hb]; exact ⟨by simp, by simp⟩
  · rw [if_neg hb]
    have := (rd_lt (l.drop a.toNat) 0 0 (by omega) (by simp)).1
    simp only []
    split
    · simp only []
      unfold unz
      split <;> omega
    · exact ⟨by simp, by simp⟩

set_option maxHeartbeats 4000000 in
set_option maxRecDepth 100000 in
theorem rc_GetText (s : ByteArray) (a : Int) (w : World) (hs : s.size ≤ maxLen) :
    Calls Try.prog 16 #[.string s, .int .i64 a] w fun e w' => e = .returned (tV (getT s.data.toList a)) ∧ w = w' := by
  have hsz : s.data.toList.length = s.size := by simp
  have HGI := Lib.hid (fun w => rc_GetInt s a w hs)
  unfold gV at HGI
  obtain ⟨n1, n2⟩ := getI_num s.data.toList a
  have HR := Lib.hid (getI_range s.data.toList a)
  unfold maxLen at hs
  unfold tV getT
  rw [hsz] at *
  generalize getI s.data.toList a = R at *
  obtain ⟨n, nx, E⟩ := R
  simp only [] at *
  by_cases hE : E = 0
  · subst hE
    obtain ⟨k, rfl, hk⟩ := HR.out rfl
    simp only [ne_eq, not_true_eq_false, if_false]
    by_cases h1 : n < 0
    · rw [if_pos (.inl h1)]
      go_enter Try.func16, Try.ntmps16
      go_wp2_with fail
      refine (HGI.out _).mono ?_; rintro e w' ⟨rfl, rfl⟩
      go_wp2
      go_ret3
      exact ⟨rfl, rfl⟩
    · by_cases h2 : 65535 < n
      · rw [if_pos (.inr h2)]
        go_enter Try.func16, Try.ntmps16
        go_wp2_with fail
        refine (HGI.out _).mono ?_; rintro e w' ⟨rfl, rfl⟩
        go_wp2
        go_ret3
        exact ⟨rfl, rfl⟩
      · rw [if_neg (by omega)]
        obtain ⟨m, rfl⟩ : ∃ m : Nat, n = m := ⟨n.toNat, by omega⟩
        clear n1 n2
        have hm : m ≤ 65535 := by omega
        clear h1 h2
        by_cases h3 : (s.size : Int) - k < m
        · rw [if_pos h3]
          go_enter Try.func16, Try.ntmps16
          go_wp2_with fail
          refine (HGI.out _).mono ?_; rintro e w' ⟨rfl, rfl⟩
          go_wp2
          go_ret3
          exact ⟨rfl, rfl⟩
        · rw [if_neg h3]
          have HX : Hid (str ((s.data.toList.drop k).take m) = s.extract k (k + m)) := by
            show _ = _
            apply ba_ext
            rw [data_str, Lib.extract_data]
            congr 1; omega
          simp only [Int.toNat_natCast]
          rw [HX.out]
          go_enter Try.func16, Try.ntmps16
          go_wp2_with fail
          refine (HGI.out _).mono ?_; rintro e w' ⟨rfl, rfl⟩
          go_wp2
          go_ret3
          exact ⟨rfl, rfl⟩
  · have hEb : (E != 0) = true := by simpa using hE
    rw [if_pos hE]
    go_enter Try.func16, Try.ntmps16
    go_wp2_with fail
    refine (HGI.out _).mono ?_; rintro e w' ⟨rfl, rfl⟩
    go_wp2
    go_ret3
    exact ⟨rfl, rfl⟩
end Go.Proofs.Ytebniicnaofdoaa
