/- Law 11: the program's Wheel. -/
import Derived.Test.YtipfofdjngnkpaaCoH
set_option linter.unusedVariables false
set_option linter.unusedSimpArgs false
namespace Go.Proofs.Ytipfofdjngnkpaa.Z
open Go
theorem turn_div {n d : Int} (hd : 0 < d) (h0 : -d ≤ n) : (1000 * (n + d)).tdiv d = 1000 * n / d + 1000 := by
  rw [Int.tdiv_eq_ediv_of_nonneg (by omega), Int.mul_add, Int.add_mul_ediv_right _ _ (by omega)]
theorem turn_le {n d : Int} (hd : 0 < d) (h0 : -d ≤ n) (h1 : n ≤ d) : -1000 ≤ 1000 * n / d ∧ 1000 * n / d ≤ 1000 := by
  constructor
  · rw [Int.le_ediv_iff_mul_le hd]; omega
  · have : 1000 * n / d ≤ 1000 * d / d := Int.ediv_le_ediv hd (by omega)
    rwa [Int.mul_ediv_cancel _ (by omega)] at this
theorem hueF_mod {q : Int} (h0 : -1000 ≤ q) (h1 : q ≤ 1000) : (6000 + q).tmod 6000 = hueF q := by
  rw [Int.tmod_eq_emod_of_nonneg (by omega)]
  unfold hueF
  split <;> omega
theorem max3_facts (c : C3) : c.1 ≤ max3 c ∧ c.2.1 ≤ max3 c ∧ c.2.2 ≤ max3 c ∧ min3 c ≤ c.1 ∧ min3 c ≤ c.2.1 ∧ min3 c ≤ c.2.2 ∧ (max3 c = c.1 ∨ max3 c = c.2.1 ∨ max3 c = c.2.2) ∧ (min3 c = c.1 ∨ min3 c = c.2.1 ∨ min3 c = c.2.2) := by
  unfold max3 min3; omega
end Go.Proofs.Ytipfofdjngnkpaa.Z
namespace Go.Proofs.Ytipfofdjngnkpaa
open Go.RowKit
open Z
set_option maxRecDepth 100000 in
set_option maxHeartbeats 1000000 in
theorem co_turn {n d : Int} (hd : 0 < d) (hd1 : d ≤ 65535) (h0 : -d ≤ n) (h1 : n ≤ d) (w : World) : Calls Try.prog 57 #[.int .i64 n, .int .i64 d] w fun e w' => e = .returned (.int .i64 (1000 * n / d)) ∧ w' = w := by
  have hq := turn_div hd h0
  obtain ⟨q0, q1⟩ := turn_le hd h0 h1
  have hz : (d == 0) = false := by simp; omega
  have hz' : ¬ d = 0 := by omega
  generalize 1000 * n / d = q at *
  go_enter Try.func57, Try.ntmps57
  go_wp2
  go_ret
  exact ⟨ret_int (by omega), rfl⟩
set_option maxRecDepth 100000 in
set_option maxHeartbeats 1000000 in
theorem co_saturation (c : C3) (hc : isC c = true) (w : World) : Calls Try.prog 42 #[vC c] w fun e w' => e = .returned (.int .i64 (satR c)) ∧ Gr w w' := by
  have HX := Lib.hid (fun w => co_greatest c w)
  have HY := Lib.hid (fun w => co_least c w)
  have hb := isC_iff.1 hc
  have hm := max3_facts c
  have HG := Lib.hid ((Gr.refl w).alloc (.cells #[.int .i64 c.1, .int .i64 c.2.1, .int .i64 c.2.2] 23))
  have HC := Lib.hid (C3At.new w c)
  obtain ⟨s, hs⟩ : ∃ s, satR c = s := ⟨_, rfl⟩
  rw [hs]
  unfold satR at hs
  obtain ⟨x, y, z⟩ := c
  generalize max3 (x, y, z) = m at *
  generalize min3 (x, y, z) = k at *
  simp only at hb hm HG
  have b0 : 0 ≤ m := by omega
  have b1 : m ≤ 65535 := by omega
  have b2 : 0 ≤ k := by omega
  have b3 : k ≤ m := by omega
  clear hb hm hc
  unfold vC at HX HY ⊢
  by_cases hz : m = 0
  · rw [if_pos hz] at hs
    subst hs
    subst hz
    go_enter Try.func42, Try.ntmps42
    go_wp2_with fail
    refine (HX.out _).mono ?_; rintro e w1 ⟨rfl, hg1⟩
    have HG1 := Lib.hid (HG.out.trans hg1)
    clear hg1
    go_wp2
    go_ret
    exact ⟨rfl, HG1.out⟩
  · rw [if_neg hz] at hs
    have hq : (131070 * (m - k) + m).tdiv (2 * m) = s := by rw [Int.tdiv_eq_ediv_of_nonneg (by omega)]; exact hs
    have HQ := Lib.hid hq
    have hz2 : (m == 0) = false := by simp [hz]
    have hz3 : ¬ 2 * m = 0 := by omega
    have s0 : 0 ≤ s := by rw [← hs]; exact Int.ediv_nonneg (by omega) (by omega)
    have s1 : s ≤ 131070 * 65536 := by
      rw [← hs]
      exact Int.le_trans (Int.ediv_le_self _ (by omega)) (by omega)
    clear hs
    go_enter Try.func42, Try.ntmps42
    go_wp2_with fail
    refine (HX.out _).mono ?_; rintro e w1 ⟨rfl, hg1⟩
    have HG1 := Lib.hid (HG.out.trans hg1)
    have HC1 := Lib.hid (HC.out.gr hg1)
    clear hg1
    go_wp2_with (first | (refine wpl_load3 rfl rfl rfl HC1.out ?_))
    refine (HY.out _).mono ?_; rintro e w2 ⟨rfl, hg2⟩
    have HG2 := Lib.hid (HG1.out.trans hg2)
    clear hg2
    go_wp2
    go_ret
    exact ⟨rfl, HG2.out⟩
set_option maxRecDepth 100000 in
set_option maxHeartbeats 2000000 in
theorem co_hue (c : C3) (hc : isC c = true) (w : World) : Calls Try.prog 41 #[vC c] w fun e w' => e = .returned (.int .i64 (hueR c)) ∧ Gr w w' := by
  have HX := Lib.hid (fun w => co_greatest c w)
  have HY := Lib.hid (fun w => co_least c w)
  have hb := isC_iff.1 hc
  have hm := max3_facts c
  have HG := Lib.hid ((Gr.refl w).alloc (.cells #[.int .i64 c.1, .int .i64 c.2.1, .int .i64 c.2.2] 23))
  have HC := Lib.hid (C3At.new w c)
  obtain ⟨s, hs⟩ : ∃ s, hueR c = s := ⟨_, rfl⟩
  rw [hs]
  unfold hueR at hs
  obtain ⟨x, y, z⟩ := c
  generalize max3 (x, y, z) = m at *
  generalize min3 (x, y, z) = k at *
  simp only at hb hm HG hs HC
  have b0 : 0 ≤ k := by omega
  have b1 : m ≤ 65535 := by omega
  obtain ⟨m1, m2, m3, m4, m5, m6, m7, -⟩ := hm
  have HT := Lib.hid (fun (n : Int) (hd : 0 < m - k) (h0 : -(m - k) ≤ n) (h1 : n ≤ m - k) w => co_turn hd (by omega) h0 h1 w)
  clear hb hc
  unfold vC at HX HY ⊢
  by_cases hz : m = k
  · rw [if_pos hz] at hs
    subst hs
    have hd : m - k = 0 := by omega
    clear m7
    go_enter Try.func41, Try.ntmps41
    go_wp2_with fail
    go_region
    have HCd := Lib.hid (show C3At (w.alloc (.cells #[.int .i64 x, .int .i64 y, .int .i64 z] 23)).drew w.heap.size (x, y, z) from HC.out.drew)
    have HGd := Lib.hid (show Gr w (w.alloc (.cells #[.int .i64 x, .int .i64 y, .int .i64 z] 23)).drew from HG.out.drew)
    generalize (w.alloc (.cells #[.int .i64 x, .int .i64 y, .int .i64 z] 23)).drew = w0 at *
    go_wp2_with (first | (refine wpl_load3 rfl rfl rfl HCd.out ?_))
    refine (HX.out _).mono ?_; rintro e w1 ⟨rfl, hg1⟩
    have HG1 := Lib.hid (HGd.out.trans hg1)
    have HC1 := Lib.hid (HCd.out.gr hg1)
    clear hg1
    go_wp2_with (first | (refine wpl_load3 rfl rfl rfl HC1.out ?_))
    refine (HY.out _).mono ?_; rintro e w2 ⟨rfl, hg2⟩
    have HG2 := Lib.hid (HG1.out.trans hg2)
    clear hg2
    go_wp2
    go_ret
    exact ⟨rfl, HG2.out⟩
  · rw [if_neg hz] at hs
    have hdp : 0 < m - k := by omega
    have hd : (m - k == 0) = false := by simp; omega
    by_cases hr : m = x
    · rw [if_pos hr] at hs
      have HT1 := Lib.hid (HT.out (y - z) hdp (by omega) (by omega))
      obtain ⟨q0, q1⟩ := turn_le (n := y - z) hdp (by omega) (by omega)
      have hq := hueF_mod q0 q1
      rw [hs] at hq
      have e1 : (m == x) = true := by simp [hr]
      have s0 : -10000 ≤ s := by rw [← hs]; unfold hueF; split <;> omega
      have s1 : s ≤ 10000 := by rw [← hs]; unfold hueF; split <;> omega
      generalize 1000 * (y - z) / (m - k) = q at *
      clear hs HT m7 hr
      go_enter Try.func41, Try.ntmps41
      go_wp2_with fail
      go_region
      have HCd := Lib.hid (show C3At (w.alloc (.cells #[.int .i64 x, .int .i64 y, .int .i64 z] 23)).drew w.heap.size (x, y, z) from HC.out.drew)
      have HGd := Lib.hid (show Gr w (w.alloc (.cells #[.int .i64 x, .int .i64 y, .int .i64 z] 23)).drew from HG.out.drew)
      generalize (w.alloc (.cells #[.int .i64 x, .int .i64 y, .int .i64 z] 23)).drew = w0 at *
      go_wp2_with (first | (refine wpl_load3 rfl rfl rfl HCd.out ?_))
      refine (HX.out _).mono ?_; rintro e w1 ⟨rfl, hg1⟩
      have HG1 := Lib.hid (HGd.out.trans hg1)
      have HC1 := Lib.hid (HCd.out.gr hg1)
      clear hg1
      go_wp2_with (first | (refine wpl_load3 rfl rfl rfl HC1.out ?_))
      refine (HY.out _).mono ?_; rintro e w2 ⟨rfl, hg2⟩
      have HG2 := Lib.hid (HG1.out.trans hg2)
      clear hg2
      go_wp2_with fail
      refine (HT1.out _).mono ?_; rintro e w3 ⟨rfl, hw3⟩
      subst hw3
      go_wp2
      go_ret
      exact ⟨rfl, HG2.out⟩
    · rw [if_neg hr] at hs
      have e1 : (m == x) = false := by simp [hr]
      by_cases hg : m = y
      · rw [if_pos hg] at hs
        have HT1 := Lib.hid (HT.out (z - x) hdp (by omega) (by omega))
        obtain ⟨q0, q1⟩ := turn_le (n := z - x) hdp (by omega) (by omega)
        generalize 1000 * (z - x) / (m - k) = q at *
        have hs2 : 2000 + q = s := by rw [← hs]; unfold hueF; rw [if_neg (by omega)]
        have HS := Lib.hid hs2
        have e2 : (m == y) = true := by simp [hg]
        clear hs hs2 HT m7 hr hg
        go_enter Try.func41, Try.ntmps41
        go_wp2_with fail
        go_region
        have HCd := Lib.hid (show C3At (w.alloc (.cells #[.int .i64 x, .int .i64 y, .int .i64 z] 23)).drew w.heap.size (x, y, z) from HC.out.drew)
        have HGd := Lib.hid (show Gr w (w.alloc (.cells #[.int .i64 x, .int .i64 y, .int .i64 z] 23)).drew from HG.out.drew)
        generalize (w.alloc (.cells #[.int .i64 x, .int .i64 y, .int .i64 z] 23)).drew = w0 at *
        go_wp2_with (first | (refine wpl_load3 rfl rfl rfl HCd.out ?_))
        refine (HX.out _).mono ?_; rintro e w1 ⟨rfl, hg1⟩
        have HG1 := Lib.hid (HGd.out.trans hg1)
        have HC1 := Lib.hid (HCd.out.gr hg1)
        clear hg1
        go_wp2_with (first | (refine wpl_load3 rfl rfl rfl HC1.out ?_))
        refine (HY.out _).mono ?_; rintro e w2 ⟨rfl, hg2⟩
        have HG2 := Lib.hid (HG1.out.trans hg2)
        clear hg2
        go_wp2_with fail
        refine (HT1.out _).mono ?_; rintro e w3 ⟨rfl, hw3⟩
        subst hw3
        go_wp2
        go_ret
        exact ⟨ret_int HS.out, HG2.out⟩
      · rw [if_neg hg] at hs
        have HT1 := Lib.hid (HT.out (x - y) hdp (by omega) (by omega))
        obtain ⟨q0, q1⟩ := turn_le (n := x - y) hdp (by omega) (by omega)
        generalize 1000 * (x - y) / (m - k) = q at *
        have hs2 : 4000 + q = s := by rw [← hs]; unfold hueF; rw [if_neg (by omega)]
        have HS := Lib.hid hs2
        have e2 : (m == y) = false := by simp [hg]
        clear hs hs2 HT m7 hr hg
        go_enter Try.func41, Try.ntmps41
        go_wp2_with fail
        go_region
        have HCd := Lib.hid (show C3At (w.alloc (.cells #[.int .i64 x, .int .i64 y, .int .i64 z] 23)).drew w.heap.size (x, y, z) from HC.out.drew)
        have HGd := Lib.hid (show Gr w (w.alloc (.cells #[.int .i64 x, .int .i64 y, .int .i64 z] 23)).drew from HG.out.drew)
        generalize (w.alloc (.cells #[.int .i64 x, .int .i64 y, .int .i64 z] 23)).drew = w0 at *
        go_wp2_with (first | (refine wpl_load3 rfl rfl rfl HCd.out ?_))
        refine (HX.out _).mono ?_; rintro e w1 ⟨rfl, hg1⟩
        have HG1 := Lib.hid (HGd.out.trans hg1)
        have HC1 := Lib.hid (HCd.out.gr hg1)
        clear hg1
        go_wp2_with (first | (refine wpl_load3 rfl rfl rfl HC1.out ?_))
        refine (HY.out _).mono ?_; rintro e w2 ⟨rfl, hg2⟩
        have HG2 := Lib.hid (HG1.out.trans hg2)
        clear hg2
        go_wp2_with fail
        refine (HT1.out _).mono ?_; rintro e w3 ⟨rfl, hw3⟩
        subst hw3
        go_wp2
        go_ret
        exact ⟨ret_int HS.out, HG2.out⟩
end Go.Proofs.Ytipfofdjngnkpaa
