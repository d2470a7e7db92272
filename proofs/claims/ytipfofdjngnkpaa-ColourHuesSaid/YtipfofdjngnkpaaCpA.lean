/- Law 11: ColourHues. -/
import Derived.Test.YtipfofdjngnkpaaCoY
set_option linter.unusedVariables false
set_option linter.unusedSimpArgs false
namespace Go.Proofs.Ytipfofdjngnkpaa.Z
open Go
theorem mul_max' {b x y : Int} (hb : 0 ≤ b) : max (b * x) (b * y) = b * max x y := by
  rcases Int.le_total x y with h | h
  · rw [Int.max_eq_right h, Int.max_eq_right (Int.mul_le_mul_of_nonneg_left h hb)]
  · rw [Int.max_eq_left h, Int.max_eq_left (Int.mul_le_mul_of_nonneg_left h hb)]
theorem mul_min' {b x y : Int} (hb : 0 ≤ b) : min (b * x) (b * y) = b * min x y := by
  rcases Int.le_total x y with h | h
  · rw [Int.min_eq_left h, Int.min_eq_left (Int.mul_le_mul_of_nonneg_left h hb)]
  · rw [Int.min_eq_right h, Int.min_eq_right (Int.mul_le_mul_of_nonneg_left h hb)]
def mulC (b : Int) (c : C3) : C3 := (b * c.1, b * c.2.1, b * c.2.2)
theorem max3_mul {b : Int} (c : C3) (hb : 0 ≤ b) : max3 (mulC b c) = b * max3 c := by unfold max3 mulC; simp only; rw [mul_max' hb, mul_max' hb]
theorem min3_mul {b : Int} (c : C3) (hb : 0 ≤ b) : min3 (mulC b c) = b * min3 c := by unfold min3 mulC; simp only; rw [mul_min' hb, mul_min' hb]
theorem mul_inj' {b x y : Int} (hb : 0 < b) : b * x = b * y ↔ x = y := ⟨fun h => Int.eq_of_mul_eq_mul_left (by omega) h, fun h => by rw [h]⟩
theorem quo_mul {b u m k : Int} (hb : 0 < b) : 1000 * (b * u) / (b * m - b * k) = 1000 * u / (m - k) := by
  rw [show 1000 * (b * u) = b * (1000 * u) by rw [← Int.mul_assoc, ← Int.mul_assoc, Int.mul_comm 1000 b], ← Int.mul_sub, Int.mul_ediv_mul_of_pos _ _ hb]
theorem hueR_mul {b : Int} (c : C3) (hb : 0 < b) : hueR (mulC b c) = hueR c := by
  unfold hueR
  rw [max3_mul c (by omega), min3_mul c (by omega)]
  generalize max3 c = m
  generalize min3 c = k
  obtain ⟨x, y, z⟩ := c
  unfold mulC
  simp only [mul_inj' hb, ← Int.mul_sub]
  rw [Int.mul_sub b m k, quo_mul hb, quo_mul hb, quo_mul hb]
theorem satR_mul {b : Int} (c : C3) (hb : 0 < b) : satR (mulC b c) = satR c := by
  unfold satR
  rw [max3_mul c (by omega), min3_mul c (by omega)]
  generalize max3 c = m
  generalize min3 c = k
  by_cases h : m = 0
  · subst h; simp
  · rw [if_neg h, if_neg (by intro e; rcases Int.mul_eq_zero.1 e with e | e <;> omega)]
    rw [show 131070 * (b * m - b * k) + b * m = b * (131070 * (m - k) + m) by rw [← Int.mul_sub, ← Int.mul_assoc, Int.mul_comm 131070 b, Int.mul_assoc, ← Int.mul_add],
      show 2 * (b * m) = b * (2 * m) by rw [← Int.mul_assoc, Int.mul_comm 2 b, Int.mul_assoc], Int.mul_ediv_mul_of_pos _ _ hb]
theorem hueR_range {c : C3} : 0 ≤ hueR c ∧ hueR c ≤ 5999 := by
  have hm := max3_facts c
  unfold hueR
  generalize max3 c = m at *
  generalize min3 c = k at *
  obtain ⟨x, y, z⟩ := c
  simp only at *
  split
  · omega
  · have hp : 0 < m - k := by omega
    split
    · obtain ⟨q0, q1⟩ := turn_le (n := y - z) hp (by omega) (by omega)
      unfold hueF; split <;> omega
    · split
      · obtain ⟨q0, q1⟩ := turn_le (n := z - x) hp (by omega) (by omega)
        unfold hueF; split <;> omega
      · obtain ⟨q0, q1⟩ := turn_le (n := x - y) hp (by omega) (by omega)
        unfold hueF; split <;> omega
theorem hueR_grey {c : C3} (h : max3 c = min3 c) (h0 : 0 ≤ min3 c) : hueR c = 0 ∧ satR c = 0 := by
  unfold hueR satR
  rw [if_pos h, h]
  refine ⟨rfl, ?_⟩
  split
  · rfl
  · rename_i h2
    have hm := max3_facts c
    rw [show 131070 * (min3 c - min3 c) + min3 c = min3 c by omega]
    exact Int.ediv_eq_zero_of_lt (by omega) (by omega)
theorem satR_dark {c : C3} (h : min3 c = 0) (h0 : 0 < max3 c) : satR c = 65535 := by
  unfold satR
  rw [if_neg (by omega), h]
  generalize max3 c = m at *
  have e : 131070 * (m - 0) + m = m + 65535 * (2 * m) := by omega
  rw [e, Int.add_mul_ediv_right _ _ (by omega), Int.ediv_eq_zero_of_lt (by omega) (by omega)]
  rfl
theorem satR_mid {c : C3} (h : 0 < min3 c) (h1 : min3 c < max3 c) (h2 : max3 c ≤ 65535) : 0 < satR c ∧ satR c < 65535 := by
  unfold satR
  rw [if_neg (by omega)]
  generalize max3 c = m at *
  generalize min3 c = k at *
  constructor
  · rw [show (0 : Int) < (131070 * (m - k) + m) / (2 * m) ↔ 1 ≤ (131070 * (m - k) + m) / (2 * m) from Iff.rfl, Int.le_ediv_iff_mul_le (by omega)]
    omega
  · rw [Int.ediv_lt_iff_lt_mul (by omega)]
    omega
end Go.Proofs.Ytipfofdjngnkpaa.Z
namespace Go.Proofs.Ytipfofdjngnkpaa
open Go.RowKit
open Z
set_option maxRecDepth 100000 in
set_option maxHeartbeats 4000000 in
theorem l11_ColourHues {x y z k : Int} (hx : 0 ≤ x ∧ x ≤ 255) (hy : 0 ≤ y ∧ y ≤ 255) (hz : 0 ≤ z ∧ z ≤ 255) (hk : 0 ≤ k ∧ k ≤ 255) (w : World) :
    Calls Try.prog 9 #[.agg #[.int .u8 x, .int .u8 y, .int .u8 z], .int .u8 k] w fun e w' => e = .returned (.bool true) ∧ Gr w w' := by
  obtain ⟨x0, x1⟩ := hx
  obtain ⟨y0, y1⟩ := hy
  obtain ⟨z0, z1⟩ := hz
  obtain ⟨k0, k1⟩ := hk
  have hq : k.tmod 257 = k := Int.tmod_eq_of_lt k0 (by omega)
  obtain ⟨b, hb⟩ : ∃ b, 1 + k = b := ⟨_, rfl⟩
  have b0 : 0 < b := by omega
  have b1 : b ≤ 256 := by omega
  have hm := max3_facts (x, y, z)
  have hC : isC (x, y, z) = true := isC_iff.2 ⟨⟨x0, by simp only; omega⟩, ⟨y0, by simp only; omega⟩, ⟨z0, by simp only; omega⟩⟩
  have bound : ∀ u : Int, 0 ≤ u → u ≤ 255 → 0 ≤ b * u ∧ b * u ≤ 65280 := fun u h0 h1 => ⟨Int.mul_nonneg (by omega) h0, by
    have h2 : b * u ≤ 256 * u := Int.mul_le_mul_of_nonneg_right b1 h0
    omega⟩
  obtain ⟨p0, p1⟩ := bound x x0 x1
  obtain ⟨q0, q1⟩ := bound y y0 y1
  obtain ⟨r0, r1⟩ := bound z z0 z1
  have hCm : isC (mulC b (x, y, z)) = true := isC_iff.2 ⟨⟨p0, by simp only [mulC]; omega⟩, ⟨q0, by simp only [mulC]; omega⟩, ⟨r0, by simp only [mulC]; omega⟩⟩
  have w1 : wheelR (x, y, z) = ((hueR (x, y, z), satR (x, y, z), max3 (x, y, z)), 0) := by unfold wheelR; rw [if_pos hC]
  have w2 : wheelR (mulC b (x, y, z)) = ((hueR (x, y, z), satR (x, y, z), b * max3 (x, y, z)), 0) := by unfold wheelR; rw [if_pos hCm, hueR_mul _ b0, satR_mul _ b0, max3_mul _ (by omega)]
  have HA := Lib.hid (fun w => co_Wheel (x, y, z) w)
  have HB := Lib.hid (fun w => co_Wheel (mulC b (x, y, z)) w)
  rw [w1] at HA
  rw [w2] at HB
  obtain ⟨h0, h1⟩ := hueR_range (c := (x, y, z))
  have HGR := Lib.hid (fun e e0 => hueR_grey (c := (x, y, z)) e e0)
  have HDK := Lib.hid (fun e e0 => satR_dark (c := (x, y, z)) e e0)
  have HMD := Lib.hid (fun e e0 e1 => satR_mid (c := (x, y, z)) e e0 e1)
  have EX : Hid ((if (if x < y then y else x) < z then z else if x < y then y else x) = max3 (x, y, z)) := Lib.hid (by
    simp only [max3]
    repeat' split
    all_goals omega)
  have EN : Hid ((if z < (if y < x then y else x) then z else if y < x then y else x) = min3 (x, y, z)) := Lib.hid (by
    simp only [min3]
    repeat' split
    all_goals omega)
  unfold mulC at HB
  simp only at HB hm
  obtain ⟨P, hP⟩ : ∃ P, b * x = P := ⟨_, rfl⟩
  obtain ⟨Q, hQ⟩ : ∃ P, b * y = P := ⟨_, rfl⟩
  obtain ⟨R, hR⟩ : ∃ P, b * z = P := ⟨_, rfl⟩
  obtain ⟨t0, t1⟩ := bound (max3 (x, y, z)) (by omega) (by omega)
  obtain ⟨M, hM⟩ : ∃ M, b * max3 (x, y, z) = M := ⟨_, rfl⟩
  rw [hP] at HB p0 p1
  rw [hQ] at HB q0 q1
  rw [hR] at HB r0 r1
  rw [hM] at HB t0 t1
  generalize hueR (x, y, z) = hu at *
  generalize satR (x, y, z) = sa at *
  generalize max3 (x, y, z) = m at *
  generalize min3 (x, y, z) = mn at *
  clear hC hCm w1 w2 bound
  have d0 : decide (hu < 0) = false := decide_eq_false (by omega)
  have d1 : decide (5999 < hu) = false := decide_eq_false (by omega)
  unfold vC at HA HB
  go_enter Try.func9, Try.ntmps9
  go_wp2_with fail
  have G0 : Gr w (((w.alloc (.cells #[.int .u8 x, .int .u8 y, .int .u8 z] 50)).alloc (.cells #[.int .i64 x, .int .i64 y, .int .i64 z] 23)).alloc (.cells #[.int .i64 P, .int .i64 Q, .int .i64 R] 23)) := (((Gr.refl w).alloc _).alloc _).alloc _
  have E6a := (C3At.new (w.alloc (.cells #[.int .u8 x, .int .u8 y, .int .u8 z] 50)) (x, y, z)).gr ((Gr.refl _).alloc (.cells #[.int .i64 P, .int .i64 Q, .int .i64 R] 23))
  have E7a := C3At.new ((w.alloc (.cells #[.int .u8 x, .int .u8 y, .int .u8 z] 50)).alloc (.cells #[.int .i64 x, .int .i64 y, .int .i64 z] 23)) (P, Q, R)
  simp only [World.size_alloc] at E6a E7a
  refine (HA.out _).mono ?_; rintro e w1 ⟨rfl, hg1⟩
  have E6b := E6a.gr hg1
  have E7b := E7a.gr hg1
  have G1 := G0.trans hg1
  obtain ⟨w2, hw2⟩ : ∃ v, v = (w1.alloc (.cells #[.int .i64 0, .int .i64 0, .int .i64 0] 23)).setRow w1.heap.size #[.int .i64 hu, .int .i64 sa, .int .i64 m] := ⟨_, rfl⟩
  have H8 : C3At w2 w1.heap.size (hu, sa, m) := by rw [hw2]; exact (C3At.new w1 (0, 0, 0)).row (hu, sa, m)
  have X2 : Gr w1 w2 := by rw [hw2]; exact ((Gr.refl _).alloc (.cells #[.int .i64 0, .int .i64 0, .int .i64 0] 23)).row (g := w1.heap.size) (Nat.le_refl _) _
  have E6 := Lib.hid (E6b.gr X2)
  have E7 := Lib.hid (E7b.gr X2)
  have HG2 := Lib.hid (G1.trans X2)
  have H8h := Lib.hid H8
  have HW2 := Lib.hid hw2
  clear E6a E7a E6b E7b hg1 G0 G1 X2 H8 hw2
  go_wp2_with (first | (refine wpl_store3 (c := (hu, sa, m)) rfl rfl rfl rfl (C3At.new w1 (0, 0, 0)) ?_; rw [← HW2.out]) | (refine wpl_load3 (c := (P, Q, R)) rfl rfl rfl E7.out ?_))
  refine (HB.out _).mono ?_; rintro e w3 ⟨rfl, hg3⟩
  obtain ⟨w4, hw4⟩ : ∃ v, v = (w3.alloc (.cells #[.int .i64 0, .int .i64 0, .int .i64 0] 23)).setRow w3.heap.size #[.int .i64 hu, .int .i64 sa, .int .i64 M] := ⟨_, rfl⟩
  have H10 : C3At w4 w3.heap.size (hu, sa, M) := by rw [hw4]; exact (C3At.new w3 (0, 0, 0)).row (hu, sa, M)
  have X4 : Gr w3 w4 := by rw [hw4]; exact ((Gr.refl _).alloc (.cells #[.int .i64 0, .int .i64 0, .int .i64 0] 23)).row (g := w3.heap.size) (Nat.le_refl _) _
  have F6 := E6.out.gr (hg3.trans X4)
  have F8 := H8h.out.gr (hg3.trans X4)
  have HG4 := Lib.hid (HG2.out.trans (hg3.trans X4))
  have a0 := F6.c0
  have a1 := F6.c1
  have a2 := F6.c2
  have b0' := F8.c0
  have b1' := F8.c1
  have b2' := F8.c2
  have c0 := H10.c0
  have c1 := H10.c1
  have c2 := H10.c2
  simp only at a0 a1 a2 b0' b1' b2' c0 c1 c2
  have HW4 := Lib.hid hw4
  have ex := EX.out
  have en := EN.out
  clear F6 F8 H10 X4 hg3 hw4 E6 E7 H8h HW2 HG2 HA HB EX EN
  by_cases hgr : x = y ∧ y = z
  · have hmm : m = mn := by omega
    obtain ⟨g1, g2⟩ := HGR.out hmm (by omega)
    subst g1
    subst g2
    have e1 : (x == y) = true := by rw [beq_iff_eq]; exact hgr.1
    have e2 : (y == z) = true := by rw [beq_iff_eq]; exact hgr.2
    clear HGR HDK HMD hgr hmm hm
    go_wp2_with (first | (refine wpl_store3 (c := (0, 0, M)) rfl rfl rfl rfl (C3At.new w3 (0, 0, 0)) ?_; rw [← HW4.out]))
    refine (l11_awake _).mono ?_; rintro e w9 ⟨rfl, hg9⟩
    have HG9 := Lib.hid (HG4.out.trans hg9)
    clear hg9
    go_wp2
    go_ret
    exact ⟨rfl, HG9.out⟩
  · have hlt : mn < m := by omega
    by_cases hz : mn = 0
    · have g2 := HDK.out hz (by omega)
      subst g2
      have ez : (mn == 0) = true := by rw [beq_iff_eq]; exact hz
      clear HGR HDK HMD hm hz
      by_cases hxy : x = y
      · have e1 : (x == y) = true := by rw [beq_iff_eq]; exact hxy
        have e2 : (y == z) = false := by rw [beq_eq_false_iff_ne]; intro e; exact hgr ⟨hxy, e⟩
        clear hgr hxy
        go_wp2_with (first | (refine wpl_store3 (c := (hu, 65535, M)) rfl rfl rfl rfl (C3At.new w3 (0, 0, 0)) ?_; rw [← HW4.out]))
        refine (l11_awake _).mono ?_; rintro e w9 ⟨rfl, hg9⟩
        have HG9 := Lib.hid (HG4.out.trans hg9)
        clear hg9
        go_wp2
        go_ret
        exact ⟨rfl, HG9.out⟩
      · have e1 : (x == y) = false := by rw [beq_eq_false_iff_ne]; exact hxy
        clear hgr hxy
        go_wp2_with (first | (refine wpl_store3 (c := (hu, 65535, M)) rfl rfl rfl rfl (C3At.new w3 (0, 0, 0)) ?_; rw [← HW4.out]))
        refine (l11_awake _).mono ?_; rintro e w9 ⟨rfl, hg9⟩
        have HG9 := Lib.hid (HG4.out.trans hg9)
        clear hg9
        go_wp2
        go_ret
        exact ⟨rfl, HG9.out⟩
    · obtain ⟨s0, s1⟩ := HMD.out (by omega) hlt (by omega)
      have ez : (mn == 0) = false := by rw [beq_eq_false_iff_ne]; exact hz
      have ds : decide (0 < sa) = true := decide_eq_true s0
      have ds1 : decide (sa < 65535) = true := decide_eq_true s1
      clear HGR HDK HMD hm hz
      by_cases hxy : x = y
      · have e1 : (x == y) = true := by rw [beq_iff_eq]; exact hxy
        have e2 : (y == z) = false := by rw [beq_eq_false_iff_ne]; intro e; exact hgr ⟨hxy, e⟩
        clear hgr hxy
        go_wp2_with (first | (refine wpl_store3 (c := (hu, sa, M)) rfl rfl rfl rfl (C3At.new w3 (0, 0, 0)) ?_; rw [← HW4.out]))
        refine (l11_awake _).mono ?_; rintro e w9 ⟨rfl, hg9⟩
        have HG9 := Lib.hid (HG4.out.trans hg9)
        clear hg9
        go_wp2
        go_ret
        exact ⟨rfl, HG9.out⟩
      · have e1 : (x == y) = false := by rw [beq_eq_false_iff_ne]; exact hxy
        clear hgr hxy
        go_wp2_with (first | (refine wpl_store3 (c := (hu, sa, M)) rfl rfl rfl rfl (C3At.new w3 (0, 0, 0)) ?_; rw [← HW4.out]))
        refine (l11_awake _).mono ?_; rintro e w9 ⟨rfl, hg9⟩
        have HG9 := Lib.hid (HG4.out.trans hg9)
        clear hg9
        go_wp2
        go_ret
        exact ⟨rfl, HG9.out⟩
end Go.Proofs.Ytipfofdjngnkpaa
