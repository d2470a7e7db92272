/- Law 14: GroupFans, GroupSpreads. -/
import Derived.Test.YtmcngnnbfmjajaaGpK
set_option linter.unusedVariables false
set_option linter.unusedSimpArgs false
namespace Go.Proofs.Ytmcngnnbfmjajaa.Z
open Go
def fanR (a b n : Int) : List Int × Int := if okF a b n = true then (fanL a b n.toNat, 0) else ([], 2)
def cenR (a b n : Int) : List Int × Int := if okF a b n = true then (cenL a b n.toNat, 0) else ([], 2)
theorem spread_step {a b q le mo x y p : Int} (hq : 0 < q) (h1 : b - a < q * (le + 1)) (h2 : q * (mo - 1) < b - a) (hx : x = btw a b (p + 1) q) (hy : y = btw a b p q) :
    b - a < q * (min le (x - y) + 1) ∧ q * (max mo (x - y) - 1) < b - a := by
  have h := btw_step a b p 1 q hq
  rw [← hx, ← hy, Int.mul_one] at h
  constructor
  · rcases Int.le_total le (x - y) with h3 | h3
    · rw [Int.min_eq_left h3]; exact h1
    · rw [Int.min_eq_right h3]; exact h.1
  · rcases Int.le_total mo (x - y) with h3 | h3
    · rw [Int.max_eq_right h3]; exact h.2
    · rw [Int.max_eq_left h3]; exact h2
theorem spread_end {a b q le mo : Int} (hq : 0 < q) (h1 : b - a < q * (le + 1)) (h2 : q * (mo - 1) < b - a) : mo - le ≤ 1 ∧ (a ≤ b → 0 ≤ le) ∧ (b ≤ a → mo ≤ 0) := by
  refine ⟨?_, fun h => ?_, fun h => ?_⟩
  · have h3 : mo - 1 < le + 1 := Int.lt_of_mul_lt_mul_left (Int.lt_trans h2 h1) (by omega)
    omega
  · have h3 : 0 < le + 1 := Int.lt_of_mul_lt_mul_left (show q * 0 < q * (le + 1) by rw [Int.mul_zero]; omega) (by omega)
    omega
  · have h3 : mo - 1 < 0 := Int.lt_of_mul_lt_mul_left (show q * (mo - 1) < q * 0 by rw [Int.mul_zero]; omega) (by omega)
    omega
theorem spread_zero {a b q : Int} (hq : 0 < q) (ha : 0 ≤ a) (ha2 : a ≤ 65535) (hb : 0 ≤ b) (hb2 : b ≤ 65535) : b - a < q * (65535 + 1) ∧ q * (-65535 - 1) < b - a := by
  omega
end Go.Proofs.Ytmcngnnbfmjajaa.Z
namespace Go.Proofs.Ytmcngnnbfmjajaa
open Go.RowKit
open Z
theorem gp_FanR (a b n : Int) (w : World) : Calls Try.prog 26 #[.int .i64 a, .int .i64 b, .int .i64 n] w fun e w' => (∃ p c, e = .returned (.tuple #[.slice p (fanR a b n).1.length c, .int .i64 (fanR a b n).2]) ∧ RdI w' p (fanR a b n).1 ∧ (fanR a b n).1.length ≤ 256) ∧ Gr w w' := by
  unfold fanR
  cases h : okF a b n
  · rw [if_neg (by simp)]
    refine (gp_Fan_err w h).mono ?_
    rintro e w' ⟨rfl, hg⟩
    exact ⟨⟨none, 0, rfl, RdI.nil _ _, by simp⟩, hg⟩
  · rw [if_pos rfl]
    obtain ⟨h1, h2, h3, h4, h5, h6⟩ := okF_iff.1 h
    obtain ⟨m, rfl⟩ : ∃ m : Nat, n = (m : Int) := ⟨n.toNat, by omega⟩
    refine (gp_Fan (m := m) w h1 h2 h3 h4 (by omega)).mono ?_
    rintro e w' ⟨⟨v, rfl, ho⟩, hg⟩
    obtain ⟨p, c, rfl, hr, -⟩ := ho.shape
    rw [Int.toNat_natCast]
    exact ⟨⟨p, c, rfl, hr, by rw [fanL_len]; omega⟩, hg⟩
theorem gp_CentreR (a b n : Int) (w : World) : Calls Try.prog 28 #[.int .i64 a, .int .i64 b, .int .i64 n] w fun e w' => (∃ p c, e = .returned (.tuple #[.slice p (cenR a b n).1.length c, .int .i64 (cenR a b n).2]) ∧ RdI w' p (cenR a b n).1 ∧ (cenR a b n).1.length ≤ 256) ∧ Gr w w' := by
  unfold cenR
  cases h : okF a b n
  · rw [if_neg (by simp)]
    refine (gp_Centre_err w h).mono ?_
    rintro e w' ⟨rfl, hg⟩
    exact ⟨⟨none, 0, rfl, RdI.nil _ _, by simp⟩, hg⟩
  · rw [if_pos rfl]
    obtain ⟨h1, h2, h3, h4, h5, h6⟩ := okF_iff.1 h
    obtain ⟨m, rfl⟩ : ∃ m : Nat, n = (m : Int) := ⟨n.toNat, by omega⟩
    refine (gp_Centre (m := m) w h1 h2 h3 h4 (by omega)).mono ?_
    rintro e w' ⟨⟨v, rfl, ho⟩, hg⟩
    obtain ⟨p, c, rfl, hr, -⟩ := ho.shape
    rw [Int.toNat_natCast]
    exact ⟨⟨p, c, rfl, hr, by rw [cenL_len]; omega⟩, hg⟩
theorem r14_FanR (a b n : Int) (w : World) : Calls Try.prog 27 #[.int .i64 a, .int .i64 b, .int .i64 n] w fun e w' => (∃ p c, e = .returned (.tuple #[.slice p (fanR a b n).1.length c, .int .i64 (fanR a b n).2]) ∧ RdI w' p (fanR a b n).1 ∧ (fanR a b n).1.length ≤ 256) ∧ Gr w w' := by
  unfold fanR
  cases h : okF a b n
  · rw [if_neg (by simp)]
    refine (r14_Fan_err w h).mono ?_
    rintro e w' ⟨rfl, hg⟩
    exact ⟨⟨none, 0, rfl, RdI.nil _ _, by simp⟩, hg⟩
  · rw [if_pos rfl]
    obtain ⟨h1, h2, h3, h4, h5, h6⟩ := okF_iff.1 h
    obtain ⟨m, rfl⟩ : ∃ m : Nat, n = (m : Int) := ⟨n.toNat, by omega⟩
    refine (r14_Fan (m := m) w h1 h2 h3 h4 (by omega)).mono ?_
    rintro e w' ⟨⟨v, rfl, ho⟩, hg⟩
    obtain ⟨p, c, rfl, hr, -⟩ := ho.shape
    rw [Int.toNat_natCast]
    exact ⟨⟨p, c, rfl, hr, by rw [fanL_len]; omega⟩, hg⟩
theorem r14_CentreR (a b n : Int) (w : World) : Calls Try.prog 29 #[.int .i64 a, .int .i64 b, .int .i64 n] w fun e w' => (∃ p c, e = .returned (.tuple #[.slice p (cenR a b n).1.length c, .int .i64 (cenR a b n).2]) ∧ RdI w' p (cenR a b n).1 ∧ (cenR a b n).1.length ≤ 256) ∧ Gr w w' := by
  unfold cenR
  cases h : okF a b n
  · rw [if_neg (by simp)]
    refine (r14_Centre_err w h).mono ?_
    rintro e w' ⟨rfl, hg⟩
    exact ⟨⟨none, 0, rfl, RdI.nil _ _, by simp⟩, hg⟩
  · rw [if_pos rfl]
    obtain ⟨h1, h2, h3, h4, h5, h6⟩ := okF_iff.1 h
    obtain ⟨m, rfl⟩ : ∃ m : Nat, n = (m : Int) := ⟨n.toNat, by omega⟩
    refine (r14_Centre (m := m) w h1 h2 h3 h4 (by omega)).mono ?_
    rintro e w' ⟨⟨v, rfl, ho⟩, hg⟩
    obtain ⟨p, c, rfl, hr, -⟩ := ho.shape
    rw [Int.toNat_natCast]
    exact ⟨⟨p, c, rfl, hr, by rw [cenL_len]; omega⟩, hg⟩
set_option maxRecDepth 100000 in
set_option maxHeartbeats 2000000 in
theorem l14_GroupFans (a b n : Int) (w : World) : Calls Try.prog 5 #[.int .i64 a, .int .i64 b, .int .i64 n] w fun e w' => e = .returned (.bool true) ∧ Gr w w' := by
  have F1 := Lib.hid (fun w => gp_FanR a b n w)
  have F2 := Lib.hid (fun w => r14_FanR a b n w)
  have C1 := Lib.hid (fun w => gp_CentreR a b n w)
  have C2 := Lib.hid (fun w => r14_CentreR a b n w)
  have AW := Lib.hid (fun w => l14_awake w)
  generalize fanR a b n = F at *
  generalize cenR a b n = C at *
  obtain ⟨L, E⟩ := F
  obtain ⟨M, E2⟩ := C
  simp only at F1 F2 C1 C2
  obtain ⟨ln, hln⟩ : ∃ ln, L.length = ln := ⟨_, rfl⟩
  obtain ⟨mn, hmn⟩ : ∃ mn, M.length = mn := ⟨_, rfl⟩
  have HLN := Lib.hid hln
  have HMN := Lib.hid hmn
  rw [hln] at F1 F2
  rw [hmn] at C1 C2
  clear hln hmn
  go_enter Try.func5, Try.ntmps5
  go_wp2_with fail
  refine (F1.out _).mono ?_; rintro e w1 ⟨⟨p1, c1, rfl, hr1, hl⟩, hg1⟩
  have HR1 := Lib.hid hr1
  have HG1 := Lib.hid hg1
  clear hr1 hg1
  go_wp2_with fail
  refine (F2.out _).mono ?_; rintro e w2 ⟨⟨p2, c2, rfl, hr2, -⟩, hg2⟩
  have HR2 := Lib.hid hr2
  have HR1 := Lib.hid (HR1.out.gr hg2)
  have HG2 := Lib.hid (HG1.out.trans hg2)
  clear hr2 hg2 HG1
  go_wp2_with fail
  refine (C1.out _).mono ?_; rintro e w3 ⟨⟨p3, c3, rfl, hr3, hm⟩, hg3⟩
  have HR3 := Lib.hid hr3
  have HR1 := Lib.hid (HR1.out.gr hg3)
  have HR2 := Lib.hid (HR2.out.gr hg3)
  have HG3 := Lib.hid (HG2.out.trans hg3)
  clear hr3 hg3 HG2
  go_wp2_with fail
  refine (C2.out _).mono ?_; rintro e w4 ⟨⟨p4, c4, rfl, hr4, -⟩, hg4⟩
  have HR4 := Lib.hid hr4
  have HR1 := Lib.hid (HR1.out.gr hg4)
  have HR2 := Lib.hid (HR2.out.gr hg4)
  have HR3 := Lib.hid (HR3.out.gr hg4)
  have HG4 := Lib.hid (HG3.out.trans hg4)
  clear hr4 hg4 HG3 F1 F2 C1 C2
  go_wp2_with fail
  refine (AW.out _).mono ?_; rintro e w5 ⟨rfl, hg5⟩
  have HQ1 := sl_EqualI p1 p2 L L c1 c2 w5 (HR1.out.gr hg5) (HR2.out.gr hg5) (by have := HLN.out; omega) (by have := HLN.out; omega)
  rw [HLN.out, decide_eq_true rfl] at HQ1
  have HQ1 := Lib.hid HQ1
  have HR3 := Lib.hid (HR3.out.gr hg5)
  have HR4 := Lib.hid (HR4.out.gr hg5)
  have HG5 := Lib.hid (HG4.out.trans hg5)
  clear hg5 HG4 AW HR1 HR2
  go_wp2_with fail
  refine HQ1.out.mono ?_; rintro e w6 ⟨rfl, hg6⟩
  have HQ2 := sl_EqualI p3 p4 M M c3 c4 w6 (HR3.out.gr hg6) (HR4.out.gr hg6) (by have := HMN.out; omega) (by have := HMN.out; omega)
  rw [HMN.out, decide_eq_true rfl] at HQ2
  have HQ2 := Lib.hid HQ2
  have HG6 := Lib.hid (HG5.out.trans hg6)
  clear hg6 HG5 HR3 HR4 HQ1
  go_wp2_with fail
  refine HQ2.out.mono ?_; rintro e w7 ⟨rfl, hg7⟩
  have HG7 := Lib.hid (HG6.out.trans hg7)
  clear hg7 HG6 HQ2
  go_wp2
  go_ret
  exact ⟨rfl, HG7.out⟩
theorem exec_min2 {o : Oper} {ev : Operand → Value} {w : World} {p q : Operand} {x y : Int} (ho : o.op = .call { callee := .builtin .min, args := #[p, q], argTypes := #[3, 3] })
    (hp : ev p = .int .i64 x) (hq : ev q = .int .i64 y) : (execOp ev o).run Try.prog w = .ok (.value (.int .i64 (min x y))) w := by
  have hv : (if y < x then y else x) = min x y := by
    split <;> omega
  unfold execOp
  rw [ho]
  simp [hp, hq, go_sem]
  rw [hv]
set_option maxRecDepth 100000 in
set_option maxHeartbeats 4000000 in
theorem l14_GroupSpreads (a b : Int) (k : Nat) (w : World) (ha : 0 ≤ a) (ha2 : a ≤ 65535) (hb : 0 ≤ b) (hb2 : b ≤ 65535) (hk : k ≤ 255) : Calls Try.prog 7 #[.int .u16 a, .int .u16 b, .int .u8 (k : Int)] w fun e w' => e = .returned (.bool true) ∧ Gr w w' := by
  have AW := Lib.hid (fun w => l14_awake w)
  have F1 := Lib.hid (fun w => gp_Fan (m := k) w ha ha2 hb hb2 (by omega))
  have F2 := Lib.hid (fun w => gp_Fan (m := k) w hb hb2 ha ha2 (by omega))
  obtain ⟨L, hL⟩ : ∃ L, fanL a b k = L := ⟨_, rfl⟩
  obtain ⟨M, hM⟩ : ∃ M, fanL b a k = M := ⟨_, rfl⟩
  have HLl : Hid (L.length = k) := Lib.hid (by rw [← hL, fanL_len])
  have HMl : Hid (M.length = k) := Lib.hid (by rw [← hM, fanL_len])
  have HLg : Hid (∀ i (h : i < L.length), L[i] = btw a b i ((k : Int) - 1)) := Lib.hid fun i h => by subst hL; exact fanL_get a b h
  have HMg : Hid (∀ i (h : i < M.length), M[i] = btw b a i ((k : Int) - 1)) := Lib.hid fun i h => by subst hM; exact fanL_get b a h
  rw [hL] at F1
  rw [hM] at F2
  clear hL hM
  go_enter Try.func7, Try.ntmps7
  go_wp2_with fail
  refine (F1.out _).mono ?_; rintro e w1 ⟨⟨v, rfl, ho1⟩, hg1⟩
  obtain ⟨p1, c1, rfl, hr1, -⟩ := ho1.shape
  rw [HLl.out]
  have HR1 := Lib.hid hr1
  have HG1 := Lib.hid hg1
  clear hr1 hg1 ho1 F1
  go_wp2_with fail
  refine (F2.out _).mono ?_; rintro e w2 ⟨⟨v, rfl, ho2⟩, hg2⟩
  obtain ⟨p2, c2, rfl, hr2, -⟩ := ho2.shape
  rw [HMl.out]
  have HR1 := Lib.hid (HR1.out.gr hg2)
  have HR2 := Lib.hid hr2
  have HG2 := Lib.hid (HG1.out.trans hg2)
  clear hr2 hg2 ho2 F2 HG1
  by_cases hk0 : k = 0
  · subst hk0
    go_wp2_with fail
    refine (AW.out _).mono ?_; rintro e w3 ⟨rfl, hg3⟩
    have HG3 := Lib.hid (HG2.out.trans hg3)
    clear hg3
    go_wp2
    go_ret
    exact ⟨rfl, HG3.out⟩
  have hk1 : 0 < k := by omega
  have hk0' : ((k : Int) == 0) = false := by simp; omega
  clear hk0
  have HZ : Hid (∀ i (h : i < L.length), 0 ≤ L[i] ∧ L[i] ≤ 65535) := Lib.hid fun i h => by
    rw [HLg.out i h]
    exact btw_bounds ha ha2 hb hb2 (by omega) (by have := HLl.out; omega)
  obtain ⟨b1, o1, hp1, hc0⟩ := HR1.out 0 (by rw [HLl.out]; exact hk1)
  subst hp1
  have hl0 : L[0]'(by rw [HLl.out]; exact hk1) = a := by rw [HLg.out]; exact btw_zero a b _ (by omega)
  rw [hl0, Nat.add_zero] at hc0
  clear hl0
  obtain ⟨q, hq⟩ : ∃ q : Nat, q = k - 1 := ⟨_, rfl⟩
  have hqk : q < k := by omega
  have HWQ := Lib.hid (show IntKind.i64.wrap ((k : Int) - 1) = (q : Int) from (IntWalk.i64_in _ (by omega)).trans (by omega))
  have HQI := Lib.hid (show (k : Int) - 1 = (q : Int) by omega)
  have HLq : Hid (1 < k → w2.cell? ⟨b1, o1 + q, none⟩ = some (.int .i64 b)) := Lib.hid fun h => by
    obtain ⟨b', o', e, hc⟩ := HR1.out q (by rw [HLl.out]; exact hqk)
    cases e
    rw [HLg.out, HQI.out] at hc
    rw [btw_full a b _ (by omega)] at hc
    exact hc
  clear hq
  have HIN : Hid (1 < k → b - a < (q : Int) * (65535 + 1) ∧ (q : Int) * (-65535 - 1) < b - a) := Lib.hid fun h => spread_zero (by have := HQI.out; omega) ha ha2 hb hb2
  by_cases h1k : 1 < k
  · have hcq := HLq.out h1k
    have hwq := HWQ.out
    have HI0 := Lib.hid (HIN.out h1k)
    clear HLq HIN
    go_wp2_with fail
    clear hcq hwq hc0
    go_loopw [14, 15, 16] (fun l m i wr => ∃ (le mo : Int) (j : Nat), l = .int .i64 le ∧ m = .int .i64 mo ∧ i = .int .i64 j ∧ 1 ≤ j ∧ j ≤ k ∧ -65535 ≤ le ∧ le ≤ 65535 ∧ -65535 ≤ mo ∧ mo ≤ 65535 ∧ Hid (b - a < (q : Int) * (le + 1) ∧ (q : Int) * (mo - 1) < b - a) ∧ Hid (Gr w2 wr)) (fun _ _ i _ => k - (intOf i).toNat)
    case atStart => exact ⟨65535, -65535, 1, rfl, rfl, rfl, by omega, by omega, by omega, by omega, by omega, by omega, HI0, Lib.hid (Gr.refl _)⟩
    case round =>
      obtain ⟨le, mo, j, rfl, rfl, rfl, hj1, hj, hle1, hle2, hmo1, hmo2, HI, HG⟩ := hrel
      by_cases hlt : j < k
      · obtain ⟨b', o', e, hx⟩ := (HR1.out.gr HG.out) j (by rw [HLl.out]; exact hlt)
        cases e
        obtain ⟨jj, hjj⟩ : ∃ jj : Nat, jj = j - 1 := ⟨_, rfl⟩
        have hjk : jj < k := by omega
        have HJ := Lib.hid (show (j : Int) = (jj : Int) + 1 by omega)
        have HWJ := Lib.hid (show IntKind.i64.wrap ((j : Int) - 1) = (jj : Int) from (IntWalk.i64_in _ (by omega)).trans (by omega))
        clear hjj
        obtain ⟨b', o', e, hy⟩ := (HR1.out.gr HG.out) jj (by rw [HLl.out]; exact hjk)
        cases e
        obtain ⟨kj, hkj⟩ : ∃ kj : Nat, kj = k - 1 - j := ⟨_, rfl⟩
        have hkk : kj < k := by omega
        have HKJ := Lib.hid (show (q : Int) - (j : Int) = (kj : Int) by have := HQI.out; omega)
        have HWK := Lib.hid (show IntKind.i64.wrap ((k : Int) - 1 - (j : Int)) = (kj : Int) from (IntWalk.i64_in _ (by omega)).trans (by omega))
        clear hkj
        obtain ⟨b2, o2, rfl, hz⟩ := (HR2.out.gr HG.out) kj (by rw [HMl.out]; exact hkk)
        have hzx : M[kj]'(by rw [HMl.out]; exact hkk) = L[j]'(by rw [HLl.out]; exact hlt) := by
          rw [HLg.out, HMg.out, HQI.out, ← HKJ.out]
          exact (btw_back a b j q (by have := HQI.out; omega)).symm
        rw [hzx] at hz
        have HIs := Lib.hid (spread_step (x := L[j]'(by rw [HLl.out]; exact hlt)) (y := L[jj]'(by rw [HLl.out]; exact hjk)) (p := (jj : Int)) (by have := HQI.out; omega) HI.out.1 HI.out.2 (by rw [HLg.out, HQI.out, HJ.out]) (by rw [HLg.out, HQI.out]))
        obtain ⟨hx0, hx1⟩ := HZ.out j (by rw [HLl.out]; exact hlt)
        obtain ⟨hy0, hy1⟩ := HZ.out jj (by rw [HLl.out]; exact hjk)
        generalize L[j]'(by rw [HLl.out]; exact hlt) = x at *
        generalize L[jj]'(by rw [HLl.out]; exact hjk) = y at *
        clear hzx HI
        go_wp2_with fail
        have hS0 : (fun w' : World => Gr wr w') wr.drew := (Gr.refl _).drew
        refine wp_region_held (S := fun w' : World => Gr wr w') (by kernel_rfl) ?_
        change wpAnyH _ _ _ _ _ _ _ _ wr.drew
        refine wpAnyH_take (i := 0) (v := .int .i64 le) rfl (by kernel_rfl) (by kernel_rfl) (by kernel_rfl) (fun _ _ _ h => h) (Or.inl ⟨by rfl, ?_⟩) hS0 ?_
        · intro w hSw; go_simp
        try simp only [Act.put, List.getElem_toArray, List.getElem_cons_succ, List.getElem_cons_zero, List.setIfInBounds_toArray, List.set_cons_zero, List.set_cons_succ]
        refine wpAnyH_take (i := 1) (v := .slice (some ⟨b1, o1, none⟩) k c1) rfl (by kernel_rfl) (by kernel_rfl) (by kernel_rfl) (fun _ _ _ h => h) (Or.inl ⟨by rfl, ?_⟩) hS0 ?_
        · intro w hSw; go_simp
        try simp only [Act.put, List.getElem_toArray, List.getElem_cons_succ, List.getElem_cons_zero, List.setIfInBounds_toArray, List.set_cons_zero, List.set_cons_succ]
        refine wpAnyH_take (i := 2) (v := .int .i64 j) rfl (by kernel_rfl) (by kernel_rfl) (by kernel_rfl) (fun _ _ _ h => h) (Or.inl ⟨by rfl, ?_⟩) hS0 ?_
        · intro w hSw; go_simp
        try simp only [Act.put, List.getElem_toArray, List.getElem_cons_succ, List.getElem_cons_zero, List.setIfInBounds_toArray, List.set_cons_zero, List.set_cons_succ]
        refine wpAnyH_take (i := 3) (v := .pointer (some ⟨b1, o1 + j, none⟩)) rfl (by kernel_rfl) (by kernel_rfl) (by kernel_rfl) (fun _ _ _ h => h) (Or.inl ⟨by rfl, ?_⟩) hS0 ?_
        · intro w hSw; go_simp
        try simp only [Act.put, List.getElem_toArray, List.getElem_cons_succ, List.getElem_cons_zero, List.setIfInBounds_toArray, List.set_cons_zero, List.set_cons_succ]
        refine wpAnyH_take (i := 4) (v := .int .i64 x) rfl (by kernel_rfl) (by kernel_rfl) (by kernel_rfl) (fun _ _ _ h => h) (Or.inl ⟨by rfl, ?_⟩) hS0 ?_
        · intro w hSw; have s1 := gr_cell hSw hx; go_simp
        try simp only [Act.put, List.getElem_toArray, List.getElem_cons_succ, List.getElem_cons_zero, List.setIfInBounds_toArray, List.set_cons_zero, List.set_cons_succ]
        refine wpAnyH_take (i := 5) (v := .slice (some ⟨b1, o1, none⟩) k c1) rfl (by kernel_rfl) (by kernel_rfl) (by kernel_rfl) (fun _ _ _ h => h) (Or.inl ⟨by rfl, ?_⟩) hS0 ?_
        · intro w hSw; go_simp
        try simp only [Act.put, List.getElem_toArray, List.getElem_cons_succ, List.getElem_cons_zero, List.setIfInBounds_toArray, List.set_cons_zero, List.set_cons_succ]
        refine wpAnyH_take (i := 6) (v := .int .i64 j) rfl (by kernel_rfl) (by kernel_rfl) (by kernel_rfl) (fun _ _ _ h => h) (Or.inl ⟨by rfl, ?_⟩) hS0 ?_
        · intro w hSw; go_simp
        try simp only [Act.put, List.getElem_toArray, List.getElem_cons_succ, List.getElem_cons_zero, List.setIfInBounds_toArray, List.set_cons_zero, List.set_cons_succ]
        refine wpAnyH_take (i := 7) (v := .int .i64 jj) rfl (by kernel_rfl) (by kernel_rfl) (by kernel_rfl) (fun _ _ _ h => h) (Or.inl ⟨by rfl, ?_⟩) hS0 ?_
        · intro w hSw; have s1 := HWJ.out; go_simp
        try simp only [Act.put, List.getElem_toArray, List.getElem_cons_succ, List.getElem_cons_zero, List.setIfInBounds_toArray, List.set_cons_zero, List.set_cons_succ]
        refine wpAnyH_take (i := 8) (v := .pointer (some ⟨b1, o1 + jj, none⟩)) rfl (by kernel_rfl) (by kernel_rfl) (by kernel_rfl) (fun _ _ _ h => h) (Or.inl ⟨by rfl, ?_⟩) hS0 ?_
        · intro w hSw; go_simp
        try simp only [Act.put, List.getElem_toArray, List.getElem_cons_succ, List.getElem_cons_zero, List.setIfInBounds_toArray, List.set_cons_zero, List.set_cons_succ]
        refine wpAnyH_take (i := 9) (v := .int .i64 y) rfl (by kernel_rfl) (by kernel_rfl) (by kernel_rfl) (fun _ _ _ h => h) (Or.inl ⟨by rfl, ?_⟩) hS0 ?_
        · intro w hSw; have s1 := gr_cell hSw hy; go_simp
        try simp only [Act.put, List.getElem_toArray, List.getElem_cons_succ, List.getElem_cons_zero, List.setIfInBounds_toArray, List.set_cons_zero, List.set_cons_succ]
        refine wpAnyH_take (i := 10) (v := .int .i64 (x - y)) rfl (by kernel_rfl) (by kernel_rfl) (by kernel_rfl) (fun _ _ _ h => h) (Or.inl ⟨by rfl, ?_⟩) hS0 ?_
        · intro w hSw; go_simp; exact IntWalk.i64_in _ (by omega)
        try simp only [Act.put, List.getElem_toArray, List.getElem_cons_succ, List.getElem_cons_zero, List.setIfInBounds_toArray, List.set_cons_zero, List.set_cons_succ]
        refine wpAnyH_take (i := 11) (v := .int .i64 (min le (x - y))) rfl (by kernel_rfl) (by kernel_rfl) (by kernel_rfl) (fun _ _ _ h => h) (Or.inl ⟨by rfl, ?_⟩) hS0 ?_
        · intro w hSw; exact exec_min2 rfl rfl rfl
        try simp only [Act.put, List.getElem_toArray, List.getElem_cons_succ, List.getElem_cons_zero, List.setIfInBounds_toArray, List.set_cons_zero, List.set_cons_succ]
        refine wpAnyH_take (i := 12) (v := .int .i64 mo) rfl (by kernel_rfl) (by kernel_rfl) (by kernel_rfl) (fun _ _ _ h => h) (Or.inl ⟨by rfl, ?_⟩) hS0 ?_
        · intro w hSw; go_simp
        try simp only [Act.put, List.getElem_toArray, List.getElem_cons_succ, List.getElem_cons_zero, List.setIfInBounds_toArray, List.set_cons_zero, List.set_cons_succ]
        refine wpAnyH_take (i := 13) (v := .slice (some ⟨b1, o1, none⟩) k c1) rfl (by kernel_rfl) (by kernel_rfl) (by kernel_rfl) (fun _ _ _ h => h) (Or.inl ⟨by rfl, ?_⟩) hS0 ?_
        · intro w hSw; go_simp
        try simp only [Act.put, List.getElem_toArray, List.getElem_cons_succ, List.getElem_cons_zero, List.setIfInBounds_toArray, List.set_cons_zero, List.set_cons_succ]
        refine wpAnyH_take (i := 14) (v := .int .i64 j) rfl (by kernel_rfl) (by kernel_rfl) (by kernel_rfl) (fun _ _ _ h => h) (Or.inl ⟨by rfl, ?_⟩) hS0 ?_
        · intro w hSw; go_simp
        try simp only [Act.put, List.getElem_toArray, List.getElem_cons_succ, List.getElem_cons_zero, List.setIfInBounds_toArray, List.set_cons_zero, List.set_cons_succ]
        refine wpAnyH_take (i := 15) (v := .pointer (some ⟨b1, o1 + j, none⟩)) rfl (by kernel_rfl) (by kernel_rfl) (by kernel_rfl) (fun _ _ _ h => h) (Or.inl ⟨by rfl, ?_⟩) hS0 ?_
        · intro w hSw; go_simp
        try simp only [Act.put, List.getElem_toArray, List.getElem_cons_succ, List.getElem_cons_zero, List.setIfInBounds_toArray, List.set_cons_zero, List.set_cons_succ]
        refine wpAnyH_take (i := 16) (v := .int .i64 x) rfl (by kernel_rfl) (by kernel_rfl) (by kernel_rfl) (fun _ _ _ h => h) (Or.inl ⟨by rfl, ?_⟩) hS0 ?_
        · intro w hSw; have s1 := gr_cell hSw hx; go_simp
        try simp only [Act.put, List.getElem_toArray, List.getElem_cons_succ, List.getElem_cons_zero, List.setIfInBounds_toArray, List.set_cons_zero, List.set_cons_succ]
        refine wpAnyH_take (i := 17) (v := .slice (some ⟨b1, o1, none⟩) k c1) rfl (by kernel_rfl) (by kernel_rfl) (by kernel_rfl) (fun _ _ _ h => h) (Or.inl ⟨by rfl, ?_⟩) hS0 ?_
        · intro w hSw; go_simp
        try simp only [Act.put, List.getElem_toArray, List.getElem_cons_succ, List.getElem_cons_zero, List.setIfInBounds_toArray, List.set_cons_zero, List.set_cons_succ]
        refine wpAnyH_take (i := 18) (v := .int .i64 j) rfl (by kernel_rfl) (by kernel_rfl) (by kernel_rfl) (fun _ _ _ h => h) (Or.inl ⟨by rfl, ?_⟩) hS0 ?_
        · intro w hSw; go_simp
        try simp only [Act.put, List.getElem_toArray, List.getElem_cons_succ, List.getElem_cons_zero, List.setIfInBounds_toArray, List.set_cons_zero, List.set_cons_succ]
        refine wpAnyH_take (i := 19) (v := .int .i64 jj) rfl (by kernel_rfl) (by kernel_rfl) (by kernel_rfl) (fun _ _ _ h => h) (Or.inl ⟨by rfl, ?_⟩) hS0 ?_
        · intro w hSw; have s1 := HWJ.out; go_simp
        try simp only [Act.put, List.getElem_toArray, List.getElem_cons_succ, List.getElem_cons_zero, List.setIfInBounds_toArray, List.set_cons_zero, List.set_cons_succ]
        refine wpAnyH_take (i := 20) (v := .pointer (some ⟨b1, o1 + jj, none⟩)) rfl (by kernel_rfl) (by kernel_rfl) (by kernel_rfl) (fun _ _ _ h => h) (Or.inl ⟨by rfl, ?_⟩) hS0 ?_
        · intro w hSw; go_simp
        try simp only [Act.put, List.getElem_toArray, List.getElem_cons_succ, List.getElem_cons_zero, List.setIfInBounds_toArray, List.set_cons_zero, List.set_cons_succ]
        refine wpAnyH_take (i := 21) (v := .int .i64 y) rfl (by kernel_rfl) (by kernel_rfl) (by kernel_rfl) (fun _ _ _ h => h) (Or.inl ⟨by rfl, ?_⟩) hS0 ?_
        · intro w hSw; have s1 := gr_cell hSw hy; go_simp
        try simp only [Act.put, List.getElem_toArray, List.getElem_cons_succ, List.getElem_cons_zero, List.setIfInBounds_toArray, List.set_cons_zero, List.set_cons_succ]
        refine wpAnyH_take (i := 22) (v := .int .i64 (x - y)) rfl (by kernel_rfl) (by kernel_rfl) (by kernel_rfl) (fun _ _ _ h => h) (Or.inl ⟨by rfl, ?_⟩) hS0 ?_
        · intro w hSw; go_simp; exact IntWalk.i64_in _ (by omega)
        try simp only [Act.put, List.getElem_toArray, List.getElem_cons_succ, List.getElem_cons_zero, List.setIfInBounds_toArray, List.set_cons_zero, List.set_cons_succ]
        refine wpAnyH_take (i := 23) (v := .int .i64 (max mo (x - y))) rfl (by kernel_rfl) (by kernel_rfl) (by kernel_rfl) (fun _ _ _ h => h) (Or.inl ⟨by rfl, ?_⟩) hS0 ?_
        · intro w hSw; exact exec_max2 rfl rfl rfl
        try simp only [Act.put, List.getElem_toArray, List.getElem_cons_succ, List.getElem_cons_zero, List.setIfInBounds_toArray, List.set_cons_zero, List.set_cons_succ]
        refine wpAnyH_take (i := 24) (v := .int .i64 (min le (x - y))) rfl (by kernel_rfl) (by kernel_rfl) (by kernel_rfl) (fun _ _ _ h => h) (Or.inl ⟨by rfl, ?_⟩) hS0 ?_
        · intro w hSw; go_simp
        try simp only [Act.put, List.getElem_toArray, List.getElem_cons_succ, List.getElem_cons_zero, List.setIfInBounds_toArray, List.set_cons_zero, List.set_cons_succ]
        refine wpAnyH_take (i := 25) (v := .int .i64 (max mo (x - y))) rfl (by kernel_rfl) (by kernel_rfl) (by kernel_rfl) (fun _ _ _ h => h) (Or.inl ⟨by rfl, ?_⟩) hS0 ?_
        · intro w hSw; go_simp
        try simp only [Act.put, List.getElem_toArray, List.getElem_cons_succ, List.getElem_cons_zero, List.setIfInBounds_toArray, List.set_cons_zero, List.set_cons_succ]
        refine wpAnyH_done (by kernel_rfl) ?_ _
        have HG3 := Lib.hid (HG.out.trans hS0)
        clear hS0
        have hxd := gr_cell ((Gr.refl wr).drew) hx
        have hzd := gr_cell ((Gr.refl wr).drew) hz
        have hml : -65535 ≤ min le (x - y) ∧ min le (x - y) ≤ 65535 := by omega
        have hmm : -65535 ≤ max mo (x - y) ∧ max mo (x - y) ≤ 65535 := by omega
        obtain ⟨hml1, hml2⟩ := hml
        obtain ⟨hmm1, hmm2⟩ := hmm
        generalize min le (x - y) = le2 at *
        generalize max mo (x - y) = mo2 at *
        clear hx hy hz
        go_wp2_with fail
        have hS0 : (fun w' : World => Gr wr.drew w') wr.drew.drew := (Gr.refl _).drew
        refine wp_region_held (S := fun w' : World => Gr wr.drew w') (by kernel_rfl) ?_
        change wpAnyH _ _ _ _ _ _ _ _ wr.drew.drew
        refine wpAnyH_take (i := 0) (v := .slice (some ⟨b1, o1, none⟩) k c1) rfl (by kernel_rfl) (by kernel_rfl) (by kernel_rfl) (fun _ _ _ h => h) (Or.inl ⟨by rfl, ?_⟩) hS0 ?_
        · intro w hSw; go_simp
        try simp only [Act.put, List.getElem_toArray, List.getElem_cons_succ, List.getElem_cons_zero, List.setIfInBounds_toArray, List.set_cons_zero, List.set_cons_succ]
        refine wpAnyH_take (i := 1) (v := .int .i64 j) rfl (by kernel_rfl) (by kernel_rfl) (by kernel_rfl) (fun _ _ _ h => h) (Or.inl ⟨by rfl, ?_⟩) hS0 ?_
        · intro w hSw; go_simp
        try simp only [Act.put, List.getElem_toArray, List.getElem_cons_succ, List.getElem_cons_zero, List.setIfInBounds_toArray, List.set_cons_zero, List.set_cons_succ]
        refine wpAnyH_take (i := 2) (v := .pointer (some ⟨b1, o1 + j, none⟩)) rfl (by kernel_rfl) (by kernel_rfl) (by kernel_rfl) (fun _ _ _ h => h) (Or.inl ⟨by rfl, ?_⟩) hS0 ?_
        · intro w hSw; go_simp
        try simp only [Act.put, List.getElem_toArray, List.getElem_cons_succ, List.getElem_cons_zero, List.setIfInBounds_toArray, List.set_cons_zero, List.set_cons_succ]
        refine wpAnyH_take (i := 3) (v := .int .i64 x) rfl (by kernel_rfl) (by kernel_rfl) (by kernel_rfl) (fun _ _ _ h => h) (Or.inl ⟨by rfl, ?_⟩) hS0 ?_
        · intro w hSw; have s1 := gr_cell hSw hxd; go_simp
        try simp only [Act.put, List.getElem_toArray, List.getElem_cons_succ, List.getElem_cons_zero, List.setIfInBounds_toArray, List.set_cons_zero, List.set_cons_succ]
        refine wpAnyH_take (i := 4) (v := .slice (some ⟨b2, o2, none⟩) k c2) rfl (by kernel_rfl) (by kernel_rfl) (by kernel_rfl) (fun _ _ _ h => h) (Or.inl ⟨by rfl, ?_⟩) hS0 ?_
        · intro w hSw; go_simp
        try simp only [Act.put, List.getElem_toArray, List.getElem_cons_succ, List.getElem_cons_zero, List.setIfInBounds_toArray, List.set_cons_zero, List.set_cons_succ]
        refine wpAnyH_take (i := 5) (v := .int .i64 k) rfl (by kernel_rfl) (by kernel_rfl) (by kernel_rfl) (fun _ _ _ h => h) (Or.inl ⟨by rfl, ?_⟩) hS0 ?_
        · intro w hSw; go_simp
        try simp only [Act.put, List.getElem_toArray, List.getElem_cons_succ, List.getElem_cons_zero, List.setIfInBounds_toArray, List.set_cons_zero, List.set_cons_succ]
        refine wpAnyH_take (i := 6) (v := .int .i64 ((k : Int) - 1)) rfl (by kernel_rfl) (by kernel_rfl) (by kernel_rfl) (fun _ _ _ h => h) (Or.inl ⟨by rfl, ?_⟩) hS0 ?_
        · intro w hSw; go_simp; exact IntWalk.i64_in _ (by omega)
        try simp only [Act.put, List.getElem_toArray, List.getElem_cons_succ, List.getElem_cons_zero, List.setIfInBounds_toArray, List.set_cons_zero, List.set_cons_succ]
        refine wpAnyH_take (i := 7) (v := .int .i64 j) rfl (by kernel_rfl) (by kernel_rfl) (by kernel_rfl) (fun _ _ _ h => h) (Or.inl ⟨by rfl, ?_⟩) hS0 ?_
        · intro w hSw; go_simp
        try simp only [Act.put, List.getElem_toArray, List.getElem_cons_succ, List.getElem_cons_zero, List.setIfInBounds_toArray, List.set_cons_zero, List.set_cons_succ]
        refine wpAnyH_take (i := 8) (v := .int .i64 kj) rfl (by kernel_rfl) (by kernel_rfl) (by kernel_rfl) (fun _ _ _ h => h) (Or.inl ⟨by rfl, ?_⟩) hS0 ?_
        · intro w hSw; have s1 := HWK.out; go_simp
        try simp only [Act.put, List.getElem_toArray, List.getElem_cons_succ, List.getElem_cons_zero, List.setIfInBounds_toArray, List.set_cons_zero, List.set_cons_succ]
        refine wpAnyH_take (i := 9) (v := .pointer (some ⟨b2, o2 + kj, none⟩)) rfl (by kernel_rfl) (by kernel_rfl) (by kernel_rfl) (fun _ _ _ h => h) (Or.inl ⟨by rfl, ?_⟩) hS0 ?_
        · intro w hSw; go_simp
        try simp only [Act.put, List.getElem_toArray, List.getElem_cons_succ, List.getElem_cons_zero, List.setIfInBounds_toArray, List.set_cons_zero, List.set_cons_succ]
        refine wpAnyH_take (i := 10) (v := .int .i64 x) rfl (by kernel_rfl) (by kernel_rfl) (by kernel_rfl) (fun _ _ _ h => h) (Or.inl ⟨by rfl, ?_⟩) hS0 ?_
        · intro w hSw; have s1 := gr_cell hSw hzd; go_simp
        try simp only [Act.put, List.getElem_toArray, List.getElem_cons_succ, List.getElem_cons_zero, List.setIfInBounds_toArray, List.set_cons_zero, List.set_cons_succ]
        refine wpAnyH_take (i := 11) (v := .bool false) rfl (by kernel_rfl) (by kernel_rfl) (by kernel_rfl) (fun _ _ _ h => h) (Or.inl ⟨by rfl, ?_⟩) hS0 ?_
        · intro w hSw; go_simp
        try simp only [Act.put, List.getElem_toArray, List.getElem_cons_succ, List.getElem_cons_zero, List.setIfInBounds_toArray, List.set_cons_zero, List.set_cons_succ]
        refine wpAnyH_done (by kernel_rfl) ?_ _
        have HG4 := Lib.hid (HG3.out.trans hS0)
        clear hS0 hxd hzd
        go_wp2
        go_roundw
        case rel => exact ⟨le2, mo2, j + 1, rfl, rfl, by go_num, by omega, by omega, hml1, hml2, hmm1, hmm2, HIs, HG4⟩
        case measure => simp [intOf]; omega
      · obtain ⟨e1, e2, e3⟩ := spread_end (by have := HQI.out; omega) HI.out.1 HI.out.2
        have HA := Lib.hid (AW.out wr)
        have hfin : Hid (¬ (k : Int) < 2) := Lib.hid (by omega)
        have HGw := Lib.hid (HG2.out.trans HG.out)
        clear HI HG HI0 AW
        have h3 : mo - le ≤ 1 := e1
        rcases Int.lt_trichotomy a b with hab | hab | hab
        · have h4 : 0 ≤ le := e2 (by omega)
          clear e1 e2 e3
          go_wp2_with fail
          refine HA.out.mono ?_; rintro e w3 ⟨rfl, hg3⟩
          have HG3 := Lib.hid (HGw.out.trans hg3)
          clear hg3
          go_wp2
          go_ret
          exact ⟨rfl, HG3.out⟩
        · have h4 : 0 ≤ le := e2 (by omega)
          have h5 : mo ≤ 0 := e3 (by omega)
          subst hab
          clear e1 e2 e3
          go_wp2_with fail
          refine HA.out.mono ?_; rintro e w3 ⟨rfl, hg3⟩
          have HG3 := Lib.hid (HGw.out.trans hg3)
          clear hg3
          go_wp2
          go_ret
          exact ⟨rfl, HG3.out⟩
        · have h5 : mo ≤ 0 := e3 (by omega)
          clear e1 e2 e3
          go_wp2_with fail
          refine HA.out.mono ?_; rintro e w3 ⟨rfl, hg3⟩
          have HG3 := Lib.hid (HGw.out.trans hg3)
          clear hg3
          go_wp2
          go_ret
          exact ⟨rfl, HG3.out⟩
  · have h1 : k = 1 := by omega
    subst h1
    clear HLq HIN HWQ HQI h1k
    have HA := Lib.hid (fun w => AW.out w)
    go_wp2_with fail
    go_loopw [16] (fun i wr => i = .int .i64 1 ∧ Hid (Gr w2 wr)) (fun _ _ => 0)
    case atStart => exact ⟨rfl, Lib.hid (Gr.refl _)⟩
    case round =>
      obtain ⟨rfl, HG⟩ := hrel
      have HGw := Lib.hid (HG2.out.trans HG.out)
      clear HG
      go_wp2_with fail
      refine (HA.out _).mono ?_; rintro e w3 ⟨rfl, hg3⟩
      have HG3 := Lib.hid (HGw.out.trans hg3)
      clear hg3
      go_wp2
      go_ret
      exact ⟨rfl, HG3.out⟩
end Go.Proofs.Ytmcngnnbfmjajaa
