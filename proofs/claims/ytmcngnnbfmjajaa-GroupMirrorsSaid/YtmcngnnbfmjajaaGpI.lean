/- Law 14: Fan and Centre of the reference. -/
import Derived.Test.YtmcngnnbfmjajaaGpH
set_option linter.unusedVariables false
set_option linter.unusedSimpArgs false
namespace Go.Proofs.Ytmcngnnbfmjajaa
open Go.RowKit
open Z
set_option maxRecDepth 100000 in
set_option maxHeartbeats 1000000 in
theorem r14_between {a b p q : Int} (w : World) (ha : 0 ≤ a) (ha2 : a ≤ 65535) (hb : 0 ≤ b) (hb2 : b ≤ 65535) (hp : 0 ≤ p) (hpq : p ≤ q) (hq2 : q ≤ 300) :
    Calls Try.prog 54 #[.int .i64 a, .int .i64 b, .int .i64 p, .int .i64 q] w fun e w' => e = .returned (.int .i64 (btw a b p q)) ∧ w = w' := by
  obtain ⟨R, hR⟩ : ∃ R, btw a b p q = R := ⟨_, rfl⟩
  have hRb := btw_bounds (a := a) (b := b) ha ha2 hb hb2 hp hpq
  rw [hR] at hRb ⊢
  by_cases hq0 : q = 0
  · have : R = a := by rw [← hR, btw, if_pos hq0]
    subst this
    clear hR hpq
    subst hq0
    go_enter Try.func54, Try.ntmps54
    go_wp2
    go_ret
    exact ⟨rfl, rfl⟩
  · obtain ⟨X, hX, hX2⟩ := mul_b (d := q) ha ha2 (by omega) (by omega)
    obtain ⟨d, hd⟩ : ∃ d, b - a = d := ⟨_, rfl⟩
    obtain ⟨Y, hY⟩ : ∃ Y : Int, d * p = Y := ⟨_, rfl⟩
    obtain ⟨Z1, hZ1, hZ2⟩ := mul_b (d := p) hb hb2 (by omega) (by omega)
    obtain ⟨Z3, hZ3, hZ4⟩ := mul_b (d := p) ha ha2 (by omega) (by omega)
    have hYb : Y = Z1 - Z3 := by rw [← hY, ← hd, Int.sub_mul, hZ1, hZ3]
    have h3 : a * p ≤ a * q := Int.mul_le_mul_of_nonneg_left hpq ha
    have hsum : 0 ≤ (X : Int) + Y := by omega
    have hYb1 : -20000000 ≤ Y := by omega
    have hYb2 : Y ≤ 20000000 := by omega
    have hR2 : (2 * ((X : Int) + Y) + q).tdiv (2 * q) = R := by
      rw [← hR, btw, if_neg hq0, Int.tdiv_eq_ediv_of_nonneg (by omega), ← hX, ← hY, ← hd]
    have HRW := Lib.hid (IntWalk.wrap64_in R (by omega))
    have hnz : ((2 * q) == 0) = false := by simp; omega
    have hnz2 : (q == 0) = false := by simp; omega
    have h2q : 2 * q ≤ 600 := by omega
    have hbig : 2 * ((X : Int) + Y) + q ≤ 1000000000 := by omega
    clear hR hRb hYb h3 hZ1 hZ2 hZ3 hZ4
    go_enter Try.func54, Try.ntmps54
    go_wp2
    go_ret
    exact ⟨by first | rfl | exact ret_int HRW.out, rfl⟩
theorem r14_given {a b n : Int} (w : World) : Calls Try.prog 53 #[.int .i64 a, .int .i64 b, .int .i64 n] w fun e w' => e = .returned (.int .i64 (if okF a b n = true then 0 else 2)) ∧ w = w' := by
  obtain ⟨E, hE⟩ : ∃ E : Int, (if okF a b n = true then 0 else 2) = E := ⟨_, rfl⟩
  rw [hE]
  have HE := Lib.hid hE
  clear hE
  have hz (h : ¬ (0 ≤ a ∧ a ≤ 65535 ∧ 0 ≤ b ∧ b ≤ 65535 ∧ 0 ≤ n ∧ n ≤ 256)) : E = 2 := by
    rw [← HE.out, if_neg (fun h2 => h (okF_iff.1 h2))]
  by_cases h1 : a < 0
  · have := hz (by omega); subst this; clear hz HE
    go_enter Try.func53, Try.ntmps53
    go_wp2
    go_ret
    exact ⟨rfl, rfl⟩
  by_cases h2 : 65535 < a
  · have := hz (by omega); subst this; clear hz HE
    go_enter Try.func53, Try.ntmps53
    go_wp2
    go_ret
    exact ⟨rfl, rfl⟩
  by_cases h3 : b < 0
  · have := hz (by omega); subst this; clear hz HE
    go_enter Try.func53, Try.ntmps53
    go_wp2
    go_ret
    exact ⟨rfl, rfl⟩
  by_cases h4 : 65535 < b
  · have := hz (by omega); subst this; clear hz HE
    go_enter Try.func53, Try.ntmps53
    go_wp2
    go_ret
    exact ⟨rfl, rfl⟩
  by_cases h5 : n < 0
  · have := hz (by omega); subst this; clear hz HE
    go_enter Try.func53, Try.ntmps53
    go_wp2
    go_ret
    exact ⟨rfl, rfl⟩
  by_cases h6 : 256 < n
  · have := hz (by omega); subst this; clear hz HE
    go_enter Try.func53, Try.ntmps53
    go_wp2
    go_ret
    exact ⟨rfl, rfl⟩
  have : E = 0 := by rw [← HE.out, if_pos (okF_iff.2 ⟨by omega, by omega, by omega, by omega, by omega, by omega⟩)]
  subst this; clear hz HE
  go_enter Try.func53, Try.ntmps53
  go_wp2
  go_ret
  exact ⟨rfl, rfl⟩
set_option maxRecDepth 100000 in
set_option maxHeartbeats 1000000 in
theorem r14_Fan_err {a b n : Int} (w : World) (h : okF a b n = false) :
    Calls Try.prog 27 #[.int .i64 a, .int .i64 b, .int .i64 n] w fun e w' => e = .returned (.tuple #[.slice none 0 0, .int .i64 2]) ∧ Gr w w' := by
  have HG := r14_given (a := a) (b := b) (n := n) w
  rw [if_neg (by rw [h]; simp)] at HG
  have HG := Lib.hid HG
  clear h
  go_enter Try.func27, Try.ntmps27
  go_wp2_with fail
  refine HG.out.mono ?_; rintro e w' ⟨rfl, rfl⟩
  go_wp2
  go_ret2
  exact ⟨rfl, Gr.refl _⟩
set_option maxRecDepth 100000 in
set_option maxHeartbeats 1000000 in
theorem r14_Centre_err {a b n : Int} (w : World) (h : okF a b n = false) :
    Calls Try.prog 29 #[.int .i64 a, .int .i64 b, .int .i64 n] w fun e w' => e = .returned (.tuple #[.slice none 0 0, .int .i64 2]) ∧ Gr w w' := by
  have HG := r14_given (a := a) (b := b) (n := n) w
  rw [if_neg (by rw [h]; simp)] at HG
  have HG := Lib.hid HG
  clear h
  go_enter Try.func29, Try.ntmps29
  go_wp2_with fail
  refine HG.out.mono ?_; rintro e w' ⟨rfl, rfl⟩
  go_wp2
  go_ret2
  exact ⟨rfl, Gr.refl _⟩
set_option maxRecDepth 100000 in
set_option maxHeartbeats 2000000 in
theorem r14_Fan {a b : Int} {m : Nat} (w : World) (ha : 0 ≤ a) (ha2 : a ≤ 65535) (hb : 0 ≤ b) (hb2 : b ≤ 65535) (hm : m ≤ 256) :
    Calls Try.prog 27 #[.int .i64 a, .int .i64 b, .int .i64 (m : Int)] w fun e w' => (∃ v, e = .returned (.tuple #[v, .int .i64 0]) ∧ OwnI w.heap.size w' v (fanL a b m)) ∧ Gr w w' := by
  obtain ⟨i0, hi, hz0, hz1, hz2⟩ := info_parts Try.infoI
  have HE := r14_given (a := a) (b := b) (n := (m : Int)) w
  rw [if_pos (okF_iff.2 ⟨ha, ha2, hb, hb2, by omega, by omega⟩)] at HE
  have HE := Lib.hid HE
  have HX : Hid (∀ k : Nat, k < m → ∀ W, Calls Try.prog 54 #[.int .i64 a, .int .i64 b, .int .i64 (k : Int), .int .i64 ((m : Int) - 1)] W fun e w' => e = .returned (.int .i64 (btw a b k ((m : Int) - 1))) ∧ W = w') := Lib.hid fun k hk W => r14_between W ha ha2 hb hb2 (by omega) (by omega) (by omega)
  obtain ⟨L, hL⟩ : ∃ L, fanL a b m = L := ⟨_, rfl⟩
  rw [hL]
  have HLs : Hid (∀ k, k < m → L.take (k + 1) = L.take k ++ [btw a b k ((m : Int) - 1)]) := Lib.hid fun k hk => by rw [← hL]; exact take_map_range _ hk
  have HLl : Hid (L.length = m) := Lib.hid (by rw [← hL]; simp [fanL])
  clear hL ha ha2 hb hb2
  go_enter Try.func27, Try.ntmps27
  go_wp2_with fail
  refine HE.out.mono ?_; rintro e w' ⟨rfl, rfl⟩
  clear HE
  go_wp2
  go_loopw [9, 10] (fun v i wr => ∃ k : Nat, i = .int .i64 k ∧ k ≤ m ∧ Hid (OwnI w.heap.size wr v (L.take k)) ∧ Hid (Gr w wr)) (fun _ i _ => m - (intOf i).toNat)
  case atStart => exact ⟨0, rfl, Nat.zero_le _, Lib.hid (by simpa using OwnI.nil _ _), Lib.hid (Gr.refl _)⟩
  case round =>
    obtain ⟨k, rfl, hk, HO, HG⟩ := hrel
    by_cases hlt : k < m
    · have HX1 := Lib.hid (HX.out k hlt)
      have HL1 := Lib.hid (HLs.out k hlt)
      have hll : (L.take k).length ≤ 300 := by rw [List.length_take]; omega
      generalize L.take k = xs at *
      generalize btw a b (k : Int) ((m : Int) - 1) = r at *
      go_wp2_with fail
      refine (HX1.out _).mono ?_; rintro e w' ⟨rfl, rfl⟩
      clear HX1
      go_wp2_with (at_builtin; refine push_i hi hz0 hz1 hz2 rfl _ _ rfl _ xs rfl HO.out HG.out r _ rfl rfl (by omega) ?_; rintro v5 w5 HO5 hg5; have HG5 := Lib.hid hg5; clear hg5)
      go_roundw
      case rel => exact ⟨k + 1, by go_num, by omega, Lib.hid (by rw [HL1.out]; exact HO5.out), HG5⟩
      case measure => simp [intOf]; omega
    · have hk2 : k = m := by omega
      subst hk2
      have ho := HO.out
      rw [List.take_of_length_le (by rw [HLl.out]; exact Nat.le_refl _)] at ho
      have HOe := Lib.hid ho
      clear HO ho HX
      go_wp2
      go_ret2
      exact ⟨⟨_, rfl, HOe.out⟩, HG.out⟩
set_option maxRecDepth 100000 in
set_option maxHeartbeats 2000000 in
theorem r14_CentreE {a b : Int} {m : Nat} (w : World) (ha : 0 ≤ a) (ha2 : a ≤ 65535) (hb : 0 ≤ b) (hb2 : b ≤ 65535) (hm : m ≤ 256) (hpe : parE m = 1) :
    Calls Try.prog 29 #[.int .i64 a, .int .i64 b, .int .i64 (m : Int)] w fun e w' => (∃ v, e = .returned (.tuple #[v, .int .i64 0]) ∧ OwnI w.heap.size w' v (cenL a b m)) ∧ Gr w w' := by
  obtain ⟨i0, hi, hz0, hz1, hz2⟩ := info_parts Try.infoI
  have HE := r14_given (a := a) (b := b) (n := (m : Int)) w
  rw [if_pos (okF_iff.2 ⟨ha, ha2, hb, hb2, by omega, by omega⟩)] at HE
  have HE := Lib.hid HE
  obtain ⟨M, hM⟩ : ∃ M : Nat → Int, M = fun k : Nat => max (2 * (k : Int) - ((m : Int) - 1)) ((m : Int) - 1 - 2 * (k : Int)) := ⟨_, rfl⟩
  have HM : Hid (∀ k : Nat, max (2 * (k : Int) - ((m : Int) - 1)) ((m : Int) - 1 - 2 * (k : Int)) = M k) := Lib.hid fun k => by rw [hM]
  have HMD : Hid (∀ k : Nat, disC m k = (M k - 1)) := Lib.hid fun k => by rw [hM]; unfold disC; rw [hpe]
  have HQD : Hid ((m : Int) - 1 - parE m = ((m : Int) - 1 - 1)) := Lib.hid (by rw [hpe])
  have HMb : Hid (∀ k : Nat, k < m → 0 ≤ M k ∧ M k ≤ 300) := Lib.hid fun k hk => by rw [hM]; simp only; omega
  clear hM
  have hrem : (m : Int).tmod 2 = 0 := by
    rw [Int.tmod_eq_emod_of_nonneg (by omega)]
    unfold parE at hpe; split at hpe <;> omega
  have HX : Hid (∀ k : Nat, k < m → ∀ W, Calls Try.prog 54 #[.int .i64 a, .int .i64 b, .int .i64 (M k - 1), .int .i64 ((m : Int) - 1 - 1)] W fun e' w' => e' = .returned (.int .i64 (btw a b (M k - 1) ((m : Int) - 1 - 1))) ∧ W = w') := Lib.hid fun k hk W => by
    have h := disC_bounds (n := (m : Int)) (i := (k : Int)) (by omega) (by omega)
    rw [HMD.out, HQD.out] at h
    exact r14_between W ha ha2 hb hb2 h.1 h.2 (by omega)
  obtain ⟨L, hL⟩ : ∃ L, cenL a b m = L := ⟨_, rfl⟩
  rw [hL]
  have HLs : Hid (∀ k, k < m → L.take (k + 1) = L.take k ++ [btw a b (M k - 1) ((m : Int) - 1 - 1)]) := Lib.hid fun k hk => by rw [← hL]; have := take_map_range (fun k : Nat => btw a b (disC m k) ((m : Int) - 1 - parE m)) hk; simp only [HMD.out, HQD.out] at this; unfold cenL; simp only [HMD.out, HQD.out]; exact this
  have HLl : Hid (L.length = m) := Lib.hid (by rw [← hL]; simp [cenL])
  clear hL ha ha2 hb hb2 hpe
  go_enter Try.func29, Try.ntmps29
  go_wp2_with fail
  refine HE.out.mono ?_; rintro e w' ⟨rfl, rfl⟩
  clear HE
  go_wp2
  go_loopw [10, 11] (fun v i wr => ∃ k : Nat, i = .int .i64 k ∧ k ≤ m ∧ Hid (OwnI w.heap.size wr v (L.take k)) ∧ Hid (Gr w wr)) (fun _ i _ => m - (intOf i).toNat)
  case atStart => exact ⟨0, rfl, Nat.zero_le _, Lib.hid (by simpa using OwnI.nil _ _), Lib.hid (Gr.refl _)⟩
  case round =>
    obtain ⟨k, rfl, hk, HO, HG⟩ := hrel
    by_cases hlt : k < m
    · have HX1 := Lib.hid (HX.out k hlt)
      have HL1 := Lib.hid (HLs.out k hlt)
      have hll : (L.take k).length ≤ 300 := by rw [List.length_take]; omega
      generalize L.take k = xs at *
      obtain ⟨hM0, hM3⟩ := HMb.out k hlt
      have HMk := Lib.hid (HM.out k)
      generalize M k = mk at *
      generalize btw a b (mk - 1) ((m : Int) - 1 - 1) = r at *
      go_wp2_with (refine wpl_max2 (x := 2 * (k : Int) - ((m : Int) - 1)) (y := (m : Int) - 1 - 2 * (k : Int)) rfl rfl rfl rfl ?_; rw [HMk.out])
      refine (HX1.out _).mono ?_; rintro e w' ⟨rfl, rfl⟩
      clear HX1
      go_wp2_with (at_builtin; refine push_i hi hz0 hz1 hz2 rfl _ _ rfl _ xs rfl HO.out HG.out r _ rfl rfl (by omega) ?_; rintro v5 w5 HO5 hg5; have HG5 := Lib.hid hg5; clear hg5)
      go_roundw
      case rel => exact ⟨k + 1, by go_num, by omega, Lib.hid (by rw [HL1.out]; exact HO5.out), HG5⟩
      case measure => simp [intOf]; omega
    · have hk2 : k = m := by omega
      subst hk2
      have ho := HO.out
      rw [List.take_of_length_le (by rw [HLl.out]; exact Nat.le_refl _)] at ho
      have HOe := Lib.hid ho
      clear HO ho HX
      go_wp2
      go_ret2
      exact ⟨⟨_, rfl, HOe.out⟩, HG.out⟩
set_option maxRecDepth 100000 in
set_option maxHeartbeats 2000000 in
theorem r14_CentreO {a b : Int} {m : Nat} (w : World) (ha : 0 ≤ a) (ha2 : a ≤ 65535) (hb : 0 ≤ b) (hb2 : b ≤ 65535) (hm : m ≤ 256) (hpe : parE m = 0) :
    Calls Try.prog 29 #[.int .i64 a, .int .i64 b, .int .i64 (m : Int)] w fun e w' => (∃ v, e = .returned (.tuple #[v, .int .i64 0]) ∧ OwnI w.heap.size w' v (cenL a b m)) ∧ Gr w w' := by
  obtain ⟨i0, hi, hz0, hz1, hz2⟩ := info_parts Try.infoI
  have HE := r14_given (a := a) (b := b) (n := (m : Int)) w
  rw [if_pos (okF_iff.2 ⟨ha, ha2, hb, hb2, by omega, by omega⟩)] at HE
  have HE := Lib.hid HE
  obtain ⟨M, hM⟩ : ∃ M : Nat → Int, M = fun k : Nat => max (2 * (k : Int) - ((m : Int) - 1)) ((m : Int) - 1 - 2 * (k : Int)) := ⟨_, rfl⟩
  have HM : Hid (∀ k : Nat, max (2 * (k : Int) - ((m : Int) - 1)) ((m : Int) - 1 - 2 * (k : Int)) = M k) := Lib.hid fun k => by rw [hM]
  have HMD : Hid (∀ k : Nat, disC m k = (M k)) := Lib.hid fun k => by rw [hM]; unfold disC; rw [hpe]; rw [Int.sub_zero]
  have HQD : Hid ((m : Int) - 1 - parE m = ((m : Int) - 1)) := Lib.hid (by rw [hpe]; rw [Int.sub_zero])
  have HMb : Hid (∀ k : Nat, k < m → 0 ≤ M k ∧ M k ≤ 300) := Lib.hid fun k hk => by rw [hM]; simp only; omega
  clear hM
  have hrem : (m : Int).tmod 2 = 1 := by
    rw [Int.tmod_eq_emod_of_nonneg (by omega)]
    unfold parE at hpe; split at hpe <;> omega
  have HX : Hid (∀ k : Nat, k < m → ∀ W, Calls Try.prog 54 #[.int .i64 a, .int .i64 b, .int .i64 (M k), .int .i64 ((m : Int) - 1)] W fun e' w' => e' = .returned (.int .i64 (btw a b (M k) ((m : Int) - 1))) ∧ W = w') := Lib.hid fun k hk W => by
    have h := disC_bounds (n := (m : Int)) (i := (k : Int)) (by omega) (by omega)
    rw [HMD.out, HQD.out] at h
    exact r14_between W ha ha2 hb hb2 h.1 h.2 (by omega)
  obtain ⟨L, hL⟩ : ∃ L, cenL a b m = L := ⟨_, rfl⟩
  rw [hL]
  have HLs : Hid (∀ k, k < m → L.take (k + 1) = L.take k ++ [btw a b (M k) ((m : Int) - 1)]) := Lib.hid fun k hk => by rw [← hL]; have := take_map_range (fun k : Nat => btw a b (disC m k) ((m : Int) - 1 - parE m)) hk; simp only [HMD.out, HQD.out] at this; unfold cenL; simp only [HMD.out, HQD.out]; exact this
  have HLl : Hid (L.length = m) := Lib.hid (by rw [← hL]; simp [cenL])
  clear hL ha ha2 hb hb2 hpe
  go_enter Try.func29, Try.ntmps29
  go_wp2_with fail
  refine HE.out.mono ?_; rintro e w' ⟨rfl, rfl⟩
  clear HE
  go_wp2
  go_loopw [10, 11] (fun v i wr => ∃ k : Nat, i = .int .i64 k ∧ k ≤ m ∧ Hid (OwnI w.heap.size wr v (L.take k)) ∧ Hid (Gr w wr)) (fun _ i _ => m - (intOf i).toNat)
  case atStart => exact ⟨0, rfl, Nat.zero_le _, Lib.hid (by simpa using OwnI.nil _ _), Lib.hid (Gr.refl _)⟩
  case round =>
    obtain ⟨k, rfl, hk, HO, HG⟩ := hrel
    by_cases hlt : k < m
    · have HX1 := Lib.hid (HX.out k hlt)
      have HL1 := Lib.hid (HLs.out k hlt)
      have hll : (L.take k).length ≤ 300 := by rw [List.length_take]; omega
      generalize L.take k = xs at *
      obtain ⟨hM0, hM3⟩ := HMb.out k hlt
      have HMk := Lib.hid (HM.out k)
      generalize M k = mk at *
      generalize btw a b (mk) ((m : Int) - 1) = r at *
      go_wp2_with (refine wpl_max2 (x := 2 * (k : Int) - ((m : Int) - 1)) (y := (m : Int) - 1 - 2 * (k : Int)) rfl rfl rfl rfl ?_; rw [HMk.out])
      refine (HX1.out _).mono ?_; rintro e w' ⟨rfl, rfl⟩
      clear HX1
      go_wp2_with (at_builtin; refine push_i hi hz0 hz1 hz2 rfl _ _ rfl _ xs rfl HO.out HG.out r _ rfl rfl (by omega) ?_; rintro v5 w5 HO5 hg5; have HG5 := Lib.hid hg5; clear hg5)
      go_roundw
      case rel => exact ⟨k + 1, by go_num, by omega, Lib.hid (by rw [HL1.out]; exact HO5.out), HG5⟩
      case measure => simp [intOf]; omega
    · have hk2 : k = m := by omega
      subst hk2
      have ho := HO.out
      rw [List.take_of_length_le (by rw [HLl.out]; exact Nat.le_refl _)] at ho
      have HOe := Lib.hid ho
      clear HO ho HX
      go_wp2
      go_ret2
      exact ⟨⟨_, rfl, HOe.out⟩, HG.out⟩
theorem r14_Centre {a b : Int} {m : Nat} (w : World) (ha : 0 ≤ a) (ha2 : a ≤ 65535) (hb : 0 ≤ b) (hb2 : b ≤ 65535) (hm : m ≤ 256) :
    Calls Try.prog 29 #[.int .i64 a, .int .i64 b, .int .i64 (m : Int)] w fun e w' => (∃ v, e = .returned (.tuple #[v, .int .i64 0]) ∧ OwnI w.heap.size w' v (cenL a b m)) ∧ Gr w w' := by
  by_cases h : (m : Int) % 2 = 0
  · exact r14_CentreE w ha ha2 hb hb2 hm (by unfold parE; rw [if_pos h])
  · exact r14_CentreO w ha ha2 hb hb2 hm (by unfold parE; rw [if_neg h])
end Go.Proofs.Ytmcngnnbfmjajaa
