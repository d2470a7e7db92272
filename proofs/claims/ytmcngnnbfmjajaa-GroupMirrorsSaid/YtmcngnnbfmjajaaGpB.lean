/- Law 14: equal lists, equal groups; Check, Table and Few. -/
import Derived.Test.YtmcngnnbfmjajaaGpA
set_option linter.unusedVariables false
set_option linter.unusedSimpArgs false
namespace Go.Proofs.Ytmcngnnbfmjajaa
open Go.RowKit
open Z
set_option maxHeartbeats 1000000 in
set_option maxRecDepth 100000 in
theorem sl_EqualI (a b : Option Addr) (L M : List Int) (ca cb : Nat) (w : World) (hL : RdI w a L) (hM : RdI w b M) (hl : L.length ≤ 9223372036854775807) (hm : M.length ≤ 9223372036854775807) :
    Calls Try.prog 30 #[.slice a L.length ca, .slice b M.length cb] w fun e w' => e = .returned (.bool (decide (L = M))) ∧ Gr w w' := by
  have HL := Lib.hid hL
  have HM := Lib.hid hM
  clear hL hM
  by_cases hlm : L.length = M.length
  · obtain ⟨n, hn⟩ : ∃ n, L.length = n := ⟨_, rfl⟩
    have HN := Lib.hid hn
    have HN2 := Lib.hid (hlm.symm.trans hn)
    rw [hn] at hl
    rw [hn, hlm.symm.trans hn]
    clear hlm hn hm
    obtain ⟨V, hV⟩ : ∃ V, decide (L = M) = V := ⟨_, rfl⟩
    rw [hV]
    have HV := Lib.hid hV
    clear hV
    go_enter Try.func30, Try.ntmps30
    go_wp2
    go_loopw [13] (fun i wr => ∃ j : Nat, i = .int .i64 j ∧ j ≤ n ∧ Hid (∀ k (h : k < L.length) (h' : k < M.length), k < j → L[k] = M[k]) ∧ Hid (Gr w wr)) (fun i _ => n - (intOf i).toNat)
    case atStart => exact ⟨0, rfl, Nat.zero_le _, Lib.hid (fun k _ _ h => absurd h (by omega)), Lib.hid (Gr.refl w)⟩
    case round =>
      obtain ⟨j, rfl, hj, HP, HG⟩ := hrel
      by_cases hlt : j < n
      · have j1 : j < L.length := by rw [HN.out]; exact hlt
        have j2 : j < M.length := by rw [HN2.out]; exact hlt
        obtain ⟨p, o, rfl, c0⟩ := (HL.out.gr HG.out) j j1
        obtain ⟨q, r, rfl, c1⟩ := (HM.out.gr HG.out) j j2
        by_cases he : L[j] = M[j]
        · have HP3 : Hid (∀ k (h : k < L.length) (h' : k < M.length), k < j + 1 → L[k] = M[k]) := Lib.hid fun k h h' hkj => by
            by_cases e : k = j
            · subst e; exact he
            · exact HP.out k h h' (by omega)
          rw [← he] at c1
          generalize L[j] = x at *
          clear he HP
          go_wp2_with fail
          go_region
          have HG3 := Lib.hid HG.out.drew
          go_wp2
          go_roundw
          case rel => exact ⟨j + 1, by go_num, by omega, HP3, HG3⟩
          case measure => simp [intOf]; omega
        · have hv : V = false := by rw [← HV.out, decide_eq_false_iff_not]; rintro rfl; exact he rfl
          subst hv
          generalize L[j] = x at *
          generalize M[j] = y at *
          clear HP HV
          go_wp2_with fail
          go_region
          have HG3 := Lib.hid HG.out.drew
          go_wp2
          go_ret
          exact ⟨rfl, HG3.out⟩
      · have hv : V = true := by
          rw [← HV.out, decide_eq_true_iff]
          refine List.ext_getElem (HN.out.trans HN2.out.symm) fun k h1 h2 => HP.out k h1 h2 ?_
          have := HN.out; omega
        subst hv
        clear HP HV
        go_wp2
        go_ret
        exact ⟨rfl, HG.out⟩
  · rw [decide_eq_false (fun e => hlm (by rw [e]))]
    generalize L.length = n at *
    generalize M.length = m at *
    go_enter Try.func30, Try.ntmps30
    go_wp2
    go_ret
    exact ⟨rfl, Gr.refl w⟩
set_option maxHeartbeats 1000000 in
set_option maxRecDepth 100000 in
theorem gp_equal (a b : Option Addr) (L M : List Int) (ca cb : Nat) (w : World) (hL : RdI w a L) (hM : RdI w b M) (hl : L.length ≤ 9223372036854775807) (hm : M.length ≤ 9223372036854775807) :
    Calls Try.prog 38 #[.slice a L.length ca, .slice b M.length cb] w fun e w' => e = .returned (.bool (decide (L = M))) ∧ Gr w w' := by
  have HL := Lib.hid hL
  have HM := Lib.hid hM
  clear hL hM
  by_cases hlm : L.length = M.length
  · obtain ⟨n, hn⟩ : ∃ n, L.length = n := ⟨_, rfl⟩
    have HN := Lib.hid hn
    have HN2 := Lib.hid (hlm.symm.trans hn)
    rw [hn] at hl
    rw [hn, hlm.symm.trans hn]
    clear hlm hn hm
    obtain ⟨V, hV⟩ : ∃ V, decide (L = M) = V := ⟨_, rfl⟩
    rw [hV]
    have HV := Lib.hid hV
    clear hV
    go_enter Try.func38, Try.ntmps38
    go_wp2
    go_loopw [14] (fun i wr => ∃ j : Nat, i = .int .i64 j ∧ j ≤ n ∧ Hid (∀ k (h : k < L.length) (h' : k < M.length), k < j → L[k] = M[k]) ∧ Hid (Gr w wr)) (fun i _ => n - (intOf i).toNat)
    case atStart => exact ⟨0, rfl, Nat.zero_le _, Lib.hid (fun k _ _ h => absurd h (by omega)), Lib.hid (Gr.refl w)⟩
    case round =>
      obtain ⟨j, rfl, hj, HP, HG⟩ := hrel
      by_cases hlt : j < n
      · have j1 : j < L.length := by rw [HN.out]; exact hlt
        have j2 : j < M.length := by rw [HN2.out]; exact hlt
        obtain ⟨p, o, rfl, c0⟩ := (HL.out.gr HG.out) j j1
        obtain ⟨q, r, rfl, c1⟩ := (HM.out.gr HG.out) j j2
        by_cases he : L[j] = M[j]
        · have HP3 : Hid (∀ k (h : k < L.length) (h' : k < M.length), k < j + 1 → L[k] = M[k]) := Lib.hid fun k h h' hkj => by
            by_cases e : k = j
            · subst e; exact he
            · exact HP.out k h h' (by omega)
          rw [← he] at c1
          generalize L[j] = x at *
          clear he HP
          have HG3 := HG
          go_wp2
          go_roundw
          case rel => exact ⟨j + 1, by go_num, by omega, HP3, HG3⟩
          case measure => simp [intOf]; omega
        · have hv : V = false := by rw [← HV.out, decide_eq_false_iff_not]; rintro rfl; exact he rfl
          subst hv
          generalize L[j] = x at *
          generalize M[j] = y at *
          clear HP HV
          have HG3 := HG
          go_wp2
          go_ret
          exact ⟨rfl, HG3.out⟩
      · have hv : V = true := by
          rw [← HV.out, decide_eq_true_iff]
          refine List.ext_getElem (HN.out.trans HN2.out.symm) fun k h1 h2 => HP.out k h1 h2 ?_
          have := HN.out; omega
        subst hv
        clear HP HV
        go_wp2
        go_ret
        exact ⟨rfl, HG.out⟩
  · rw [decide_eq_false (fun e => hlm (by rw [e]))]
    generalize L.length = n at *
    generalize M.length = m at *
    go_enter Try.func38, Try.ntmps38
    go_wp2
    go_ret
    exact ⟨rfl, Gr.refl w⟩
set_option maxHeartbeats 1000000 in
set_option maxRecDepth 100000 in
theorem r14_SameInts (a b : Option Addr) (L M : List Int) (ca cb : Nat) (w : World) (hL : RdI w a L) (hM : RdI w b M) (hl : L.length ≤ 9223372036854775807) (hm : M.length ≤ 9223372036854775807) :
    Calls Try.prog 39 #[.slice a L.length ca, .slice b M.length cb] w fun e w' => e = .returned (.bool (decide (L = M))) ∧ Gr w w' := by
  have HL := Lib.hid hL
  have HM := Lib.hid hM
  clear hL hM
  by_cases hlm : L.length = M.length
  · obtain ⟨n, hn⟩ : ∃ n, L.length = n := ⟨_, rfl⟩
    have HN := Lib.hid hn
    have HN2 := Lib.hid (hlm.symm.trans hn)
    rw [hn] at hl
    rw [hn, hlm.symm.trans hn]
    clear hlm hn hm
    obtain ⟨V, hV⟩ : ∃ V, decide (L = M) = V := ⟨_, rfl⟩
    rw [hV]
    have HV := Lib.hid hV
    clear hV
    go_enter Try.func39, Try.ntmps39
    go_wp2
    go_loopw [5] (fun i wr => ∃ j : Nat, i = .int .i64 j ∧ j ≤ n ∧ Hid (∀ k (h : k < L.length) (h' : k < M.length), k < j → L[k] = M[k]) ∧ Hid (Gr w wr)) (fun i _ => n - (intOf i).toNat)
    case atStart => exact ⟨0, rfl, Nat.zero_le _, Lib.hid (fun k _ _ h => absurd h (by omega)), Lib.hid (Gr.refl w)⟩
    case round =>
      obtain ⟨j, rfl, hj, HP, HG⟩ := hrel
      by_cases hlt : j < n
      · have j1 : j < L.length := by rw [HN.out]; exact hlt
        have j2 : j < M.length := by rw [HN2.out]; exact hlt
        obtain ⟨p, o, rfl, c0⟩ := (HL.out.gr HG.out) j j1
        obtain ⟨q, r, rfl, c1⟩ := (HM.out.gr HG.out) j j2
        by_cases he : L[j] = M[j]
        · have HP3 : Hid (∀ k (h : k < L.length) (h' : k < M.length), k < j + 1 → L[k] = M[k]) := Lib.hid fun k h h' hkj => by
            by_cases e : k = j
            · subst e; exact he
            · exact HP.out k h h' (by omega)
          rw [← he] at c1
          generalize L[j] = x at *
          clear he HP
          go_wp2_with fail
          go_region
          have HG3 := Lib.hid HG.out.drew
          go_wp2
          go_roundw
          case rel => exact ⟨j + 1, by go_num, by omega, HP3, HG3⟩
          case measure => simp [intOf]; omega
        · have hv : V = false := by rw [← HV.out, decide_eq_false_iff_not]; rintro rfl; exact he rfl
          subst hv
          generalize L[j] = x at *
          generalize M[j] = y at *
          clear HP HV
          go_wp2_with fail
          go_region
          have HG3 := Lib.hid HG.out.drew
          go_wp2
          go_ret
          exact ⟨rfl, HG3.out⟩
      · have hv : V = true := by
          rw [← HV.out, decide_eq_true_iff]
          refine List.ext_getElem (HN.out.trans HN2.out.symm) fun k h1 h2 => HP.out k h1 h2 ?_
          have := HN.out; omega
        subst hv
        clear HP HV
        go_wp2
        go_ret
        exact ⟨rfl, HG.out⟩
  · rw [decide_eq_false (fun e => hlm (by rw [e]))]
    generalize L.length = n at *
    generalize M.length = m at *
    go_enter Try.func39, Try.ntmps39
    go_wp2
    go_ret
    exact ⟨rfl, Gr.refl w⟩
set_option maxHeartbeats 1000000 in
set_option maxRecDepth 100000 in
theorem gp_Same {u v : Value} (g h : Gp) (w : World) (hu : GpV w u g) (hv : GpV w v h) :
    Calls Try.prog 13 #[u, v] w fun e w' => e = .returned (.bool (decide (g = h))) ∧ Gr w w' := by
  obtain ⟨a, ca, rfl, ra, la, ma⟩ := hu
  obtain ⟨b, cb, rfl, rb, lb, mb⟩ := hv
  unfold maxLen at ma mb
  obtain ⟨x, L⟩ := g
  obtain ⟨y, M⟩ := h
  simp only at ra la rb lb ⊢
  have hg2 := ((Gr.refl w).alloc (.cells #[.int .i64 x, .slice a L.length ca] 25)).alloc (.cells #[.int .i64 y, .slice b M.length cb] 25)
  have HG := Lib.hid hg2
  have HE := Lib.hid (fun W (hg : Gr w W) => gp_equal a b L M ca cb W (ra.gr hg) (rb.gr hg) (by omega) (by omega))
  clear ra rb hg2
  by_cases hxy : x = y
  · subst hxy
    have hd : decide ((x, L) = (x, M)) = decide (L = M) := by simp
    rw [hd]
    clear hd
    have HE2 := Lib.hid (HE.out _ HG.out)
    clear HE
    generalize decide (L = M) = D at *
    generalize L.length = n at *
    generalize M.length = m at *
    go_enter Try.func13, Try.ntmps13
    go_wp2_with fail
    refine HE2.out.mono ?_; rintro e w1 ⟨rfl, hg1⟩
    have HG1 := Lib.hid (HG.out.trans hg1)
    clear hg1 HG HE2
    go_wp2
    go_ret
    exact ⟨rfl, HG1.out⟩
  · have hd : decide ((x, L) = (y, M)) = false := by simp [hxy]
    rw [hd]
    clear hd HE
    generalize L.length = n at *
    generalize M.length = m at *
    go_enter Try.func13, Try.ntmps13
    go_wp2
    go_ret
    exact ⟨rfl, HG.out⟩
set_option maxHeartbeats 1000000 in
set_option maxRecDepth 100000 in
theorem r14_Same {u v : Value} (g h : Gp) (w : World) (hu : GpV w u g) (hv : GpV w v h) :
    Calls Try.prog 14 #[u, v] w fun e w' => e = .returned (.bool (decide (g = h))) ∧ Gr w w' := by
  obtain ⟨a, ca, rfl, ra, la, ma⟩ := hu
  obtain ⟨b, cb, rfl, rb, lb, mb⟩ := hv
  unfold maxLen at ma mb
  obtain ⟨x, L⟩ := g
  obtain ⟨y, M⟩ := h
  simp only at ra la rb lb ⊢
  have hg2 := ((Gr.refl w).alloc (.cells #[.int .i64 x, .slice a L.length ca] 25)).alloc (.cells #[.int .i64 y, .slice b M.length cb] 25)
  have HG := Lib.hid hg2
  have HE := Lib.hid (fun W (hg : Gr w W) => r14_SameInts a b L M ca cb W (ra.gr hg) (rb.gr hg) (by omega) (by omega))
  clear ra rb hg2
  by_cases hxy : x = y
  · subst hxy
    have hd : decide ((x, L) = (x, M)) = decide (L = M) := by simp
    rw [hd]
    clear hd
    have HE2 := Lib.hid (HE.out _ HG.out)
    clear HE
    generalize decide (L = M) = D at *
    generalize L.length = n at *
    generalize M.length = m at *
    go_enter Try.func14, Try.ntmps14
    go_wp2_with fail
    refine HE2.out.mono ?_; rintro e w1 ⟨rfl, hg1⟩
    have HG1 := Lib.hid (HG.out.trans hg1)
    clear hg1 HG HE2
    go_wp2
    go_ret
    exact ⟨rfl, HG1.out⟩
  · have hd : decide ((x, L) = (y, M)) = false := by simp [hxy]
    rw [hd]
    clear hd HE
    generalize L.length = n at *
    generalize M.length = m at *
    go_enter Try.func14, Try.ntmps14
    go_wp2
    go_ret
    exact ⟨rfl, HG.out⟩
end Go.Proofs.Ytmcngnnbfmjajaa
