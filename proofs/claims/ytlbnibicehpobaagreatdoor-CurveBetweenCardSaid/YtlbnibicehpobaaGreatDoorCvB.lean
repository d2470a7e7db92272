/- Curves: Check of the reference, Few, Same, Straight. -/
import Derived.Test.YtlbnibicehpobaaGreatDoorCvA
set_option linter.unusedVariables false
set_option linter.unusedSimpArgs false
namespace Go.Proofs.YtlbnibicehpobaaGreatDoor
open Go.RowKit Go.Shelf
open Z
set_option maxRecDepth 100000 in
set_option maxHeartbeats 4000000 in
theorem r9_Check (a : Option Addr) (R : Pts) (cap : Nat) (w : World) (hR : PtAt w a R) (hJ : ∀ p ∈ R, isJ p.1 ∧ isJ p.2) (hlen : R.length ≤ 10000000000000) :
    Calls Tryz.prog 16 #[.slice a R.length cap] w fun e w' => e = .returned (.int .i64 (cvC R)) ∧ Gr w w' := by
  have HR := Lib.hid hR
  have HJ := Lib.hid hJ
  obtain ⟨n, hn⟩ : ∃ n, R.length = n := ⟨_, rfl⟩
  have HE := Lib.hid hn
  by_cases h2 : R.length < 2
  · have hv : cvC R = 14 := by unfold cvC; rw [if_pos h2]
    rw [hv]
    rw [hn] at h2 hlen ⊢
    have k0 : decide ((n : Int) < 2) = true := decide_eq_true (by omega)
    have k1 : (n : Int) < 2 := by omega
    clear hv hR hJ hn h2
    go_enter Tryz.func16, Tryz.ntmps16
    go_wp2
    go_ret
    exact ⟨rfl, Gr.refl w⟩
  · by_cases h16 : 16 < R.length
    · have hv : cvC R = 5 := by unfold cvC; rw [if_neg h2, if_pos h16]
      rw [hv]
      rw [hn] at h2 h16 hlen ⊢
      have k0 : decide ((n : Int) < 2) = false := decide_eq_false (by omega)
      have k1 : decide ((16 : Int) < n) = true := decide_eq_true (by omega)
      have k2 : decide ((n : Int) > 16) = true := decide_eq_true (by omega)
      clear hv hR hJ hn
      go_enter Tryz.func16, Tryz.ntmps16
      go_wp2
      go_ret
      exact ⟨rfl, Gr.refl w⟩
    · obtain ⟨b, off, rfl, hc⟩ := hR.block (by omega)
      have HC := Lib.hid hc
      obtain ⟨V, hV⟩ : ∃ V, cvL R none = V := ⟨_, rfl⟩
      have hvc : cvC R = if V ≠ 0 then V else cvE R := by unfold cvC; rw [if_neg h2, if_neg h16, hV]
      have HVC := Lib.hid hvc
      have HV := Lib.hid (show cvL (R.drop 0) (prevX R 0) = V from hV)
      obtain ⟨U, hU⟩ : ∃ U, cvC R = U := ⟨_, rfl⟩
      rw [hU]
      rw [hU] at HVC
      rw [hn] at h2 h16 hlen ⊢
      have k0 : decide ((n : Int) < 2) = false := decide_eq_false (by omega)
      have k1 : decide ((16 : Int) < n) = false := decide_eq_false (by omega)
      have k2 : decide ((n : Int) > 16) = false := decide_eq_false (by omega)
      have H2 := Lib.hid h2
      clear hV hvc hU hR hJ hn hc h2
      go_enter Tryz.func16, Tryz.ntmps16
      go_wp2
      go_loopw [3] (fun i wr => ∃ j : Nat, i = .int .i64 j ∧ j ≤ n ∧ Hid (cvL (R.drop j) (prevX R j) = V) ∧ Hid (Gr w wr)) (fun i _ => n - (intOf i).toNat)
      case atStart => exact ⟨0, rfl, Nat.zero_le _, HV, Lib.hid (Gr.refl w)⟩
      case round =>
        obtain ⟨j, rfl, hj, HVj, HG⟩ := hrel
        by_cases hlt : j < n
        · have hltR : j < R.length := by rw [HE.out]; exact hlt
          have d0 := cv_cell HG.out (HC.out j hltR).1
          have d1 := cv_cell HG.out (HC.out j hltR).2
          have hv := HVj.out
          rw [List.drop_eq_getElem_cons hltR] at hv
          unfold cvL at hv
          have hps := prevX_succ hltR
          rw [← hps] at hv
          have hjx := HJ.out _ (List.getElem_mem hltR)
          have hprev : ∀ i (h : i < R.length), i + 1 = j → prevX R j = some R[i].1 ∧ wr.cell? ⟨b, off + i * 2, none⟩ = some (.int .i64 R[i].1) := fun i h e => by
            subst e; exact ⟨prevX_succ h, cv_cell HG.out (HC.out i h).1⟩
          generalize hx : R[j] = x at *
          obtain ⟨f, t⟩ := x
          simp only at d0 d1 hv hjx
          have HF := Lib.hid (fun w => r4_Is f w hjx.1)
          have HT := Lib.hid (fun w => r4_Is t w hjx.2)
          have HGX := Lib.hid HG.out
          clear hjx
          cases hf : lvl f
          · rw [hf, if_pos (by simp)] at hv
            rw [hf] at HF
            subst hv
            have hU := HVC.out
            rw [if_pos (by decide)] at hU
            subst hU
            clear hprev hx hps HVj hf
            go_wp2_with fail
            refine (HF.out _).mono ?_; rintro e w2 ⟨rfl, rfl⟩
            go_wp2
            go_ret
            exact ⟨rfl, HGX.out⟩
          · rw [hf] at HF
            cases ht : lvl t
            · rw [hf, ht, if_pos (by simp)] at hv
              rw [ht] at HT
              subst hv
              have hU := HVC.out
              rw [if_pos (by decide)] at hU
              subst hU
              clear hprev hx hps HVj hf ht
              go_wp2_with fail
              refine (HF.out _).mono ?_; rintro e w2 ⟨rfl, rfl⟩
              go_wp2_with fail
              refine (HT.out _).mono ?_; rintro e w2 ⟨rfl, rfl⟩
              go_wp2
              go_ret
              exact ⟨rfl, HGX.out⟩
            · rw [ht] at HT
              rw [hf, ht, if_neg (by simp)] at hv
              clear hf ht
              cases j with
              | zero =>
                rw [if_neg (by simp [prevX])] at hv
                have HV2 := Lib.hid hv
                simp only [Nat.zero_mul, Nat.add_zero] at d0 d1
                clear hv hprev hx hps HVj
                go_wp2_with fail
                refine (HF.out _).mono ?_; rintro e w2 ⟨rfl, rfl⟩
                go_wp2_with fail
                refine (HT.out _).mono ?_; rintro e w2 ⟨rfl, rfl⟩
                go_wp2_with fail
                go_quiet (fail)
                rename_i nq
                have HG3 := Lib.hid (below_drewN HGX.out nq)
                go_wp2
                go_roundw
                case rel => exact ⟨0 + 1, by go_num, by omega, HV2, HG3⟩
                case measure => simp [intOf]; omega
              | succ i =>
                obtain ⟨hpe, m0⟩ := hprev i (by omega) rfl
                rw [hpe] at hv
                have hjq := (HJ.out _ (List.getElem_mem (show i < R.length by omega))).1
                generalize R[i].1 = q at *
                simp only at hv
                clear hprev hx hpe HVj hps hjq
                have hkc : ((i + 1 : Nat) : Int) = (i : Int) + 1 := by omega
                rw [hkc]
                clear hkc
                by_cases hle : f ≤ q
                · rw [if_pos (by simpa using hle)] at hv
                  subst hv
                  have hU := HVC.out
                  rw [if_pos (by decide)] at hU
                  subst hU
                  clear HVC
                  go_wp2_with fail
                  refine (HF.out _).mono ?_; rintro e w2 ⟨rfl, rfl⟩
                  go_wp2_with fail
                  refine (HT.out _).mono ?_; rintro e w2 ⟨rfl, rfl⟩
                  go_wp2_with fail
                  go_quiet (fail)
                  rename_i nq
                  have HG3 := Lib.hid (below_drewN HGX.out nq)
                  go_wp2
                  go_ret
                  exact ⟨rfl, HG3.out⟩
                · rw [if_neg (by simpa using hle)] at hv
                  have HV2 := Lib.hid hv
                  clear hv
                  have hlt2 : q < f := by omega
                  go_wp2_with fail
                  refine (HF.out _).mono ?_; rintro e w2 ⟨rfl, rfl⟩
                  go_wp2_with fail
                  refine (HT.out _).mono ?_; rintro e w2 ⟨rfl, rfl⟩
                  go_wp2_with fail
                  go_quiet (fail)
                  rename_i nq
                  have HG3 := Lib.hid (below_drewN HGX.out nq)
                  go_wp2
                  go_roundw
                  case rel => exact ⟨i + 1 + 1, by go_num, by omega, HV2, HG3⟩
                  case measure => simp [intOf]; omega
        · have hjl : j = n := by omega
          subst hjl
          have hv := HVj.out
          rw [List.drop_of_length_le (by rw [HE.out]; exact Nat.le_refl _)] at hv
          unfold cvL at hv
          subst hv
          have hU := HVC.out
          rw [if_neg (by simp)] at hU
          clear HVj HVC
          obtain ⟨m, rfl⟩ : ∃ m, j = m + 2 := ⟨j - 2, by have := H2.out; omega⟩
          have l0 : 0 < R.length := by rw [HE.out]; omega
          have l1 : m + 1 < R.length := by rw [HE.out]; omega
          have d0 := cv_cell HG.out (HC.out 0 l0).1
          have d1 := cv_cell HG.out (HC.out (m + 1) l1).1
          rw [cvE_zero (by rw [HE.out]; omega)] at hU
          have e2 : R[R.length - 1] = R[m + 1] := by congr 1; rw [HE.out]; omega
          rw [e2] at hU
          generalize R[0].1 = x at *
          generalize R[m + 1].1 = y at *
          simp only [Nat.zero_mul, Nat.add_zero] at d0
          have hkc : ((m + 2 : Nat) : Int) = (m : Int) + 2 := by omega
          have hwr : IntKind.i64.wrap ((m : Int) + 2 - 1) = ((m + 1 : Nat) : Int) := by rw [show (m : Int) + 2 - 1 = ((m + 1 : Nat) : Int) by omega]; exact IntWalk.i64_in _ (by omega)
          have hm1 : m + 1 < m + 2 := by omega
          have hm0 : 0 < m + 2 := by omega
          clear l0 l1 e2
          by_cases hx : x = 0
          · by_cases hy : y = 65535
            · rw [if_pos ⟨hx, hy⟩] at hU
              subst hx; subst hy; subst hU
              go_wp2
              go_ret
              exact ⟨rfl, HG.out⟩
            · rw [if_neg (fun h => hy h.2)] at hU
              subst hx; subst hU
              go_wp2
              go_ret
              exact ⟨rfl, HG.out⟩
          · rw [if_neg (fun h => hx h.1)] at hU
            subst hU
            go_wp2
            go_ret
            exact ⟨rfl, HG.out⟩
theorem PtAt.at {w : World} {a : Option Addr} {R : Pts} (h : PtAt w a R) {j : Nat} (hj : j < R.length) : ∃ b off, a = some ⟨b, off, none⟩ ∧ w.cell? ⟨b, off + j * 2, none⟩ = some (.int .i64 R[j].1) ∧ w.cell? ⟨b, off + j * 2 + 1, none⟩ = some (.int .i64 R[j].2) := by
  obtain ⟨b, off, e, hc⟩ := h.block (by omega)
  exact ⟨b, off, e, hc j hj⟩
set_option maxHeartbeats 1000000 in
set_option maxRecDepth 100000 in
theorem r9_Same (a b : Option Addr) (L M : List (Int × Int)) (ca cb : Nat) (w : World) (hL : PtAt w a L) (hM : PtAt w b M) (hl : L.length ≤ 10000000000000) (hm : M.length ≤ 10000000000000) :
    Calls Tryz.prog 17 #[.slice a L.length ca, .slice b M.length cb] w fun e w' => e = .returned (.bool (decide (L = M))) ∧ Gr w w' := by
  have HL := Lib.hid hL
  have HM := Lib.hid hM
  clear hL hM
  by_cases hlm : L.length = M.length
  · obtain ⟨n, hn⟩ : ∃ n, L.length = n := ⟨_, rfl⟩
    have HN := Lib.hid hn
    have HN2 := Lib.hid (hlm.symm.trans hn)
    rw [hn] at hl
    rw [hn, hlm.symm.trans hn]
    clear hlm hn hm
    obtain ⟨V, hV⟩ : ∃ V, decide (L = M) = V := ⟨_, rfl⟩
    rw [hV]
    have HV := Lib.hid hV
    clear hV
    go_enter Tryz.func17, Tryz.ntmps17
    go_wp2
    go_loopw [5] (fun i wr => ∃ j : Nat, i = .int .i64 j ∧ j ≤ n ∧ Hid (∀ k (h : k < L.length) (h' : k < M.length), k < j → L[k] = M[k]) ∧ Hid (Gr w wr)) (fun i _ => n - (intOf i).toNat)
    case atStart => exact ⟨0, rfl, Nat.zero_le _, Lib.hid (fun k _ _ h => absurd h (by omega)), Lib.hid (Gr.refl w)⟩
    case round =>
      obtain ⟨j, rfl, hj, HP, HG⟩ := hrel
      by_cases hlt : j < n
      · have j1 : j < L.length := by rw [HN.out]; exact hlt
        have j2 : j < M.length := by rw [HN2.out]; exact hlt
        obtain ⟨p, o, rfl, c0, c0'⟩ := (HL.out.gr HG.out).at j1
        obtain ⟨q, r, rfl, c1, c1'⟩ := (HM.out.gr HG.out).at j2
        by_cases he : L[j] = M[j]
        · have HP3 : Hid (∀ k (h : k < L.length) (h' : k < M.length), k < j + 1 → L[k] = M[k]) := Lib.hid fun k h h' hkj => by
            by_cases e : k = j
            · subst e; exact he
            · exact HP.out k h h' (by omega)
          rw [← he] at c1 c1'
          generalize L[j] = x at *
          obtain ⟨f, t⟩ := x
          simp only at c0 c0' c1 c1'
          clear he HP
          go_wp2_with fail
          go_quiet (fail)
          rename_i nq
          have HG3 := Lib.hid (below_drewN HG.out nq)
          go_wp2
          go_roundw
          case rel => exact ⟨j + 1, by go_num, by omega, HP3, HG3⟩
          case measure => simp [intOf]; omega
        · have hv : V = false := by rw [← HV.out, decide_eq_false_iff_not]; rintro rfl; exact he rfl
          subst hv
          generalize L[j] = x at *
          generalize M[j] = y at *
          obtain ⟨f, t⟩ := x
          obtain ⟨f', t'⟩ := y
          simp only at c0 c0' c1 c1'
          clear HP HV
          by_cases hf : f = f'
          · subst hf
            have ht : (t == t') = false := by rw [beq_eq_false_iff_ne]; rintro rfl; exact he rfl
            clear he
            go_wp2_with fail
            go_quiet (fail)
            rename_i nq
            have HG3 := Lib.hid (below_drewN HG.out nq)
            go_wp2
            go_ret
            exact ⟨rfl, HG3.out⟩
          · have hff : (f == f') = false := by rw [beq_eq_false_iff_ne]; exact hf
            clear he
            go_wp2_with fail
            go_quiet (fail)
            rename_i nq
            have HG3 := Lib.hid (below_drewN HG.out nq)
            go_wp2
            go_ret
            exact ⟨rfl, HG3.out⟩
      · have hv : V = true := by
          rw [← HV.out, decide_eq_true_iff]
          refine List.ext_getElem (HN.out.trans HN2.out.symm) fun k h1 h2 => HP.out k h1 h2 ?_
          have := HN.out; omega
        subst hv
        clear HP HV
        go_wp2
        go_ret
        exact ⟨rfl, HG.out⟩
  · rw [decide_eq_false (fun e => hlm (by rw [e]))]
    generalize L.length = n at *
    generalize M.length = m at *
    go_enter Tryz.func17, Tryz.ntmps17
    go_wp2
    go_ret
    exact ⟨rfl, Gr.refl w⟩
set_option maxHeartbeats 1000000 in
theorem r9_Few (a : Option Addr) (n cap : Nat) (w : World) : Calls Tryz.prog 10 #[.slice a n cap] w fun e w' => e = .returned (.bool (decide (n ≤ 40))) ∧ w' = w := by
  by_cases h : n ≤ 40
  · have k0 : decide ((n : Int) ≤ 40) = true := decide_eq_true (by omega)
    rw [decide_eq_true h]
    go_enter Tryz.func10, Tryz.ntmps10
    go_wp2
    go_ret
    exact ⟨rfl, rfl⟩
  · have k0 : decide ((n : Int) ≤ 40) = false := decide_eq_false (by omega)
    rw [decide_eq_false h]
    go_enter Tryz.func10, Tryz.ntmps10
    go_wp2
    go_ret
    exact ⟨rfl, rfl⟩
theorem two_pts (w : World) (f t f' t' : Int) (ty : TypeId) : PtAt (w.alloc (.cells #[.int .i64 f, .int .i64 t, .int .i64 f', .int .i64 t'] ty)) (some ⟨w.heap.size, 0, none⟩) [(f, t), (f', t')] := by
  refine .inr ⟨_, _, rfl, fun j hj => ?_⟩
  have hj2 : j = 0 ∨ j = 1 := by simp at hj; omega
  rcases hj2 with rfl | rfl
  · exact ⟨by rw [World.cell?_alloc_at _ _ _ _ rfl]; rfl, by rw [World.cell?_alloc_at _ _ _ _ rfl]; rfl⟩
  · exact ⟨by rw [World.cell?_alloc_at _ _ _ _ rfl]; rfl, by rw [World.cell?_alloc_at _ _ _ _ rfl]; rfl⟩
set_option maxHeartbeats 1000000 in
theorem cv_Straight (w : World) : Calls Tryz.prog 18 #[] w fun e w' => ∃ g, e = .returned (.slice (some ⟨g, 0, none⟩) 2 2) ∧ w.heap.size ≤ g ∧ PtAt w' (some ⟨g, 0, none⟩) [(0, 0), (65535, 65535)] ∧ Gr w w' := by
  have HP := Lib.hid (two_pts w 0 0 65535 65535 52)
  have HG := Lib.hid ((Gr.refl w).alloc (.cells #[.int .i64 0, .int .i64 0, .int .i64 65535, .int .i64 65535] 52))
  go_enter Tryz.func18, Tryz.ntmps18
  go_wp2
  go_ret
  exact ⟨_, rfl, Nat.le_refl _, HP.out, HG.out⟩
set_option maxHeartbeats 1000000 in
theorem r9_Straight (w : World) : Calls Tryz.prog 19 #[] w fun e w' => ∃ g, e = .returned (.slice (some ⟨g, 0, none⟩) 2 2) ∧ w.heap.size ≤ g ∧ PtAt w' (some ⟨g, 0, none⟩) [(0, 0), (65535, 65535)] ∧ Gr w w' := by
  have HP := Lib.hid (two_pts w 0 0 65535 65535 52)
  have HG := Lib.hid ((Gr.refl w).alloc (.cells #[.int .i64 0, .int .i64 0, .int .i64 65535, .int .i64 65535] 52))
  go_enter Tryz.func19, Tryz.ntmps19
  go_wp2
  go_ret
  exact ⟨_, rfl, Nat.le_refl _, HP.out, HG.out⟩
end Go.Proofs.YtlbnibicehpobaaGreatDoor
