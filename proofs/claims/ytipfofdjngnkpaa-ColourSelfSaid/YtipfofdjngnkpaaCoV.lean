/- Law 11: the reference's Nearest. -/
import Derived.Test.YtipfofdjngnkpaaCoU
set_option linter.unusedVariables false
set_option linter.unusedSimpArgs false
namespace Go.Proofs.Ytipfofdjngnkpaa.Z
open Go
theorem bestN_le (c : C3) (l : List C3) : ∀ k, bestN c l k ≤ k
  | 0 => by unfold bestN; exact Nat.le_refl _
  | k + 1 => by
    have := bestN_le c l k
    unfold bestN
    split <;> omega
end Go.Proofs.Ytipfofdjngnkpaa.Z
namespace Go.Proofs.Ytipfofdjngnkpaa
open Go.RowKit
open Z
set_option maxRecDepth 100000 in
set_option maxHeartbeats 4000000 in
theorem rf_Nearest (c : C3) {a : Option Addr} {l : List C3} {cap : Nat} (w : World) (hr : Rd3 w a l) (hl : l.length ≤ maxLen) :
    Calls Try.prog 22 #[vC c, .slice a l.length cap] w fun e w' => e = .returned (.tuple #[.int .i64 (nearR c l).1, .int .i64 (nearR c l).2]) ∧ Gr w w' := by
  have HK : Hid (∀ (c : C3) (w : World), Calls Try.prog 23 #[vC c] w fun e w' => e = .returned (.bool (isC c)) ∧ Gr w w') := Lib.hid (fun c w => rf_Colour c w)
  have HG0 := Lib.hid ((Gr.refl w).alloc (.cells #[.int .i64 c.1, .int .i64 c.2.1, .int .i64 c.2.2] 23))
  have HC0 := Lib.hid (C3At.new w c)
  have HR := Lib.hid hr
  obtain ⟨V, hV⟩ : ∃ V, nearR c l = V := ⟨_, rfl⟩
  rw [hV]
  unfold nearR at hV
  have HIC := Lib.hid (show isC c = isC c from rfl)
  obtain ⟨W0, hW0⟩ : ∃ v, v = w.alloc (.cells #[.int .i64 c.1, .int .i64 c.2.1, .int .i64 c.2.2] 23) := ⟨_, rfl⟩
  rw [← hW0] at HG0 HC0
  obtain ⟨x, y, z⟩ := c
  have HW0 := Lib.hid hW0
  clear hW0 hr HIC
  have hic : isC (x, y, z) = isC (x, y, z) := rfl
  obtain ⟨ic, hic⟩ : ∃ v, isC (x, y, z) = v := ⟨_, rfl⟩
  have HIC := Lib.hid hic
  rw [hic] at hV
  rename_i hh
  clear hh
  cases ic
  · rw [if_pos rfl] at hV
    subst hV
    unfold vC
    generalize l.length = n at *
    clear HR
    go_enter Try.func22, Try.ntmps22
    go_wp2_with (first | (refine wpl_load3 (c := (x, y, z)) rfl rfl rfl (by rw [HW0.out] at HC0; exact HC0.out) ?_))
    refine (HK.out (x, y, z) _).mono ?_; rintro e w1 ⟨rfl, hg⟩
    have hg1 : Gr W0 w1 := by rw [HW0.out]; exact hg
    have HC1 := Lib.hid (HC0.out.gr hg1)
    have HG1 := Lib.hid (HG0.out.trans hg1)
    clear hg hg1 HG0 HC0 HW0
    rw [hic]
    go_wp2
    go_ret2
    exact ⟨rfl, HG1.out⟩
  · rw [if_neg (by simp)] at hV
    unfold vC
    by_cases h0 : l.length = 0
    · rw [if_pos h0] at hV
      subst hV
      rw [h0]
      clear h0
      go_enter Try.func22, Try.ntmps22
      go_wp2_with (first | (refine wpl_load3 (c := (x, y, z)) rfl rfl rfl (by rw [HW0.out] at HC0; exact HC0.out) ?_))
      refine (HK.out (x, y, z) _).mono ?_; rintro e w1 ⟨rfl, hg⟩
      have hg1 : Gr W0 w1 := by rw [HW0.out]; exact hg
      have HC1 := Lib.hid (HC0.out.gr hg1)
      have HG1 := Lib.hid (HG0.out.trans hg1)
      clear hg hg1 HG0 HC0 HW0
      rw [hic]
      go_wp2
      go_ret2
      exact ⟨rfl, HG1.out⟩
    · rw [if_neg h0] at hV
      have hz : ((l.length : Int) == 0) = false := by rw [beq_eq_false_iff_ne]; omega
      by_cases h256 : 256 < l.length
      · rw [if_pos h256] at hV
        subst hV
        have hd : decide ((256 : Int) < (l.length : Int)) = true := decide_eq_true (by omega)
        clear HR
        generalize l.length = n at *
        unfold maxLen at hl
        go_enter Try.func22, Try.ntmps22
        go_wp2_with (first | (refine wpl_load3 (c := (x, y, z)) rfl rfl rfl (by rw [HW0.out] at HC0; exact HC0.out) ?_))
        refine (HK.out (x, y, z) _).mono ?_; rintro e w1 ⟨rfl, hg⟩
        have hg1 : Gr W0 w1 := by rw [HW0.out]; exact hg
        have HC1 := Lib.hid (HC0.out.gr hg1)
        have HG1 := Lib.hid (HG0.out.trans hg1)
        clear hg hg1 HG0 HC0 HW0
        rw [hic]
        go_wp2
        go_ret2
        exact ⟨rfl, HG1.out⟩
      · rw [if_neg h256] at hV
        have HV := Lib.hid hV
        clear hV
        have hd : decide ((256 : Int) < (l.length : Int)) = false := decide_eq_false (by omega)
        have HB := Lib.hid (fun i h => bestN_lt (x, y, z) (l := l) (by omega) i h)
        obtain ⟨n, hn⟩ : ∃ n, n = l.length := ⟨_, rfl⟩
        have HN := Lib.hid hn
        rw [← hn] at h0 h256 hd hz hl ⊢
        clear hn hl
        go_enter Try.func22, Try.ntmps22
        go_wp2_with (first | (refine wpl_load3 (c := (x, y, z)) rfl rfl rfl (by rw [HW0.out] at HC0; exact HC0.out) ?_))
        refine (HK.out (x, y, z) _).mono ?_; rintro e w1 ⟨rfl, hg⟩
        have hg1 : Gr W0 w1 := by rw [HW0.out]; exact hg
        have HC1 := Lib.hid (HC0.out.gr hg1)
        have HG1 := Lib.hid (HG0.out.trans hg1)
        clear hg hg1 HG0 HC0 HW0
        rw [hic]
        clear hic
        go_wp2
        go_loopw [6, 7] (fun t6 i wr => ∃ (k m : Nat), i = .int .i64 k ∧ t6 = .int .i64 m ∧ k ≤ n ∧ m < n ∧ Hid (m = bestN (x, y, z) l k) ∧ Hid (Gr w1 wr) ∧ Hid (∀ j (hj : j < l.length), j < k → isC l[j] = true)) (fun _ i _ => n - (intOf i).toNat)
        case atStart => exact ⟨0, 0, rfl, rfl, Nat.zero_le _, by omega, rfl, Gr.refl _, fun j hj h => absurd h (by omega)⟩
        case round =>
          obtain ⟨k, m, rfl, rfl, hk, hm, HM, HGr, HA⟩ := hrel
          by_cases hlt : k < n
          · have hkl : k < l.length := by rw [← HN.out]; exact hlt
            have hml : m < l.length := by rw [← HN.out]; exact hm
            obtain ⟨b, o, hab, d0, d1, d2⟩ := (HR.out.gr (HG1.out.trans HGr.out)) k hkl
            obtain ⟨b', o', hab', f0, f1, f2⟩ := (HR.out.gr (HG1.out.trans HGr.out)) m hml
            subst hab
            simp only [Option.some.injEq, Addr.mk.injEq, and_true] at hab'
            obtain ⟨rfl, rfl⟩ := hab'
            have HS : Hid (bestN (x, y, z) l (k + 1) = if farR (x, y, z) l[k] < farR (x, y, z) l[m] then k else m) := Lib.hid (by
              rw [bestN, ← HM.out]
              have e1 : l.getD k (0, 0, 0) = l[k] := by simp [List.getD, List.getElem?_eq_getElem hkl]
              have e2 : l.getD m (0, 0, 0) = l[m] := by simp [List.getD, List.getElem?_eq_getElem hml]
              rw [e1, e2])
            have HQ : Hid (isC l[k] = true → ∀ j (hj : j < l.length), j < k + 1 → isC l[j] = true) := Lib.hid fun e j hj h => by
              by_cases hjk : j = k
              · subst hjk; exact e
              · exact HA.out j hj (by omega)
            have HX : Hid (isC l[k] = false → V = (0, 2)) := Lib.hid fun e => by
              rw [← HV.out, if_neg]; intro h; rw [List.all_eq_true] at h; rw [h _ (List.getElem_mem hkl)] at e; cases e
            have HMM : Hid (isC l[k] = true → isC l[m] = true) := Lib.hid fun e => HQ.out e m hml (by
              have h1 := HM.out
              have := bestN_le (x, y, z) l k
              omega)
            clear HM HA
            generalize l[k] = u at *
            generalize l[m] = v at *
            obtain ⟨u0, u1, u2⟩ := u
            obtain ⟨v0, v1, v2⟩ := v
            simp only at d0 d1 d2 f0 f1 f2
            obtain ⟨i2, hi2⟩ : ∃ v, isC (u0, u1, u2) = v := ⟨_, rfl⟩
            have HI2 := Lib.hid hi2
            cases i2
            · have hv := HX.out hi2
              subst hv
              clear HX HQ HMM HS HV hi2
              go_wp2_with fail
              refine (HK.out (u0, u1, u2) _).mono ?_; rintro e w6 ⟨rfl, hg6⟩
              rw [HI2.out]
              have HG6 := Lib.hid ((HG1.out.trans HGr.out).trans hg6)
              clear hg6
              go_wp2
              go_ret2
              exact ⟨rfl, HG6.out⟩
            · have HQ1 := Lib.hid (HQ.out hi2)
              have HC2 := Lib.hid (HMM.out hi2)
              clear HX HQ HMM hi2
              have b1 : (0 : Int) ≤ (m : Int) := by omega
              have b2 : (m : Int) < (n : Int) := by omega
              go_wp2_with fail
              refine (HK.out (u0, u1, u2) _).mono ?_; rintro e w6 ⟨rfl, hg6⟩
              rw [HI2.out]
              have HG6 := Lib.hid ((HG1.out.trans HGr.out).trans hg6)
              have HC6 := Lib.hid ((HC1.out.gr HGr.out).gr hg6)
              have HGw := Lib.hid (HGr.out.trans hg6)
              go_wp2_with fail
              have hS0 : (fun w' : World => C3At w' w.heap.size (x, y, z) ∧ w'.cell? ⟨b, o + k * 3, none⟩ = some (.int .i64 u0) ∧ w'.cell? ⟨b, o + k * 3 + 1, none⟩ = some (.int .i64 u1) ∧ w'.cell? ⟨b, o + k * 3 + 2, none⟩ = some (.int .i64 u2) ∧ w'.cell? ⟨b, o + m * 3, none⟩ = some (.int .i64 v0) ∧ w'.cell? ⟨b, o + m * 3 + 1, none⟩ = some (.int .i64 v1) ∧ w'.cell? ⟨b, o + m * 3 + 2, none⟩ = some (.int .i64 v2) ∧ Gr w1 w') w6.drew := ⟨HC6.out.drew, gr_cell hg6 d0, gr_cell hg6 d1, gr_cell hg6 d2, gr_cell hg6 f0, gr_cell hg6 f1, gr_cell hg6 f2, HGw.out.drew⟩
              refine wp_region_held (S := fun w' : World => C3At w' w.heap.size (x, y, z) ∧ w'.cell? ⟨b, o + k * 3, none⟩ = some (.int .i64 u0) ∧ w'.cell? ⟨b, o + k * 3 + 1, none⟩ = some (.int .i64 u1) ∧ w'.cell? ⟨b, o + k * 3 + 2, none⟩ = some (.int .i64 u2) ∧ w'.cell? ⟨b, o + m * 3, none⟩ = some (.int .i64 v0) ∧ w'.cell? ⟨b, o + m * 3 + 1, none⟩ = some (.int .i64 v1) ∧ w'.cell? ⟨b, o + m * 3 + 2, none⟩ = some (.int .i64 v2) ∧ Gr w1 w') (by kernel_rfl) ?_
              change wpAnyH _ _ _ _ _ _ _ _ w6.drew
              clear d0 d1 d2 f0 f1 f2 hg6 HC6 HG6 HGw
              generalize w6.drew = w7 at *
              refine wpAnyH_take (i := 0) (v := vC (x, y, z)) rfl (by kernel_rfl) (by kernel_rfl) (by kernel_rfl) (fun _ _ _ h => h) (Or.inl ⟨by rfl, ?_⟩) hS0 ?_
              · intro w hSw; exact exec_load3 _ rfl rfl hSw.1
              try simp only [Act.put, List.getElem_toArray, List.getElem_cons_succ, List.getElem_cons_zero, List.setIfInBounds_toArray, List.set_cons_zero, List.set_cons_succ]
              refine wpAnyH_take (i := 1) (v := .slice (some ⟨b, o, none⟩) n cap) rfl (by kernel_rfl) (by kernel_rfl) (by kernel_rfl) (fun _ _ _ h => h) (Or.inl ⟨by rfl, ?_⟩) hS0 ?_
              · intro w hSw; go_simp
              try simp only [Act.put, List.getElem_toArray, List.getElem_cons_succ, List.getElem_cons_zero, List.setIfInBounds_toArray, List.set_cons_zero, List.set_cons_succ]
              refine wpAnyH_take (i := 2) (v := .int .i64 k) rfl (by kernel_rfl) (by kernel_rfl) (by kernel_rfl) (fun _ _ _ h => h) (Or.inl ⟨by rfl, ?_⟩) hS0 ?_
              · intro w hSw; go_simp
              try simp only [Act.put, List.getElem_toArray, List.getElem_cons_succ, List.getElem_cons_zero, List.setIfInBounds_toArray, List.set_cons_zero, List.set_cons_succ]
              refine wpAnyH_take (i := 3) (v := .pointer (some ⟨b, o + k * 3, none⟩)) rfl (by kernel_rfl) (by kernel_rfl) (by kernel_rfl) (fun _ _ _ h => h) (Or.inl ⟨by rfl, ?_⟩) hS0 ?_
              · intro w hSw; go_simp
              try simp only [Act.put, List.getElem_toArray, List.getElem_cons_succ, List.getElem_cons_zero, List.setIfInBounds_toArray, List.set_cons_zero, List.set_cons_succ]
              refine wpAnyH_take (i := 4) (v := vC (u0, u1, u2)) rfl (by kernel_rfl) (by kernel_rfl) (by kernel_rfl) (fun _ _ _ h => h) (Or.inl ⟨by rfl, ?_⟩) hS0 ?_
              · intro w hSw; obtain ⟨s0, s1, s2, s3, s4⟩ := hSw; unfold vC; go_simp
              try simp only [Act.put, List.getElem_toArray, List.getElem_cons_succ, List.getElem_cons_zero, List.setIfInBounds_toArray, List.set_cons_zero, List.set_cons_succ]
              refine wpAnyH_take (i := 6) (v := vC (x, y, z)) rfl (by kernel_rfl) (by kernel_rfl) (by kernel_rfl) (fun _ _ _ h => h) (Or.inl ⟨by rfl, ?_⟩) hS0 ?_
              · intro w hSw; exact exec_load3 _ rfl rfl hSw.1
              try simp only [Act.put, List.getElem_toArray, List.getElem_cons_succ, List.getElem_cons_zero, List.setIfInBounds_toArray, List.set_cons_zero, List.set_cons_succ]
              refine wpAnyH_take (i := 7) (v := .slice (some ⟨b, o, none⟩) n cap) rfl (by kernel_rfl) (by kernel_rfl) (by kernel_rfl) (fun _ _ _ h => h) (Or.inl ⟨by rfl, ?_⟩) hS0 ?_
              · intro w hSw; go_simp
              try simp only [Act.put, List.getElem_toArray, List.getElem_cons_succ, List.getElem_cons_zero, List.setIfInBounds_toArray, List.set_cons_zero, List.set_cons_succ]
              refine wpAnyH_take (i := 8) (v := .int .i64 m) rfl (by kernel_rfl) (by kernel_rfl) (by kernel_rfl) (fun _ _ _ h => h) (Or.inl ⟨by rfl, ?_⟩) hS0 ?_
              · intro w hSw; go_simp
              try simp only [Act.put, List.getElem_toArray, List.getElem_cons_succ, List.getElem_cons_zero, List.setIfInBounds_toArray, List.set_cons_zero, List.set_cons_succ]
              refine wpAnyH_take (i := 9) (v := .pointer (some ⟨b, o + m * 3, none⟩)) rfl (by kernel_rfl) (by kernel_rfl) (by kernel_rfl) (fun _ _ _ h => h) (Or.inl ⟨by rfl, ?_⟩) hS0 ?_
              · intro w hSw; go_simp
              try simp only [Act.put, List.getElem_toArray, List.getElem_cons_succ, List.getElem_cons_zero, List.setIfInBounds_toArray, List.set_cons_zero, List.set_cons_succ]
              refine wpAnyH_take (i := 10) (v := vC (v0, v1, v2)) rfl (by kernel_rfl) (by kernel_rfl) (by kernel_rfl) (fun _ _ _ h => h) (Or.inl ⟨by rfl, ?_⟩) hS0 ?_
              · intro w hSw; obtain ⟨s0, s1, s2, s3, s4, s5, s6, s7⟩ := hSw; unfold vC; go_simp
              try simp only [Act.put, List.getElem_toArray, List.getElem_cons_succ, List.getElem_cons_zero, List.setIfInBounds_toArray, List.set_cons_zero, List.set_cons_succ]
              refine wpAnyH_ready (rs := [5]) (by kernel_rfl) (by simp) (AllReadyH.cons rfl (fun K' hK' => ?_) AllReadyH.nil)
              go_simp
              refine (rf_far (x, y, z) (u0, u1, u2) HIC.out HI2.out _).mono ?_; rintro e w8 ⟨rfl, hg8⟩
              refine hK'.out _ _ ⟨hS0.1.gr hg8, gr_cell hg8 hS0.2.1, gr_cell hg8 hS0.2.2.1, gr_cell hg8 hS0.2.2.2.1, gr_cell hg8 hS0.2.2.2.2.1, gr_cell hg8 hS0.2.2.2.2.2.1, gr_cell hg8 hS0.2.2.2.2.2.2.1, hS0.2.2.2.2.2.2.2.trans hg8⟩ (fun hS1 => ?_)
              clear hK' K'
              try simp only [Act.put, List.getElem_toArray, List.getElem_cons_succ, List.getElem_cons_zero, List.setIfInBounds_toArray, List.set_cons_zero, List.set_cons_succ]
              refine wpAnyH_ready (rs := [11]) (by kernel_rfl) (by simp) (AllReadyH.cons rfl (fun K' hK' => ?_) AllReadyH.nil)
              go_simp
              refine (rf_far (x, y, z) (v0, v1, v2) HIC.out HC2.out _).mono ?_; rintro e w9 ⟨rfl, hg9⟩
              refine hK'.out _ _ ⟨hS1.1.gr hg9, gr_cell hg9 hS1.2.1, gr_cell hg9 hS1.2.2.1, gr_cell hg9 hS1.2.2.2.1, gr_cell hg9 hS1.2.2.2.2.1, gr_cell hg9 hS1.2.2.2.2.2.1, gr_cell hg9 hS1.2.2.2.2.2.2.1, hS1.2.2.2.2.2.2.2.trans hg9⟩ (fun hS2 => ?_)
              clear hK' K'
              try simp only [Act.put, List.getElem_toArray, List.getElem_cons_succ, List.getElem_cons_zero, List.setIfInBounds_toArray, List.set_cons_zero, List.set_cons_succ]
              refine wpAnyH_take (i := 12) (v := .bool (decide (farR (x, y, z) (u0, u1, u2) < farR (x, y, z) (v0, v1, v2)))) rfl (by kernel_rfl) (by kernel_rfl) (by kernel_rfl) (fun _ _ _ h => h) (Or.inl ⟨by rfl, ?_⟩) hS2 ?_
              · intro w hSw; go_simp
              try simp only [Act.put, List.getElem_toArray, List.getElem_cons_succ, List.getElem_cons_zero, List.setIfInBounds_toArray, List.set_cons_zero, List.set_cons_succ]
              refine wpAnyH_done (by kernel_rfl) ?_ _
              generalize hfd : decide (farR (x, y, z) (u0, u1, u2) < farR (x, y, z) (v0, v1, v2)) = fd at *
              have HGn := Lib.hid hS2.2.2.2.2.2.2.2
              clear hS0 hS1 hS2
              cases fd
              · have HS2 : Hid (m = bestN (x, y, z) l (k + 1)) := Lib.hid (by rw [HS.out, if_neg (of_decide_eq_false hfd)])
                clear HS hfd
                go_wp2
                go_roundw
                case rel => exact ⟨k + 1, m, by go_num, rfl, by omega, hm, HS2.out, HGn.out, HQ1.out⟩
                case measure => simp [intOf]; omega
              · have HS2 : Hid (k = bestN (x, y, z) l (k + 1)) := Lib.hid (by rw [HS.out, if_pos (of_decide_eq_true hfd)])
                clear HS hfd
                go_wp2
                go_roundw
                case rel => exact ⟨k + 1, k, by go_num, rfl, by omega, hlt, HS2.out, HGn.out, HQ1.out⟩
                case measure => simp [intOf]; omega
          · have hkn : k = n := by omega
            subst hkn
            have HV2 : Hid (V = (((bestN (x, y, z) l k : Nat) : Int), (0 : Int))) := Lib.hid (by
              rw [← HV.out, if_pos, HN.out]
              rw [List.all_eq_true]; intro u hu; obtain ⟨j, hj, rfl⟩ := List.getElem_of_mem hu; exact HA.out j hj (by have := HN.out; omega))
            have hv := HV2.out
            rw [← HM.out] at hv
            subst hv
            clear HM HV2 HV HA
            go_wp2
            go_ret2
            exact ⟨rfl, HG1.out.trans HGr.out⟩
end Go.Proofs.Ytipfofdjngnkpaa
