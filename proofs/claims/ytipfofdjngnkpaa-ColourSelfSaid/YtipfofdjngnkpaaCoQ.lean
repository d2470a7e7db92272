/- Law 11: the reference's Mixed and Mix. -/
import Derived.Test.YtipfofdjngnkpaaCoP
set_option linter.unusedVariables false
set_option linter.unusedSimpArgs false
namespace Go.Proofs.Ytipfofdjngnkpaa
open Go.RowKit
open Z
set_option maxRecDepth 100000 in
set_option maxHeartbeats 4000000 in
theorem rf_Mixed {a : Option Addr} {l : List Int} {cap : Nat} (c : C3) (hc : isC c = true) (w : World) (hr : RdI w a l) (hl : l.length ≤ 15) (hall : ∀ x ∈ l, 3 ≤ x ∧ x ≤ 10) :
    Calls Try.prog 33 #[.slice a l.length cap, vC c] w fun e w' => (∃ a' cap', e = .returned (.slice a' (mixL l c).length cap') ∧ RdI w' a' (mixL l c) ∧ (mixL l c).length ≤ cap' ∧ cap' ≤ maxLen) ∧ Gr w w' := by
  have hlm : l.length ≤ maxLen := by unfold maxLen; omega
  have hb := isC_iff.1 hc
  have hm := max3_facts c
  have HR := Lib.hid hr
  have HALL := Lib.hid hall
  have HG0 := Lib.hid ((Gr.refl w).alloc (.cells #[.int .i64 c.1, .int .i64 c.2.1, .int .i64 c.2.2] 23))
  have HC0 := Lib.hid (C3At.new w c)
  have HPL := Lib.hid (rf_place (cap := cap) 6 _ (hr.gr HG0.out) hlm)
  have HAD : Hid (∀ w1, Gr w w1 → Calls Try.prog 24 #[.slice a l.length cap] w1 fun e w' => e = .returned (.bool (addi l)) ∧ w' = w1) := Lib.hid fun w1 h => rf_Additive (cap := cap) w1 (hr.gr h) hlm
  have HMX : Hid (∀ k, mixA l c k = if addi l = true then mixAdd (whA l c) c k else mixSub c k) := Lib.hid fun k => rfl
  have h6 := placeR_nonneg l 6
  have hw6 : whA l c = if l.contains 6 = true then min3 c else 0 := rfl
  obtain ⟨L, hL⟩ : ∃ L, mixL l c = L := ⟨_, rfl⟩
  have HL : Hid (L = mixL l c) := Lib.hid hL.symm
  rw [hL]
  have HXL : Hid (∀ k (hk : k < l.length), (mixL l c).take (k + 1) = (mixL l c).take k ++ [mixA l c l[k]]) := Lib.hid fun k hk => by
    rw [List.take_succ_eq_append_getElem (by unfold mixL; simpa using hk)]; simp [mixL]
  have HXE : Hid ((mixL l c).take l.length = mixL l c) := Lib.hid (List.take_of_length_le (by simp [mixL]))
  have HLE : Hid ((mixL l c).length = l.length) := Lib.hid (by simp [mixL])
  obtain ⟨n, hn⟩ : ∃ n, n = l.length := ⟨_, rfl⟩
  have HN := Lib.hid hn
  rw [← hn] at hl HPL HAD ⊢
  obtain ⟨i9, hi9, hz0, hz1, hz2⟩ := info_parts Try.infoI
  clear hn hL hr hall hlm hc
  generalize placeR l 6 = P at *
  obtain ⟨x, y, z⟩ := c
  simp only at hb
  obtain ⟨⟨x0, x1⟩, ⟨y0, y1⟩, ⟨z0, z1⟩⟩ := hb
  have hwb : 0 ≤ whA l (x, y, z) ∧ whA l (x, y, z) ≤ 65535 := by
    simp only at hm
    rw [hw6]; split <;> omega
  obtain ⟨wb0, wb1⟩ := hwb
  generalize l.contains 6 = c6 at *
  generalize addi l = ad at *
  clear hm
  have HW6 := Lib.hid hw6
  clear hw6
  unfold vC
  cases c6
  · go_enter Try.func33, Try.ntmps33
    go_wp2_with fail
    obtain ⟨w1, hw1⟩ : ∃ v, v = w.alloc (.cells #[.int .i64 x, .int .i64 y, .int .i64 z] 23) := ⟨_, rfl⟩
    have e1 : w.alloc (.cells #[.int .i64 (x, y, z).1, .int .i64 (x, y, z).2.1, .int .i64 (x, y, z).2.2] 23) = w1 := hw1.symm
    rw [e1] at HG0 HC0 HPL
    rw [← hw1]
    clear e1 hw1
    refine HPL.out.mono ?_; rintro e w2 ⟨rfl, hw2⟩
    rw [hw2]
    clear hw2 HPL
    have hw6 : whA l (x, y, z) = 0 := by have h := HW6.out; simpa only [Bool.false_eq_true, if_false] using h
    go_wp2
    rw [hw6] at HMX
    clear hw6 HW6
    go_loopw [6, 7, 8] (fun v i _ wr => ∃ k : Nat, i = .int .i64 k ∧ k ≤ n ∧ Hid (OwnI w1.heap.size wr v ((mixL l (x, y, z)).take k)) ∧ Hid (Gr w1 wr)) (fun _ i _ _ => n - (intOf i).toNat)
    case atStart => exact ⟨0, rfl, Nat.zero_le _, OwnI.nil _ _, Gr.refl _⟩
    case round =>
      obtain ⟨k, rfl, hk, HO, HG⟩ := hrel
      have HC := Lib.hid (HC0.out.gr HG.out)
      by_cases hlt : k < n
      · have hkl : k < l.length := by rw [← HN.out]; exact hlt
        obtain ⟨b, o, rfl, hcl⟩ := (HR.out.gr (HG0.out.trans HG.out)) k hkl
        have hx := HALL.out l[k] (List.getElem_mem hkl)
        have HXL1 := Lib.hid (HXL.out k hkl)
        have HM1 := Lib.hid (HMX.out l[k])
        generalize l[k] = u at *
        generalize mixA l (x, y, z) u = mv at *
        have c0 := HC.out.c0
        have c1 := HC.out.c1
        have c2 := HC.out.c2
        simp only at c0 c1 c2
        have hlen : ((mixL l (x, y, z)).take k).length ≤ 3000000 := by rw [List.length_take]; omega
        have hu : u = 3 ∨ u = 4 ∨ u = 5 ∨ u = 6 ∨ u = 7 ∨ u = 8 ∨ u = 9 ∨ u = 10 := by omega
        clear hx HALL
        cases ad
        · rcases hu with rfl | rfl | rfl | rfl | rfl | rfl | rfl | rfl
          · have hv : mv = 0 := by have h := HM1.out; simpa [mixSub] using h
            subst hv
            clear HM1 HMX HXL
            go_wp2_with fail
            refine (HAD.out _ (HG0.out.trans HG.out)).mono ?_; rintro e w3 ⟨rfl, hw3⟩
            rw [hw3]
            clear hw3
            go_wp2_with (at_builtin; refine push_i hi9 hz0 hz1 hz2 rfl _ _ rfl _ _ rfl HO.out HG.out (0) wr.heap.size rfl rfl hlen ?_; rintro v5 w5 HO5 hg5; have HG5 := Lib.hid hg5; clear hg5)
            go_roundw
            case rel => exact ⟨k + 1, by go_num, by omega, by rw [HXL1.out]; exact HO5, HG5.out⟩
            case measure => simp [intOf]; omega
          · have hv : mv = 0 := by have h := HM1.out; simpa [mixSub] using h
            subst hv
            clear HM1 HMX HXL
            go_wp2_with fail
            refine (HAD.out _ (HG0.out.trans HG.out)).mono ?_; rintro e w3 ⟨rfl, hw3⟩
            rw [hw3]
            clear hw3
            go_wp2_with (at_builtin; refine push_i hi9 hz0 hz1 hz2 rfl _ _ rfl _ _ rfl HO.out HG.out (0) wr.heap.size rfl rfl hlen ?_; rintro v5 w5 HO5 hg5; have HG5 := Lib.hid hg5; clear hg5)
            go_roundw
            case rel => exact ⟨k + 1, by go_num, by omega, by rw [HXL1.out]; exact HO5, HG5.out⟩
            case measure => simp [intOf]; omega
          · have hv : mv = 0 := by have h := HM1.out; simpa [mixSub] using h
            subst hv
            clear HM1 HMX HXL
            go_wp2_with fail
            refine (HAD.out _ (HG0.out.trans HG.out)).mono ?_; rintro e w3 ⟨rfl, hw3⟩
            rw [hw3]
            clear hw3
            go_wp2_with (at_builtin; refine push_i hi9 hz0 hz1 hz2 rfl _ _ rfl _ _ rfl HO.out HG.out (0) wr.heap.size rfl rfl hlen ?_; rintro v5 w5 HO5 hg5; have HG5 := Lib.hid hg5; clear hg5)
            go_roundw
            case rel => exact ⟨k + 1, by go_num, by omega, by rw [HXL1.out]; exact HO5, HG5.out⟩
            case measure => simp [intOf]; omega
          · have hv : mv = 0 := by have h := HM1.out; simpa [mixSub] using h
            subst hv
            clear HM1 HMX HXL
            go_wp2_with fail
            refine (HAD.out _ (HG0.out.trans HG.out)).mono ?_; rintro e w3 ⟨rfl, hw3⟩
            rw [hw3]
            clear hw3
            go_wp2_with (at_builtin; refine push_i hi9 hz0 hz1 hz2 rfl _ _ rfl _ _ rfl HO.out HG.out (0) wr.heap.size rfl rfl hlen ?_; rintro v5 w5 HO5 hg5; have HG5 := Lib.hid hg5; clear hg5)
            go_roundw
            case rel => exact ⟨k + 1, by go_num, by omega, by rw [HXL1.out]; exact HO5, HG5.out⟩
            case measure => simp [intOf]; omega
          · have hv : mv = 0 := by have h := HM1.out; simpa [mixSub] using h
            subst hv
            clear HM1 HMX HXL
            go_wp2_with fail
            refine (HAD.out _ (HG0.out.trans HG.out)).mono ?_; rintro e w3 ⟨rfl, hw3⟩
            rw [hw3]
            clear hw3
            go_wp2_with (at_builtin; refine push_i hi9 hz0 hz1 hz2 rfl _ _ rfl _ _ rfl HO.out HG.out (0) wr.heap.size rfl rfl hlen ?_; rintro v5 w5 HO5 hg5; have HG5 := Lib.hid hg5; clear hg5)
            go_roundw
            case rel => exact ⟨k + 1, by go_num, by omega, by rw [HXL1.out]; exact HO5, HG5.out⟩
            case measure => simp [intOf]; omega
          · have hv : mv = 65535 - x := by have h := HM1.out; simpa [mixSub] using h
            subst hv
            clear HM1 HMX HXL
            go_wp2_with fail
            refine (HAD.out _ (HG0.out.trans HG.out)).mono ?_; rintro e w3 ⟨rfl, hw3⟩
            rw [hw3]
            clear hw3
            go_wp2_with (at_builtin; refine push_i hi9 hz0 hz1 hz2 rfl _ _ rfl _ _ rfl HO.out HG.out (65535 - x) wr.heap.size rfl rfl hlen ?_; rintro v5 w5 HO5 hg5; have HG5 := Lib.hid hg5; clear hg5)
            go_roundw
            case rel => exact ⟨k + 1, by go_num, by omega, by rw [HXL1.out]; exact HO5, HG5.out⟩
            case measure => simp [intOf]; omega
          · have hv : mv = 65535 - y := by have h := HM1.out; simpa [mixSub] using h
            subst hv
            clear HM1 HMX HXL
            go_wp2_with fail
            refine (HAD.out _ (HG0.out.trans HG.out)).mono ?_; rintro e w3 ⟨rfl, hw3⟩
            rw [hw3]
            clear hw3
            go_wp2_with (at_builtin; refine push_i hi9 hz0 hz1 hz2 rfl _ _ rfl _ _ rfl HO.out HG.out (65535 - y) wr.heap.size rfl rfl hlen ?_; rintro v5 w5 HO5 hg5; have HG5 := Lib.hid hg5; clear hg5)
            go_roundw
            case rel => exact ⟨k + 1, by go_num, by omega, by rw [HXL1.out]; exact HO5, HG5.out⟩
            case measure => simp [intOf]; omega
          · have hv : mv = 65535 - z := by have h := HM1.out; simpa [mixSub] using h
            subst hv
            clear HM1 HMX HXL
            go_wp2_with fail
            refine (HAD.out _ (HG0.out.trans HG.out)).mono ?_; rintro e w3 ⟨rfl, hw3⟩
            rw [hw3]
            clear hw3
            go_wp2_with (at_builtin; refine push_i hi9 hz0 hz1 hz2 rfl _ _ rfl _ _ rfl HO.out HG.out (65535 - z) wr.heap.size rfl rfl hlen ?_; rintro v5 w5 HO5 hg5; have HG5 := Lib.hid hg5; clear hg5)
            go_roundw
            case rel => exact ⟨k + 1, by go_num, by omega, by rw [HXL1.out]; exact HO5, HG5.out⟩
            case measure => simp [intOf]; omega
        · rcases hu with rfl | rfl | rfl | rfl | rfl | rfl | rfl | rfl
          · have hv : mv = x := by have h := HM1.out; simpa [mixAdd] using h
            subst hv
            clear HM1 HMX HXL
            go_wp2_with fail
            refine (HAD.out _ (HG0.out.trans HG.out)).mono ?_; rintro e w3 ⟨rfl, hw3⟩
            rw [hw3]
            clear hw3
            go_wp2_with (at_builtin; refine push_i hi9 hz0 hz1 hz2 rfl _ _ rfl _ _ rfl HO.out HG.out (mv) wr.heap.size rfl rfl hlen ?_; rintro v5 w5 HO5 hg5; have HG5 := Lib.hid hg5; clear hg5)
            go_roundw
            case rel => exact ⟨k + 1, by go_num, by omega, by rw [HXL1.out]; exact HO5, HG5.out⟩
            case measure => simp [intOf]; omega
          · have hv : mv = y := by have h := HM1.out; simpa [mixAdd] using h
            subst hv
            clear HM1 HMX HXL
            go_wp2_with fail
            refine (HAD.out _ (HG0.out.trans HG.out)).mono ?_; rintro e w3 ⟨rfl, hw3⟩
            rw [hw3]
            clear hw3
            go_wp2_with (at_builtin; refine push_i hi9 hz0 hz1 hz2 rfl _ _ rfl _ _ rfl HO.out HG.out (mv) wr.heap.size rfl rfl hlen ?_; rintro v5 w5 HO5 hg5; have HG5 := Lib.hid hg5; clear hg5)
            go_roundw
            case rel => exact ⟨k + 1, by go_num, by omega, by rw [HXL1.out]; exact HO5, HG5.out⟩
            case measure => simp [intOf]; omega
          · have hv : mv = z := by have h := HM1.out; simpa [mixAdd] using h
            subst hv
            clear HM1 HMX HXL
            go_wp2_with fail
            refine (HAD.out _ (HG0.out.trans HG.out)).mono ?_; rintro e w3 ⟨rfl, hw3⟩
            rw [hw3]
            clear hw3
            go_wp2_with (at_builtin; refine push_i hi9 hz0 hz1 hz2 rfl _ _ rfl _ _ rfl HO.out HG.out (mv) wr.heap.size rfl rfl hlen ?_; rintro v5 w5 HO5 hg5; have HG5 := Lib.hid hg5; clear hg5)
            go_roundw
            case rel => exact ⟨k + 1, by go_num, by omega, by rw [HXL1.out]; exact HO5, HG5.out⟩
            case measure => simp [intOf]; omega
          · have hv : mv = 0 := by have h := HM1.out; simpa [mixAdd] using h
            subst hv
            clear HM1 HMX HXL
            go_wp2_with fail
            refine (HAD.out _ (HG0.out.trans HG.out)).mono ?_; rintro e w3 ⟨rfl, hw3⟩
            rw [hw3]
            clear hw3
            go_wp2_with (at_builtin; refine push_i hi9 hz0 hz1 hz2 rfl _ _ rfl _ _ rfl HO.out HG.out (0) wr.heap.size rfl rfl hlen ?_; rintro v5 w5 HO5 hg5; have HG5 := Lib.hid hg5; clear hg5)
            go_roundw
            case rel => exact ⟨k + 1, by go_num, by omega, by rw [HXL1.out]; exact HO5, HG5.out⟩
            case measure => simp [intOf]; omega
          · have hv : mv = 0 := by have h := HM1.out; simpa [mixAdd] using h
            subst hv
            clear HM1 HMX HXL
            go_wp2_with fail
            refine (HAD.out _ (HG0.out.trans HG.out)).mono ?_; rintro e w3 ⟨rfl, hw3⟩
            rw [hw3]
            clear hw3
            go_wp2_with (at_builtin; refine push_i hi9 hz0 hz1 hz2 rfl _ _ rfl _ _ rfl HO.out HG.out (0) wr.heap.size rfl rfl hlen ?_; rintro v5 w5 HO5 hg5; have HG5 := Lib.hid hg5; clear hg5)
            go_roundw
            case rel => exact ⟨k + 1, by go_num, by omega, by rw [HXL1.out]; exact HO5, HG5.out⟩
            case measure => simp [intOf]; omega
          · have hv : mv = 0 := by have h := HM1.out; simpa [mixAdd] using h
            subst hv
            clear HM1 HMX HXL
            go_wp2_with fail
            refine (HAD.out _ (HG0.out.trans HG.out)).mono ?_; rintro e w3 ⟨rfl, hw3⟩
            rw [hw3]
            clear hw3
            go_wp2_with (at_builtin; refine push_i hi9 hz0 hz1 hz2 rfl _ _ rfl _ _ rfl HO.out HG.out (0) wr.heap.size rfl rfl hlen ?_; rintro v5 w5 HO5 hg5; have HG5 := Lib.hid hg5; clear hg5)
            go_roundw
            case rel => exact ⟨k + 1, by go_num, by omega, by rw [HXL1.out]; exact HO5, HG5.out⟩
            case measure => simp [intOf]; omega
          · have hv : mv = 0 := by have h := HM1.out; simpa [mixAdd] using h
            subst hv
            clear HM1 HMX HXL
            go_wp2_with fail
            refine (HAD.out _ (HG0.out.trans HG.out)).mono ?_; rintro e w3 ⟨rfl, hw3⟩
            rw [hw3]
            clear hw3
            go_wp2_with (at_builtin; refine push_i hi9 hz0 hz1 hz2 rfl _ _ rfl _ _ rfl HO.out HG.out (0) wr.heap.size rfl rfl hlen ?_; rintro v5 w5 HO5 hg5; have HG5 := Lib.hid hg5; clear hg5)
            go_roundw
            case rel => exact ⟨k + 1, by go_num, by omega, by rw [HXL1.out]; exact HO5, HG5.out⟩
            case measure => simp [intOf]; omega
          · have hv : mv = 0 := by have h := HM1.out; simpa [mixAdd] using h
            subst hv
            clear HM1 HMX HXL
            go_wp2_with fail
            refine (HAD.out _ (HG0.out.trans HG.out)).mono ?_; rintro e w3 ⟨rfl, hw3⟩
            rw [hw3]
            clear hw3
            go_wp2_with (at_builtin; refine push_i hi9 hz0 hz1 hz2 rfl _ _ rfl _ _ rfl HO.out HG.out (0) wr.heap.size rfl rfl hlen ?_; rintro v5 w5 HO5 hg5; have HG5 := Lib.hid hg5; clear hg5)
            go_roundw
            case rel => exact ⟨k + 1, by go_num, by omega, by rw [HXL1.out]; exact HO5, HG5.out⟩
            case measure => simp [intOf]; omega
      · have hkn : k = n := by omega
        subst hkn
        have ho := HO.out
        rw [HN.out, HXE.out, ← HL.out] at ho
        obtain ⟨a', c', hv, hr2, hc1, hc2⟩ := ho.shape
        subst hv
        have HRR := Lib.hid hr2
        clear ho hr2 HO
        go_wp2
        go_ret
        exact ⟨⟨a', c', rfl, HRR.out, hc1, hc2⟩, HG0.out.trans HG.out⟩
  · go_enter Try.func33, Try.ntmps33
    go_wp2_with fail
    obtain ⟨w1, hw1⟩ : ∃ v, v = w.alloc (.cells #[.int .i64 x, .int .i64 y, .int .i64 z] 23) := ⟨_, rfl⟩
    have e1 : w.alloc (.cells #[.int .i64 (x, y, z).1, .int .i64 (x, y, z).2.1, .int .i64 (x, y, z).2.2] 23) = w1 := hw1.symm
    rw [e1] at HG0 HC0 HPL
    rw [← hw1]
    clear e1 hw1
    refine HPL.out.mono ?_; rintro e w2 ⟨rfl, hw2⟩
    rw [hw2]
    clear hw2 HPL
    have c0 := HC0.out.c0
    have c1 := HC0.out.c1
    have c2 := HC0.out.c2
    have hw6 : whA l (x, y, z) = min3 (x, y, z) := by have h := HW6.out; simpa only [if_true] using h
    simp only at c0 c1 c2
    go_wp2_with (refine wpl_min3 rfl rfl rfl rfl rfl ?_)
    rw [← hw6]
    clear c0 c1 c2
    generalize whA l (x, y, z) = wv at *
    clear hw6 HW6
    go_loopw [6, 7, 8] (fun v i _ wr => ∃ k : Nat, i = .int .i64 k ∧ k ≤ n ∧ Hid (OwnI w1.heap.size wr v ((mixL l (x, y, z)).take k)) ∧ Hid (Gr w1 wr)) (fun _ i _ _ => n - (intOf i).toNat)
    case atStart => exact ⟨0, rfl, Nat.zero_le _, OwnI.nil _ _, Gr.refl _⟩
    case round =>
      obtain ⟨k, rfl, hk, HO, HG⟩ := hrel
      have HC := Lib.hid (HC0.out.gr HG.out)
      by_cases hlt : k < n
      · have hkl : k < l.length := by rw [← HN.out]; exact hlt
        obtain ⟨b, o, rfl, hcl⟩ := (HR.out.gr (HG0.out.trans HG.out)) k hkl
        have hx := HALL.out l[k] (List.getElem_mem hkl)
        have HXL1 := Lib.hid (HXL.out k hkl)
        have HM1 := Lib.hid (HMX.out l[k])
        generalize l[k] = u at *
        generalize mixA l (x, y, z) u = mv at *
        have c0 := HC.out.c0
        have c1 := HC.out.c1
        have c2 := HC.out.c2
        simp only at c0 c1 c2
        have hlen : ((mixL l (x, y, z)).take k).length ≤ 3000000 := by rw [List.length_take]; omega
        have hu : u = 3 ∨ u = 4 ∨ u = 5 ∨ u = 6 ∨ u = 7 ∨ u = 8 ∨ u = 9 ∨ u = 10 := by omega
        clear hx HALL
        cases ad
        · rcases hu with rfl | rfl | rfl | rfl | rfl | rfl | rfl | rfl
          · have hv : mv = 0 := by have h := HM1.out; simpa [mixSub] using h
            subst hv
            clear HM1 HMX HXL
            go_wp2_with fail
            refine (HAD.out _ (HG0.out.trans HG.out)).mono ?_; rintro e w3 ⟨rfl, hw3⟩
            rw [hw3]
            clear hw3
            go_wp2_with (at_builtin; refine push_i hi9 hz0 hz1 hz2 rfl _ _ rfl _ _ rfl HO.out HG.out (0) wr.heap.size rfl rfl hlen ?_; rintro v5 w5 HO5 hg5; have HG5 := Lib.hid hg5; clear hg5)
            go_roundw
            case rel => exact ⟨k + 1, by go_num, by omega, by rw [HXL1.out]; exact HO5, HG5.out⟩
            case measure => simp [intOf]; omega
          · have hv : mv = 0 := by have h := HM1.out; simpa [mixSub] using h
            subst hv
            clear HM1 HMX HXL
            go_wp2_with fail
            refine (HAD.out _ (HG0.out.trans HG.out)).mono ?_; rintro e w3 ⟨rfl, hw3⟩
            rw [hw3]
            clear hw3
            go_wp2_with (at_builtin; refine push_i hi9 hz0 hz1 hz2 rfl _ _ rfl _ _ rfl HO.out HG.out (0) wr.heap.size rfl rfl hlen ?_; rintro v5 w5 HO5 hg5; have HG5 := Lib.hid hg5; clear hg5)
            go_roundw
            case rel => exact ⟨k + 1, by go_num, by omega, by rw [HXL1.out]; exact HO5, HG5.out⟩
            case measure => simp [intOf]; omega
          · have hv : mv = 0 := by have h := HM1.out; simpa [mixSub] using h
            subst hv
            clear HM1 HMX HXL
            go_wp2_with fail
            refine (HAD.out _ (HG0.out.trans HG.out)).mono ?_; rintro e w3 ⟨rfl, hw3⟩
            rw [hw3]
            clear hw3
            go_wp2_with (at_builtin; refine push_i hi9 hz0 hz1 hz2 rfl _ _ rfl _ _ rfl HO.out HG.out (0) wr.heap.size rfl rfl hlen ?_; rintro v5 w5 HO5 hg5; have HG5 := Lib.hid hg5; clear hg5)
            go_roundw
            case rel => exact ⟨k + 1, by go_num, by omega, by rw [HXL1.out]; exact HO5, HG5.out⟩
            case measure => simp [intOf]; omega
          · have hv : mv = 0 := by have h := HM1.out; simpa [mixSub] using h
            subst hv
            clear HM1 HMX HXL
            go_wp2_with fail
            refine (HAD.out _ (HG0.out.trans HG.out)).mono ?_; rintro e w3 ⟨rfl, hw3⟩
            rw [hw3]
            clear hw3
            go_wp2_with (at_builtin; refine push_i hi9 hz0 hz1 hz2 rfl _ _ rfl _ _ rfl HO.out HG.out (0) wr.heap.size rfl rfl hlen ?_; rintro v5 w5 HO5 hg5; have HG5 := Lib.hid hg5; clear hg5)
            go_roundw
            case rel => exact ⟨k + 1, by go_num, by omega, by rw [HXL1.out]; exact HO5, HG5.out⟩
            case measure => simp [intOf]; omega
          · have hv : mv = 0 := by have h := HM1.out; simpa [mixSub] using h
            subst hv
            clear HM1 HMX HXL
            go_wp2_with fail
            refine (HAD.out _ (HG0.out.trans HG.out)).mono ?_; rintro e w3 ⟨rfl, hw3⟩
            rw [hw3]
            clear hw3
            go_wp2_with (at_builtin; refine push_i hi9 hz0 hz1 hz2 rfl _ _ rfl _ _ rfl HO.out HG.out (0) wr.heap.size rfl rfl hlen ?_; rintro v5 w5 HO5 hg5; have HG5 := Lib.hid hg5; clear hg5)
            go_roundw
            case rel => exact ⟨k + 1, by go_num, by omega, by rw [HXL1.out]; exact HO5, HG5.out⟩
            case measure => simp [intOf]; omega
          · have hv : mv = 65535 - x := by have h := HM1.out; simpa [mixSub] using h
            subst hv
            clear HM1 HMX HXL
            go_wp2_with fail
            refine (HAD.out _ (HG0.out.trans HG.out)).mono ?_; rintro e w3 ⟨rfl, hw3⟩
            rw [hw3]
            clear hw3
            go_wp2_with (at_builtin; refine push_i hi9 hz0 hz1 hz2 rfl _ _ rfl _ _ rfl HO.out HG.out (65535 - x) wr.heap.size rfl rfl hlen ?_; rintro v5 w5 HO5 hg5; have HG5 := Lib.hid hg5; clear hg5)
            go_roundw
            case rel => exact ⟨k + 1, by go_num, by omega, by rw [HXL1.out]; exact HO5, HG5.out⟩
            case measure => simp [intOf]; omega
          · have hv : mv = 65535 - y := by have h := HM1.out; simpa [mixSub] using h
            subst hv
            clear HM1 HMX HXL
            go_wp2_with fail
            refine (HAD.out _ (HG0.out.trans HG.out)).mono ?_; rintro e w3 ⟨rfl, hw3⟩
            rw [hw3]
            clear hw3
            go_wp2_with (at_builtin; refine push_i hi9 hz0 hz1 hz2 rfl _ _ rfl _ _ rfl HO.out HG.out (65535 - y) wr.heap.size rfl rfl hlen ?_; rintro v5 w5 HO5 hg5; have HG5 := Lib.hid hg5; clear hg5)
            go_roundw
            case rel => exact ⟨k + 1, by go_num, by omega, by rw [HXL1.out]; exact HO5, HG5.out⟩
            case measure => simp [intOf]; omega
          · have hv : mv = 65535 - z := by have h := HM1.out; simpa [mixSub] using h
            subst hv
            clear HM1 HMX HXL
            go_wp2_with fail
            refine (HAD.out _ (HG0.out.trans HG.out)).mono ?_; rintro e w3 ⟨rfl, hw3⟩
            rw [hw3]
            clear hw3
            go_wp2_with (at_builtin; refine push_i hi9 hz0 hz1 hz2 rfl _ _ rfl _ _ rfl HO.out HG.out (65535 - z) wr.heap.size rfl rfl hlen ?_; rintro v5 w5 HO5 hg5; have HG5 := Lib.hid hg5; clear hg5)
            go_roundw
            case rel => exact ⟨k + 1, by go_num, by omega, by rw [HXL1.out]; exact HO5, HG5.out⟩
            case measure => simp [intOf]; omega
        · rcases hu with rfl | rfl | rfl | rfl | rfl | rfl | rfl | rfl
          · have hv : mv = x - wv := by have h := HM1.out; simpa [mixAdd] using h
            subst hv
            clear HM1 HMX HXL
            go_wp2_with fail
            refine (HAD.out _ (HG0.out.trans HG.out)).mono ?_; rintro e w3 ⟨rfl, hw3⟩
            rw [hw3]
            clear hw3
            go_wp2_with (at_builtin; refine push_i hi9 hz0 hz1 hz2 rfl _ _ rfl _ _ rfl HO.out HG.out (x - wv) wr.heap.size rfl rfl hlen ?_; rintro v5 w5 HO5 hg5; have HG5 := Lib.hid hg5; clear hg5)
            go_roundw
            case rel => exact ⟨k + 1, by go_num, by omega, by rw [HXL1.out]; exact HO5, HG5.out⟩
            case measure => simp [intOf]; omega
          · have hv : mv = y - wv := by have h := HM1.out; simpa [mixAdd] using h
            subst hv
            clear HM1 HMX HXL
            go_wp2_with fail
            refine (HAD.out _ (HG0.out.trans HG.out)).mono ?_; rintro e w3 ⟨rfl, hw3⟩
            rw [hw3]
            clear hw3
            go_wp2_with (at_builtin; refine push_i hi9 hz0 hz1 hz2 rfl _ _ rfl _ _ rfl HO.out HG.out (y - wv) wr.heap.size rfl rfl hlen ?_; rintro v5 w5 HO5 hg5; have HG5 := Lib.hid hg5; clear hg5)
            go_roundw
            case rel => exact ⟨k + 1, by go_num, by omega, by rw [HXL1.out]; exact HO5, HG5.out⟩
            case measure => simp [intOf]; omega
          · have hv : mv = z - wv := by have h := HM1.out; simpa [mixAdd] using h
            subst hv
            clear HM1 HMX HXL
            go_wp2_with fail
            refine (HAD.out _ (HG0.out.trans HG.out)).mono ?_; rintro e w3 ⟨rfl, hw3⟩
            rw [hw3]
            clear hw3
            go_wp2_with (at_builtin; refine push_i hi9 hz0 hz1 hz2 rfl _ _ rfl _ _ rfl HO.out HG.out (z - wv) wr.heap.size rfl rfl hlen ?_; rintro v5 w5 HO5 hg5; have HG5 := Lib.hid hg5; clear hg5)
            go_roundw
            case rel => exact ⟨k + 1, by go_num, by omega, by rw [HXL1.out]; exact HO5, HG5.out⟩
            case measure => simp [intOf]; omega
          · have hv : mv = wv := by have h := HM1.out; simpa [mixAdd] using h
            subst hv
            clear HM1 HMX HXL
            go_wp2_with fail
            refine (HAD.out _ (HG0.out.trans HG.out)).mono ?_; rintro e w3 ⟨rfl, hw3⟩
            rw [hw3]
            clear hw3
            go_wp2_with (at_builtin; refine push_i hi9 hz0 hz1 hz2 rfl _ _ rfl _ _ rfl HO.out HG.out (mv) wr.heap.size rfl rfl hlen ?_; rintro v5 w5 HO5 hg5; have HG5 := Lib.hid hg5; clear hg5)
            go_roundw
            case rel => exact ⟨k + 1, by go_num, by omega, by rw [HXL1.out]; exact HO5, HG5.out⟩
            case measure => simp [intOf]; omega
          · have hv : mv = 0 := by have h := HM1.out; simpa [mixAdd] using h
            subst hv
            clear HM1 HMX HXL
            go_wp2_with fail
            refine (HAD.out _ (HG0.out.trans HG.out)).mono ?_; rintro e w3 ⟨rfl, hw3⟩
            rw [hw3]
            clear hw3
            go_wp2_with (at_builtin; refine push_i hi9 hz0 hz1 hz2 rfl _ _ rfl _ _ rfl HO.out HG.out (0) wr.heap.size rfl rfl hlen ?_; rintro v5 w5 HO5 hg5; have HG5 := Lib.hid hg5; clear hg5)
            go_roundw
            case rel => exact ⟨k + 1, by go_num, by omega, by rw [HXL1.out]; exact HO5, HG5.out⟩
            case measure => simp [intOf]; omega
          · have hv : mv = 0 := by have h := HM1.out; simpa [mixAdd] using h
            subst hv
            clear HM1 HMX HXL
            go_wp2_with fail
            refine (HAD.out _ (HG0.out.trans HG.out)).mono ?_; rintro e w3 ⟨rfl, hw3⟩
            rw [hw3]
            clear hw3
            go_wp2_with (at_builtin; refine push_i hi9 hz0 hz1 hz2 rfl _ _ rfl _ _ rfl HO.out HG.out (0) wr.heap.size rfl rfl hlen ?_; rintro v5 w5 HO5 hg5; have HG5 := Lib.hid hg5; clear hg5)
            go_roundw
            case rel => exact ⟨k + 1, by go_num, by omega, by rw [HXL1.out]; exact HO5, HG5.out⟩
            case measure => simp [intOf]; omega
          · have hv : mv = 0 := by have h := HM1.out; simpa [mixAdd] using h
            subst hv
            clear HM1 HMX HXL
            go_wp2_with fail
            refine (HAD.out _ (HG0.out.trans HG.out)).mono ?_; rintro e w3 ⟨rfl, hw3⟩
            rw [hw3]
            clear hw3
            go_wp2_with (at_builtin; refine push_i hi9 hz0 hz1 hz2 rfl _ _ rfl _ _ rfl HO.out HG.out (0) wr.heap.size rfl rfl hlen ?_; rintro v5 w5 HO5 hg5; have HG5 := Lib.hid hg5; clear hg5)
            go_roundw
            case rel => exact ⟨k + 1, by go_num, by omega, by rw [HXL1.out]; exact HO5, HG5.out⟩
            case measure => simp [intOf]; omega
          · have hv : mv = 0 := by have h := HM1.out; simpa [mixAdd] using h
            subst hv
            clear HM1 HMX HXL
            go_wp2_with fail
            refine (HAD.out _ (HG0.out.trans HG.out)).mono ?_; rintro e w3 ⟨rfl, hw3⟩
            rw [hw3]
            clear hw3
            go_wp2_with (at_builtin; refine push_i hi9 hz0 hz1 hz2 rfl _ _ rfl _ _ rfl HO.out HG.out (0) wr.heap.size rfl rfl hlen ?_; rintro v5 w5 HO5 hg5; have HG5 := Lib.hid hg5; clear hg5)
            go_roundw
            case rel => exact ⟨k + 1, by go_num, by omega, by rw [HXL1.out]; exact HO5, HG5.out⟩
            case measure => simp [intOf]; omega
      · have hkn : k = n := by omega
        subst hkn
        have ho := HO.out
        rw [HN.out, HXE.out, ← HL.out] at ho
        obtain ⟨a', c', hv, hr2, hc1, hc2⟩ := ho.shape
        subst hv
        have HRR := Lib.hid hr2
        clear ho hr2 HO
        go_wp2
        go_ret
        exact ⟨⟨a', c', rfl, HRR.out, hc1, hc2⟩, HG0.out.trans HG.out⟩
end Go.Proofs.Ytipfofdjngnkpaa
