/- Law 14: GroupKeeps. -/
import Derived.Test.YtmcngnnbfmjajaaGqF
set_option linter.unusedVariables false
set_option linter.unusedSimpArgs false
namespace Go.Proofs.Ytmcngnnbfmjajaa.Z
open Go
theorem all_putL {l : List Gp} {g : Gp} (h : ∀ x ∈ l, gpR x = 0) (hg : gpR g = 0) : ∀ x ∈ putL l g, gpR x = 0 := fun x hx => by
  rcases mem_putL.1 hx with rfl | ⟨h1, -⟩
  · exact hg
  · exact h x h1
theorem tb_putL {l : List Gp} {g : Gp} (h : tbR l = 0) (hg : gpR g = 0) (h33 : ¬ 32 < (putL l g).length) : tbR (putL l g) = 0 := by
  obtain ⟨-, h2, h3⟩ := tbR_zero.1 h
  exact tbR_zero.2 ⟨by omega, all_putL h2 hg, asc_putL h3⟩
theorem tb_dropL {l : List Gp} {n : Int} (h : tbR l = 0) : tbR (dropL l n) = 0 := by
  obtain ⟨h1, h2, h3⟩ := tbR_zero.1 h
  exact tbR_zero.2 ⟨Nat.le_trans dropL_len h1, fun x hx => h2 x (List.mem_filter.1 hx).1, asc_dropL h3⟩
theorem find_mem {l : List Gp} {x : Gp} (h : tbR l = 0) (hx : x ∈ l) : findR l x.1 = (x, 0) := by
  obtain ⟨-, -, ha⟩ := tbR_zero.1 h
  obtain ⟨k, hk, rfl⟩ := List.getElem_of_mem hx
  unfold findR
  rw [if_pos h, if_pos (hasN_iff.2 ⟨_, List.getElem_mem hk, rfl⟩), findG_at ha hk rfl]
theorem put_mem {l : List Gp} {g y : Gp} (hy : y ∈ l) : ∃ z ∈ putL l g, z.1 = y.1 ∧ (y.1 ≠ g.1 → z = y) := by
  by_cases h : y.1 = g.1
  · exact ⟨g, mem_putL.2 (.inl rfl), h.symm, fun h2 => absurd h h2⟩
  · exact ⟨y, mem_putL.2 (.inr ⟨hy, h⟩), rfl, fun _ => rfl⟩
theorem drop_put {l : List Gp} {g : Gp} (h : tbR l = 0) (hg : gpR g = 0) (h33 : ¬ 32 < (putL l g).length) : dropR (putL l g) g.1 = (dropL (putL l g) g.1, 0) := by
  unfold dropR
  rw [if_pos (tb_putL h hg h33), if_pos (hasN_iff.2 ⟨g, mem_putL.2 (.inl rfl), rfl⟩)]
theorem find_drop {l : List Gp} {n : Int} (h : tbR l = 0) : findR (dropL l n) n = ((0, []), 6) := by
  unfold findR
  rw [if_pos (tb_dropL h), not_has_dropL, if_neg (by simp)]
theorem put_many {l : List Gp} {g : Gp} (h : tbR l = 0) (h33 : 32 < (putL l g).length) : l.length = 32 := by
  have h1 := (tbR_zero.1 h).1
  have h2 := congrArg List.length (withF_put g l (tbR_zero.1 h).2.2)
  have h3 := withF_len g l false
  omega
end Go.Proofs.Ytmcngnnbfmjajaa.Z
namespace Go.Proofs.Ytmcngnnbfmjajaa
open Go.RowKit
open Z
set_option maxRecDepth 100000 in
set_option maxHeartbeats 4000000 in
theorem l14_GroupKeeps {a : Option Addr} {l : List Gp} {cap : Nat} {u : Value} (g : Gp) (w : World) (hr : RdG w a l) (hcap : l.length ≤ cap) (hcm : cap ≤ maxLen) (hok : SlOk a cap) (hu : GpV w u g) :
    Calls Try.prog 10 #[.slice a l.length cap, u] w fun e w' => e = .returned (.bool true) ∧ Gr w w' := by
  obtain ⟨c, cp, rfl, rc, lc, mc⟩ := hu
  obtain ⟨x, L⟩ := g
  simp only at rc lc ⊢
  have AW := Lib.hid (fun w => l14_awake w)
  obtain ⟨w1, hw1⟩ : ∃ w1, w1 = w.alloc (.cells #[.int .i64 x, .slice c L.length cp] 25) := ⟨_, rfl⟩
  have hg1 : Gr w w1 := by rw [hw1]; exact (Gr.refl w).alloc _
  have HG1 := Lib.hid hg1
  have HB := Lib.hid (show w1.cell? ⟨w.heap.size, 0, none⟩ = some (.int .i64 x) ∧ w1.cell? ⟨w.heap.size, 1, none⟩ = some (.slice c L.length cp) by rw [hw1]; exact box2 _ _ _ _)
  have HR := hr.gr hg1
  have HC := Lib.hid (rc.gr hg1)
  have HF := Lib.hid (r14_Few (cap := cap) w1 HR (Nat.le_trans hcap hcm))
  have HF1 := Lib.hid (few_one (x := x) HC.out lc mc)
  have HFL : Hid (fewG l = true → l.length ≤ 60) := Lib.hid fun h => by simp only [fewG, Bool.and_eq_true, decide_eq_true_eq] at h; exact h.2
  have HV : Hid (∀ W, Gr w1 W → GpV W (.agg #[.int .i64 x, .slice c L.length cp]) (x, L)) := Lib.hid fun W hW => ⟨c, cp, rfl, HC.out.gr hW, lc, mc⟩
  have HT : Hid (l.length ≤ 60 → ∀ W (hW : Gr w1 W), Calls Try.prog 18 #[.slice a l.length cap] W fun e w' => e = .returned (.int .i64 (tbR l)) ∧ Gr W w') := Lib.hid fun h W hW => r14_Table W (HR.gr hW) (by omega)
  have HK : Hid (∀ W (hW : Gr w1 W), Calls Try.prog 16 #[.agg #[.int .i64 x, .slice c L.length cp]] W fun e w' => e = .returned (.int .i64 (gpR (x, L))) ∧ Gr W w') := Lib.hid fun W hW => r14_Check (x, L) W (HV.out W hW)
  have P1 : Hid (l.length ≤ 60 → ∀ W (hW : Gr w1 W), Calls Try.prog 21 #[.slice a l.length cap, .agg #[.int .i64 x, .slice c L.length cp]] W fun e w' => (∃ u, e = .returned (.tuple #[u, .int .i64 (putR l (x, L)).2]) ∧ TbV w' u (putR l (x, L)).1) ∧ Gr W w') := Lib.hid fun h W hW => gp_PutR (x, L) W (HR.gr hW) (by omega) hcap hcm hok (HV.out W hW)
  have HS1 := Lib.hid (show w.heap.size + 1 = w1.heap.size by rw [hw1, World.size_alloc])
  have HRH := Lib.hid HR
  have HNL : Hid (∀ N, N = l.length → N = l.length) := Lib.hid fun _ h => h
  obtain ⟨p3, hp3⟩ : ∃ p3, p3 = w.heap.size := ⟨_, rfl⟩
  rw [← hp3] at HB HS1
  obtain ⟨hb0, hb1⟩ := HB.out
  obtain ⟨m, hm⟩ : ∃ m, m = L.length := ⟨_, rfl⟩
  rw [← hm] at hw1 hb1 HF1 HV HK P1 lc ⊢
  obtain ⟨N, hN⟩ : ∃ N, N = l.length := ⟨_, rfl⟩
  rw [← hN] at HF HFL HT P1 hcap ⊢
  have HNE := Lib.hid hN
  have HW1 := Lib.hid hw1
  have HP3 := Lib.hid hp3
  generalize hf1 : fewG [(x, L)] = f1 at *
  generalize hf0 : fewG l = f0 at *
  clear hr rc hg1 HR HC HNL hm hN hw1 hp3 HB hf1 hf0
  cases f0
  · go_enter Try.func10, Try.ntmps10
    go_wp2_with fail
    rw [← HW1.out]
    refine HF.out.mono ?_; rintro e w' ⟨rfl, rfl⟩
    go_wp2_with fail
    refine (AW.out _).mono ?_; rintro e w3 ⟨rfl, hg3⟩
    have HG3 := Lib.hid (HG1.out.trans hg3)
    clear hg3
    go_wp2
    go_ret
    exact ⟨rfl, HG3.out⟩
  have hn60 := HFL.out rfl
  have HT := Lib.hid (fun W hW => HT.out hn60 W hW)
  have P1 := Lib.hid (fun W hW => P1.out hn60 W hW)
  clear HFL
  cases f1
  · go_enter Try.func10, Try.ntmps10
    go_wp2_with fail
    rw [← HW1.out]
    refine HF.out.mono ?_; rintro e w' ⟨rfl, rfl⟩
    rw [← HP3.out]
    go_wp2_with fail
    refine HF1.out.mono ?_; rintro e w2 ⟨rfl, hg2⟩
    have HG2 := Lib.hid (HG1.out.trans hg2)
    clear hg2
    go_wp2_with fail
    refine (AW.out _).mono ?_; rintro e w3 ⟨rfl, hg3⟩
    have HG3 := Lib.hid (HG2.out.trans hg3)
    clear hg3
    go_wp2
    go_ret
    exact ⟨rfl, HG3.out⟩
  by_cases ht : tbR l = 0
  · by_cases hc : gpR (x, L) = 0
    · have hPP : putR l (x, L) = if 32 < (putL l (x, L)).length then ([], 5) else (putL l (x, L), 0) := by unfold putR; rw [if_pos ht, if_pos hc]
      rw [ht] at HT
      rw [hc] at HK
      rw [hPP] at P1
      clear hPP
      by_cases h33 : 32 < (putL l (x, L)).length
      · rw [if_pos h33] at P1
        have hn32 : N = 32 := by rw [HNE.out]; exact put_many ht h33
        subst hn32
        clear h33 ht hc
        go_enter Try.func10, Try.ntmps10
        go_wp2_with fail
        rw [← HW1.out]
        refine HF.out.mono ?_; rintro e w' ⟨rfl, rfl⟩
        rw [← HP3.out]
        go_wp2_with fail
        refine HF1.out.mono ?_; rintro e w2 ⟨rfl, hg2⟩
        have HG2 := Lib.hid hg2
        have hb0 := gr_cell hg2 hb0
        have hb1 := gr_cell hg2 hb1
        clear hg2 HF HF1
        go_wp2_with fail
        refine (HT.out _ HG2.out).mono ?_; rintro e w3 ⟨rfl, hg3⟩
        have HG3 := Lib.hid (HG2.out.trans hg3)
        have hb0 := gr_cell hg3 hb0
        have hb1 := gr_cell hg3 hb1
        clear hg3 HT HG2
        go_wp2_with fail
        refine (HK.out _ HG3.out).mono ?_; rintro e w4 ⟨rfl, hg4⟩
        have HG4 := Lib.hid (HG3.out.trans hg4)
        have hb0 := gr_cell hg4 hb0
        have hb1 := gr_cell hg4 hb1
        clear hg4 HK HG3
        go_wp2_with fail
        refine (P1.out _ HG4.out).mono ?_; rintro e w5 ⟨⟨t0, rfl, -⟩, hg5⟩
        have HG5 := Lib.hid (HG4.out.trans hg5)
        clear hg5 HG4
        go_wp2_with fail
        refine (AW.out _).mono ?_; rintro e w6 ⟨rfl, hg6⟩
        have HG6 := Lib.hid (HG1.out.trans (HG5.out.trans hg6))
        clear hg6
        go_wp2
        go_ret
        exact ⟨rfl, HG6.out⟩
      · rw [if_neg h33] at P1
        have htm := tb_putL ht hc h33
        have hMd := drop_put ht hc h33
        have hFx := find_mem (x := (x, L)) htm (mem_putL.2 (.inl rfl))
        have hFd := find_drop (l := putL l (x, L)) (n := x) htm
        have HMy : Hid (∀ y ∈ l, ∃ z ∈ putL l (x, L), z.1 = y.1 ∧ (y.1 ≠ x → z = y)) := Lib.hid fun y hy => put_mem (g := (x, L)) hy
        have HFM : Hid (∀ z ∈ putL l (x, L), findR (putL l (x, L)) z.1 = (z, 0)) := Lib.hid fun z hz => find_mem htm hz
        have hml : (putL l (x, L)).length ≤ 32 := by omega
        have hdl := dropL_len (l := putL l (x, L)) (n := x)
        simp only at hMd hFx hFd
        generalize putL l (x, L) = P at *
        generalize dropL P x = D at *
        clear h33 ht hc
        go_enter Try.func10, Try.ntmps10
        go_wp2_with fail
        rw [← HW1.out]
        refine HF.out.mono ?_; rintro e w' ⟨rfl, rfl⟩
        rw [← HP3.out]
        go_wp2_with fail
        refine HF1.out.mono ?_; rintro e w2 ⟨rfl, hg2⟩
        have HG2 := Lib.hid hg2
        have hb0 := gr_cell hg2 hb0
        have hb1 := gr_cell hg2 hb1
        clear hg2 HF HF1
        go_wp2_with fail
        refine (HT.out _ HG2.out).mono ?_; rintro e w3 ⟨rfl, hg3⟩
        have HG3 := Lib.hid (HG2.out.trans hg3)
        have hb0 := gr_cell hg3 hb0
        have hb1 := gr_cell hg3 hb1
        clear hg3 HT HG2
        go_wp2_with fail
        refine (HK.out _ HG3.out).mono ?_; rintro e w4 ⟨rfl, hg4⟩
        have HG4 := Lib.hid (HG3.out.trans hg4)
        have hb0 := gr_cell hg4 hb0
        have hb1 := gr_cell hg4 hb1
        clear hg4 HK HG3
        go_wp2_with fail
        refine (P1.out _ HG4.out).mono ?_; rintro e w5 ⟨⟨t0, rfl, ht0⟩, hg5⟩
        obtain ⟨ta, tc, rfl, htr, ht1, ht2, ht3⟩ := ht0
        have HG5 := Lib.hid (HG4.out.trans hg5)
        have hb0 := gr_cell hg5 hb0
        have hb1 := gr_cell hg5 hb1
        have HFP : Hid (∀ n W, Gr w5 W → Calls Try.prog 19 #[.slice ta P.length tc, .int .i64 n] W fun e w' => (∃ u, e = .returned (.tuple #[u, .int .i64 (findR P n).2]) ∧ GpV w' u (findR P n).1) ∧ Gr W w') := Lib.hid fun n W hW => gp_FindR n W (htr.gr hW) (by omega)
        have HDP : Hid (∀ W, Gr w5 W → Calls Try.prog 23 #[.slice ta P.length tc, .int .i64 x] W fun e w' => (∃ u, e = .returned (.tuple #[u, .int .i64 0]) ∧ TbV w' u D) ∧ Gr W w') := Lib.hid fun W hW => by
          have h := gp_DropR x W (htr.gr hW) (by omega) ht1 ht2 ht3
          rwa [hMd] at h
        have HTP : Hid (∀ W, Gr w5 W → Calls Try.prog 17 #[.slice ta P.length tc] W fun e w' => e = .returned (.int .i64 0) ∧ Gr W w') := Lib.hid fun W hW => by
          have h := gp_Table (cap := tc) W (htr.gr hW) (by omega)
          rwa [htm] at h
        have HFX := Lib.hid (show ∀ W, Gr w5 W → _ from fun W hW => HFP.out x W hW)
        rw [hFx] at HFX
        have HFDR := Lib.hid hFd
        have hdl2 : D.length ≤ 1000000000 := by omega
        generalize P.length = pn at *
        have HTM := Lib.hid htm
        clear hg5 HG4 P1 htr ht1 ht2 ht3 hMd hFx hFd htm hml hdl
        go_wp2_with fail
        refine (HFX.out _ (Gr.refl _)).mono ?_; rintro e w6 ⟨⟨u0, rfl, hv⟩, hg⟩
        obtain ⟨ua0, uc0, hu, -⟩ := id hv
        subst hu
        obtain ⟨w7, hwb⟩ : ∃ W, W = w6.alloc (.cells #[.int .i64 x, .slice ua0 L.length uc0] 25) := ⟨_, rfl⟩
        have hgb : Gr w6 w7 := by rw [hwb]; exact (Gr.refl w6).alloc _
        obtain ⟨q0, hq⟩ : ∃ q, q = w6.heap.size := ⟨_, rfl⟩
        obtain ⟨hc0, hd0⟩ := show w7.cell? ⟨q0, 0, none⟩ = some (.int .i64 x) ∧ w7.cell? ⟨q0, 1, none⟩ = some (.slice ua0 L.length uc0) by rw [hwb, hq]; exact box2 _ _ _ _
        have hgg := hg.trans hgb
        have HV0 := Lib.hid (hv.gr hgb)
        have HG7 := Lib.hid hgg
        have hb0 := gr_cell hgg hb0
        have hb1 := gr_cell hgg hb1
        have HWB := Lib.hid hwb
        have HQB := Lib.hid hq
        generalize hL2 : L.length = m2 at *
        clear hv hg hgb hgg hwb hq HFX hL2
        have hb0x := hb0
        have hb1x := hb1
        rw [HWB.out] at hb0x hb1x
        go_wp2_with fail
        rw [← HWB.out]
        try rw [← HQB.out]
        clear HWB HQB hb0x hb1x
        refine (HDP.out _ HG7.out).mono ?_; rintro e w8 ⟨⟨t1, rfl, ht1⟩, hg⟩
        obtain ⟨tb, tbc, rfl, hdr, -⟩ := ht1
        have hc0 := gr_cell hg hc0
        have hd0 := gr_cell hg hd0
        have HV0 := Lib.hid (HV0.out.gr hg)
        have hb0 := gr_cell hg hb0
        have hb1 := gr_cell hg hb1
        have HG8 := Lib.hid (HG7.out.trans hg)
        have HFD := Lib.hid (gp_FindR (cap := tbc) x w8 hdr hdl2)
        rw [HFDR.out] at HFD
        generalize D.length = dn at *
        clear hg hdr HG7 HDP HFDR
        go_wp2_with fail
        refine HFD.out.mono ?_; rintro e w9 ⟨⟨u1, rfl, hv⟩, hg⟩
        obtain ⟨ua1, uc1, hu, -⟩ := id hv
        subst hu
        obtain ⟨w10, hwb⟩ : ∃ W, W = w9.alloc (.cells #[.int .i64 0, .slice ua1 0 uc1] 25) := ⟨_, rfl⟩
        have hgb : Gr w9 w10 := by rw [hwb]; exact (Gr.refl w9).alloc _
        have hgg := hg.trans hgb
        have hc0 := gr_cell hgg hc0
        have hd0 := gr_cell hgg hd0
        have HV0 := Lib.hid (HV0.out.gr hgg)
        have hb0 := gr_cell hgg hb0
        have hb1 := gr_cell hgg hb1
        have HG10 := Lib.hid (HG8.out.trans hgg)
        have HWB := Lib.hid hwb
        clear hv hg hgb hgg hwb HG8 HFD
        have HGX := Lib.hid (HG5.out.trans HG10.out)
        have HSX := Lib.hid (gp_same (x, L) w10 HV0.out (HV.out w10 HGX.out))
        have hb0x := hb0
        have hb1x := hb1
        have hc0x := hc0
        have hd0x := hd0
        rw [HWB.out] at hb0x hb1x hc0x hd0x
        go_wp2_with fail
        rw [← HWB.out]
        clear HWB hb0x hb1x hc0x hd0x
        refine HSX.out.mono ?_; rintro e w11 ⟨rfl, hg⟩
        have hb0 := gr_cell hg hb0
        have hb1 := gr_cell hg hb1
        have HG11 := Lib.hid (HG10.out.trans hg)
        have HB11 := Lib.hid (And.intro hb0 hb1)
        have HGW := Lib.hid (HG5.out.trans HG11.out)
        clear hg HG10 HSX hc0 hd0 HV0 hb0 hb1 HGX
        go_wp2_with fail
        go_loopw [94] (fun i wr => ∃ (j : Nat), i = .int .i64 j ∧ j ≤ N ∧ Hid (Gr w11 wr)) (fun i _ => N - (intOf i).toNat)
        case atStart => exact ⟨0, rfl, by omega, Lib.hid (Gr.refl _)⟩
        case round =>
          obtain ⟨j, rfl, hj, HG⟩ := hrel
          by_cases hlt : j < N
          · have hjl : j < l.length := by rw [← HNE.out]; exact hlt
            obtain ⟨b, o, c', cp', rfl, hc0, hc1, hv⟩ := (HRH.out.gr (HGW.out.trans HG.out)).gpv hjl
            obtain ⟨z, hzP, hz1, hz2⟩ := HMy.out l[j] (List.getElem_mem hjl)
            have HFZ := Lib.hid (HFM.out z hzP)
            rw [hz1] at HFZ
            have HZ2 : Hid (l[j].1 ≠ x → z = l[j]) := Lib.hid hz2
            generalize l[j] = y at *
            obtain ⟨yx, yL⟩ := y
            simp only at hc0 hc1 hv HFZ HZ2
            obtain ⟨w12, hwb⟩ : ∃ W, W = wr.alloc (.cells #[.int .i64 yx, .slice c' yL.length cp'] 25) := ⟨_, rfl⟩
            have hgb : Gr wr w12 := by rw [hwb]; exact (Gr.refl wr).alloc _
            obtain ⟨q1, hq⟩ : ∃ q, q = wr.heap.size := ⟨_, rfl⟩
            obtain ⟨he0, he1⟩ := show w12.cell? ⟨q1, 0, none⟩ = some (.int .i64 yx) ∧ w12.cell? ⟨q1, 1, none⟩ = some (.slice c' yL.length cp') by rw [hwb, hq]; exact box2 _ _ _ _
            have HVy := Lib.hid (hv.gr hgb)
            have HG12 := Lib.hid (HG.out.trans hgb)
            have HF := Lib.hid (HFP.out yx w12 (HG11.out.trans HG12.out))
            rw [HFZ.out] at HF
            have HWB := Lib.hid hwb
            have HQB := Lib.hid hq
            generalize hyl : yL.length = ym at *
            clear hv hgb hwb hq hzP hz1 hz2 HFZ hyl
            go_wp2_with fail
            rw [← HWB.out]
            try rw [← HQB.out]
            clear HWB hc0 hc1
            refine HF.out.mono ?_; rintro e w13 ⟨⟨u2, rfl, hv⟩, hg⟩
            obtain ⟨ua2, uc2, hu, -⟩ := id hv
            subst hu
            obtain ⟨w14, hwb⟩ : ∃ W, W = w13.alloc (.cells #[.int .i64 z.1, .slice ua2 z.2.length uc2] 25) := ⟨_, rfl⟩
            have hgb : Gr w13 w14 := by rw [hwb]; exact (Gr.refl w13).alloc _
            obtain ⟨q2, hq⟩ : ∃ q, q = w13.heap.size := ⟨_, rfl⟩
            obtain ⟨hf0, hf1⟩ := show w14.cell? ⟨q2, 0, none⟩ = some (.int .i64 z.1) ∧ w14.cell? ⟨q2, 1, none⟩ = some (.slice ua2 z.2.length uc2) by rw [hwb, hq]; exact box2 _ _ _ _
            have hgg := hg.trans hgb
            have he0 := gr_cell hgg he0
            have he1 := gr_cell hgg he1
            have HVy := Lib.hid (HVy.out.gr hgg)
            have HVz := Lib.hid (hv.gr hgb)
            have HG14 := Lib.hid (HG12.out.trans hgg)
            have hb0 := gr_cell HG14.out HB11.out.1
            have hb1 := gr_cell HG14.out HB11.out.2
            by_cases hyx : yx = x
            · subst hyx
              have HWB := Lib.hid hwb
              have he0x := he0
              have hb0x := hb0
              rw [HWB.out] at he0x hb0x
              clear hv hg hgb hgg hwb hq HG12 HF HZ2 HVy HVz hf0 hf1
              go_wp2
              try rw [← HWB.out]
              go_roundw
              case rel => exact ⟨j + 1, by go_num, by omega, HG14⟩
              case measure => simp [intOf]; omega
            · have hyxb : (yx == x) = false := by simpa using hyx
              have hzy := HZ2.out hyx
              have HSY : Hid (Calls Try.prog 14 #[.agg #[.int .i64 yx, .slice c' ym cp'], .agg #[.int .i64 z.1, .slice ua2 z.2.length uc2]] w14 fun e w' => e = .returned (.bool true) ∧ Gr w14 w') := Lib.hid (by
                have h := HVz.out
                rw [hzy] at h
                exact gp_same (yx, yL) w14 HVy.out (by rw [hzy]; exact h))
              have HWB := Lib.hid hwb
              have HQ2 := Lib.hid hq
              have he0x := he0
              have he1x := he1
              have hb0x := hb0
              rw [HWB.out] at he0x he1x hb0x
              generalize hzl : z.2.length = zm at *
              generalize hz1 : z.1 = zx at *
              clear hv hg hgb hgg hwb hq HG12 HF HZ2 HVy HVz hzy hzl hz1
              have hf0x := hf0
              have hf1x := hf1
              rw [HWB.out] at hf0x hf1x
              go_wp2_with fail
              rw [← HWB.out]
              refine HSY.out.mono ?_; rintro e w15 ⟨rfl, hg⟩
              have HG15 := Lib.hid (HG14.out.trans hg)
              clear hg HSY he0x he1x hb0x hf0x hf1x he0 he1 hb0 hb1 hf0 hf1 HWB HQ2
              go_wp2
              go_roundw
              case rel => exact ⟨j + 1, by go_num, by omega, HG15⟩
              case measure => simp [intOf]; omega
          · go_wp2_with fail
            refine (HTP.out _ (HG11.out.trans HG.out)).mono ?_; rintro e w12 ⟨rfl, hg⟩
            have HG12 := Lib.hid (HG.out.trans hg)
            clear hg HG
            go_wp2_with fail
            refine (AW.out _).mono ?_; rintro e w13 ⟨rfl, hg⟩
            have HG13 := Lib.hid (HG1.out.trans (HGW.out.trans (HG12.out.trans hg)))
            clear hg
            go_wp2
            go_ret
            exact ⟨rfl, HG13.out⟩
    · rw [ht] at HT
      have hz : (gpR (x, L) == 0) = false := by simp [hc]
      generalize gpR (x, L) = E at *
      clear hc ht P1
      go_enter Try.func10, Try.ntmps10
      go_wp2_with fail
      rw [← HW1.out]
      refine HF.out.mono ?_; rintro e w' ⟨rfl, rfl⟩
      rw [← HP3.out]
      go_wp2_with fail
      refine HF1.out.mono ?_; rintro e w2 ⟨rfl, hg2⟩
      have HG2 := Lib.hid hg2
      have hb0 := gr_cell hg2 hb0
      have hb1 := gr_cell hg2 hb1
      clear hg2 HF HF1
      go_wp2_with fail
      refine (HT.out _ HG2.out).mono ?_; rintro e w3 ⟨rfl, hg3⟩
      have HG3 := Lib.hid (HG2.out.trans hg3)
      have hb0 := gr_cell hg3 hb0
      have hb1 := gr_cell hg3 hb1
      clear hg3 HT HG2
      go_wp2_with fail
      refine (HK.out _ HG3.out).mono ?_; rintro e w4 ⟨rfl, hg4⟩
      have HG4 := Lib.hid (HG3.out.trans hg4)
      have hb0 := gr_cell hg4 hb0
      have hb1 := gr_cell hg4 hb1
      clear hg4 HK HG3
      go_wp2_with fail
      refine (AW.out _).mono ?_; rintro e w5 ⟨rfl, hg⟩
      have HG5 := Lib.hid (HG1.out.trans (HG4.out.trans hg))
      clear hg
      go_wp2
      go_ret
      exact ⟨rfl, HG5.out⟩
  · have hz : (tbR l == 0) = false := by simp [ht]
    generalize tbR l = E at *
    clear P1 HK
    go_enter Try.func10, Try.ntmps10
    go_wp2_with fail
    rw [← HW1.out]
    refine HF.out.mono ?_; rintro e w' ⟨rfl, rfl⟩
    rw [← HP3.out]
    go_wp2_with fail
    refine HF1.out.mono ?_; rintro e w2 ⟨rfl, hg2⟩
    have HG2 := Lib.hid hg2
    have hb0 := gr_cell hg2 hb0
    have hb1 := gr_cell hg2 hb1
    clear hg2 HF HF1
    go_wp2_with fail
    refine (HT.out _ HG2.out).mono ?_; rintro e w3 ⟨rfl, hg3⟩
    have HG3 := Lib.hid (HG2.out.trans hg3)
    have hb0 := gr_cell hg3 hb0
    have hb1 := gr_cell hg3 hb1
    clear hg3 HT HG2
    go_wp2_with fail
    refine (AW.out _).mono ?_; rintro e w5 ⟨rfl, hg⟩
    have HG5 := Lib.hid (HG1.out.trans (HG3.out.trans hg))
    clear hg
    go_wp2
    go_ret
    exact ⟨rfl, HG5.out⟩
end Go.Proofs.Ytmcngnnbfmjajaa
