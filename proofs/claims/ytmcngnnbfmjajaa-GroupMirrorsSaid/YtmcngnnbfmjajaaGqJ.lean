/- Law 14: GroupMirrors. -/
import Derived.Test.YtmcngnnbfmjajaaGqI
set_option linter.unusedVariables false
set_option linter.unusedSimpArgs false
namespace Go.Proofs.Ytmcngnnbfmjajaa
open Go.RowKit
open Z
theorem sl_Values (a : Option Addr) (n cap : Nat) (w : World) : Calls Try.prog 36 #[.slice a n cap] w fun e w' => e = .returned (.func (.func 59) #[] #[.pointer (some ⟨w.heap.size, 0, none⟩)]) ∧ w.alloc (.cells #[.slice a n cap] 23) = w' := by
  go_enter Try.func36, Try.ntmps36
  go_wp2
  go_ret
  exact ⟨rfl, rfl⟩
theorem gp_sameM {u v : Value} (g : Gp) (w : World) (hu : GpV w u g) (hv : GpV w v g) : Calls Try.prog 14 #[u, v] w fun e w' => e = .returned (.bool true) ∧ Gr w w' := by
  have := r14_Same g g w hu hv
  rwa [decide_eq_true rfl] at this
theorem OwnI.ok {B : Nat} {w : World} {a : Option Addr} {n cap : Nat} {l : List Int} (h : OwnI B w (.slice a n cap) l) : (a = none ∧ cap = 0) ∨ ∃ p q, a = some ⟨p, q, none⟩ := by
  rcases h.2 with ⟨h1, -⟩ | ⟨g, cap', cur, h1, -⟩
  · simp only [Value.slice.injEq] at h1; exact .inl ⟨h1.1, h1.2.2⟩
  · simp only [Value.slice.injEq] at h1; exact .inr ⟨g, 0, h1.1⟩
theorem RdI.low {w : World} {a : Option Addr} {l : List Int} (h : RdI w a l) (h0 : 0 < l.length) {b o : Nat} (e : a = some ⟨b, o, none⟩) : b < w.heap.size := by
  obtain ⟨b', o', e', hc⟩ := h 0 h0
  rw [e] at e'
  cases e'
  exact cellLt hc
set_option maxRecDepth 100000 in
set_option maxHeartbeats 4000000 in
theorem l14_GroupMirrors {u : Value} (g : Gp) (w : World) (hu : GpV w u g) :
    Calls Try.prog 9 #[u] w fun e w' => e = .returned (.bool true) ∧ Gr w w' := by
  obtain ⟨c, cp, rfl, rc, lc, mc⟩ := hu
  obtain ⟨x, L⟩ := g
  simp only at rc lc ⊢
  have AW := Lib.hid (fun w => l14_awake w)
  obtain ⟨w1, hw1⟩ : ∃ w1, w1 = w.alloc (.cells #[.int .i64 x, .slice c L.length cp] 25) := ⟨_, rfl⟩
  have hg1 : Gr w w1 := by rw [hw1]; exact (Gr.refl w).alloc _
  have HG1 := Lib.hid hg1
  have HB := Lib.hid (show w1.cell? ⟨w.heap.size, 0, none⟩ = some (.int .i64 x) ∧ w1.cell? ⟨w.heap.size, 1, none⟩ = some (.slice c L.length cp) by rw [hw1]; exact box2 _ _ _ _)
  have HC := Lib.hid (rc.gr hg1)
  have HCW := Lib.hid rc
  have HF1 := Lib.hid (few_one (x := x) HC.out lc mc)
  have HV : Hid (∀ W, Gr w1 W → GpV W (.agg #[.int .i64 x, .slice c L.length cp]) (x, L)) := Lib.hid fun W hW => ⟨c, cp, rfl, HC.out.gr hW, lc, mc⟩
  have HK : Hid (∀ W (hW : Gr w1 W), Calls Try.prog 16 #[.agg #[.int .i64 x, .slice c L.length cp]] W fun e w' => e = .returned (.int .i64 (gpR (x, L))) ∧ Gr W w') := Lib.hid fun W hW => r14_Check (x, L) W (HV.out W hW)
  have HS1 := Lib.hid (show w.heap.size + 1 = w1.heap.size by rw [hw1, World.size_alloc])
  obtain ⟨m, hm⟩ : ∃ m, m = L.length := ⟨_, rfl⟩
  rw [← hm] at hw1 HB HF1 HV HK lc ⊢
  have HM := Lib.hid hm
  obtain ⟨p3, hp3⟩ : ∃ p3, p3 = w.heap.size := ⟨_, rfl⟩
  rw [← hp3] at HB HS1
  obtain ⟨hb0, hb1⟩ := HB.out
  have HW1 := Lib.hid hw1
  have HP3 := Lib.hid hp3
  generalize fewG [(x, L)] = f1 at *
  clear rc hg1 hw1 hp3 hm HC
  cases f1
  · go_enter Try.func9, Try.ntmps9
    go_wp2_with fail
    rw [← HW1.out, ← HP3.out, HS1.out]
    refine HF1.out.mono ?_; rintro e w2 ⟨rfl, hg2⟩
    have HG2 := Lib.hid (HG1.out.trans hg2)
    clear hg2
    go_wp2_with fail
    refine (AW.out _).mono ?_; rintro e w3 ⟨rfl, hg3⟩
    have HG3 := Lib.hid (HG2.out.trans hg3)
    clear hg3
    go_wp2
    go_ret
    exact ⟨rfl, HG3.out⟩
  by_cases hc : gpR (x, L) = 0
  · rw [hc] at HK
    have hm256 : m ≤ 256 := by rw [HM.out]; exact (gpR_zero.1 hc).2.1
    have M1 : Hid (∀ W, Gr w1 W → Calls Try.prog 31 #[.agg #[.int .i64 x, .slice c m cp]] W fun e w' => (∃ u, e = .returned (.tuple #[u, .int .i64 0]) ∧ GpV w' u (x, L.reverse)) ∧ Gr W w') := Lib.hid fun W hW => gp_Mirror (x, L) W (HV.out W hW) hc
    have M2 : Hid (∀ W v, GpV W v (x, L.reverse) → Calls Try.prog 31 #[v] W fun e w' => (∃ u, e = .returned (.tuple #[u, .int .i64 0]) ∧ GpV w' u (x, L)) ∧ Gr W w') := Lib.hid fun W v hv => by
      have h := gp_Mirror (x, L.reverse) W hv (gpR_rev hc)
      rwa [List.reverse_reverse] at h
    have E1 : Hid (∀ W, Gr w1 W → Calls Try.prog 33 #[.agg #[.int .i64 x, .slice c m cp], .int .i64 1, .int .i64 0] W fun e w' => (∃ u, e = .returned (.tuple #[.agg #[.int .i64 x, u], .int .i64 0]) ∧ OwnI W.heap.size w' u L) ∧ Gr W w') := Lib.hid fun W hW => by
      have h := gp_EveryO (x, L) 1 0 W (HV.out W hW) hc (by decide) (by decide) (by decide)
      rw [show evR (x, L).2 1 0 = L from evR_one L _ 0 (Nat.le_refl _)] at h
      exact h
    have E2 : Hid (∀ W, Gr w1 W → Calls Try.prog 33 #[.agg #[.int .i64 x, .slice c m cp], .int .i64 2, .int .i64 0] W fun e w' => (∃ u, e = .returned (.tuple #[.agg #[.int .i64 x, u], .int .i64 0]) ∧ OwnI W.heap.size w' u (evR L 2 0)) ∧ Gr W w') := Lib.hid fun W hW => gp_EveryO (x, L) 2 0 W (HV.out W hW) hc (by decide) (by decide) (by decide)
    have E3 : Hid (∀ W, Gr w1 W → Calls Try.prog 33 #[.agg #[.int .i64 x, .slice c m cp], .int .i64 2, .int .i64 1] W fun e w' => (∃ u, e = .returned (.tuple #[.agg #[.int .i64 x, u], .int .i64 0]) ∧ OwnI W.heap.size w' u (evR L 2 1)) ∧ Gr W w') := Lib.hid fun W hW => gp_EveryO (x, L) 2 1 W (HV.out W hW) hc (by decide) (by decide) (by decide)
    have hperm : (evR L 2 0 ++ evR L 2 1).Perm L := evR_two L _ 0 (Nat.le_refl _)
    have HSR := Lib.hid (show srt (evR L 2 0 ++ evR L 2 1) = srt L from srt_eq hperm)
    have HLE := Lib.hid (show (evR L 2 0).length + (evR L 2 1).length = m by have := hperm.length_eq; rw [List.length_append] at this; rw [HM.out]; exact this)
    generalize evR L 2 0 = EV at *
    generalize evR L 2 1 = OD at *
    have HLR := Lib.hid (show L.reverse.length = m by rw [HM.out, List.length_reverse])
    have HLL := Lib.hid (show L.length = m from HM.out.symm)
    obtain ⟨le, hle⟩ : ∃ le, EV.length = le := ⟨_, rfl⟩
    obtain ⟨lo, hlo⟩ : ∃ lo, OD.length = lo := ⟨_, rfl⟩
    have HLEv := Lib.hid hle
    have HLOd := Lib.hid hlo
    rw [hle, hlo] at HLE
    clear hc hperm hle hlo
    go_enter Try.func9, Try.ntmps9
    go_wp2_with fail
    rw [← HW1.out, ← HP3.out, HS1.out]
    refine HF1.out.mono ?_; rintro e w2 ⟨rfl, hg2⟩
    have HG2 := Lib.hid hg2
    have hb0 := gr_cell hg2 hb0
    have hb1 := gr_cell hg2 hb1
    clear hg2 HF1
    go_wp2_with fail
    refine (HK.out _ HG2.out).mono ?_; rintro e w3 ⟨rfl, hg3⟩
    have HG3 := Lib.hid (HG2.out.trans hg3)
    have hb0 := gr_cell hg3 hb0
    have hb1 := gr_cell hg3 hb1
    clear hg3 HK HG2
    go_wp2_with fail
    refine (M1.out _ HG3.out).mono ?_; rintro e w4 ⟨⟨u0, rfl, hv⟩, hg⟩
    obtain ⟨ua0, uc0, hu, -⟩ := id hv
    rw [show ((x, L.reverse) : Gp).2.length = m from HLR.out] at hu
    subst hu
    obtain ⟨w5, hwb⟩ : ∃ W, W = w4.alloc (.cells #[.int .i64 x, .slice ua0 m uc0] 25) := ⟨_, rfl⟩
    have hgb : Gr w4 w5 := by rw [hwb]; exact (Gr.refl w4).alloc _
    obtain ⟨q0, hq⟩ : ∃ q, q = w4.heap.size := ⟨_, rfl⟩
    obtain ⟨hc0, hd0⟩ := show w5.cell? ⟨q0, 0, none⟩ = some (.int .i64 x) ∧ w5.cell? ⟨q0, 1, none⟩ = some (.slice ua0 m uc0) by rw [hwb, hq]; exact box2 _ _ _ _
    have hgg := hg.trans hgb
    have HV0 := Lib.hid (hv.gr hgb)
    have HG4 := Lib.hid (HG3.out.trans hgg)
    have hb0 := gr_cell hgg hb0
    have hb1 := gr_cell hgg hb1
    have HWB := Lib.hid hwb
    have HQB := Lib.hid hq
    clear hv hg hgb hgg hwb hq HG3 M1
    have hb0x := hb0
    have hb1x := hb1
    have hcx := hc0
    have hdx := hd0
    rw [HWB.out] at hb0x hb1x hcx hdx
    go_wp2_with fail
    rw [← HWB.out]
    try rw [← HQB.out]
    clear HWB HQB hb0x hb1x hcx hdx
    refine (M2.out _ _ HV0.out).mono ?_; rintro e w6 ⟨⟨u1, rfl, hv⟩, hg⟩
    obtain ⟨ua1, uc1, hu, -⟩ := id hv
    rw [show ((x, L) : Gp).2.length = m from HLL.out] at hu
    subst hu
    obtain ⟨w7, hwb⟩ : ∃ W, W = w6.alloc (.cells #[.int .i64 x, .slice ua1 m uc1] 25) := ⟨_, rfl⟩
    have hgb : Gr w6 w7 := by rw [hwb]; exact (Gr.refl w6).alloc _
    obtain ⟨q1, hq⟩ : ∃ q, q = w6.heap.size := ⟨_, rfl⟩
    obtain ⟨hc1, hd1⟩ := show w7.cell? ⟨q1, 0, none⟩ = some (.int .i64 x) ∧ w7.cell? ⟨q1, 1, none⟩ = some (.slice ua1 m uc1) by rw [hwb, hq]; exact box2 _ _ _ _
    have hgg := hg.trans hgb
    have HV1 := Lib.hid (hv.gr hgb)
    have HG5 := Lib.hid (HG4.out.trans hgg)
    have hb0 := gr_cell hgg hb0
    have hb1 := gr_cell hgg hb1
    have hc0 := gr_cell hgg hc0
    have hd0 := gr_cell hgg hd0
    have HV0 := Lib.hid (HV0.out.gr hgg)
    have HWB := Lib.hid hwb
    have HQB := Lib.hid hq
    clear hv hg hgb hgg hwb hq HG4 M2
    have hb0x := hb0
    have hb1x := hb1
    rw [HWB.out] at hb0x hb1x
    go_wp2_with fail
    rw [← HWB.out]
    try rw [← HQB.out]
    clear HWB HQB hb0x hb1x
    refine (E1.out _ HG5.out).mono ?_; rintro e w8 ⟨⟨u2, rfl, ho⟩, hg⟩
    obtain ⟨ua2, uc2, hu, hro, hlo, hmo⟩ := id ho.shape
    subst hu
    rw [HLL.out]
    obtain ⟨w9, hwb⟩ : ∃ W, W = w8.alloc (.cells #[.int .i64 x, .slice ua2 m uc2] 25) := ⟨_, rfl⟩
    have hgb : Gr w8 w9 := by rw [hwb]; exact (Gr.refl w8).alloc _
    obtain ⟨q2, hq⟩ : ∃ q, q = w8.heap.size := ⟨_, rfl⟩
    obtain ⟨hc2, hd2⟩ := show w9.cell? ⟨q2, 0, none⟩ = some (.int .i64 x) ∧ w9.cell? ⟨q2, 1, none⟩ = some (.slice ua2 m uc2) by rw [hwb, hq]; exact box2 _ _ _ _
    have hgg := hg.trans hgb
    have HV2 := Lib.hid (show GpV w9 (.agg #[.int .i64 x, .slice ua2 m uc2]) (x, L) from ⟨_, _, by rw [show ((x, L) : Gp).2.length = m from HLL.out], hro.gr hgb, hlo, hmo⟩)
    have HG6 := Lib.hid (HG5.out.trans hgg)
    have hb0 := gr_cell hgg hb0
    have hb1 := gr_cell hgg hb1
    have hc0 := gr_cell hgg hc0
    have hd0 := gr_cell hgg hd0
    have HV0 := Lib.hid (HV0.out.gr hgg)
    have hc1 := gr_cell hgg hc1
    have hd1 := gr_cell hgg hd1
    have HV1 := Lib.hid (HV1.out.gr hgg)
    have HWB := Lib.hid hwb
    have HQB := Lib.hid hq
    clear ho hro hlo hmo hg hgb hgg hwb hq HG5 E1
    have hb0x := hb0
    have hb1x := hb1
    rw [HWB.out] at hb0x hb1x
    go_wp2_with fail
    rw [← HWB.out]
    try rw [← HQB.out]
    clear HWB HQB hb0x hb1x
    refine (E2.out _ HG6.out).mono ?_; rintro e w10 ⟨⟨u3, rfl, ho⟩, hg⟩
    obtain ⟨ua3, uc3, hu, hro, hlo, hmo⟩ := id ho.shape
    subst hu
    rw [HLEv.out]
    obtain ⟨w11, hwb⟩ : ∃ W, W = w10.alloc (.cells #[.int .i64 x, .slice ua3 le uc3] 25) := ⟨_, rfl⟩
    have hgb : Gr w10 w11 := by rw [hwb]; exact (Gr.refl w10).alloc _
    obtain ⟨q3, hq⟩ : ∃ q, q = w10.heap.size := ⟨_, rfl⟩
    obtain ⟨hc3, hd3⟩ := show w11.cell? ⟨q3, 0, none⟩ = some (.int .i64 x) ∧ w11.cell? ⟨q3, 1, none⟩ = some (.slice ua3 le uc3) by rw [hwb, hq]; exact box2 _ _ _ _
    have hgg := hg.trans hgb
    have HV3 := Lib.hid (show GpV w11 (.agg #[.int .i64 x, .slice ua3 le uc3]) (x, EV) from ⟨_, _, by rw [show ((x, EV) : Gp).2.length = le from HLEv.out], hro.gr hgb, hlo, hmo⟩)
    have HO3 := Lib.hid (ownI_low (ho.gr hgb) (Nat.zero_le _))
    have HG7 := Lib.hid (HG6.out.trans hgg)
    have hb0 := gr_cell hgg hb0
    have hb1 := gr_cell hgg hb1
    have hc0 := gr_cell hgg hc0
    have hd0 := gr_cell hgg hd0
    have HV0 := Lib.hid (HV0.out.gr hgg)
    have hc1 := gr_cell hgg hc1
    have hd1 := gr_cell hgg hd1
    have HV1 := Lib.hid (HV1.out.gr hgg)
    have hc2 := gr_cell hgg hc2
    have hd2 := gr_cell hgg hd2
    have HV2 := Lib.hid (HV2.out.gr hgg)
    have HWB := Lib.hid hwb
    have HQB := Lib.hid hq
    clear ho hro hlo hmo hg hgb hgg hwb hq HG6 E2
    have hb0x := hb0
    have hb1x := hb1
    rw [HWB.out] at hb0x hb1x
    go_wp2_with fail
    rw [← HWB.out]
    try rw [← HQB.out]
    clear HWB HQB hb0x hb1x
    refine (E3.out _ HG7.out).mono ?_; rintro e w12 ⟨⟨u4, rfl, ho⟩, hg⟩
    obtain ⟨ua4, uc4, hu, hro, hlo, hmo⟩ := id ho.shape
    subst hu
    rw [HLOd.out]
    obtain ⟨w13, hwb⟩ : ∃ W, W = w12.alloc (.cells #[.int .i64 x, .slice ua4 lo uc4] 25) := ⟨_, rfl⟩
    have hgb : Gr w12 w13 := by rw [hwb]; exact (Gr.refl w12).alloc _
    obtain ⟨q4, hq⟩ : ∃ q, q = w12.heap.size := ⟨_, rfl⟩
    obtain ⟨hc4, hd4⟩ := show w13.cell? ⟨q4, 0, none⟩ = some (.int .i64 x) ∧ w13.cell? ⟨q4, 1, none⟩ = some (.slice ua4 lo uc4) by rw [hwb, hq]; exact box2 _ _ _ _
    have hgg := hg.trans hgb
    have HV4 := Lib.hid (show GpV w13 (.agg #[.int .i64 x, .slice ua4 lo uc4]) (x, OD) from ⟨_, _, by rw [show ((x, OD) : Gp).2.length = lo from HLOd.out], hro.gr hgb, hlo, hmo⟩)
    have HO4 := Lib.hid (ownI_low (ho.gr hgb) (Nat.zero_le _))
    have HG8 := Lib.hid (HG7.out.trans hgg)
    have hb0 := gr_cell hgg hb0
    have hb1 := gr_cell hgg hb1
    have hc0 := gr_cell hgg hc0
    have hd0 := gr_cell hgg hd0
    have HV0 := Lib.hid (HV0.out.gr hgg)
    have hc1 := gr_cell hgg hc1
    have hd1 := gr_cell hgg hd1
    have HV1 := Lib.hid (HV1.out.gr hgg)
    have hc2 := gr_cell hgg hc2
    have hd2 := gr_cell hgg hd2
    have HV2 := Lib.hid (HV2.out.gr hgg)
    have hc3 := gr_cell hgg hc3
    have hd3 := gr_cell hgg hd3
    have HV3 := Lib.hid (HV3.out.gr hgg)
    have HO3 := Lib.hid (HO3.out.gr hgg)
    have HWB := Lib.hid hwb
    have HQB := Lib.hid hq
    clear ho hro hlo hmo hg hgb hgg hwb hq HG7 E3
    have hE : (le : Int) + (lo : Int) = (m : Int) := by have := HLE.out; omega
    have HSX1 := Lib.hid (gp_sameM (x, L) w13 HV1.out (HV.out w13 HG8.out))
    have hb0x := hb0
    have hb1x := hb1
    have hc0x := hc0
    have hd0x := hd0
    have hc1x := hc1
    have hd1x := hd1
    have hc2x := hc2
    have hd2x := hd2
    have hc3x := hc3
    have hd3x := hd3
    have hc4x := hc4
    have hd4x := hd4
    rw [HWB.out] at hb0x hb1x hc0x hd0x hc1x hd1x hc2x hd2x hc3x hd3x hc4x hd4x
    go_wp2_with fail
    rw [← HWB.out]
    try rw [← HQB.out]
    clear HWB HQB hb0x hb1x hc0x hd0x hc1x hd1x hc2x hd2x hc3x hd3x hc4x hd4x
    refine HSX1.out.mono ?_; rintro e w14 ⟨rfl, hg⟩
    have hc0 := gr_cell hg hc0
    have hd0 := gr_cell hg hd0
    have HV0 := Lib.hid (HV0.out.gr hg)
    have hc1 := gr_cell hg hc1
    have hd1 := gr_cell hg hd1
    have HV1 := Lib.hid (HV1.out.gr hg)
    have hc2 := gr_cell hg hc2
    have hd2 := gr_cell hg hd2
    have HV2 := Lib.hid (HV2.out.gr hg)
    have hc3 := gr_cell hg hc3
    have hd3 := gr_cell hg hd3
    have HV3 := Lib.hid (HV3.out.gr hg)
    have HO3 := Lib.hid (HO3.out.gr hg)
    have hc4 := gr_cell hg hc4
    have hd4 := gr_cell hg hd4
    have HV4 := Lib.hid (HV4.out.gr hg)
    have HO4 := Lib.hid (HO4.out.gr hg)
    have hb0 := gr_cell hg hb0
    have hb1 := gr_cell hg hb1
    have HG14 := Lib.hid (HG8.out.trans hg)
    clear hg HG8 HSX1
    have HSX2 := Lib.hid (gp_sameM (x, L) w14 HV2.out (HV.out w14 HG14.out))
    go_wp2_with fail
    refine HSX2.out.mono ?_; rintro e w15 ⟨rfl, hg⟩
    have hc0 := gr_cell hg hc0
    have hd0 := gr_cell hg hd0
    have HV0 := Lib.hid (HV0.out.gr hg)
    have hc1 := gr_cell hg hc1
    have hd1 := gr_cell hg hd1
    have HV1 := Lib.hid (HV1.out.gr hg)
    have hc2 := gr_cell hg hc2
    have hd2 := gr_cell hg hd2
    have HV2 := Lib.hid (HV2.out.gr hg)
    have hc3 := gr_cell hg hc3
    have hd3 := gr_cell hg hd3
    have HV3 := Lib.hid (HV3.out.gr hg)
    have HO3 := Lib.hid (HO3.out.gr hg)
    have hc4 := gr_cell hg hc4
    have hd4 := gr_cell hg hd4
    have HV4 := Lib.hid (HV4.out.gr hg)
    have HO4 := Lib.hid (HO4.out.gr hg)
    have hb0 := gr_cell hg hb0
    have hb1 := gr_cell hg hb1
    have HG15 := Lib.hid (HG14.out.trans hg)
    clear hg HG14 HSX2
    go_wp2_with fail
    obtain ⟨w16, hw⟩ : ∃ W, W = w15.alloc (.cells #[.slice ua3 le uc3, .slice ua4 lo uc4] 23) := ⟨_, rfl⟩
    have hga : Gr w15 w16 := by rw [hw]; exact (Gr.refl _).alloc _
    obtain ⟨hk0, hk1⟩ := show w16.cell? ⟨w15.heap.size, 0, none⟩ = some (.slice ua3 le uc3) ∧ w16.cell? ⟨w15.heap.size, 1, none⟩ = some (.slice ua4 lo uc4) by rw [hw]; exact box2 _ _ _ _
    obtain ⟨_, _, he3, hr3, -⟩ := HO3.out.shape
    obtain ⟨_, _, he4, hr4, -⟩ := HO4.out.shape
    simp only [Value.slice.injEq] at he3 he4
    have HPA := Lib.hid (show PartsAtI w16 w15.heap.size [EV, OD] from fun k hk => by
      have h3 : k = 0 ∨ k = 1 := by simp at hk; omega
      rcases h3 with rfl | rfl
      · exact ⟨ua3, uc3, by show _ = some (Value.slice ua3 EV.length uc3); rw [HLEv.out]; exact hk0, by have := hr3.gr hga; rw [← he3.1] at this; exact this, HO3.out.ok⟩
      · exact ⟨ua4, uc4, by show _ = some (Value.slice ua4 OD.length uc4); rw [HLOd.out]; exact hk1, by have := hr4.gr hga; rw [← he4.1] at this; exact this, HO4.out.ok⟩)
    have HCC := Lib.hid (sl_ConcatI w15.heap.size [EV, OD] 2 w16 HPA.out (by simp) (by simp; have := HLEv.out; have := HLOd.out; have := HLE.out; omega))
    have hb0 := gr_cell hga hb0
    have hb1 := gr_cell hga hb1
    have HG16 := Lib.hid (HG15.out.trans hga)
    rw [← hw]
    clear hga hk0 hk1 he3 he4 hr3 hr4 hw HPA
    refine HCC.out.mono ?_; rintro e w17 ⟨v, rfl, ho, hg⟩
    obtain ⟨va, vc, rfl, hr, -⟩ := ho.shape
    have hb0 := gr_cell hg hb0
    have hb1 := gr_cell hg hb1
    have HG17 := Lib.hid (HG16.out.trans hg)
    have HRV := Lib.hid hr
    have HPL : Hid ([EV, OD].flatten = EV ++ OD) := Lib.hid (by simp)
    rw [HPL.out] at HRV
    rw [show [EV, OD].flatten.length = m by rw [HPL.out, List.length_append, HLEv.out, HLOd.out]; exact HLE.out]
    have HLM := Lib.hid (show (EV ++ OD).length = m by rw [List.length_append, HLEv.out, HLOd.out]; exact HLE.out)
    have HVA := Lib.hid (sl_Values va m vc w17)
    have HOK := Lib.hid ho.ok
    clear ho hg hr HG15 HG16 HCC
    go_wp2_with fail
    refine HVA.out.mono ?_; rintro e w' ⟨rfl, rfl⟩
    have hgv := (Gr.refl w17).alloc (.cells #[.slice va m vc] 23)
    have HSO := Lib.hid (sl_Sorted w17.heap.size va vc (EV ++ OD) (by rw [HLM.out]; omega) (w17.alloc (.cells #[.slice va m vc] 23)) (by rw [HLM.out]; exact box1 _ _ _) (HRV.out.gr hgv) (fun h0 b o e => Nat.lt_of_lt_of_le (HRV.out.low h0 e) hgv.size))
    rw [HLM.out, HSR.out] at HSO
    have hb0 := gr_cell hgv hb0
    have hb1 := gr_cell hgv hb1
    have HG18 := Lib.hid (HG17.out.trans hgv)
    clear hgv HG17 HVA
    go_wp2_with fail
    refine HSO.out.mono ?_; rintro e w19 ⟨⟨pa, pc, rfl, hra⟩, hg⟩
    have hb0 := gr_cell hg hb0
    have hb1 := gr_cell hg hb1
    have HG19 := Lib.hid (HG18.out.trans hg)
    have HRA := Lib.hid hra
    have HVB := Lib.hid (sl_Values c m cp w19)
    clear hg hra HG18 HSO HRV
    go_wp2_with fail
    refine HVB.out.mono ?_; rintro e w' ⟨rfl, rfl⟩
    have hgv := (Gr.refl w19).alloc (.cells #[.slice c m cp] 23)
    have HG20 := Lib.hid (HG19.out.trans hgv)
    have HSP := Lib.hid (sl_Sorted w19.heap.size c cp L (by rw [HLL.out]; omega) (w19.alloc (.cells #[.slice c m cp] 23)) (by rw [HLL.out]; exact box1 _ _ _) (HCW.out.gr (HG1.out.trans HG20.out)) (fun h0 b o e => Nat.lt_of_lt_of_le (HCW.out.low h0 e) (HG1.out.trans HG20.out).size))
    rw [HLL.out] at HSP
    have HRA := Lib.hid (HRA.out.gr hgv)
    clear hgv HG19 HVB
    go_wp2_with fail
    refine HSP.out.mono ?_; rintro e w21 ⟨⟨pb, pbc, rfl, hrb⟩, hg⟩
    have HG21 := Lib.hid (HG20.out.trans hg)
    have HEQ := sl_EqualI pa pb (srt L) (srt L) pc pbc w21 (HRA.out.gr hg) hrb (by rw [srt_len, HLL.out]; omega) (by rw [srt_len, HLL.out]; omega)
    rw [srt_len, HLL.out, decide_eq_true rfl] at HEQ
    have HEQ := Lib.hid HEQ
    clear hg hrb HG20 HSP HRA
    go_wp2_with fail
    refine HEQ.out.mono ?_; rintro e w22 ⟨rfl, hg⟩
    have HG22 := Lib.hid (HG21.out.trans hg)
    clear hg HG21 HEQ
    go_wp2_with fail
    refine (AW.out _).mono ?_; rintro e w23 ⟨rfl, hg⟩
    have HG23 := Lib.hid (HG1.out.trans (HG22.out.trans hg))
    clear hg
    go_wp2
    go_ret
    exact ⟨rfl, HG23.out⟩
  · have hz : (gpR (x, L) == 0) = false := by simp [hc]
    generalize gpR (x, L) = E at *
    go_enter Try.func9, Try.ntmps9
    go_wp2_with fail
    rw [← HW1.out, ← HP3.out, HS1.out]
    refine HF1.out.mono ?_; rintro e w2 ⟨rfl, hg2⟩
    have HG2 := Lib.hid hg2
    have hb0 := gr_cell hg2 hb0
    have hb1 := gr_cell hg2 hb1
    clear hg2 HF1
    go_wp2_with fail
    refine (HK.out _ HG2.out).mono ?_; rintro e w3 ⟨rfl, hg3⟩
    have HG3 := Lib.hid (HG1.out.trans (HG2.out.trans hg3))
    clear hg3 HK HG2 hb0 hb1
    go_wp2_with fail
    refine (AW.out _).mono ?_; rintro e w5 ⟨rfl, hg⟩
    have HG5 := Lib.hid (HG3.out.trans hg)
    clear hg
    go_wp2
    go_ret
    exact ⟨rfl, HG5.out⟩
end Go.Proofs.Ytmcngnnbfmjajaa
