/- Law 14: GroupOrders. -/
import Derived.Test.YtmcngnnbfmjajaaGpR
import Derived.Test.YtmcngnnbfmjajaaGpO
set_option linter.unusedVariables false
set_option linter.unusedSimpArgs false
namespace Go.Proofs.Ytmcngnnbfmjajaa.Z
open Go
def mirR (g : Gp) : Gp × Int := if gpR g = 0 then ((g.1, g.2.reverse), 0) else ((0, []), gpR g)
def eveR (g : Gp) (s f : Int) : Gp × Int := if gpR g = 0 then (if (1 ≤ s ∧ s ≤ 256) ∧ (0 ≤ f ∧ f ≤ 256) then ((g.1, evR g.2 s.toNat f.toNat), 0) else ((0, []), 2)) else ((0, []), gpR g)
end Go.Proofs.Ytmcngnnbfmjajaa.Z
namespace Go.Proofs.Ytmcngnnbfmjajaa
open Go.RowKit
open Z
theorem GpV.zero (w : World) : GpV w (.agg #[.int .i64 0, .slice none 0 0]) (0, []) := ⟨none, 0, rfl, RdI.nil _ _, by simp, by unfold maxLen; omega⟩
theorem gp_MirrorR {v : Value} (g : Gp) (w : World) (hv : GpV w v g) : Calls Try.prog 31 #[v] w fun e w' => (∃ u, e = .returned (.tuple #[u, .int .i64 (mirR g).2]) ∧ GpV w' u (mirR g).1) ∧ Gr w w' := by
  unfold mirR
  by_cases h : gpR g = 0
  · rw [if_pos h]; exact gp_Mirror g w hv h
  · rw [if_neg h]
    refine (gp_Mirror_err g w hv h).mono ?_
    rintro e w' ⟨rfl, hg⟩
    exact ⟨⟨_, rfl, GpV.zero _⟩, hg⟩
theorem gp_EveryR {v : Value} (g : Gp) (s f : Int) (w : World) (hv : GpV w v g) : Calls Try.prog 33 #[v, .int .i64 s, .int .i64 f] w fun e w' => (∃ u, e = .returned (.tuple #[u, .int .i64 (eveR g s f).2]) ∧ GpV w' u (eveR g s f).1) ∧ Gr w w' := by
  unfold eveR
  by_cases h : gpR g = 0
  · rw [if_pos h]
    by_cases h2 : (1 ≤ s ∧ s ≤ 256) ∧ (0 ≤ f ∧ f ≤ 256)
    · rw [if_pos h2]
      obtain ⟨a, rfl⟩ : ∃ a : Nat, s = (a : Int) := ⟨s.toNat, by omega⟩
      obtain ⟨b, rfl⟩ : ∃ b : Nat, f = (b : Int) := ⟨f.toNat, by omega⟩
      rw [Int.toNat_natCast, Int.toNat_natCast]
      exact gp_Every g a b w hv h (by omega) (by omega) (by omega)
    · rw [if_neg h2]
      refine (gp_Every_rng g s f w hv h h2).mono ?_
      rintro e w' ⟨rfl, hg⟩
      exact ⟨⟨_, rfl, GpV.zero _⟩, hg⟩
  · rw [if_neg h]
    refine (gp_Every_err g s f w hv h).mono ?_
    rintro e w' ⟨rfl, hg⟩
    exact ⟨⟨_, rfl, GpV.zero _⟩, hg⟩
theorem r14_MirrorR {v : Value} (g : Gp) (w : World) (hv : GpV w v g) : Calls Try.prog 32 #[v] w fun e w' => (∃ u, e = .returned (.tuple #[u, .int .i64 (mirR g).2]) ∧ GpV w' u (mirR g).1) ∧ Gr w w' := by
  unfold mirR
  by_cases h : gpR g = 0
  · rw [if_pos h]; exact r14_Mirror g w hv h
  · rw [if_neg h]
    refine (r14_Mirror_err g w hv h).mono ?_
    rintro e w' ⟨rfl, hg⟩
    exact ⟨⟨_, rfl, GpV.zero _⟩, hg⟩
theorem r14_EveryR {v : Value} (g : Gp) (s f : Int) (w : World) (hv : GpV w v g) : Calls Try.prog 34 #[v, .int .i64 s, .int .i64 f] w fun e w' => (∃ u, e = .returned (.tuple #[u, .int .i64 (eveR g s f).2]) ∧ GpV w' u (eveR g s f).1) ∧ Gr w w' := by
  unfold eveR
  by_cases h : gpR g = 0
  · rw [if_pos h]
    by_cases h2 : (1 ≤ s ∧ s ≤ 256) ∧ (0 ≤ f ∧ f ≤ 256)
    · rw [if_pos h2]
      obtain ⟨a, rfl⟩ : ∃ a : Nat, s = (a : Int) := ⟨s.toNat, by omega⟩
      obtain ⟨b, rfl⟩ : ∃ b : Nat, f = (b : Int) := ⟨f.toNat, by omega⟩
      rw [Int.toNat_natCast, Int.toNat_natCast]
      exact r14_Every g a b w hv h (by omega) (by omega) (by omega)
    · rw [if_neg h2]
      refine (r14_Every_rng g s f w hv h h2).mono ?_
      rintro e w' ⟨rfl, hg⟩
      exact ⟨⟨_, rfl, GpV.zero _⟩, hg⟩
  · rw [if_neg h]
    refine (r14_Every_err g s f w hv h).mono ?_
    rintro e w' ⟨rfl, hg⟩
    exact ⟨⟨_, rfl, GpV.zero _⟩, hg⟩
set_option maxRecDepth 100000 in
set_option maxHeartbeats 4000000 in
theorem l14_GroupOrders {u : Value} (g : Gp) (s f : Int) (w : World) (hu : GpV w u g) :
    Calls Try.prog 6 #[u, .int .i64 s, .int .i64 f] w fun e w' => e = .returned (.bool true) ∧ Gr w w' := by
  obtain ⟨c, cp, rfl, rc, lc, mc⟩ := hu
  obtain ⟨x, L⟩ := g
  simp only at rc lc ⊢
  have AW := Lib.hid (fun w => l14_awake w)
  obtain ⟨w1, hw1⟩ : ∃ w1, w1 = w.alloc (.cells #[.int .i64 x, .slice c L.length cp] 25) := ⟨_, rfl⟩
  have hg1 : Gr w w1 := by rw [hw1]; exact (Gr.refl w).alloc _
  have HG1 := Lib.hid hg1
  obtain ⟨hb0, hb1⟩ := show w1.cell? ⟨w.heap.size, 0, none⟩ = some (.int .i64 x) ∧ w1.cell? ⟨w.heap.size, 1, none⟩ = some (.slice c L.length cp) by rw [hw1]; exact box2 _ _ _ _
  have HC := Lib.hid (rc.gr hg1)
  have HF1 := Lib.hid (few_one (x := x) HC.out lc mc)
  have HV : Hid (∀ W, Gr w1 W → GpV W (.agg #[.int .i64 x, .slice c L.length cp]) (x, L)) := Lib.hid fun W hW => ⟨c, cp, rfl, HC.out.gr hW, lc, mc⟩
  have M1 := Lib.hid (fun W (hW : Gr w1 W) => gp_MirrorR _ W (HV.out W hW))
  have M2 := Lib.hid (fun W (hW : Gr w1 W) => r14_MirrorR _ W (HV.out W hW))
  have E1 := Lib.hid (fun W (hW : Gr w1 W) => gp_EveryR _ s f W (HV.out W hW))
  have E2 := Lib.hid (fun W (hW : Gr w1 W) => r14_EveryR _ s f W (HV.out W hW))
  have HS1 := Lib.hid (show w.heap.size + 1 = w1.heap.size by rw [hw1, World.size_alloc])
  generalize fewG [(x, L)] = f1 at *
  generalize mirR (x, L) = MM at *
  generalize eveR (x, L) s f = EE at *
  obtain ⟨mg, me⟩ := MM
  obtain ⟨eg, ee⟩ := EE
  simp only at M1 M2 E1 E2
  have SM : Hid (∀ W u v, GpV W u mg → GpV W v mg → Calls Try.prog 14 #[u, v] W fun e w' => e = .returned (.bool true) ∧ Gr W w') := Lib.hid fun W u v h1 h2 => by
    have h := r14_Same mg mg W h1 h2
    rwa [decide_eq_true rfl] at h
  have SE : Hid (∀ W u v, GpV W u eg → GpV W v eg → Calls Try.prog 14 #[u, v] W fun e w' => e = .returned (.bool true) ∧ Gr W w') := Lib.hid fun W u v h1 h2 => by
    have h := r14_Same eg eg W h1 h2
    rwa [decide_eq_true rfl] at h
  generalize L.length = m at *
  obtain ⟨p3, hp3⟩ : ∃ p3, p3 = w.heap.size := ⟨_, rfl⟩
  rw [← hp3] at hb0 hb1 HS1
  have HW1 := Lib.hid hw1
  have HP3 := Lib.hid hp3
  clear hw1 hp3 rc hg1 HC HV
  cases f1
  · go_enter Try.func6, Try.ntmps6
    go_wp2_with fail
    rw [← HW1.out, ← HP3.out, HS1.out]
    refine HF1.out.mono ?_; rintro e w2 ⟨rfl, hg2⟩
    have HG2 := Lib.hid (HG1.out.trans hg2)
    clear hg2
    go_wp2_with fail
    refine (AW.out _).mono ?_; rintro e w3 ⟨rfl, hg3⟩
    have HG3 := Lib.hid (HG2.out.trans hg3)
    clear hg3
    go_wp2
    go_ret
    exact ⟨rfl, HG3.out⟩
  go_enter Try.func6, Try.ntmps6
  go_wp2_with fail
  rw [← HW1.out, ← HP3.out, HS1.out]
  refine HF1.out.mono ?_; rintro e w2 ⟨rfl, hg2⟩
  have HG2 := Lib.hid hg2
  have hb0 := gr_cell hg2 hb0
  have hb1 := gr_cell hg2 hb1
  clear hg2 HF1
  go_wp2_with fail
  refine (M1.out _ HG2.out).mono ?_; rintro e w3 ⟨⟨u0, rfl, hv⟩, hg⟩
  obtain ⟨ua0, uc0, hu, -⟩ := id hv
  subst hu
  obtain ⟨w4, hwb⟩ : ∃ W, W = w3.alloc (.cells #[.int .i64 mg.1, .slice ua0 mg.2.length uc0] 25) := ⟨_, rfl⟩
  have hgb : Gr w3 w4 := by rw [hwb]; exact (Gr.refl w3).alloc _
  obtain ⟨q0, hq⟩ : ∃ q, q = w3.heap.size := ⟨_, rfl⟩
  obtain ⟨hc0, hd0⟩ := show w4.cell? ⟨q0, 0, none⟩ = some (.int .i64 mg.1) ∧ w4.cell? ⟨q0, 1, none⟩ = some (.slice ua0 mg.2.length uc0) by rw [hwb, hq]; exact box2 _ _ _ _
  have hgg := hg.trans hgb
  have HV0 := Lib.hid (hv.gr hgb)
  have HG3 := Lib.hid (HG2.out.trans hgg)
  have hb0 := gr_cell hgg hb0
  have hb1 := gr_cell hgg hb1
  have HWB := Lib.hid hwb
  have HQB := Lib.hid hq
  clear hv hg hgb hgg hwb hq HG2 M1
  have hb0x := hb0
  have hb1x := hb1
  rw [HWB.out] at hb0x hb1x
  go_wp2_with fail
  rw [← HWB.out]
  try rw [← HQB.out]
  clear HWB HQB hb0x hb1x
  refine (M2.out _ HG3.out).mono ?_; rintro e w5 ⟨⟨u1, rfl, hv⟩, hg⟩
  obtain ⟨ua1, uc1, hu, -⟩ := id hv
  subst hu
  obtain ⟨w6, hwb⟩ : ∃ W, W = w5.alloc (.cells #[.int .i64 mg.1, .slice ua1 mg.2.length uc1] 25) := ⟨_, rfl⟩
  have hgb : Gr w5 w6 := by rw [hwb]; exact (Gr.refl w5).alloc _
  obtain ⟨q1, hq⟩ : ∃ q, q = w5.heap.size := ⟨_, rfl⟩
  obtain ⟨hc1, hd1⟩ := show w6.cell? ⟨q1, 0, none⟩ = some (.int .i64 mg.1) ∧ w6.cell? ⟨q1, 1, none⟩ = some (.slice ua1 mg.2.length uc1) by rw [hwb, hq]; exact box2 _ _ _ _
  have hgg := hg.trans hgb
  have HV1 := Lib.hid (hv.gr hgb)
  have HG4 := Lib.hid (HG3.out.trans hgg)
  have hb0 := gr_cell hgg hb0
  have hb1 := gr_cell hgg hb1
  have hc0 := gr_cell hgg hc0
  have hd0 := gr_cell hgg hd0
  have HV0 := Lib.hid (HV0.out.gr hgg)
  have HWB := Lib.hid hwb
  have HQB := Lib.hid hq
  clear hv hg hgb hgg hwb hq HG3 M2
  have hb0x := hb0
  have hb1x := hb1
  rw [HWB.out] at hb0x hb1x
  go_wp2_with fail
  rw [← HWB.out]
  try rw [← HQB.out]
  clear HWB HQB hb0x hb1x
  refine (E1.out _ HG4.out).mono ?_; rintro e w7 ⟨⟨u2, rfl, hv⟩, hg⟩
  obtain ⟨ua2, uc2, hu, -⟩ := id hv
  subst hu
  obtain ⟨w8, hwb⟩ : ∃ W, W = w7.alloc (.cells #[.int .i64 eg.1, .slice ua2 eg.2.length uc2] 25) := ⟨_, rfl⟩
  have hgb : Gr w7 w8 := by rw [hwb]; exact (Gr.refl w7).alloc _
  obtain ⟨q2, hq⟩ : ∃ q, q = w7.heap.size := ⟨_, rfl⟩
  obtain ⟨hc2, hd2⟩ := show w8.cell? ⟨q2, 0, none⟩ = some (.int .i64 eg.1) ∧ w8.cell? ⟨q2, 1, none⟩ = some (.slice ua2 eg.2.length uc2) by rw [hwb, hq]; exact box2 _ _ _ _
  have hgg := hg.trans hgb
  have HV2 := Lib.hid (hv.gr hgb)
  have HG5 := Lib.hid (HG4.out.trans hgg)
  have hb0 := gr_cell hgg hb0
  have hb1 := gr_cell hgg hb1
  have hc0 := gr_cell hgg hc0
  have hd0 := gr_cell hgg hd0
  have HV0 := Lib.hid (HV0.out.gr hgg)
  have hc1 := gr_cell hgg hc1
  have hd1 := gr_cell hgg hd1
  have HV1 := Lib.hid (HV1.out.gr hgg)
  have HWB := Lib.hid hwb
  have HQB := Lib.hid hq
  clear hv hg hgb hgg hwb hq HG4 E1
  have hb0x := hb0
  have hb1x := hb1
  rw [HWB.out] at hb0x hb1x
  go_wp2_with fail
  rw [← HWB.out]
  try rw [← HQB.out]
  clear HWB HQB hb0x hb1x
  refine (E2.out _ HG5.out).mono ?_; rintro e w9 ⟨⟨u3, rfl, hv⟩, hg⟩
  obtain ⟨ua3, uc3, hu, -⟩ := id hv
  subst hu
  obtain ⟨w10, hwb⟩ : ∃ W, W = w9.alloc (.cells #[.int .i64 eg.1, .slice ua3 eg.2.length uc3] 25) := ⟨_, rfl⟩
  have hgb : Gr w9 w10 := by rw [hwb]; exact (Gr.refl w9).alloc _
  obtain ⟨q3, hq⟩ : ∃ q, q = w9.heap.size := ⟨_, rfl⟩
  obtain ⟨hc3, hd3⟩ := show w10.cell? ⟨q3, 0, none⟩ = some (.int .i64 eg.1) ∧ w10.cell? ⟨q3, 1, none⟩ = some (.slice ua3 eg.2.length uc3) by rw [hwb, hq]; exact box2 _ _ _ _
  have hgg := hg.trans hgb
  have HV3 := Lib.hid (hv.gr hgb)
  have HG6 := Lib.hid (HG5.out.trans hgg)
  have hb0 := gr_cell hgg hb0
  have hb1 := gr_cell hgg hb1
  have hc0 := gr_cell hgg hc0
  have hd0 := gr_cell hgg hd0
  have HV0 := Lib.hid (HV0.out.gr hgg)
  have hc1 := gr_cell hgg hc1
  have hd1 := gr_cell hgg hd1
  have HV1 := Lib.hid (HV1.out.gr hgg)
  have hc2 := gr_cell hgg hc2
  have hd2 := gr_cell hgg hd2
  have HV2 := Lib.hid (HV2.out.gr hgg)
  have HWB := Lib.hid hwb
  have HQB := Lib.hid hq
  clear hv hg hgb hgg hwb hq HG5 E2
  go_wp2_with fail
  rw [← HWB.out]
  try rw [← HQB.out]
  clear HWB HQB
  refine (AW.out _).mono ?_; rintro e w11 ⟨rfl, hg⟩
  have hc0 := gr_cell hg hc0
  have hd0 := gr_cell hg hd0
  have HV0 := Lib.hid (HV0.out.gr hg)
  have hc1 := gr_cell hg hc1
  have hd1 := gr_cell hg hd1
  have HV1 := Lib.hid (HV1.out.gr hg)
  have hc2 := gr_cell hg hc2
  have hd2 := gr_cell hg hd2
  have HV2 := Lib.hid (HV2.out.gr hg)
  have hc3 := gr_cell hg hc3
  have hd3 := gr_cell hg hd3
  have HV3 := Lib.hid (HV3.out.gr hg)
  have HG7 := Lib.hid (HG6.out.trans hg)
  clear hg HG6 hb0 hb1
  go_wp2_with fail
  refine (SM.out _ _ _ HV0.out HV1.out).mono ?_; rintro e w12 ⟨rfl, hg⟩
  have hc2 := gr_cell hg hc2
  have hd2 := gr_cell hg hd2
  have HV2 := Lib.hid (HV2.out.gr hg)
  have hc3 := gr_cell hg hc3
  have hd3 := gr_cell hg hd3
  have HV3 := Lib.hid (HV3.out.gr hg)
  have HG8 := Lib.hid (HG7.out.trans hg)
  clear hg HG7 hc0 hd0 hc1 hd1 HV0 HV1
  go_wp2_with fail
  refine (SE.out _ _ _ HV2.out HV3.out).mono ?_; rintro e w13 ⟨rfl, hg⟩
  have HG9 := Lib.hid (HG1.out.trans (HG8.out.trans hg))
  clear hg HG8
  go_wp2
  go_ret
  exact ⟨rfl, HG9.out⟩
end Go.Proofs.Ytmcngnnbfmjajaa
