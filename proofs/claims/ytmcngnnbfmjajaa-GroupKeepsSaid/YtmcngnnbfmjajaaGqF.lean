/- Law 14: GroupTables. -/
import Derived.Test.YtmcngnnbfmjajaaGqE
set_option linter.unusedVariables false
set_option linter.unusedSimpArgs false
namespace Go.Proofs.Ytmcngnnbfmjajaa
open Go.RowKit
open Z
theorem putL_small {l : List Gp} {g : Gp} (h : tbR l = 0) : (putL l g).length ≤ 33 := by
  obtain ⟨h32, -, ha⟩ := tbR_zero.1 h
  have h1 := congrArg List.length (withF_put g l ha)
  have := withF_len g l false
  omega
theorem putR_len (l : List Gp) (g : Gp) : (putR l g).1.length ≤ 1000 := by
  unfold putR
  split
  · rename_i h
    have := putL_small (g := g) h
    split
    · split <;> simp; omega
    · simp
  · simp
theorem dropR_len (l : List Gp) (n : Int) : (dropR l n).1.length ≤ 1000 := by
  unfold dropR
  split
  · rename_i h
    have := (tbR_zero.1 h).1
    have h2 := dropL_len (l := l) (n := n)
    split
    · show (dropL l n).length ≤ _; omega
    · simp
  · simp
set_option maxRecDepth 100000 in
set_option maxHeartbeats 4000000 in
theorem l14_GroupTables {a : Option Addr} {l : List Gp} {cap : Nat} {u : Value} (g : Gp) (n : Int) (w : World) (hr : RdG w a l) (hcap : l.length ≤ cap) (hcm : cap ≤ maxLen) (hok : SlOk a cap) (hu : GpV w u g) :
    Calls Try.prog 4 #[.slice a l.length cap, u, .int .i64 n] w fun e w' => e = .returned (.bool true) ∧ Gr w w' := by
  obtain ⟨c, cp, rfl, rc, lc, mc⟩ := hu
  obtain ⟨x, L⟩ := g
  simp only at rc lc ⊢
  have AW := Lib.hid (fun w => l14_awake w)
  obtain ⟨w1, hw1⟩ : ∃ w1, w1 = w.alloc (.cells #[.int .i64 x, .slice c L.length cp] 25) := ⟨_, rfl⟩
  have hg1 : Gr w w1 := by rw [hw1]; exact (Gr.refl w).alloc _
  have HG1 := Lib.hid hg1
  have HB := Lib.hid (show w1.cell? ⟨w.heap.size, 0, none⟩ = some (.int .i64 x) ∧ w1.cell? ⟨w.heap.size, 1, none⟩ = some (.slice c L.length cp) by rw [hw1]; exact box2 _ _ _ _)
  have HR := hr.gr hg1
  have HC := Lib.hid (rc.gr hg1)
  have HF := Lib.hid (r14_Few (cap := cap) w1 HR (Nat.le_trans hcap hcm))
  have HF1 := Lib.hid (few_one (x := x) HC.out lc mc)
  have HFL : Hid (fewG l = true → l.length ≤ 60) := Lib.hid fun h => by simp only [fewG, Bool.and_eq_true, decide_eq_true_eq] at h; exact h.2
  have HV : ∀ W, Gr w1 W → GpV W (.agg #[.int .i64 x, .slice c L.length cp]) (x, L) := fun W hW => ⟨c, cp, rfl, HC.out.gr hW, lc, mc⟩
  have F1 : Hid (l.length ≤ 60 → ∀ W (hW : Gr w1 W), Calls Try.prog 19 #[.slice a l.length cap, .int .i64 n] W fun e w' => (∃ u, e = .returned (.tuple #[u, .int .i64 (findR l n).2]) ∧ GpV w' u (findR l n).1) ∧ Gr W w') := Lib.hid fun h W hW => gp_FindR n W (HR.gr hW) (by omega)
  have F2 : Hid (l.length ≤ 60 → ∀ W (hW : Gr w1 W), Calls Try.prog 20 #[.slice a l.length cap, .int .i64 n] W fun e w' => (∃ u, e = .returned (.tuple #[u, .int .i64 (findR l n).2]) ∧ GpV w' u (findR l n).1) ∧ Gr W w') := Lib.hid fun h W hW => r14_FindR n W (HR.gr hW) (by omega)
  have P1 : Hid (l.length ≤ 60 → ∀ W (hW : Gr w1 W), Calls Try.prog 21 #[.slice a l.length cap, .agg #[.int .i64 x, .slice c L.length cp]] W fun e w' => (∃ u, e = .returned (.tuple #[u, .int .i64 (putR l (x, L)).2]) ∧ TbV w' u (putR l (x, L)).1) ∧ Gr W w') := Lib.hid fun h W hW => gp_PutR (x, L) W (HR.gr hW) (by omega) hcap hcm hok (HV W hW)
  have P2 : Hid (l.length ≤ 60 → ∀ W (hW : Gr w1 W), Calls Try.prog 22 #[.slice a l.length cap, .agg #[.int .i64 x, .slice c L.length cp]] W fun e w' => (∃ u, e = .returned (.tuple #[u, .int .i64 (putR l (x, L)).2]) ∧ TbV w' u (putR l (x, L)).1) ∧ Gr W w') := Lib.hid fun h W hW => r14_PutR (x, L) W (HR.gr hW) (by omega) (HV W hW)
  have D1 : Hid (l.length ≤ 60 → ∀ W (hW : Gr w1 W), Calls Try.prog 23 #[.slice a l.length cap, .int .i64 n] W fun e w' => (∃ u, e = .returned (.tuple #[u, .int .i64 (dropR l n).2]) ∧ TbV w' u (dropR l n).1) ∧ Gr W w') := Lib.hid fun h W hW => gp_DropR n W (HR.gr hW) (by omega) hcap hcm hok
  have D2 : Hid (l.length ≤ 60 → ∀ W (hW : Gr w1 W), Calls Try.prog 24 #[.slice a l.length cap, .int .i64 n] W fun e w' => (∃ u, e = .returned (.tuple #[u, .int .i64 (dropR l n).2]) ∧ TbV w' u (dropR l n).1) ∧ Gr W w') := Lib.hid fun h W hW => r14_DropR n W (HR.gr hW) (by omega)
  have HS1 := Lib.hid (show w.heap.size + 1 = w1.heap.size by rw [hw1, World.size_alloc])
  have hpl := putR_len l (x, L)
  have hdl := dropR_len l n
  generalize fewG [(x, L)] = f1 at *
  generalize fewG l = f0 at *
  generalize findR l n = FF at *
  generalize putR l (x, L) = PP at *
  generalize dropR l n = DD at *
  obtain ⟨fg, fe⟩ := FF
  obtain ⟨pt, pe⟩ := PP
  obtain ⟨dt, de⟩ := DD
  simp only at F1 F2 P1 P2 D1 D2 hpl hdl
  have SF := Lib.hid (fun W u v h1 h2 => gp_same fg (u := u) (v := v) W h1 h2)
  have SP := Lib.hid (fun W u v h1 h2 => tb_same (l := pt) (u := u) (v := v) W h1 h2 (by omega))
  have SD := Lib.hid (fun W u v h1 h2 => tb_same (l := dt) (u := u) (v := v) W h1 h2 (by omega))
  generalize L.length = m at *
  generalize l.length = N at *
  clear hr rc hg1 HR HC HV hpl hdl
  obtain ⟨p3, hp3⟩ : ∃ p3, p3 = w.heap.size := ⟨_, rfl⟩
  rw [← hp3] at HB HS1
  obtain ⟨hb0, hb1⟩ := HB.out
  have HW1 := Lib.hid hw1
  have HP3 := Lib.hid hp3
  clear hw1 hp3
  cases f0
  · go_enter Try.func4, Try.ntmps4
    go_wp2_with fail
    rw [← HW1.out]
    refine HF.out.mono ?_; rintro e w' ⟨rfl, rfl⟩
    go_wp2_with fail
    refine (AW.out _).mono ?_; rintro e w3 ⟨rfl, hg3⟩
    have HG3 := Lib.hid (HG1.out.trans hg3)
    clear hg3
    go_wp2
    go_ret
    exact ⟨rfl, HG3.out⟩
  have hn60 := HFL.out rfl
  have F1 := Lib.hid (fun W hW => F1.out hn60 W hW)
  have F2 := Lib.hid (fun W hW => F2.out hn60 W hW)
  have P1 := Lib.hid (fun W hW => P1.out hn60 W hW)
  have P2 := Lib.hid (fun W hW => P2.out hn60 W hW)
  have D1 := Lib.hid (fun W hW => D1.out hn60 W hW)
  have D2 := Lib.hid (fun W hW => D2.out hn60 W hW)
  clear HFL hn60
  cases f1
  · go_enter Try.func4, Try.ntmps4
    go_wp2_with fail
    rw [← HW1.out]
    refine HF.out.mono ?_; rintro e w' ⟨rfl, rfl⟩
    rw [← HP3.out]
    go_wp2_with fail
    refine HF1.out.mono ?_; rintro e w2 ⟨rfl, hg2⟩
    have HG2 := Lib.hid (HG1.out.trans hg2)
    clear hg2
    go_wp2_with fail
    refine (AW.out _).mono ?_; rintro e w3 ⟨rfl, hg3⟩
    have HG3 := Lib.hid (HG2.out.trans hg3)
    clear hg3
    go_wp2
    go_ret
    exact ⟨rfl, HG3.out⟩
  go_enter Try.func4, Try.ntmps4
  go_wp2_with fail
  rw [← HW1.out]
  refine HF.out.mono ?_; rintro e w' ⟨rfl, rfl⟩
  rw [← HP3.out]
  go_wp2_with fail
  refine HF1.out.mono ?_; rintro e w2 ⟨rfl, hg2⟩
  have HG2 := Lib.hid hg2
  have hb0 := gr_cell hg2 hb0
  have hb1 := gr_cell hg2 hb1
  clear hg2 HF HF1
  go_wp2_with fail
  refine (F1.out _ HG2.out).mono ?_; rintro e w3 ⟨⟨u0, rfl, hv⟩, hg⟩
  obtain ⟨ua0, uc0, hu, -⟩ := id hv
  subst hu
  obtain ⟨w4, hwb⟩ : ∃ W, W = w3.alloc (.cells #[.int .i64 fg.1, .slice ua0 fg.2.length uc0] 25) := ⟨_, rfl⟩
  have hgb : Gr w3 w4 := by rw [hwb]; exact (Gr.refl w3).alloc _
  obtain ⟨q0, hq⟩ : ∃ q, q = w3.heap.size := ⟨_, rfl⟩
  obtain ⟨hc0, hd0⟩ := show w4.cell? ⟨q0, 0, none⟩ = some (.int .i64 fg.1) ∧ w4.cell? ⟨q0, 1, none⟩ = some (.slice ua0 fg.2.length uc0) by rw [hwb, hq]; exact box2 _ _ _ _
  have hgg := hg.trans hgb
  have HV0 := Lib.hid (hv.gr hgb)
  have HG3 := Lib.hid (HG2.out.trans hgg)
  have hb0 := gr_cell hgg hb0
  have hb1 := gr_cell hgg hb1
  have HWB := Lib.hid hwb
  have HQB := Lib.hid hq
  clear hv hg hgb hgg hwb hq HG2 F1
  have hb0x := hb0
  have hb1x := hb1
  rw [HWB.out] at hb0x hb1x
  go_wp2_with fail
  rw [← HWB.out]
  try rw [← HQB.out]
  clear HWB HQB hb0x hb1x
  refine (F2.out _ HG3.out).mono ?_; rintro e w5 ⟨⟨u1, rfl, hv⟩, hg⟩
  obtain ⟨ua1, uc1, hu, -⟩ := id hv
  subst hu
  obtain ⟨w6, hwb⟩ : ∃ W, W = w5.alloc (.cells #[.int .i64 fg.1, .slice ua1 fg.2.length uc1] 25) := ⟨_, rfl⟩
  have hgb : Gr w5 w6 := by rw [hwb]; exact (Gr.refl w5).alloc _
  obtain ⟨q1, hq⟩ : ∃ q, q = w5.heap.size := ⟨_, rfl⟩
  obtain ⟨hc1, hd1⟩ := show w6.cell? ⟨q1, 0, none⟩ = some (.int .i64 fg.1) ∧ w6.cell? ⟨q1, 1, none⟩ = some (.slice ua1 fg.2.length uc1) by rw [hwb, hq]; exact box2 _ _ _ _
  have hgg := hg.trans hgb
  have HV1 := Lib.hid (hv.gr hgb)
  have HG4 := Lib.hid (HG3.out.trans hgg)
  have hb0 := gr_cell hgg hb0
  have hb1 := gr_cell hgg hb1
  have hc0 := gr_cell hgg hc0
  have hd0 := gr_cell hgg hd0
  have HV0 := Lib.hid (HV0.out.gr hgg)
  have HWB := Lib.hid hwb
  have HQB := Lib.hid hq
  clear hv hg hgb hgg hwb hq HG3 F2
  have hb0x := hb0
  have hb1x := hb1
  rw [HWB.out] at hb0x hb1x
  go_wp2_with fail
  rw [← HWB.out]
  try rw [← HQB.out]
  clear HWB HQB hb0x hb1x
  refine (P1.out _ HG4.out).mono ?_; rintro e w10 ⟨⟨t0, rfl, ht⟩, hg⟩
  have HT0 := Lib.hid ht
  have HG10 := Lib.hid (HG4.out.trans hg)
  have hb0 := gr_cell hg hb0
  have hb1 := gr_cell hg hb1
  have hc0 := gr_cell hg hc0
  have hd0 := gr_cell hg hd0
  have HV0 := Lib.hid (HV0.out.gr hg)
  have hc1 := gr_cell hg hc1
  have hd1 := gr_cell hg hd1
  have HV1 := Lib.hid (HV1.out.gr hg)
  clear ht hg HG4 P1
  go_wp2_with fail
  refine (P2.out _ HG10.out).mono ?_; rintro e w11 ⟨⟨t1, rfl, ht⟩, hg⟩
  have HT1 := Lib.hid ht
  have HG11 := Lib.hid (HG10.out.trans hg)
  have hb0 := gr_cell hg hb0
  have hb1 := gr_cell hg hb1
  have hc0 := gr_cell hg hc0
  have hd0 := gr_cell hg hd0
  have HV0 := Lib.hid (HV0.out.gr hg)
  have hc1 := gr_cell hg hc1
  have hd1 := gr_cell hg hd1
  have HV1 := Lib.hid (HV1.out.gr hg)
  have HT0 := Lib.hid (HT0.out.gr hg)
  clear ht hg HG10 P2
  go_wp2_with fail
  refine (D1.out _ HG11.out).mono ?_; rintro e w12 ⟨⟨t2, rfl, ht⟩, hg⟩
  have HT2 := Lib.hid ht
  have HG12 := Lib.hid (HG11.out.trans hg)
  have hb0 := gr_cell hg hb0
  have hb1 := gr_cell hg hb1
  have hc0 := gr_cell hg hc0
  have hd0 := gr_cell hg hd0
  have HV0 := Lib.hid (HV0.out.gr hg)
  have hc1 := gr_cell hg hc1
  have hd1 := gr_cell hg hd1
  have HV1 := Lib.hid (HV1.out.gr hg)
  have HT0 := Lib.hid (HT0.out.gr hg)
  have HT1 := Lib.hid (HT1.out.gr hg)
  clear ht hg HG11 D1
  go_wp2_with fail
  refine (D2.out _ HG12.out).mono ?_; rintro e w13 ⟨⟨t3, rfl, ht⟩, hg⟩
  have HT3 := Lib.hid ht
  have HG13 := Lib.hid (HG12.out.trans hg)
  have hb0 := gr_cell hg hb0
  have hb1 := gr_cell hg hb1
  have hc0 := gr_cell hg hc0
  have hd0 := gr_cell hg hd0
  have HV0 := Lib.hid (HV0.out.gr hg)
  have hc1 := gr_cell hg hc1
  have hd1 := gr_cell hg hd1
  have HV1 := Lib.hid (HV1.out.gr hg)
  have HT0 := Lib.hid (HT0.out.gr hg)
  have HT1 := Lib.hid (HT1.out.gr hg)
  have HT2 := Lib.hid (HT2.out.gr hg)
  clear ht hg HG12 D2
  go_wp2_with fail
  refine (AW.out _).mono ?_; rintro e w14 ⟨rfl, hg⟩
  have hc0 := gr_cell hg hc0
  have hd0 := gr_cell hg hd0
  have HV0 := Lib.hid (HV0.out.gr hg)
  have hc1 := gr_cell hg hc1
  have hd1 := gr_cell hg hd1
  have HV1 := Lib.hid (HV1.out.gr hg)
  have HT0 := Lib.hid (HT0.out.gr hg)
  have HT1 := Lib.hid (HT1.out.gr hg)
  have HT2 := Lib.hid (HT2.out.gr hg)
  have HT3 := Lib.hid (HT3.out.gr hg)
  have HG14 := Lib.hid (HG13.out.trans hg)
  clear hg HG13 hb0 hb1
  go_wp2_with fail
  refine (SF.out _ _ _ HV0.out HV1.out).mono ?_; rintro e w15 ⟨rfl, hg⟩
  have HT0 := Lib.hid (HT0.out.gr hg)
  have HT1 := Lib.hid (HT1.out.gr hg)
  have HT2 := Lib.hid (HT2.out.gr hg)
  have HT3 := Lib.hid (HT3.out.gr hg)
  have HG15 := Lib.hid (HG14.out.trans hg)
  clear hg HG14 hc0 hd0 hc1 hd1 HV0 HV1
  go_wp2_with fail
  refine (SP.out _ _ _ HT0.out HT1.out).mono ?_; rintro e w16 ⟨rfl, hg⟩
  have HT2 := Lib.hid (HT2.out.gr hg)
  have HT3 := Lib.hid (HT3.out.gr hg)
  have HG16 := Lib.hid (HG15.out.trans hg)
  clear hg HG15 HT0 HT1
  go_wp2_with fail
  refine (SD.out _ _ _ HT2.out HT3.out).mono ?_; rintro e w17 ⟨rfl, hg⟩
  have HG17 := Lib.hid (HG1.out.trans (HG16.out.trans hg))
  clear hg HG16
  go_wp2
  go_ret
  exact ⟨rfl, HG17.out⟩
end Go.Proofs.Ytmcngnnbfmjajaa
