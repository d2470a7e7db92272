/- Law 14: the examples of the chapter. -/
import Derived.Test.YtmcngnnbfmjajaaGpJ
set_option linter.unusedVariables false
set_option linter.unusedSimpArgs false
namespace Go.Proofs.Ytmcngnnbfmjajaa
open Go.RowKit
open Z
theorem aw_f1 (w : World) : Calls Try.prog 26 #[.int .i64 0, .int .i64 100, .int .i64 5] w fun e w' => (∃ p c, e = .returned (.tuple #[.slice p 5 c, .int .i64 0]) ∧ RdI w' p [0, 25, 50, 75, 100]) ∧ Gr w w' := by
  have h := gp_Fan (a := 0) (b := 100) (m := 5) w (by decide) (by decide) (by decide) (by decide) (by decide)
  rw [show fanL 0 100 5 = [0, 25, 50, 75, 100] by decide +kernel] at h
  refine h.mono ?_
  rintro e w' ⟨⟨v, rfl, ho⟩, hg⟩
  obtain ⟨p, c, rfl, hr, -⟩ := ho.shape
  exact ⟨⟨p, c, rfl, hr⟩, hg⟩
theorem aw_f2 (w : World) : Calls Try.prog 26 #[.int .i64 0, .int .i64 10, .int .i64 4] w fun e w' => (∃ p c, e = .returned (.tuple #[.slice p 4 c, .int .i64 0]) ∧ RdI w' p [0, 3, 7, 10]) ∧ Gr w w' := by
  have h := gp_Fan (a := 0) (b := 10) (m := 4) w (by decide) (by decide) (by decide) (by decide) (by decide)
  rw [show fanL 0 10 4 = [0, 3, 7, 10] by decide +kernel] at h
  refine h.mono ?_
  rintro e w' ⟨⟨v, rfl, ho⟩, hg⟩
  obtain ⟨p, c, rfl, hr, -⟩ := ho.shape
  exact ⟨⟨p, c, rfl, hr⟩, hg⟩
theorem aw_c1 (w : World) : Calls Try.prog 28 #[.int .i64 0, .int .i64 100, .int .i64 5] w fun e w' => (∃ p c, e = .returned (.tuple #[.slice p 5 c, .int .i64 0]) ∧ RdI w' p [100, 50, 0, 50, 100]) ∧ Gr w w' := by
  have h := gp_Centre (a := 0) (b := 100) (m := 5) w (by decide) (by decide) (by decide) (by decide) (by decide)
  rw [show cenL 0 100 5 = [100, 50, 0, 50, 100] by decide +kernel] at h
  refine h.mono ?_
  rintro e w' ⟨⟨v, rfl, ho⟩, hg⟩
  obtain ⟨p, c, rfl, hr, -⟩ := ho.shape
  exact ⟨⟨p, c, rfl, hr⟩, hg⟩
theorem aw_c2 (w : World) : Calls Try.prog 28 #[.int .i64 0, .int .i64 100, .int .i64 4] w fun e w' => (∃ p c, e = .returned (.tuple #[.slice p 4 c, .int .i64 0]) ∧ RdI w' p [100, 0, 0, 100]) ∧ Gr w w' := by
  have h := gp_Centre (a := 0) (b := 100) (m := 4) w (by decide) (by decide) (by decide) (by decide) (by decide)
  rw [show cenL 0 100 4 = [100, 0, 0, 100] by decide +kernel] at h
  refine h.mono ?_
  rintro e w' ⟨⟨v, rfl, ho⟩, hg⟩
  obtain ⟨p, c, rfl, hr, -⟩ := ho.shape
  exact ⟨⟨p, c, rfl, hr⟩, hg⟩
theorem aw_q1 {a : Option Addr} {ca N : Nat} (w : World) (hN : N = w.heap.size) (ha : RdI w a [0, 25, 50, 75, 100]) : Calls Try.prog 30 #[.slice a 5 ca, .slice (some ⟨N, 0, none⟩) 5 5] (w.alloc (.cells #[.int .i64 0, .int .i64 25, .int .i64 50, .int .i64 75, .int .i64 100] 3)) fun e w' => e = .returned (.bool true) ∧ Gr w w' := by
  subst hN
  have hg := (Gr.refl w).alloc (.cells #[.int .i64 0, .int .i64 25, .int .i64 50, .int .i64 75, .int .i64 100] 3)
  have h := sl_EqualI a (some ⟨w.heap.size, 0, none⟩) [0, 25, 50, 75, 100] [0, 25, 50, 75, 100] ca 5 (w.alloc (.cells #[.int .i64 0, .int .i64 25, .int .i64 50, .int .i64 75, .int .i64 100] 3)) (ha.gr hg) (RdI.new w [0, 25, 50, 75, 100]) (by simp) (by simp)
  simp only [decide_true] at h
  exact h.mono fun _ _ h => ⟨h.1, hg.trans h.2⟩
theorem aw_q2 {a : Option Addr} {ca N : Nat} (w : World) (hN : N = w.heap.size) (ha : RdI w a [0, 3, 7, 10]) : Calls Try.prog 30 #[.slice a 4 ca, .slice (some ⟨N, 0, none⟩) 4 4] (w.alloc (.cells #[.int .i64 0, .int .i64 3, .int .i64 7, .int .i64 10] 3)) fun e w' => e = .returned (.bool true) ∧ Gr w w' := by
  subst hN
  have hg := (Gr.refl w).alloc (.cells #[.int .i64 0, .int .i64 3, .int .i64 7, .int .i64 10] 3)
  have h := sl_EqualI a (some ⟨w.heap.size, 0, none⟩) [0, 3, 7, 10] [0, 3, 7, 10] ca 4 (w.alloc (.cells #[.int .i64 0, .int .i64 3, .int .i64 7, .int .i64 10] 3)) (ha.gr hg) (RdI.new w [0, 3, 7, 10]) (by simp) (by simp)
  simp only [decide_true] at h
  exact h.mono fun _ _ h => ⟨h.1, hg.trans h.2⟩
theorem aw_q3 {a : Option Addr} {ca N : Nat} (w : World) (hN : N = w.heap.size) (ha : RdI w a [100, 50, 0, 50, 100]) : Calls Try.prog 30 #[.slice a 5 ca, .slice (some ⟨N, 0, none⟩) 5 5] (w.alloc (.cells #[.int .i64 100, .int .i64 50, .int .i64 0, .int .i64 50, .int .i64 100] 3)) fun e w' => e = .returned (.bool true) ∧ Gr w w' := by
  subst hN
  have hg := (Gr.refl w).alloc (.cells #[.int .i64 100, .int .i64 50, .int .i64 0, .int .i64 50, .int .i64 100] 3)
  have h := sl_EqualI a (some ⟨w.heap.size, 0, none⟩) [100, 50, 0, 50, 100] [100, 50, 0, 50, 100] ca 5 (w.alloc (.cells #[.int .i64 100, .int .i64 50, .int .i64 0, .int .i64 50, .int .i64 100] 3)) (ha.gr hg) (RdI.new w [100, 50, 0, 50, 100]) (by simp) (by simp)
  simp only [decide_true] at h
  exact h.mono fun _ _ h => ⟨h.1, hg.trans h.2⟩
theorem aw_q4 {a : Option Addr} {ca N : Nat} (w : World) (hN : N = w.heap.size) (ha : RdI w a [100, 0, 0, 100]) : Calls Try.prog 30 #[.slice a 4 ca, .slice (some ⟨N, 0, none⟩) 4 4] (w.alloc (.cells #[.int .i64 100, .int .i64 0, .int .i64 0, .int .i64 100] 3)) fun e w' => e = .returned (.bool true) ∧ Gr w w' := by
  subst hN
  have hg := (Gr.refl w).alloc (.cells #[.int .i64 100, .int .i64 0, .int .i64 0, .int .i64 100] 3)
  have h := sl_EqualI a (some ⟨w.heap.size, 0, none⟩) [100, 0, 0, 100] [100, 0, 0, 100] ca 4 (w.alloc (.cells #[.int .i64 100, .int .i64 0, .int .i64 0, .int .i64 100] 3)) (ha.gr hg) (RdI.new w [100, 0, 0, 100]) (by simp) (by simp)
  simp only [decide_true] at h
  exact h.mono fun _ _ h => ⟨h.1, hg.trans h.2⟩
theorem aw_q5 {a : Option Addr} {ca N : Nat} (w : World) (hN : N = w.heap.size) (ha : RdI w a [5, 1]) : Calls Try.prog 30 #[.slice a 2 ca, .slice (some ⟨N, 0, none⟩) 2 2] (w.alloc (.cells #[.int .i64 5, .int .i64 1] 3)) fun e w' => e = .returned (.bool true) ∧ Gr w w' := by
  subst hN
  have hg := (Gr.refl w).alloc (.cells #[.int .i64 5, .int .i64 1] 3)
  have h := sl_EqualI a (some ⟨w.heap.size, 0, none⟩) [5, 1] [5, 1] ca 2 (w.alloc (.cells #[.int .i64 5, .int .i64 1] 3)) (ha.gr hg) (RdI.new w [5, 1]) (by simp) (by simp)
  simp only [decide_true] at h
  exact h.mono fun _ _ h => ⟨h.1, hg.trans h.2⟩
theorem aw_ev (w : World) : Calls Try.prog 33 #[.agg #[.int .i64 1, .slice (some ⟨w.heap.size, 0, none⟩) 4 4], .int .i64 2, .int .i64 1] (w.alloc (.cells #[.int .i64 7, .int .i64 5, .int .i64 9, .int .i64 1] 3)) fun e w' => (∃ p c, e = .returned (.tuple #[.agg #[.int .i64 1, .slice p 2 c], .int .i64 0]) ∧ RdI w' p [5, 1]) ∧ Gr w w' := by
  have hg := (Gr.refl w).alloc (.cells #[.int .i64 7, .int .i64 5, .int .i64 9, .int .i64 1] 3)
  have h := gp_Every (v := .agg #[.int .i64 1, .slice (some ⟨w.heap.size, 0, none⟩) 4 4]) (1, [7, 5, 9, 1]) 2 1 (w.alloc (.cells #[.int .i64 7, .int .i64 5, .int .i64 9, .int .i64 1] 3)) ⟨_, 4, rfl, RdI.new w [7, 5, 9, 1], by simp, by unfold maxLen; omega⟩ (by decide +kernel) (by decide) (by decide) (by decide)
  rw [show evR (1, [7, 5, 9, 1]).2 2 1 = [5, 1] by decide +kernel] at h
  refine h.mono ?_
  rintro e w' ⟨⟨u, rfl, p, c, rfl, hr, -⟩, hg2⟩
  exact ⟨⟨p, c, rfl, hr⟩, hg.trans hg2⟩
theorem aw_ck (w : World) : Calls Try.prog 15 #[.agg #[.int .i64 0, .slice none 0 0]] w fun e w' => e = .returned (.int .i64 2) ∧ Gr w w' := by
  have h := gp_Check (v := .agg #[.int .i64 0, .slice none 0 0]) (0, []) w ⟨none, 0, rfl, RdI.nil _ _, by simp, by unfold maxLen; omega⟩
  rw [show gpR (0, []) = 2 by decide +kernel] at h
  exact h
set_option maxRecDepth 100000 in
set_option maxHeartbeats 4000000 in
theorem l14_awake (w : World) : Calls Try.prog 12 #[] w fun e w' => e = .returned (.bool true) ∧ Gr w w' := by
  have F1 := Lib.hid (fun w => aw_f1 w)
  have F2 := Lib.hid (fun w => aw_f2 w)
  have C1 := Lib.hid (fun w => aw_c1 w)
  have C2 := Lib.hid (fun w => aw_c2 w)
  have EV := Lib.hid (fun w => aw_ev w)
  have CK := Lib.hid (fun w => aw_ck w)
  go_enter Try.func12, Try.ntmps12
  go_wp2_with fail
  refine (F1.out _).mono ?_; rintro e w1 ⟨⟨p1, c1, rfl, hr1⟩, hg1⟩
  have HR1 := Lib.hid hr1
  have HG := Lib.hid hg1
  clear hr1 hg1
  go_wp2_with fail
  refine (F2.out _).mono ?_; rintro e w2 ⟨⟨p2, c2, rfl, hr2⟩, hg2⟩
  have HR2 := Lib.hid hr2
  have HG2 := Lib.hid (HG.out.trans hg2)
  have HR1 := Lib.hid (HR1.out.gr hg2)
  clear hr2 hg2 HG
  go_wp2_with fail
  refine (C1.out _).mono ?_; rintro e w3 ⟨⟨p3, c3, rfl, hr3⟩, hg3⟩
  have HR3 := Lib.hid hr3
  have HG3 := Lib.hid (HG2.out.trans hg3)
  have HR1 := Lib.hid (HR1.out.gr hg3)
  have HR2 := Lib.hid (HR2.out.gr hg3)
  clear hr3 hg3 HG2
  go_wp2_with fail
  refine (C2.out _).mono ?_; rintro e w4 ⟨⟨p4, c4, rfl, hr4⟩, hg4⟩
  have HR4 := Lib.hid hr4
  have HG4 := Lib.hid (HG3.out.trans hg4)
  have HR1 := Lib.hid (HR1.out.gr hg4)
  have HR2 := Lib.hid (HR2.out.gr hg4)
  have HR3 := Lib.hid (HR3.out.gr hg4)
  clear hr4 hg4 HG3 F1 F2 C1 C2
  go_wp2_with fail
  refine (EV.out _).mono ?_; rintro e w5 ⟨⟨p5, c5, rfl, hr5⟩, hg5⟩
  have HG5 := Lib.hid (HG4.out.trans hg5)
  obtain ⟨w6, hw6⟩ : ∃ w6, w6 = w5.alloc (.cells #[.int .i64 1, .slice p5 2 c5] 25) := ⟨_, rfl⟩
  have hg6 := show Gr w5 w6 by rw [hw6]; exact (Gr.refl w5).alloc _
  have hb := show w6.cell? ⟨w5.heap.size, 1, none⟩ = some (.slice p5 2 c5) by rw [hw6]; exact (box2 _ _ _ _).2
  have HR5 := Lib.hid (hr5.gr hg6)
  have hg56 := hg5.trans hg6
  have HR1 := Lib.hid (HR1.out.gr hg56)
  have HR2 := Lib.hid (HR2.out.gr hg56)
  have HR3 := Lib.hid (HR3.out.gr hg56)
  have HR4 := Lib.hid (HR4.out.gr hg56)
  have HG6 := Lib.hid (HG5.out.trans hg6)
  obtain ⟨q5, hq5⟩ : ∃ q5, q5 = w5.heap.size := ⟨_, rfl⟩
  rw [← hq5] at hb
  have HS6 := Lib.hid (show q5 + 1 = w6.heap.size by rw [hw6, World.size_alloc, hq5])
  have HW6 := Lib.hid hw6
  have HQ5 := Lib.hid hq5
  clear hr5 hg5 HG4 EV hg6 HG5 hg56 hw6 hq5
  go_wp2_with fail
  rw [← HW6.out]
  try rw [← HQ5.out]
  clear HW6 HQ5
  refine (aw_q1 _ HS6.out HR1.out).mono ?_; rintro e w7 ⟨rfl, hg⟩
  have HR2 := Lib.hid (HR2.out.gr hg)
  have HR3 := Lib.hid (HR3.out.gr hg)
  have HR4 := Lib.hid (HR4.out.gr hg)
  have HR5 := Lib.hid (HR5.out.gr hg)
  have HG7 := Lib.hid (HG6.out.trans hg)
  have hb := gr_cell hg hb
  clear hg HG6 HR1
  go_wp2_with fail
  refine (aw_q2 _ rfl HR2.out).mono ?_; rintro e w8 ⟨rfl, hg⟩
  have HR3 := Lib.hid (HR3.out.gr hg)
  have HR4 := Lib.hid (HR4.out.gr hg)
  have HR5 := Lib.hid (HR5.out.gr hg)
  have HG8 := Lib.hid (HG7.out.trans hg)
  have hb := gr_cell hg hb
  clear hg HG7 HR2
  go_wp2_with fail
  refine (aw_q3 _ rfl HR3.out).mono ?_; rintro e w9 ⟨rfl, hg⟩
  have HR4 := Lib.hid (HR4.out.gr hg)
  have HR5 := Lib.hid (HR5.out.gr hg)
  have HG9 := Lib.hid (HG8.out.trans hg)
  have hb := gr_cell hg hb
  clear hg HG8 HR3
  go_wp2_with fail
  refine (aw_q4 _ rfl HR4.out).mono ?_; rintro e w10 ⟨rfl, hg⟩
  have HR5 := Lib.hid (HR5.out.gr hg)
  have HG10 := Lib.hid (HG9.out.trans hg)
  have hb := gr_cell hg hb
  clear hg HG9 HR4
  go_wp2_with fail
  refine (aw_q5 _ rfl HR5.out).mono ?_; rintro e w11 ⟨rfl, hg⟩
  have HG11 := Lib.hid (HG10.out.trans hg)
  clear hg HG10 HR5
  go_wp2_with fail
  refine (CK.out _).mono ?_; rintro e w12 ⟨rfl, hg⟩
  have HG12 := Lib.hid (HG11.out.trans hg)
  clear hg HG11 CK
  go_wp2
  go_ret
  exact ⟨rfl, HG12.out⟩
end Go.Proofs.Ytmcngnnbfmjajaa
