/- Law 11: ColourMixes, ColourLights, ColourWheels, ColourNearest. -/
import Derived.Test.YtipfofdjngnkpaaCoX
set_option linter.unusedVariables false
set_option linter.unusedSimpArgs false
namespace Go.Proofs.Ytipfofdjngnkpaa
open Go.RowKit
open Z
theorem run_eqV (c : C3) (w : World) : (Op.equalIn 10000 23 (vC c) (vC c)).run Try.prog w = .ok true w := (run_eq3' _ _ _ _ _ _ w).trans (by simp)
set_option maxRecDepth 100000 in
set_option maxHeartbeats 2000000 in
theorem l11_ColourMixes {a : Option Addr} {l : List Int} {cap : Nat} (c : C3) (w : World) (hr : RdI w a l) (hcap : l.length ≤ cap) (hmax : cap ≤ maxLen) :
    Calls Try.prog 3 #[.slice a l.length cap, vC c] w fun e w' => e = .returned (.bool true) ∧ Gr w w' := by
  have hlm : l.length ≤ maxLen := Nat.le_trans hcap hmax
  obtain ⟨w0, hw0⟩ : ∃ v, v = w.alloc (.cells #[.int .i64 c.1, .int .i64 c.2.1, .int .i64 c.2.2] 23) := ⟨_, rfl⟩
  have HC0 := Lib.hid (show C3At w0 w.heap.size c by rw [hw0]; exact C3At.new w c)
  have HG0 := Lib.hid (show Gr w w0 by rw [hw0]; exact (Gr.refl w).alloc _)
  have HA : Hid (∀ w1, Gr w w1 → Calls Try.prog 11 #[.slice a l.length cap, vC c] w1 fun e w' => (∃ a' cap', e = .returned (.tuple #[.slice a' (mixR l c).1.length cap', .int .i64 (mixR l c).2]) ∧ RdI w' a' (mixR l c).1 ∧ (mixR l c).1.length ≤ cap' ∧ cap' ≤ maxLen) ∧ Gr w1 w') := Lib.hid fun w1 h => co_Mix (cap := cap) c w1 (hr.gr h) hlm
  have HB : Hid (∀ w1, Gr w w1 → Calls Try.prog 12 #[.slice a l.length cap, vC c] w1 fun e w' => (∃ a' cap', e = .returned (.tuple #[.slice a' (mixR l c).1.length cap', .int .i64 (mixR l c).2]) ∧ RdI w' a' (mixR l c).1 ∧ (mixR l c).1.length ≤ cap' ∧ cap' ≤ maxLen) ∧ Gr w1 w') := Lib.hid fun w1 h => rf_Mix (cap := cap) c w1 (hr.gr h) hcap hmax
  have HK : Hid (∀ w1, Gr w w1 → Calls Try.prog 13 #[.slice a l.length cap] w1 fun e w' => e = .returned (.int .i64 (palR l)) ∧ Gr w1 w') := Lib.hid fun w1 h => co_Check (cap := cap) w1 (hr.gr h) hlm
  have HL : Hid (∀ w1, Gr w w1 → Calls Try.prog 14 #[.slice a l.length cap] w1 fun e w' => e = .returned (.int .i64 (palR l)) ∧ Gr w1 w') := Lib.hid fun w1 h => rf_Check (cap := cap) w1 (hr.gr h) hcap hmax
  have HE := Lib.hid (fun (a b : Option Addr) (ca cb : Nat) (w : World) (hL : RdI w a (mixR l c).1) (hM : RdI w b (mixR l c).1) (hl : (mixR l c).1.length ≤ ca) (hc : ca ≤ maxLen) => sl_EqualI a b (mixR l c).1 (mixR l c).1 ca cb w hL hM (Nat.le_trans hl hc) (Nat.le_trans hl hc))
  have HW0 := Lib.hid hw0
  clear hw0 hr hlm hcap hmax
  generalize mixR l c = M at *
  obtain ⟨ML, me⟩ := M
  simp only [decide_true] at HA HB HE
  generalize palR l = P at *
  obtain ⟨x, y, z⟩ := c
  unfold vC
  go_enter Try.func3, Try.ntmps3
  go_wp2_with (first | (refine wpl_load3 (c := (x, y, z)) rfl rfl rfl (by rw [HW0.out] at HC0; exact HC0.out) ?_))
  have g0 : Gr w (w.alloc (.cells #[.int .i64 x, .int .i64 y, .int .i64 z] 23)) := (Gr.refl w).alloc _
  refine (HA.out _ g0).mono ?_; rintro e w1 ⟨⟨a1, c1, rfl, h1, h2, h3⟩, hg1⟩
  have HR1 := Lib.hid h1
  have hg1' : Gr w0 w1 := by rw [HW0.out]; exact hg1
  have HC1 := Lib.hid (HC0.out.gr hg1')
  have HG1 := Lib.hid (g0.trans hg1)
  clear g0 hg1 hg1' h1 HW0 HC0 HG0
  go_wp2_with (first | (refine wpl_load3 (c := (x, y, z)) rfl rfl rfl HC1.out ?_))
  refine (HB.out _ HG1.out).mono ?_; rintro e w2 ⟨⟨a2, c2, rfl, k1, k2, k3⟩, hg2⟩
  have HR2 := Lib.hid k1
  have HR1b := Lib.hid (HR1.out.gr hg2)
  have HG2 := Lib.hid (HG1.out.trans hg2)
  clear hg2 k1 HR1 HG1 HC1
  go_wp2_with fail
  refine (HK.out _ HG2.out).mono ?_; rintro e w3 ⟨rfl, hg3⟩
  go_wp2_with fail
  refine (HL.out _ (HG2.out.trans hg3)).mono ?_; rintro e w4 ⟨rfl, hg4⟩
  have HR3 := Lib.hid (HR1b.out.gr (hg3.trans hg4))
  have HR4 := Lib.hid (HR2.out.gr (hg3.trans hg4))
  have HG4 := Lib.hid ((HG2.out.trans hg3).trans hg4)
  clear hg3 hg4 HG2 HR2 HR1b
  go_wp2_with fail
  refine (HE.out a1 a2 c1 c2 _ HR3.out HR4.out h2 h3).mono ?_; rintro e w5 ⟨rfl, hg5⟩
  have HG5 := Lib.hid (HG4.out.trans hg5)
  clear hg5 HG4 HR3 HR4
  go_wp2_with fail
  refine (l11_awake _).mono ?_; rintro e w6 ⟨rfl, hg6⟩
  have HG6 := Lib.hid (HG5.out.trans hg6)
  clear hg6
  go_wp2
  go_ret
  exact ⟨rfl, HG6.out⟩
set_option maxRecDepth 100000 in
set_option maxHeartbeats 2000000 in
theorem l11_ColourLights {a b : Option Addr} {l v : List Int} {ca cb : Nat} (w : World) (hr : RdI w a l) (hv : RdI w b v) (hca : l.length ≤ ca) (hma : ca ≤ maxLen) (hcb : v.length ≤ cb) (hmb : cb ≤ maxLen) :
    Calls Try.prog 4 #[.slice a l.length ca, .slice b v.length cb] w fun e w' => e = .returned (.bool true) ∧ Gr w w' := by
  have HA : Hid (∀ w1, Gr w w1 → Calls Try.prog 17 #[.slice a l.length ca, .slice b v.length cb] w1 fun e w' => e = .returned (.tuple #[vC (lightE l v).1, .int .i64 (lightE l v).2]) ∧ Gr w1 w') := Lib.hid fun w1 h => co_Light w1 (hr.gr h) (hv.gr h) (Nat.le_trans hca hma) (Nat.le_trans hcb hmb)
  have HB : Hid (∀ w1, Gr w w1 → Calls Try.prog 18 #[.slice a l.length ca, .slice b v.length cb] w1 fun e w' => e = .returned (.tuple #[vC (lightE l v).1, .int .i64 (lightE l v).2]) ∧ Gr w1 w') := Lib.hid fun w1 h => rf_Light w1 (hr.gr h) (hv.gr h) hca hma hcb hmb
  clear hr hv hca hma hcb hmb
  generalize lightE l v = M at *
  obtain ⟨V, me⟩ := M
  simp only at HA HB
  generalize l.length = n1 at *
  generalize v.length = n2 at *
  go_enter Try.func4, Try.ntmps4
  go_wp2_with fail
  refine (HA.out _ (Gr.refl _)).mono ?_; rintro e w1 ⟨rfl, hg1⟩
  have HG1 := Lib.hid hg1
  obtain ⟨w2, hw⟩ : ∃ v, v = (w1.alloc (.cells #[.int .i64 0, .int .i64 0, .int .i64 0] 23)).setRow w1.heap.size #[.int .i64 V.1, .int .i64 V.2.1, .int .i64 V.2.2] := ⟨_, rfl⟩
  have HH1 := Lib.hid (show C3At w2 w1.heap.size V by rw [hw]; exact (C3At.new w1 (0, 0, 0)).row V)
  have HX1 := Lib.hid (show Gr w1 w2 by rw [hw]; exact ((Gr.refl _).alloc (.cells #[.int .i64 0, .int .i64 0, .int .i64 0] 23)).row (g := w1.heap.size) (Nat.le_refl _) _)
  have HW1 := Lib.hid hw
  clear hw
  clear hg1
  go_wp2_with (refine wpl_store3 (c := V) rfl rfl rfl rfl (C3At.new w1 (0, 0, 0)) ?_; rw [← HW1.out])
  clear HW1
  refine (HB.out _ (HG1.out.trans HX1.out)).mono ?_; rintro e w3 ⟨rfl, hg3⟩
  have HG3 := Lib.hid ((HG1.out.trans HX1.out).trans hg3)
  obtain ⟨w4, hw⟩ : ∃ v, v = (w3.alloc (.cells #[.int .i64 0, .int .i64 0, .int .i64 0] 23)).setRow w3.heap.size #[.int .i64 V.1, .int .i64 V.2.1, .int .i64 V.2.2] := ⟨_, rfl⟩
  have HH2 := Lib.hid (show C3At w4 w3.heap.size V by rw [hw]; exact (C3At.new w3 (0, 0, 0)).row V)
  have HX2 := Lib.hid (show Gr w3 w4 by rw [hw]; exact ((Gr.refl _).alloc (.cells #[.int .i64 0, .int .i64 0, .int .i64 0] 23)).row (g := w3.heap.size) (Nat.le_refl _) _)
  have HW2 := Lib.hid hw
  clear hw
  have HJ1 := Lib.hid ((HH1.out.gr hg3).gr HX2.out)
  have HG4 := Lib.hid (HG3.out.trans HX2.out)
  clear hg3 HH1 HX1 HX2 HG1 HG3
  have heq := run_eq3'
  go_wp2_with (first | (refine wpl_store3 (c := V) rfl rfl rfl rfl (C3At.new w3 (0, 0, 0)) ?_; rw [← HW2.out]) | (refine wpl_load3 (c := V) rfl rfl rfl HJ1.out ?_; simp only [vC]) | (refine wpl_load3 (c := V) rfl rfl rfl HH2.out ?_; simp only [vC]))
  refine (l11_awake _).mono ?_; rintro e w9 ⟨rfl, hg9⟩
  have HG9 := Lib.hid (HG4.out.trans hg9)
  clear hg9
  go_wp2
  go_ret
  exact ⟨rfl, HG9.out⟩
set_option maxRecDepth 100000 in
set_option maxHeartbeats 2000000 in
theorem l11_ColourWheels (c : C3) (w : World) : Calls Try.prog 5 #[vC c] w fun e w' => e = .returned (.bool true) ∧ Gr w w' := by
  obtain ⟨w0, hw0⟩ : ∃ v, v = w.alloc (.cells #[.int .i64 c.1, .int .i64 c.2.1, .int .i64 c.2.2] 23) := ⟨_, rfl⟩
  have HC0 := Lib.hid (show C3At w0 w.heap.size c by rw [hw0]; exact C3At.new w c)
  have HG0 := Lib.hid (show Gr w w0 by rw [hw0]; exact (Gr.refl w).alloc _)
  have HW0 := Lib.hid hw0
  have HA := Lib.hid (fun w => co_Wheel c w)
  have HB := Lib.hid (fun w => rf_Wheel c w)
  clear hw0
  generalize wheelR c = M at *
  obtain ⟨V, me⟩ := M
  obtain ⟨x, y, z⟩ := c
  simp only at HA HB
  have hvc : vC (x, y, z) = .agg #[.int .i64 x, .int .i64 y, .int .i64 z] := rfl
  rw [hvc]
  clear hvc
  go_enter Try.func5, Try.ntmps5
  go_wp2_with (first | (refine wpl_load3 (c := (x, y, z)) rfl rfl rfl (by rw [HW0.out] at HC0; exact HC0.out) ?_))
  refine (HA.out _).mono ?_; rintro e w1 ⟨rfl, hg1⟩
  have hg1' : Gr w0 w1 := by rw [HW0.out]; exact hg1
  have HG1 := Lib.hid (HG0.out.trans hg1')
  have HC1 := Lib.hid (HC0.out.gr hg1')
  obtain ⟨w2, hw⟩ : ∃ v, v = (w1.alloc (.cells #[.int .i64 0, .int .i64 0, .int .i64 0] 23)).setRow w1.heap.size #[.int .i64 V.1, .int .i64 V.2.1, .int .i64 V.2.2] := ⟨_, rfl⟩
  have HH1 := Lib.hid (show C3At w2 w1.heap.size V by rw [hw]; exact (C3At.new w1 (0, 0, 0)).row V)
  have HX1 := Lib.hid (show Gr w1 w2 by rw [hw]; exact ((Gr.refl _).alloc (.cells #[.int .i64 0, .int .i64 0, .int .i64 0] 23)).row (g := w1.heap.size) (Nat.le_refl _) _)
  have HW1 := Lib.hid hw
  clear hw
  have HC2 := Lib.hid (HC1.out.gr HX1.out)
  clear hg1 hg1' HC0 HG0 HC1 HW0
  go_wp2_with (first | (refine wpl_store3 (c := V) rfl rfl rfl rfl (C3At.new w1 (0, 0, 0)) ?_; rw [← HW1.out]) | (refine wpl_load3 (c := (x, y, z)) rfl rfl rfl HC2.out ?_))
  clear HW1
  refine (HB.out _).mono ?_; rintro e w3 ⟨rfl, hg3⟩
  have HG3 := Lib.hid ((HG1.out.trans HX1.out).trans hg3)
  obtain ⟨w4, hw⟩ : ∃ v, v = (w3.alloc (.cells #[.int .i64 0, .int .i64 0, .int .i64 0] 23)).setRow w3.heap.size #[.int .i64 V.1, .int .i64 V.2.1, .int .i64 V.2.2] := ⟨_, rfl⟩
  have HH2 := Lib.hid (show C3At w4 w3.heap.size V by rw [hw]; exact (C3At.new w3 (0, 0, 0)).row V)
  have HX2 := Lib.hid (show Gr w3 w4 by rw [hw]; exact ((Gr.refl _).alloc (.cells #[.int .i64 0, .int .i64 0, .int .i64 0] 23)).row (g := w3.heap.size) (Nat.le_refl _) _)
  have HW2 := Lib.hid hw
  clear hw
  have HJ1 := Lib.hid ((HH1.out.gr hg3).gr HX2.out)
  have HG4 := Lib.hid (HG3.out.trans HX2.out)
  clear hg3 HH1 HX1 HX2 HG1 HG3
  have heq := run_eq3'
  go_wp2_with (first | (refine wpl_store3 (c := V) rfl rfl rfl rfl (C3At.new w3 (0, 0, 0)) ?_; rw [← HW2.out]) | (refine wpl_load3 (c := V) rfl rfl rfl HJ1.out ?_; simp only [vC]) | (refine wpl_load3 (c := V) rfl rfl rfl HH2.out ?_; simp only [vC]))
  refine (l11_awake _).mono ?_; rintro e w9 ⟨rfl, hg9⟩
  have HG9 := Lib.hid (HG4.out.trans hg9)
  clear hg9
  go_wp2
  go_ret
  exact ⟨rfl, HG9.out⟩
set_option maxRecDepth 100000 in
set_option maxHeartbeats 2000000 in
theorem l11_ColourNearest (c : C3) {a : Option Addr} {l : List C3} {cap : Nat} (w : World) (hr : Rd3 w a l) (hl : l.length ≤ maxLen) :
    Calls Try.prog 6 #[vC c, .slice a l.length cap] w fun e w' => e = .returned (.bool true) ∧ Gr w w' := by
  obtain ⟨w0, hw0⟩ : ∃ v, v = w.alloc (.cells #[.int .i64 c.1, .int .i64 c.2.1, .int .i64 c.2.2] 23) := ⟨_, rfl⟩
  have HC0 := Lib.hid (show C3At w0 w.heap.size c by rw [hw0]; exact C3At.new w c)
  have HG0 := Lib.hid (show Gr w w0 by rw [hw0]; exact (Gr.refl w).alloc _)
  have HW0 := Lib.hid hw0
  have HA : Hid (∀ w1, Gr w w1 → Calls Try.prog 21 #[vC c, .slice a l.length cap] w1 fun e w' => e = .returned (.tuple #[.int .i64 (nearR c l).1, .int .i64 (nearR c l).2]) ∧ Gr w1 w') := Lib.hid fun w1 h => co_Nearest c w1 (hr.gr h) hl
  have HB : Hid (∀ w1, Gr w w1 → Calls Try.prog 22 #[vC c, .slice a l.length cap] w1 fun e w' => e = .returned (.tuple #[.int .i64 (nearR c l).1, .int .i64 (nearR c l).2]) ∧ Gr w1 w') := Lib.hid fun w1 h => rf_Nearest c w1 (hr.gr h) hl
  clear hw0 hr hl
  generalize nearR c l = M at *
  obtain ⟨V, me⟩ := M
  obtain ⟨x, y, z⟩ := c
  generalize l.length = n at *
  simp only at HA HB
  have hvc : vC (x, y, z) = .agg #[.int .i64 x, .int .i64 y, .int .i64 z] := rfl
  rw [hvc]
  clear hvc
  go_enter Try.func6, Try.ntmps6
  go_wp2_with (first | (refine wpl_load3 (c := (x, y, z)) rfl rfl rfl (by rw [HW0.out] at HC0; exact HC0.out) ?_))
  refine (HA.out _ ((Gr.refl w).alloc _)).mono ?_; rintro e w1 ⟨rfl, hg1⟩
  have hg1' : Gr w0 w1 := by rw [HW0.out]; exact hg1
  have HG1 := Lib.hid (HG0.out.trans hg1')
  have HC1 := Lib.hid (HC0.out.gr hg1')
  clear hg1 hg1' HC0 HG0 HW0
  go_wp2_with (first | (refine wpl_load3 (c := (x, y, z)) rfl rfl rfl HC1.out ?_))
  refine (HB.out _ HG1.out).mono ?_; rintro e w3 ⟨rfl, hg3⟩
  have HG4 := Lib.hid (HG1.out.trans hg3)
  clear hg3 HC1 HG1
  go_wp2_with fail
  refine (l11_awake _).mono ?_; rintro e w9 ⟨rfl, hg9⟩
  have HG9 := Lib.hid (HG4.out.trans hg9)
  clear hg9
  go_wp2
  go_ret
  exact ⟨rfl, HG9.out⟩
end Go.Proofs.Ytipfofdjngnkpaa
