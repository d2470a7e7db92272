/- Law 11: the reference's Mix and Light. -/
import Derived.Test.YtipfofdjngnkpaaCoQ
import Derived.Test.YtipfofdjngnkpaaCoR
set_option linter.unusedVariables false
set_option linter.unusedSimpArgs false
namespace Go.Proofs.Ytipfofdjngnkpaa
open Go.RowKit
open Z
set_option maxRecDepth 100000 in
set_option maxHeartbeats 2000000 in
theorem rf_Mix {a : Option Addr} {l : List Int} {cap : Nat} (c : C3) (w : World) (hr : RdI w a l) (hcap : l.length ≤ cap) (hmax : cap ≤ maxLen) :
    Calls Try.prog 12 #[.slice a l.length cap, vC c] w fun e w' => (∃ a' cap', e = .returned (.tuple #[.slice a' (mixR l c).1.length cap', .int .i64 (mixR l c).2]) ∧ RdI w' a' (mixR l c).1 ∧ (mixR l c).1.length ≤ cap' ∧ cap' ≤ maxLen) ∧ Gr w w' := by
  have HG0 := Lib.hid ((Gr.refl w).alloc (.cells #[.int .i64 c.1, .int .i64 c.2.1, .int .i64 c.2.2] 23))
  have HC0 := Lib.hid (C3At.new w c)
  have HP := Lib.hid (rf_Check _ (hr.gr HG0.out) hcap hmax)
  have HM : Hid (∀ w1, Gr w w1 → isC c = true → palR l = 0 → Calls Try.prog 33 #[.slice a l.length cap, vC c] w1 fun e w' => (∃ a' cap', e = .returned (.slice a' (mixL l c).length cap') ∧ RdI w' a' (mixL l c) ∧ (mixL l c).length ≤ cap' ∧ cap' ≤ maxLen) ∧ Gr w1 w') := Lib.hid fun w1 h h1 h2 => rf_Mixed (cap := cap) c h1 w1 (hr.gr h) (palR_zero.1 h2).1 (palR_zero.1 h2).2.1
  have HK := Lib.hid (fun w => rf_Colour c w)
  obtain ⟨V, hV⟩ : ∃ V, mixR l c = V := ⟨_, rfl⟩
  rw [hV]
  unfold mixR at hV
  obtain ⟨E, hE⟩ : ∃ E, palR l = E := ⟨_, rfl⟩
  rw [hE] at HP hV HM
  clear hE
  obtain ⟨w0, hw0⟩ : ∃ w0, w0 = w.alloc (.cells #[.int .i64 c.1, .int .i64 c.2.1, .int .i64 c.2.2] 23) := ⟨_, rfl⟩
  rw [← hw0] at HG0 HC0 HP
  have HW := Lib.hid hw0
  clear hw0 hr
  generalize mixL l c = ML at *
  by_cases hp : E = 0
  · subst hp
    rw [if_neg (by simp)] at hV
    generalize isC c = ic at *
    obtain ⟨x, y, z⟩ := c
    cases ic
    · rw [if_neg (by simp)] at hV
      subst hV
      clear HM
      unfold vC at *
      go_enter Try.func12, Try.ntmps12
      go_wp2_with fail
      rw [← HW.out]
      refine HP.out.mono ?_; rintro e w1 ⟨rfl, hg1⟩
      have HC1 := Lib.hid (HC0.out.gr hg1)
      have HG1 := Lib.hid (HG0.out.trans hg1)
      clear hg1
      go_wp2_with (refine wpl_load3 (c := (x, y, z)) rfl rfl rfl HC1.out ?_)
      refine (HK.out _).mono ?_; rintro e w2 ⟨rfl, hg2⟩
      have HG2 := Lib.hid (HG1.out.trans hg2)
      clear hg2
      go_wp2
      go_ret2
      exact ⟨⟨none, 0, rfl, fun k hk => absurd hk (by simp), by simp, by unfold maxLen; omega⟩, HG2.out⟩
    · rw [if_pos rfl] at hV
      subst hV
      have HMx := Lib.hid (fun w1 h => HM.out w1 h rfl rfl)
      clear HM
      unfold vC
      go_enter Try.func12, Try.ntmps12
      go_wp2_with fail
      rw [← HW.out]
      refine HP.out.mono ?_; rintro e w1 ⟨rfl, hg1⟩
      have HC1 := Lib.hid (HC0.out.gr hg1)
      have HG1 := Lib.hid (HG0.out.trans hg1)
      clear hg1
      go_wp2_with (refine wpl_load3 (c := (x, y, z)) rfl rfl rfl HC1.out ?_)
      refine (HK.out _).mono ?_; rintro e w2 ⟨rfl, hg2⟩
      have HC2 := Lib.hid (HC1.out.gr hg2)
      have HG2 := Lib.hid (HG1.out.trans hg2)
      clear hg2
      go_wp2_with (refine wpl_load3 (c := (x, y, z)) rfl rfl rfl HC2.out ?_)
      refine (HMx.out _ HG2.out).mono ?_; rintro e w3 ⟨⟨a', c', rfl, h1, h2, h3⟩, hg3⟩
      have H1 := Lib.hid h1
      have HG3 := Lib.hid (HG2.out.trans hg3)
      clear hg3 h1
      go_wp2
      go_ret2
      exact ⟨⟨a', c', rfl, H1.out, h2, h3⟩, HG3.out⟩
  · rw [if_pos hp] at hV
    subst hV
    have hz : (E != 0) = true := by simp [hp]
    obtain ⟨x, y, z⟩ := c
    clear HM HK
    unfold vC
    go_enter Try.func12, Try.ntmps12
    go_wp2_with fail
    rw [← HW.out]
    refine HP.out.mono ?_; rintro e w1 ⟨rfl, hg1⟩
    have HG1 := Lib.hid (HG0.out.trans hg1)
    clear hg1
    go_wp2
    go_ret2
    exact ⟨⟨none, 0, rfl, fun k hk => absurd hk (by simp), by simp, by unfold maxLen; omega⟩, HG1.out⟩
set_option maxRecDepth 100000 in
set_option maxHeartbeats 2000000 in
theorem rf_Light {a b : Option Addr} {l v : List Int} {ca cb : Nat} (w : World) (hr : RdI w a l) (hv : RdI w b v) (hca : l.length ≤ ca) (hma : ca ≤ maxLen) (hcb : v.length ≤ cb) (hmb : cb ≤ maxLen) :
    Calls Try.prog 18 #[.slice a l.length ca, .slice b v.length cb] w fun e w' => e = .returned (.tuple #[vC (lightE l v).1, .int .i64 (lightE l v).2]) ∧ Gr w w' := by
  have HG0 := Lib.hid ((Gr.refl w).alloc (.cells #[.int .i64 0, .int .i64 0, .int .i64 0] 23))
  have HC0 := Lib.hid (C3At.new w (0, 0, 0))
  have HP := Lib.hid (rf_Check _ (hr.gr HG0.out) hca hma)
  have HL : Hid (∀ w1, Gr w w1 → Calls Try.prog 39 #[.slice b v.length cb] w1 fun e w' => e = .returned (.bool (v.all isL)) ∧ w' = w1) := Lib.hid fun w1 h => rf_levels (cap := cb) w1 (hv.gr h) (Nat.le_trans hcb hmb)
  have HM : Hid (∀ w1, Gr w w1 → l.length = v.length → v.all isL = true → Calls Try.prog 40 #[.slice a l.length ca, .slice b v.length cb] w1 fun e w' => e = .returned (vC (lightR l v)) ∧ Gr w1 w') := Lib.hid fun w1 h h1 h2 => rf_Shown (ca := ca) (cb := cb) w1 (hr.gr h) (hv.gr h) (Nat.le_trans hca hma) h1 h2
  obtain ⟨V, hV⟩ : ∃ V, lightE l v = V := ⟨_, rfl⟩
  rw [hV]
  unfold lightE at hV
  obtain ⟨w0, hw0⟩ : ∃ w0, w0 = w.alloc (.cells #[.int .i64 0, .int .i64 0, .int .i64 0] 23) := ⟨_, rfl⟩
  rw [← hw0] at HG0 HC0 HP
  have HW := Lib.hid hw0
  have hx1 : l.length ≤ 9223372036854775807 := Nat.le_trans hca hma
  have hx2 : v.length ≤ 9223372036854775807 := Nat.le_trans hcb hmb
  clear hw0 hr hv hma hmb
  generalize palR l = E at *
  generalize lightR l v = R at *
  generalize v.all isL = va at *
  by_cases hp : E = 0
  · subst hp
    rw [if_neg (by simp)] at hV
    by_cases hll : l.length = v.length
    · rw [if_neg (by simp [hll])] at hV
      have HMa := Lib.hid (fun w1 h => HM.out w1 h hll)
      have hne : ((l.length : Int) != (v.length : Int)) = false := by simp [hll]
      clear HM
      rw [← hll] at HL HMa hx2 hne ⊢
      clear hll hcb hx2
      generalize l.length = n at *
      clear hne
      cases va
      · rw [if_neg (by simp)] at hV
        subst hV
        clear HMa
        go_enter Try.func18, Try.ntmps18
        go_wp2_with fail
        rw [← HW.out]
        refine HP.out.mono ?_; rintro e w1 ⟨rfl, hg1⟩
        have HC1 := Lib.hid (HC0.out.gr hg1)
        have HG1 := Lib.hid (HG0.out.trans hg1)
        clear hg1
        go_wp2_with fail
        refine (HL.out _ HG1.out).mono ?_; rintro e w2 ⟨rfl, hw2⟩
        rw [hw2]
        clear hw2
        go_wp2_with (refine wpl_store3 (c := (0, 0, 0)) rfl rfl rfl rfl HC1.out ?_)
        refine bodyPost_ret (v := .tuple #[vC (0, 0, 0), .int .i64 2]) ?_ rfl ⟨by first | rfl | simp, HG1.out.row (Nat.le_refl _) _⟩
        rw [results_cell_tmp rfl]
        simp [asAddr, Result.andThen]
        rw [run_load3 (show C3At _ _ _ from HC1.out.row (0, 0, 0))]
      · rw [if_pos rfl] at hV
        subst hV
        have HMb := Lib.hid (fun w1 h => HMa.out w1 h rfl)
        clear HMa
        go_enter Try.func18, Try.ntmps18
        go_wp2_with fail
        rw [← HW.out]
        refine HP.out.mono ?_; rintro e w1 ⟨rfl, hg1⟩
        have HC1 := Lib.hid (HC0.out.gr hg1)
        have HG1 := Lib.hid (HG0.out.trans hg1)
        clear hg1
        go_wp2_with fail
        refine (HL.out _ HG1.out).mono ?_; rintro e w2 ⟨rfl, hw2⟩
        rw [hw2]
        clear hw2
        go_wp2_with fail
        refine (HMb.out _ HG1.out).mono ?_; rintro e w3 ⟨rfl, hg3⟩
        have HC3 := Lib.hid (HC1.out.gr hg3)
        have HG3 := Lib.hid (HG1.out.trans hg3)
        clear hg3 HC1 HG1
        have HC1 := HC3
        have HG1 := HG3
        go_wp2_with (refine wpl_store3 (c := R) rfl rfl rfl rfl HC1.out ?_)
        refine bodyPost_ret (v := .tuple #[vC R, .int .i64 0]) ?_ rfl ⟨by first | rfl | simp, HG1.out.row (Nat.le_refl _) _⟩
        rw [results_cell_tmp rfl]
        simp [asAddr, Result.andThen]
        rw [run_load3 (show C3At _ _ _ from HC1.out.row R)]
    · rw [if_pos hll] at hV
      subst hV
      have hne : ((v.length : Int) != (l.length : Int)) = true := by simp; omega
      have hne2 : ((l.length : Int) != (v.length : Int)) = true := by simp; omega
      clear HM HL
      generalize l.length = n1 at *
      generalize v.length = n2 at *
      go_enter Try.func18, Try.ntmps18
      go_wp2_with fail
      rw [← HW.out]
      refine HP.out.mono ?_; rintro e w1 ⟨rfl, hg1⟩
      have HC1 := Lib.hid (HC0.out.gr hg1)
      have HG1 := Lib.hid (HG0.out.trans hg1)
      clear hg1
      go_wp2_with (refine wpl_store3 (c := (0, 0, 0)) rfl rfl rfl rfl HC1.out ?_)
      refine bodyPost_ret (v := .tuple #[vC (0, 0, 0), .int .i64 14]) ?_ rfl ⟨by first | rfl | simp, HG1.out.row (Nat.le_refl _) _⟩
      rw [results_cell_tmp rfl]
      simp [asAddr, Result.andThen]
      rw [run_load3 (show C3At _ _ _ from HC1.out.row (0, 0, 0))]
  · rw [if_pos hp] at hV
    subst hV
    have hz : (E != 0) = true := by simp [hp]
    clear HM HL
    generalize l.length = n1 at *
    generalize v.length = n2 at *
    go_enter Try.func18, Try.ntmps18
    go_wp2_with fail
    rw [← HW.out]
    refine HP.out.mono ?_; rintro e w1 ⟨rfl, hg1⟩
    have HC1 := Lib.hid (HC0.out.gr hg1)
    have HG1 := Lib.hid (HG0.out.trans hg1)
    clear hg1
    go_wp2_with (refine wpl_store3 (c := (0, 0, 0)) rfl rfl rfl rfl HC1.out ?_)
    refine bodyPost_ret (v := .tuple #[vC (0, 0, 0), .int .i64 E]) ?_ rfl ⟨by first | rfl | simp, HG1.out.row (Nat.le_refl _) _⟩
    rw [results_cell_tmp rfl]
    simp [asAddr, Result.andThen]
    rw [run_load3 (show C3At _ _ _ from HC1.out.row (0, 0, 0))]
end Go.Proofs.Ytipfofdjngnkpaa
