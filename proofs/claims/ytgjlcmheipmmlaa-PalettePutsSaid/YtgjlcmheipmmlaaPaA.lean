/- Law 15: inRange, isLevel, isReference, Value, cmp.Compare, cmp.Or, Check and Compare of parameters. -/
import Derived.Test.YtgjlcmheipmmlaaRsA
import Derived.Test.YtgjlcmheipmmlaaPaM
set_option linter.unusedVariables false
set_option linter.unusedSimpArgs false
namespace Go.Proofs.Ytgjlcmheipmmlaa
open Go.RowKit
open Z
set_option maxRecDepth 100000 in
theorem pl_inRange (n a b : Int) (w : World) : Calls Try.prog 56 #[.int .i64 n, .int .i64 a, .int .i64 b] w fun e w' => e = .returned (.bool (decide (a ≤ n ∧ n ≤ b))) ∧ w = w' := by
  by_cases h1 : a ≤ n
  · by_cases h2 : n ≤ b
    · go_enter Try.func56, Try.ntmps56
      go_wp2
      go_ret
      exact ⟨ret_bool (by simp [h1, h2]), rfl⟩
    · go_enter Try.func56, Try.ntmps56
      go_wp2
      go_ret
      exact ⟨ret_bool (by simp [h2]), rfl⟩
  · go_enter Try.func56, Try.ntmps56
    go_wp2
    go_ret
    exact ⟨ret_bool (by rw [decide_eq_false (show ¬ a ≤ n by omega), Bool.false_and]), rfl⟩
theorem in_yes {n a b : Int} (h : a ≤ n ∧ n ≤ b) (w : World) : Calls Try.prog 56 #[.int .i64 n, .int .i64 a, .int .i64 b] w fun e w' => e = .returned (.bool true) ∧ w = w' := by
  have := pl_inRange n a b w
  rwa [decide_eq_true h] at this
theorem in_no {n a b : Int} (h : ¬ (a ≤ n ∧ n ≤ b)) (w : World) : Calls Try.prog 56 #[.int .i64 n, .int .i64 a, .int .i64 b] w fun e w' => e = .returned (.bool false) ∧ w = w' := by
  have := pl_inRange n a b w
  rwa [decide_eq_false h] at this
set_option maxRecDepth 100000 in
theorem pl_isLevel (n : Int) (w : World) : Calls Try.prog 48 #[.int .i64 n] w fun e w' => e = .returned (.bool (decide (0 ≤ n ∧ n ≤ 65535))) ∧ w = w' := by
  have HI := Lib.hid (fun w => pl_inRange n 0 65535 w)
  generalize decide (0 ≤ n ∧ n ≤ 65535) = D at *
  go_enter Try.func48, Try.ntmps48
  go_wp2_with fail
  refine (HI.out _).mono ?_; rintro e w' ⟨rfl, rfl⟩
  go_wp2
  go_ret
  exact ⟨rfl, rfl⟩
set_option maxRecDepth 100000 in
theorem pl_isReference (p l : Int) (w : World) : Calls Try.prog 49 #[.agg #[.int .i64 p, .int .i64 l]] w fun e w' => e = .returned (.bool (decide (1 ≤ p ∧ p ≤ 1048576))) ∧ Gr w w' := by
  have HI := Lib.hid (fun w => pl_inRange p 1 1048576 w)
  generalize decide (1 ≤ p ∧ p ≤ 1048576) = D at *
  have HG := Lib.hid ((Gr.refl w).alloc (.cells #[.int .i64 p, .int .i64 l] 23))
  go_enter Try.func49, Try.ntmps49
  go_wp2_with fail
  refine (HI.out _).mono ?_; rintro e w' ⟨rfl, rfl⟩
  go_wp2
  go_ret
  exact ⟨rfl, HG.out⟩
set_option maxRecDepth 100000 in
set_option maxHeartbeats 1000000 in
theorem pl_Value (p l : Int) (w : World) : Calls Try.prog 13 #[.agg #[.int .i64 p, .int .i64 l]] w fun e w' => e = .returned (.int .i64 (valR p l)) ∧ Gr w w' := by
  obtain ⟨E, hE⟩ : ∃ E, valR p l = E := ⟨_, rfl⟩
  rw [hE]
  unfold valR at hE
  have HG1 := Lib.hid ((Gr.refl w).alloc (.cells #[.int .i64 p, .int .i64 l] 23))
  have HL := Lib.hid (fun w => pl_isLevel l w)
  have HR := Lib.hid (fun w => pl_isReference p l w)
  by_cases h0 : p = 0
  · subst h0
    by_cases h1 : 0 ≤ l ∧ l ≤ 65535
    · rw [if_pos (.inl ⟨rfl, h1⟩)] at hE
      subst hE
      rw [decide_eq_true h1] at HL
      clear h1
      go_enter Try.func13, Try.ntmps13
      go_wp2_with fail
      refine (HL.out _).mono ?_; rintro e w' ⟨rfl, rfl⟩
      go_wp2
      go_ret
      exact ⟨rfl, HG1.out⟩
    · rw [if_neg (by omega)] at hE
      subst hE
      rw [decide_eq_false h1] at HL
      rw [decide_eq_false (by omega)] at HR
      clear h1
      go_enter Try.func13, Try.ntmps13
      go_wp2_with fail
      refine (HL.out _).mono ?_; rintro e w' ⟨rfl, rfl⟩
      go_wp2_with fail
      refine (HR.out _).mono ?_; rintro e w2 ⟨rfl, hg2⟩
      have HG2 := Lib.hid (HG1.out.trans hg2)
      clear hg2
      go_wp2
      go_ret
      exact ⟨rfl, HG2.out⟩
  · have hz : (p == 0) = false := by simp [h0]
    by_cases h1 : p = -1
    · subst h1
      by_cases hl : l = 0
      · subst hl
        rw [if_pos (.inr ⟨by omega, by omega, by omega, rfl⟩)] at hE
        subst hE
        go_enter Try.func13, Try.ntmps13
        go_wp2
        go_ret
        exact ⟨rfl, HG1.out⟩
      · rw [if_neg (by omega)] at hE
        subst hE
        have hlz : (l == 0) = false := by simp [hl]
        clear hl
        go_enter Try.func13, Try.ntmps13
        go_wp2
        go_ret
        exact ⟨rfl, HG1.out⟩
    · have hm : (p == -1) = false := by simp [h1]
      by_cases h2 : 1 ≤ p ∧ p ≤ 1048576
      · rw [decide_eq_true h2] at HR
        by_cases hl : l = 0
        · subst hl
          rw [if_pos (.inr ⟨by omega, by omega, h0, rfl⟩)] at hE
          subst hE
          clear h0 h1 h2
          go_enter Try.func13, Try.ntmps13
          go_wp2_with fail
          refine (HR.out _).mono ?_; rintro e w2 ⟨rfl, hg2⟩
          have HG2 := Lib.hid (HG1.out.trans hg2)
          have d1 := gr_cell hg2 (fresh w [.int .i64 p, .int .i64 0] 23 (k := 1) rfl)
          clear hg2
          go_wp2
          go_ret
          exact ⟨rfl, HG2.out⟩
        · rw [if_neg (by omega)] at hE
          subst hE
          have hlz : (l == 0) = false := by simp [hl]
          clear h0 h1 h2 hl
          go_enter Try.func13, Try.ntmps13
          go_wp2_with fail
          refine (HR.out _).mono ?_; rintro e w2 ⟨rfl, hg2⟩
          have HG2 := Lib.hid (HG1.out.trans hg2)
          have d1 := gr_cell hg2 (fresh w [.int .i64 p, .int .i64 l] 23 (k := 1) rfl)
          clear hg2
          go_wp2
          go_ret
          exact ⟨rfl, HG2.out⟩
      · rw [decide_eq_false h2] at HR
        rw [if_neg (by omega)] at hE
        subst hE
        clear h0 h1 h2
        go_enter Try.func13, Try.ntmps13
        go_wp2_with fail
        refine (HR.out _).mono ?_; rintro e w2 ⟨rfl, hg2⟩
        have HG2 := Lib.hid (HG1.out.trans hg2)
        clear hg2
        go_wp2
        go_ret
        exact ⟨rfl, HG2.out⟩
set_option maxRecDepth 100000 in
theorem cmp_isNaN (x : Int) (w : World) : Calls Try.prog 94 #[.int .i64 x] w fun e w' => e = .returned (.bool false) ∧ w = w' := by
  go_enter Try.func94, Try.ntmps94
  go_wp2
  go_ret
  exact ⟨ret_bool (by simp), rfl⟩
set_option maxRecDepth 100000 in
theorem cmp_Compare (x y : Int) (w : World) : Calls Try.prog 82 #[.int .i64 x, .int .i64 y] w fun e w' => e = .returned (.int .i64 (cmpI x y)) ∧ w = w' := by
  have HN := Lib.hid (fun x w => cmp_isNaN x w)
  obtain ⟨C, hC⟩ : ∃ C, cmpI x y = C := ⟨_, rfl⟩
  rw [hC]
  unfold cmpI at hC
  by_cases h1 : x < y
  · rw [if_pos h1] at hC
    subst hC
    go_enter Try.func82, Try.ntmps82
    go_wp2_with fail
    refine (HN.out _ _).mono ?_; rintro e w' ⟨rfl, rfl⟩
    go_wp2_with fail
    refine (HN.out _ _).mono ?_; rintro e w' ⟨rfl, rfl⟩
    go_wp2
    go_ret
    exact ⟨rfl, rfl⟩
  · rw [if_neg h1] at hC
    by_cases h2 : y < x
    · rw [if_pos h2] at hC
      subst hC
      go_enter Try.func82, Try.ntmps82
      go_wp2_with fail
      refine (HN.out _ _).mono ?_; rintro e w' ⟨rfl, rfl⟩
      go_wp2_with fail
      refine (HN.out _ _).mono ?_; rintro e w' ⟨rfl, rfl⟩
      go_wp2
      go_ret
      exact ⟨rfl, rfl⟩
    · rw [if_neg h2] at hC
      subst hC
      go_enter Try.func82, Try.ntmps82
      go_wp2_with fail
      refine (HN.out _ _).mono ?_; rintro e w' ⟨rfl, rfl⟩
      go_wp2_with fail
      refine (HN.out _ _).mono ?_; rintro e w' ⟨rfl, rfl⟩
      go_wp2
      go_ret
      exact ⟨rfl, rfl⟩
theorem cmp_lt {x y : Int} : decide (cmpI x y < 0) = decide (x < y) := by
  rw [Bool.eq_iff_iff]; unfold cmpI
  simp only [decide_eq_true_eq]
  repeat' split
  all_goals omega
theorem cmp_eq {x y : Int} : (cmpI x y == 0) = decide (x = y) := by
  rw [Bool.eq_iff_iff]; unfold cmpI
  simp only [beq_iff_eq, decide_eq_true_eq]
  repeat' split
  all_goals omega
/-- the first of two numbers that is not 0 -/
def or2 (x y : Int) : Int := if x = 0 then y else x
set_option maxRecDepth 100000 in
theorem cmp_Or2E (b o c : Nat) (x y : Int) (w : World) (c0 : w.cell? ⟨b, o, none⟩ = some (.int .i64 x)) (c1 : w.cell? ⟨b, o + 1, none⟩ = some (.int .i64 y)) :
    Calls Try.prog 51 #[.slice (some ⟨b, o, none⟩) 2 c] w fun e w' => e = .returned (.int .i64 (or2 x y)) ∧ w = w' := by
  unfold or2
  by_cases hx : x = 0
  · subst hx
    rw [if_pos rfl]
    by_cases hy : y = 0
    · subst hy
      go_enter Try.func51, Try.ntmps51
      go_wp2
      refine wp_loop_rounds 3 ?_
      rw [rounds_succ]
      go_wp2
      rw [rounds_succ]
      go_wp2
      rw [rounds_succ]
      go_wp2
      go_ret
      exact ⟨rfl, rfl⟩
    · have hz : (y == 0) = false := by simp [hy]
      clear hy
      go_enter Try.func51, Try.ntmps51
      go_wp2
      refine wp_loop_rounds 3 ?_
      rw [rounds_succ]
      go_wp2
      rw [rounds_succ]
      go_wp2
      go_ret
      exact ⟨rfl, rfl⟩
  · rw [if_neg hx]
    have hz : (x == 0) = false := by simp [hx]
    clear hx
    go_enter Try.func51, Try.ntmps51
    go_wp2
    refine wp_loop_rounds 3 ?_
    rw [rounds_succ]
    go_wp2
    go_ret
    exact ⟨rfl, rfl⟩
set_option maxRecDepth 100000 in
theorem cmp_Or2I (b o c : Nat) (x y : Int) (w : World) (c0 : w.cell? ⟨b, o, none⟩ = some (.int .i64 x)) (c1 : w.cell? ⟨b, o + 1, none⟩ = some (.int .i64 y)) :
    Calls Try.prog 81 #[.slice (some ⟨b, o, none⟩) 2 c] w fun e w' => e = .returned (.int .i64 (or2 x y)) ∧ w = w' := by
  unfold or2
  by_cases hx : x = 0
  · subst hx
    rw [if_pos rfl]
    by_cases hy : y = 0
    · subst hy
      go_enter Try.func81, Try.ntmps81
      go_wp2
      refine wp_loop_rounds 3 ?_
      rw [rounds_succ]
      go_wp2
      rw [rounds_succ]
      go_wp2
      rw [rounds_succ]
      go_wp2
      go_ret
      exact ⟨rfl, rfl⟩
    · have hz : (y == 0) = false := by simp [hy]
      clear hy
      go_enter Try.func81, Try.ntmps81
      go_wp2
      refine wp_loop_rounds 3 ?_
      rw [rounds_succ]
      go_wp2
      rw [rounds_succ]
      go_wp2
      go_ret
      exact ⟨rfl, rfl⟩
  · rw [if_neg hx]
    have hz : (x == 0) = false := by simp [hx]
    clear hx
    go_enter Try.func81, Try.ntmps81
    go_wp2
    refine wp_loop_rounds 3 ?_
    rw [rounds_succ]
    go_wp2
    go_ret
    exact ⟨rfl, rfl⟩
end Go.Proofs.Ytgjlcmheipmmlaa
