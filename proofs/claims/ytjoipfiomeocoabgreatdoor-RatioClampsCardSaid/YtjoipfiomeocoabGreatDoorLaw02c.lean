/- Laws of layer 2: RatioComputes, RatioRounds, RatioMixes, RatioClamps. -/
import Derived.Test.YtjoipfiomeocoabGreatDoorLaw02a
set_option linter.unusedVariables false
set_option linter.unusedSimpArgs false
namespace Go.Proofs.YtjoipfiomeocoabGreatDoor
open Go.RowKit Go.Shelf
open Z

theorem cmpQ_ge {a b : Rat} (h : b ≤ a) : 0 ≤ cmpQ a b := by
  rcases cmpQ_cases a b with ⟨h', _, _⟩ | ⟨_, e, _⟩ | ⟨_, e, _⟩
  · exact absurd h (by rw [Rat.not_le]; exact h')
  · omega
  · omega
theorem cmpQ_le {a b : Rat} (h : a ≤ b) : cmpQ a b ≤ 0 := by
  rcases cmpQ_cases a b with ⟨_, e, _⟩ | ⟨_, e, _⟩ | ⟨h', _, _⟩
  · omega
  · omega
  · exact absurd h (by rw [Rat.not_le]; exact h')
theorem le_of_cmp {a b : Rat} (h : ¬ cmpQ a b < 0) : b ≤ a := by
  rcases cmpQ_cases a b with ⟨_, e, _⟩ | ⟨e, _, _⟩ | ⟨h', _, _⟩
  · exact absurd (by omega) h
  · rw [e]; exact Rat.le_refl
  · exact Rat.le_of_lt h'
theorem ge_of_cmp {a b : Rat} (h : ¬ 0 < cmpQ a b) : a ≤ b := by
  rcases cmpQ_cases a b with ⟨h', _, _⟩ | ⟨e, _, _⟩ | ⟨_, e, _⟩
  · exact Rat.le_of_lt h'
  · rw [e]; exact Rat.le_refl
  · exact absurd (by omega) h
/-- what is clamped without an error lies between both -/
theorem clamp_zero {s : ByteArray} {low high : Int} (hl : isI low) (hh : isI high) (h0 : (clampR s low high).2 = 0) : ∃ x : Rat, clampR s low high = (RT x, 0) ∧ InR x ∧ 0 ≤ cmpQ x (low : Rat) ∧ cmpQ x (high : Rat) ≤ 0 := by
  rcases chkS_cases s with h | ⟨a, rfl, ha⟩
  · unfold clampR at h0; rw [if_pos h] at h0; exact absurd h0 h
  · by_cases hlt : high < low
    · unfold clampR at h0; rw [if_neg (fun e => e (chkS_RT ha)), if_pos hlt] at h0; simp at h0
    · unfold clampR at h0 ⊢
      rw [if_neg (fun e => e (chkS_RT ha)), if_neg hlt] at h0 ⊢
      by_cases x1 : (cmp2 (RT a) (Tx low)).2 = 0
      · have n1 : ¬ (cmp2 (RT a) (Tx low)).2 ≠ 0 := fun e => e x1
        rw [if_neg n1] at h0 ⊢
        by_cases x2 : (cmp2 (RT a) (Tx high)).2 = 0
        · have n2 : ¬ (cmp2 (RT a) (Tx high)).2 ≠ 0 := fun e => e x2
          rw [if_neg n2, cmp2_lt ha hl x1, cmp2_lt ha hh x2]
          have hlh : ((low : Int) : Rat) ≤ ((high : Int) : Rat) := Rat.intCast_le_intCast.2 (by omega)
          by_cases c1 : cmpQ a (low : Rat) < 0
          · rw [if_pos c1]
            exact ⟨(low : Rat), by rw [RT_int], hl.inR, by rw [cmpQ_self]; omega, cmpQ_le hlh⟩
          · rw [if_neg c1]
            by_cases c2 : 0 < cmpQ a (high : Rat)
            · rw [if_pos c2]
              exact ⟨(high : Rat), by rw [RT_int], hh.inR, cmpQ_ge hlh, by rw [cmpQ_self]; omega⟩
            · rw [if_neg c2]
              exact ⟨a, rfl, ha, by omega, by omega⟩
        · rw [if_pos x2] at h0; exact absurd h0 x2
      · rw [if_pos x1] at h0; exact absurd h0 x1
section
variable {w0 : World} (htab : Tab w0) (hmx : Mx w0)
include htab hmx
set_option maxHeartbeats 4000000 in
set_option maxRecDepth 100000 in
theorem l2_RatioClamps {s : ByteArray} {low high : Int} (hs : s.size ≤ maxLen) (hl : isI low) (hh : isI high) : Ret w0 5 #[.string s, .int .i64 low, .int .i64 high] (.bool true) := by
  have AW := Lib.hid (l2_awake htab hmx)
  unfold maxLen at hs
  have hl0 := hl.1
  have hl1 := hl.2
  have hh0 := hh.1
  have hh1 := hh.2
  by_cases h1 : s.size ≤ 200
  · have Q := ret_QClamp htab hmx (s := s) (low := low) (high := high) (by omega) hl hh
    have R := ret_Clamp2 (w0 := w0) (s := s) (low := low) (high := high) (by omega) hl hh
    by_cases h0 : (clampR s low high).2 = 0
    · obtain ⟨x, hx, ix, hge, hle⟩ := clamp_zero hl hh h0
      have Q1 := Lib.hid (Q.si hx)
      have R1 := Lib.hid (R.si hx)
      have W1 := Lib.hid (ret_Whole2 (w0 := w0) hl.1 hl.2)
      have W2 := Lib.hid (ret_Whole2 (w0 := w0) hh.1 hh.2)
      have O1 := Lib.hid (ret_OrderR (w0 := w0) ix.sh hl.inR.sh (by omega) (by omega))
      have O2 := Lib.hid (ret_OrderR (w0 := w0) ix.sh hh.inR.sh (by omega) (by omega))
      rw [RT_int] at O1 O2
      clear htab hmx hl hh Q R h0 hx ix
      generalize cmpQ x (low : Rat) = c at *
      generalize cmpQ x (high : Rat) = d at *
      generalize RT x = r at *
      generalize Tx low = l at *
      generalize Tx high = m at *
      intro w hg
      have HG := Lib.hid hg; clear hg
      go_enter Tryz.func5, Tryz.ntmps5
      go_wp2_with fail
      refine (Q1.out _ HG.out).mono ?_
      rintro e w1 ⟨rfl, hg⟩
      replace HG := Lib.hid hg; clear hg
      go_wp2_with fail
      refine (R1.out _ HG.out).mono ?_
      rintro e w1 ⟨rfl, hg⟩
      replace HG := Lib.hid hg; clear hg
      go_wp2_with fail
      refine (AW.out _ HG.out).mono ?_
      rintro e w1 ⟨rfl, hg⟩
      replace HG := Lib.hid hg; clear hg
      go_wp2_with fail
      refine (W1.out _ HG.out).mono ?_
      rintro e w1 ⟨rfl, hg⟩
      replace HG := Lib.hid hg; clear hg
      go_wp2_with fail
      refine (O1.out _ HG.out).mono ?_
      rintro e w1 ⟨rfl, hg⟩
      replace HG := Lib.hid hg; clear hg
      go_wp2_with fail
      refine (W2.out _ HG.out).mono ?_
      rintro e w1 ⟨rfl, hg⟩
      replace HG := Lib.hid hg; clear hg
      go_wp2_with fail
      refine (O2.out _ HG.out).mono ?_
      rintro e w1 ⟨rfl, hg⟩
      replace HG := Lib.hid hg; clear hg
      go_wp2
      go_ret
      exact ⟨rfl, HG.out⟩
    · obtain ⟨p, hp⟩ : ∃ p, p = clampR s low high := ⟨_, rfl⟩
      rw [← hp] at Q R h0
      obtain ⟨p1, p2⟩ := p
      have Q1 := Lib.hid (Q.si rfl)
      have R1 := Lib.hid (R.si rfl)
      have hne : (p2 == 0) = false := beq_eq_false_iff_ne.2 h0
      clear htab hmx hl hh Q R h0 hp
      intro w hg
      have HG := Lib.hid hg; clear hg
      go_enter Tryz.func5, Tryz.ntmps5
      go_wp2_with fail
      refine (Q1.out _ HG.out).mono ?_
      rintro e w1 ⟨rfl, hg⟩
      replace HG := Lib.hid hg; clear hg
      go_wp2_with fail
      refine (R1.out _ HG.out).mono ?_
      rintro e w1 ⟨rfl, hg⟩
      replace HG := Lib.hid hg; clear hg
      go_wp2_with fail
      refine (AW.out _ HG.out).mono ?_
      rintro e w1 ⟨rfl, hg⟩
      replace HG := Lib.hid hg; clear hg
      go_wp2
      go_ret
      exact ⟨rfl, HG.out⟩
  · clear htab hmx hl hh
    have h1' : 200 < s.size := by omega
    clear h1
    intro w hg
    have HG := Lib.hid hg; clear hg
    go_enter Tryz.func5, Tryz.ntmps5
    go_wp2_with fail
    refine (AW.out _ HG.out).mono ?_
    rintro e w1 ⟨rfl, hg⟩
    replace HG := Lib.hid hg; clear hg
    go_wp2
    go_ret
    exact ⟨rfl, HG.out⟩
end
end Go.Proofs.YtjoipfiomeocoabGreatDoor
