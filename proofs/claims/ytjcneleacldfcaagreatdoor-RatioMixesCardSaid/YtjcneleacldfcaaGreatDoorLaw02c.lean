/- Laws of layer 2: RatioComputes, RatioRounds, RatioMixes, RatioClamps. -/
import Derived.Test.YtjcneleacldfcaaGreatDoorLaw02a
set_option linter.unusedVariables false
set_option linter.unusedSimpArgs false
namespace Go.Proofs.YtjcneleacldfcaaGreatDoor
open Go.RowKit Go.Shelf
open Z

theorem cmpQ_ge {a b : Rat} (h : b ≤ a) : 0 ≤ cmpQ a b := by
  rcases cmpQ_cases a b with ⟨h', _, _⟩ | ⟨_, e, _⟩ | ⟨_, e, _⟩
  · exact absurd h (by rw [Rat.not_le]; exact h')
  · omega
  · omega
theorem cmpQ_le {a b : Rat} (h : a ≤ b) : cmpQ a b ≤ 0 := by
  rcases cmpQ_cases a b with ⟨_, e, _⟩ | ⟨_, e, _⟩ | ⟨h', _, _⟩
  · omega
  · omega
  · exact absurd h (by rw [Rat.not_le]; exact h')
theorem le_of_cmp {a b : Rat} (h : ¬ cmpQ a b < 0) : b ≤ a := by
  rcases cmpQ_cases a b with ⟨_, e, _⟩ | ⟨e, _, _⟩ | ⟨h', _, _⟩
  · exact absurd (by omega) h
  · rw [e]; exact Rat.le_refl
  · exact Rat.le_of_lt h'
theorem ge_of_cmp {a b : Rat} (h : ¬ 0 < cmpQ a b) : a ≤ b := by
  rcases cmpQ_cases a b with ⟨h', _, _⟩ | ⟨e, _, _⟩ | ⟨_, e, _⟩
  · exact Rat.le_of_lt h'
  · rw [e]; exact Rat.le_refl
  · exact absurd (by omega) h
/-- what is clamped without an error lies between both -/
theorem clamp_zero {s : ByteArray} {low high : Int} (hl : isI low) (hh : isI high) (h0 : (clampR s low high).2 = 0) : ∃ x : Rat, clampR s low high = (RT x, 0) ∧ InR x ∧ 0 ≤ cmpQ x (low : Rat) ∧ cmpQ x (high : Rat) ≤ 0 := by
  rcases chkS_cases s with h | ⟨a, rfl, ha⟩
  · unfold clampR at h0; rw [if_pos h] at h0; exact absurd h0 h
  · by_cases hlt : high < low
    · unfold clampR at h0; rw [if_neg (fun e => e (chkS_RT ha)), if_pos hlt] at h0; simp at h0
    · unfold clampR at h0 ⊢
      rw [if_neg (fun e => e (chkS_RT ha)), if_neg hlt] at h0 ⊢
      by_cases x1 : (cmp2 (RT a) (Tx low)).2 = 0
      · have n1 : ¬ (cmp2 (RT a) (Tx low)).2 ≠ 0 := fun e => e x1
        rw [if_neg n1] at h0 ⊢
        by_cases x2 : (cmp2 (RT a) (Tx high)).2 = 0
        · have n2 : ¬ (cmp2 (RT a) (Tx high)).2 ≠ 0 := fun e => e x2
          rw [if_neg n2, cmp2_lt ha hl x1, cmp2_lt ha hh x2]
          have hlh : ((low : Int) : Rat) ≤ ((high : Int) : Rat) := Rat.intCast_le_intCast.2 (by omega)
          by_cases c1 : cmpQ a (low : Rat) < 0
          · rw [if_pos c1]
            exact ⟨(low : Rat), by rw [RT_int], hl.inR, by rw [cmpQ_self]; omega, cmpQ_le hlh⟩
          · rw [if_neg c1]
            by_cases c2 : 0 < cmpQ a (high : Rat)
            · rw [if_pos c2]
              exact ⟨(high : Rat), by rw [RT_int], hh.inR, cmpQ_ge hlh, by rw [cmpQ_self]; omega⟩
            · rw [if_neg c2]
              exact ⟨a, rfl, ha, by omega, by omega⟩
        · rw [if_pos x2] at h0; exact absurd h0 x2
      · rw [if_pos x1] at h0; exact absurd h0 x1
section
variable {w0 : World} (htab : Tab w0) (hmx : Mx w0)
include htab hmx
set_option maxHeartbeats 4000000 in
set_option maxRecDepth 100000 in
theorem l2_RatioComputes {s t : ByteArray} (hs : s.size ≤ maxLen) (ht : t.size ≤ maxLen) : Ret w0 4 #[.string s, .string t] (.bool true) := by
  have AW := Lib.hid (l2_awake htab hmx)
  unfold maxLen at hs ht
  by_cases h1 : s.size ≤ 300
  · by_cases h2 : t.size ≤ 300
    · have qc := ret_QCompare htab hmx (s := s) (t := t) (by omega) (by omega)
      have rc := ret_Compare2 (w0 := w0) (s := s) (t := t) (by omega) (by omega)
      obtain ⟨pc, hpc⟩ : ∃ p, p = cmp2 s t := ⟨_, rfl⟩
      rw [← hpc] at qc rc
      obtain ⟨vc, ec⟩ := pc
      have Qc := Lib.hid (Ret.ii qc rfl)
      have Rc := Lib.hid (Ret.ii rc rfl)
      clear qc rc hpc
      have qa := ret_QAdd htab hmx (s := s) (t := t) (by omega) (by omega)
      have ra := ret_Add2 (w0 := w0) (s := s) (t := t) (by omega) (by omega)
      obtain ⟨pa, hpa⟩ : ∃ p, p = op2 s t addR := ⟨_, rfl⟩
      rw [← hpa] at qa ra
      obtain ⟨va, ea⟩ := pa
      have Qa := Lib.hid (Ret.si qa rfl)
      have Ra := Lib.hid (Ret.si ra rfl)
      clear qa ra hpa
      have qs := ret_QSub htab hmx (s := s) (t := t) (by omega) (by omega)
      have rs := ret_Sub2 (w0 := w0) (s := s) (t := t) (by omega) (by omega)
      obtain ⟨ps, hps⟩ : ∃ p, p = op2 s t subR := ⟨_, rfl⟩
      rw [← hps] at qs rs
      obtain ⟨vs, es⟩ := ps
      have Qs := Lib.hid (Ret.si qs rfl)
      have Rs := Lib.hid (Ret.si rs rfl)
      clear qs rs hps
      have qm := ret_QMul htab hmx (s := s) (t := t) (by omega) (by omega)
      have rm := ret_Mul2 (w0 := w0) (s := s) (t := t) (by omega) (by omega)
      obtain ⟨pm, hpm⟩ : ∃ p, p = op2 s t mulR := ⟨_, rfl⟩
      rw [← hpm] at qm rm
      obtain ⟨vm, em⟩ := pm
      have Qm := Lib.hid (Ret.si qm rfl)
      have Rm := Lib.hid (Ret.si rm rfl)
      clear qm rm hpm
      have qd := ret_QDiv htab hmx (s := s) (t := t) (by omega) (by omega)
      have rd := ret_Div2 (w0 := w0) (s := s) (t := t) (by omega) (by omega)
      obtain ⟨pd, hpd⟩ : ∃ p, p = op2 s t divR := ⟨_, rfl⟩
      rw [← hpd] at qd rd
      obtain ⟨vd, ed⟩ := pd
      have Qd := Lib.hid (Ret.si qd rfl)
      have Rd := Lib.hid (Ret.si rd rfl)
      clear qd rd hpd
      have qn := ret_QMin htab hmx (s := s) (t := t) (by omega) (by omega)
      have rn := ret_Min2 (w0 := w0) (s := s) (t := t) (by omega) (by omega)
      obtain ⟨pn, hpn⟩ : ∃ p, p = minR s t := ⟨_, rfl⟩
      rw [← hpn] at qn rn
      obtain ⟨vn, en⟩ := pn
      have Qn := Lib.hid (Ret.si qn rfl)
      have Rn := Lib.hid (Ret.si rn rfl)
      clear qn rn hpn
      have qx := ret_QMax htab hmx (s := s) (t := t) (by omega) (by omega)
      have rx := ret_Max2 (w0 := w0) (s := s) (t := t) (by omega) (by omega)
      obtain ⟨px, hpx⟩ : ∃ p, p = maxR s t := ⟨_, rfl⟩
      rw [← hpx] at qx rx
      obtain ⟨vx, ex⟩ := px
      have Qx := Lib.hid (Ret.si qx rfl)
      have Rx := Lib.hid (Ret.si rx rfl)
      clear qx rx hpx
      clear htab hmx
      intro w hg
      have HG := Lib.hid hg; clear hg
      go_enter Tryz.func4, Tryz.ntmps4
      go_wp2_with fail
      refine (Qc.out _ HG.out).mono ?_
      rintro e w1 ⟨rfl, hg⟩
      replace HG := Lib.hid hg; clear hg
      go_wp2_with fail
      refine (Rc.out _ HG.out).mono ?_
      rintro e w1 ⟨rfl, hg⟩
      replace HG := Lib.hid hg; clear hg
      go_wp2_with fail
      refine (AW.out _ HG.out).mono ?_
      rintro e w1 ⟨rfl, hg⟩
      replace HG := Lib.hid hg; clear hg
      go_wp2_with fail
      refine (Qa.out _ HG.out).mono ?_
      rintro e w1 ⟨rfl, hg⟩
      replace HG := Lib.hid hg; clear hg
      go_wp2_with fail
      refine (Ra.out _ HG.out).mono ?_
      rintro e w1 ⟨rfl, hg⟩
      replace HG := Lib.hid hg; clear hg
      go_wp2_with fail
      refine (Qs.out _ HG.out).mono ?_
      rintro e w1 ⟨rfl, hg⟩
      replace HG := Lib.hid hg; clear hg
      go_wp2_with fail
      refine (Rs.out _ HG.out).mono ?_
      rintro e w1 ⟨rfl, hg⟩
      replace HG := Lib.hid hg; clear hg
      go_wp2_with fail
      refine (Qm.out _ HG.out).mono ?_
      rintro e w1 ⟨rfl, hg⟩
      replace HG := Lib.hid hg; clear hg
      go_wp2_with fail
      refine (Rm.out _ HG.out).mono ?_
      rintro e w1 ⟨rfl, hg⟩
      replace HG := Lib.hid hg; clear hg
      go_wp2_with fail
      refine (Qd.out _ HG.out).mono ?_
      rintro e w1 ⟨rfl, hg⟩
      replace HG := Lib.hid hg; clear hg
      go_wp2_with fail
      refine (Rd.out _ HG.out).mono ?_
      rintro e w1 ⟨rfl, hg⟩
      replace HG := Lib.hid hg; clear hg
      go_wp2_with fail
      refine (Qn.out _ HG.out).mono ?_
      rintro e w1 ⟨rfl, hg⟩
      replace HG := Lib.hid hg; clear hg
      go_wp2_with fail
      refine (Rn.out _ HG.out).mono ?_
      rintro e w1 ⟨rfl, hg⟩
      replace HG := Lib.hid hg; clear hg
      go_wp2_with fail
      refine (Qx.out _ HG.out).mono ?_
      rintro e w1 ⟨rfl, hg⟩
      replace HG := Lib.hid hg; clear hg
      go_wp2_with fail
      refine (Rx.out _ HG.out).mono ?_
      rintro e w1 ⟨rfl, hg⟩
      replace HG := Lib.hid hg; clear hg
      go_wp2
      go_ret
      exact ⟨rfl, HG.out⟩
    · clear htab hmx
      have h2' : 300 < t.size := by omega
      clear h2
      intro w hg
      have HG := Lib.hid hg; clear hg
      go_enter Tryz.func4, Tryz.ntmps4
      go_wp2_with fail
      refine (AW.out _ HG.out).mono ?_
      rintro e w1 ⟨rfl, hg⟩
      replace HG := Lib.hid hg; clear hg
      go_wp2
      go_ret
      exact ⟨rfl, HG.out⟩
  · clear htab hmx
    have h1' : 300 < s.size := by omega
    clear h1
    intro w hg
    have HG := Lib.hid hg; clear hg
    go_enter Tryz.func4, Tryz.ntmps4
    go_wp2_with fail
    refine (AW.out _ HG.out).mono ?_
    rintro e w1 ⟨rfl, hg⟩
    replace HG := Lib.hid hg; clear hg
    go_wp2
    go_ret
    exact ⟨rfl, HG.out⟩
set_option maxHeartbeats 4000000 in
set_option maxRecDepth 100000 in
theorem l2_RatioMixes {s t u : ByteArray} (hs : s.size ≤ maxLen) (ht : t.size ≤ maxLen) (hu : u.size ≤ maxLen) : Ret w0 7 #[.string s, .string t, .string u] (.bool true) := by
  have AW := Lib.hid (l2_awake htab hmx)
  unfold maxLen at hs ht hu
  by_cases h1 : s.size ≤ 200
  · by_cases h2 : t.size ≤ 200
    · by_cases h3 : u.size ≤ 200
      · have qm := ret_QMix htab hmx (s := s) (t := t) (u := u) (by omega) (by omega) (by omega)
        have rm := ret_Mix2 (w0 := w0) (s := s) (t := t) (u := u) (by omega) (by omega) (by omega)
        obtain ⟨pm, hpm⟩ : ∃ p, p = mixR s t u := ⟨_, rfl⟩
        rw [← hpm] at qm rm
        obtain ⟨vm, em⟩ := pm
        have Qm := Lib.hid (Ret.si qm rfl)
        have Rm := Lib.hid (Ret.si rm rfl)
        clear qm rm hpm
        clear htab hmx
        intro w hg
        have HG := Lib.hid hg; clear hg
        go_enter Tryz.func7, Tryz.ntmps7
        go_wp2_with fail
        refine (Qm.out _ HG.out).mono ?_
        rintro e w1 ⟨rfl, hg⟩
        replace HG := Lib.hid hg; clear hg
        go_wp2_with fail
        refine (Rm.out _ HG.out).mono ?_
        rintro e w1 ⟨rfl, hg⟩
        replace HG := Lib.hid hg; clear hg
        go_wp2_with fail
        refine (AW.out _ HG.out).mono ?_
        rintro e w1 ⟨rfl, hg⟩
        replace HG := Lib.hid hg; clear hg
        go_wp2
        go_ret
        exact ⟨rfl, HG.out⟩
      · clear htab hmx
        have h3' : 200 < u.size := by omega
        clear h3
        intro w hg
        have HG := Lib.hid hg; clear hg
        go_enter Tryz.func7, Tryz.ntmps7
        go_wp2_with fail
        refine (AW.out _ HG.out).mono ?_
        rintro e w1 ⟨rfl, hg⟩
        replace HG := Lib.hid hg; clear hg
        go_wp2
        go_ret
        exact ⟨rfl, HG.out⟩
    · clear htab hmx
      have h2' : 200 < t.size := by omega
      clear h2
      intro w hg
      have HG := Lib.hid hg; clear hg
      go_enter Tryz.func7, Tryz.ntmps7
      go_wp2_with fail
      refine (AW.out _ HG.out).mono ?_
      rintro e w1 ⟨rfl, hg⟩
      replace HG := Lib.hid hg; clear hg
      go_wp2
      go_ret
      exact ⟨rfl, HG.out⟩
  · clear htab hmx
    have h1' : 200 < s.size := by omega
    clear h1
    intro w hg
    have HG := Lib.hid hg; clear hg
    go_enter Tryz.func7, Tryz.ntmps7
    go_wp2_with fail
    refine (AW.out _ HG.out).mono ?_
    rintro e w1 ⟨rfl, hg⟩
    replace HG := Lib.hid hg; clear hg
    go_wp2
    go_ret
    exact ⟨rfl, HG.out⟩
set_option maxHeartbeats 4000000 in
set_option maxRecDepth 100000 in
theorem l2_RatioRounds {s : ByteArray} (hs : s.size ≤ maxLen) : Ret w0 6 #[.string s] (.bool true) := by
  have AW := Lib.hid (l2_awake htab hmx)
  unfold maxLen at hs
  by_cases h1 : s.size ≤ 300
  · have CK := Lib.hid (r2_Check (w0 := w0) s (by omega))
    have N := ret_QNeg htab hmx (s := s) (by omega)
    have F := ret_QFloor htab hmx (s := s) (by omega)
    have R := ret_QRound htab hmx (s := s) (by omega)
    rcases chkS_cases s with h | ⟨a, rfl, ha⟩
    · have N1 := Lib.hid (N.si (x := ⟨#[]⟩) (e := chkS s) (by unfold negR; rw [if_neg h]))
      have F1 := Lib.hid (F.si (x := ⟨#[]⟩) (e := chkS s) (by unfold floorR; rw [if_neg h]))
      have R1 := Lib.hid (R.si (x := ⟨#[]⟩) (e := chkS s) (by unfold roundR; rw [if_neg h]))
      have hne : (chkS s == 0) = false := beq_eq_false_iff_ne.2 h
      clear htab hmx N F R
      generalize chkS s = c at *
      intro w hg
      have HG := Lib.hid hg; clear hg
      go_enter Tryz.func6, Tryz.ntmps6
      go_wp2_with fail
      refine (CK.out _ HG.out).mono ?_
      rintro e w1 ⟨rfl, hg⟩
      replace HG := Lib.hid hg; clear hg
      go_wp2_with fail
      refine (N1.out _ HG.out).mono ?_
      rintro e w1 ⟨rfl, hg⟩
      replace HG := Lib.hid hg; clear hg
      go_wp2_with fail
      refine (F1.out _ HG.out).mono ?_
      rintro e w1 ⟨rfl, hg⟩
      replace HG := Lib.hid hg; clear hg
      go_wp2_with fail
      refine (R1.out _ HG.out).mono ?_
      rintro e w1 ⟨rfl, hg⟩
      replace HG := Lib.hid hg; clear hg
      go_wp2_with fail
      refine (AW.out _ HG.out).mono ?_
      rintro e w1 ⟨rfl, hg⟩
      replace HG := Lib.hid hg; clear hg
      go_wp2
      go_ret
      exact ⟨rfl, HG.out⟩
    · have N1 := Lib.hid (N.si (negR_ok ha))
      have F1 := Lib.hid (F.si (floorR_ok ha))
      have R1 := Lib.hid (R.si (roundR_ok ha))
      have N2 := Lib.hid (ret_Turned (w0 := w0) ha.sh (by omega))
      have F2 := Lib.hid (ret_Down (w0 := w0) ha.sh (by omega))
      have R2 := Lib.hid (ret_Near (w0 := w0) ha.sh (by omega))
      rw [chkS_RT ha] at CK
      clear htab hmx ha N F R
      generalize RT (-a) = x at *
      generalize Tx a.floor = y at *
      generalize Tx (nearest a) = z at *
      generalize RT a = s at *
      intro w hg
      have HG := Lib.hid hg; clear hg
      go_enter Tryz.func6, Tryz.ntmps6
      go_wp2_with fail
      refine (CK.out _ HG.out).mono ?_
      rintro e w1 ⟨rfl, hg⟩
      replace HG := Lib.hid hg; clear hg
      go_wp2_with fail
      refine (N1.out _ HG.out).mono ?_
      rintro e w1 ⟨rfl, hg⟩
      replace HG := Lib.hid hg; clear hg
      go_wp2_with fail
      refine (F1.out _ HG.out).mono ?_
      rintro e w1 ⟨rfl, hg⟩
      replace HG := Lib.hid hg; clear hg
      go_wp2_with fail
      refine (R1.out _ HG.out).mono ?_
      rintro e w1 ⟨rfl, hg⟩
      replace HG := Lib.hid hg; clear hg
      go_wp2_with fail
      refine (AW.out _ HG.out).mono ?_
      rintro e w1 ⟨rfl, hg⟩
      replace HG := Lib.hid hg; clear hg
      go_wp2_with fail
      refine (N2.out _ HG.out).mono ?_
      rintro e w1 ⟨rfl, hg⟩
      replace HG := Lib.hid hg; clear hg
      go_wp2_with fail
      refine (F2.out _ HG.out).mono ?_
      rintro e w1 ⟨rfl, hg⟩
      replace HG := Lib.hid hg; clear hg
      go_wp2_with fail
      refine (R2.out _ HG.out).mono ?_
      rintro e w1 ⟨rfl, hg⟩
      replace HG := Lib.hid hg; clear hg
      go_wp2
      go_ret
      exact ⟨rfl, HG.out⟩
  · clear htab hmx
    have h1' : 300 < s.size := by omega
    clear h1
    intro w hg
    have HG := Lib.hid hg; clear hg
    go_enter Tryz.func6, Tryz.ntmps6
    go_wp2_with fail
    refine (AW.out _ HG.out).mono ?_
    rintro e w1 ⟨rfl, hg⟩
    replace HG := Lib.hid hg; clear hg
    go_wp2
    go_ret
    exact ⟨rfl, HG.out⟩
set_option maxHeartbeats 4000000 in
set_option maxRecDepth 100000 in
theorem l2_RatioClamps {s : ByteArray} {low high : Int} (hs : s.size ≤ maxLen) (hl : isI low) (hh : isI high) : Ret w0 8 #[.string s, .int .i64 low, .int .i64 high] (.bool true) := by
  have AW := Lib.hid (l2_awake htab hmx)
  unfold maxLen at hs
  have hl0 := hl.1
  have hl1 := hl.2
  have hh0 := hh.1
  have hh1 := hh.2
  by_cases h1 : s.size ≤ 200
  · have Q := ret_QClamp htab hmx (s := s) (low := low) (high := high) (by omega) hl hh
    have R := ret_Clamp2 (w0 := w0) (s := s) (low := low) (high := high) (by omega) hl hh
    by_cases h0 : (clampR s low high).2 = 0
    · obtain ⟨x, hx, ix, hge, hle⟩ := clamp_zero hl hh h0
      have Q1 := Lib.hid (Q.si hx)
      have R1 := Lib.hid (R.si hx)
      have W1 := Lib.hid (ret_Whole2 (w0 := w0) hl.1 hl.2)
      have W2 := Lib.hid (ret_Whole2 (w0 := w0) hh.1 hh.2)
      have O1 := Lib.hid (ret_OrderR (w0 := w0) ix.sh hl.inR.sh (by omega) (by omega))
      have O2 := Lib.hid (ret_OrderR (w0 := w0) ix.sh hh.inR.sh (by omega) (by omega))
      rw [RT_int] at O1 O2
      clear htab hmx hl hh Q R h0 hx ix
      generalize cmpQ x (low : Rat) = c at *
      generalize cmpQ x (high : Rat) = d at *
      generalize RT x = r at *
      generalize Tx low = l at *
      generalize Tx high = m at *
      intro w hg
      have HG := Lib.hid hg; clear hg
      go_enter Tryz.func8, Tryz.ntmps8
      go_wp2_with fail
      refine (Q1.out _ HG.out).mono ?_
      rintro e w1 ⟨rfl, hg⟩
      replace HG := Lib.hid hg; clear hg
      go_wp2_with fail
      refine (R1.out _ HG.out).mono ?_
      rintro e w1 ⟨rfl, hg⟩
      replace HG := Lib.hid hg; clear hg
      go_wp2_with fail
      refine (AW.out _ HG.out).mono ?_
      rintro e w1 ⟨rfl, hg⟩
      replace HG := Lib.hid hg; clear hg
      go_wp2_with fail
      refine (W1.out _ HG.out).mono ?_
      rintro e w1 ⟨rfl, hg⟩
      replace HG := Lib.hid hg; clear hg
      go_wp2_with fail
      refine (O1.out _ HG.out).mono ?_
      rintro e w1 ⟨rfl, hg⟩
      replace HG := Lib.hid hg; clear hg
      go_wp2_with fail
      refine (W2.out _ HG.out).mono ?_
      rintro e w1 ⟨rfl, hg⟩
      replace HG := Lib.hid hg; clear hg
      go_wp2_with fail
      refine (O2.out _ HG.out).mono ?_
      rintro e w1 ⟨rfl, hg⟩
      replace HG := Lib.hid hg; clear hg
      go_wp2
      go_ret
      exact ⟨rfl, HG.out⟩
    · obtain ⟨p, hp⟩ : ∃ p, p = clampR s low high := ⟨_, rfl⟩
      rw [← hp] at Q R h0
      obtain ⟨p1, p2⟩ := p
      have Q1 := Lib.hid (Q.si rfl)
      have R1 := Lib.hid (R.si rfl)
      have hne : (p2 == 0) = false := beq_eq_false_iff_ne.2 h0
      clear htab hmx hl hh Q R h0 hp
      intro w hg
      have HG := Lib.hid hg; clear hg
      go_enter Tryz.func8, Tryz.ntmps8
      go_wp2_with fail
      refine (Q1.out _ HG.out).mono ?_
      rintro e w1 ⟨rfl, hg⟩
      replace HG := Lib.hid hg; clear hg
      go_wp2_with fail
      refine (R1.out _ HG.out).mono ?_
      rintro e w1 ⟨rfl, hg⟩
      replace HG := Lib.hid hg; clear hg
      go_wp2_with fail
      refine (AW.out _ HG.out).mono ?_
      rintro e w1 ⟨rfl, hg⟩
      replace HG := Lib.hid hg; clear hg
      go_wp2
      go_ret
      exact ⟨rfl, HG.out⟩
  · clear htab hmx hl hh
    have h1' : 200 < s.size := by omega
    clear h1
    intro w hg
    have HG := Lib.hid hg; clear hg
    go_enter Tryz.func8, Tryz.ntmps8
    go_wp2_with fail
    refine (AW.out _ HG.out).mono ?_
    rintro e w1 ⟨rfl, hg⟩
    replace HG := Lib.hid hg; clear hg
    go_wp2
    go_ret
    exact ⟨rfl, HG.out⟩
end
end Go.Proofs.YtjcneleacldfcaaGreatDoor
