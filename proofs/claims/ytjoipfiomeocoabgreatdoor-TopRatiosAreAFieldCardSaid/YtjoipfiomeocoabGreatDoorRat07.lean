/- The reference of rational numbers: the operations with their errors. -/
import Derived.Test.YtjoipfiomeocoabGreatDoorRat06
set_option linter.unusedVariables false
set_option linter.unusedSimpArgs false
namespace Go.Proofs.YtjoipfiomeocoabGreatDoor
open Go.RowKit
open Z

theorem lg_neg (x : Int) : lg (-x) = lg x := by unfold lg; rw [Int.natAbs_neg]
theorem addR_neg (a b : Rat) : addR a (-b) = subR a b := by
  unfold addR subR crossL
  rw [Rat.neg_num, Rat.neg_den, Int.neg_mul, lg_neg, ← Int.sub_eq_add_neg, ← Rat.sub_eq_add_neg]
theorem InR.neg {a : Rat} (h : InR a) : InR (-a) := Sh.neg h
theorem RT_is0 (r : Rat) : ((RT r).toList == [48]) = decide (r = 0) := by
  have hl : (RT r).toList = (RT r).data.toList := ByteArray.toList_eq _
  rw [hl]
  by_cases h : r = 0
  · subst h; rw [decide_eq_true rfl, data_RT, Rat.zero_den, if_pos rfl, Rat.zero_num, itoa_zero]; rfl
  · rw [decide_eq_false h, beq_eq_false_iff_ne]
    intro e
    have h2 : RT r = RT 0 := by
      apply ba_ext
      rw [e, data_RT, Rat.zero_den, if_pos rfl, Rat.zero_num, itoa_zero]
    exact h (RT_inj h2)
section
variable {w0 : World}
theorem ba_len {s : ByteArray} (hs : s.size ≤ 400000) : s.size ≤ maxLen := by unfold maxLen; omega
set_option maxHeartbeats 1000000 in
set_option maxRecDepth 100000 in
theorem ret_Checks {s t : ByteArray} (hs : s.size ≤ 400000) (ht : t.size ≤ 400000) : Ret w0 60 #[.string s, .string t] (.int .i64 (both2 s t)) := by
  have C1 := Lib.hid (r2_Check (w0 := w0) s hs)
  have C2 := Lib.hid (r2_Check (w0 := w0) t ht)
  have hb : both2 s t = if chkS s = 0 then chkS t else chkS s := rfl
  rw [hb]
  clear hb hs ht
  generalize chkS s = c at *
  generalize chkS t = d at *
  by_cases h : c = 0
  · subst h
    simp only [if_true]
    intro w hg
    have HG := Lib.hid hg; clear hg
    go_enter Tryz.func60, Tryz.ntmps60
    go_wp2_with fail
    refine (C1.out _ HG.out).mono ?_
    rintro e w1 ⟨rfl, hg⟩
    replace HG := Lib.hid hg; clear hg
    go_wp2_with fail
    refine (C2.out _ HG.out).mono ?_
    rintro e w1 ⟨rfl, hg⟩
    replace HG := Lib.hid hg; clear hg
    go_wp2
    go_ret
    exact ⟨rfl, HG.out⟩
  · have hne : (c == 0) = false := beq_eq_false_iff_ne.2 h
    rw [if_neg h]
    clear h
    intro w hg
    have HG := Lib.hid hg; clear hg
    go_enter Tryz.func60, Tryz.ntmps60
    go_wp2_with fail
    refine (C1.out _ HG.out).mono ?_
    rintro e w1 ⟨rfl, hg⟩
    replace HG := Lib.hid hg; clear hg
    go_wp2
    go_ret
    exact ⟨rfl, HG.out⟩
set_option maxHeartbeats 1000000 in
set_option maxRecDepth 100000 in
theorem ret_crossed {a b : Rat} (ha : InR a) (hb : InR b) : Ret w0 97 #[.string (RT a), .string (RT b)] (.int .i64 (if crossL a b = true then 23 else 0)) := by
  have T1 := Lib.hid (ret_TopR (w0 := w0) ha.sh (by omega))
  have T2 := Lib.hid (ret_BottomR (w0 := w0) hb.sh (by omega))
  have T3 := Lib.hid (ret_TopR (w0 := w0) hb.sh (by omega))
  have T4 := Lib.hid (ret_BottomR (w0 := w0) ha.sh (by omega))
  have L1 := Lib.hid (ret_long (w0 := w0) (sm_num ha.sh (by omega)) (sm_den hb.sh (by omega)) (by omega))
  have L2 := Lib.hid (ret_long (w0 := w0) (sm_num hb.sh (by omega)) (sm_den ha.sh (by omega)) (by omega))
  have hc : crossL a b = (lg (a.num * b.den) || lg (b.num * a.den)) := rfl
  rw [hc]
  clear hc ha hb
  generalize lg (a.num * b.den) = l1 at *
  generalize lg (b.num * a.den) = l2 at *
  generalize Tx a.num = x3 at *
  generalize Tx b.num = x4 at *
  generalize Tx (a.den : Int) = x5 at *
  generalize Tx (b.den : Int) = x6 at *
  generalize RT a = s at *
  generalize RT b = t at *
  cases l1
  · cases l2
    · intro w hg
      have HG := Lib.hid hg; clear hg
      go_enter Tryz.func97, Tryz.ntmps97
      go_wp2_with fail
      refine (T1.out _ HG.out).mono ?_
      rintro e w1 ⟨rfl, hg⟩
      replace HG := Lib.hid hg; clear hg
      go_wp2_with fail
      refine (T2.out _ HG.out).mono ?_
      rintro e w1 ⟨rfl, hg⟩
      replace HG := Lib.hid hg; clear hg
      go_wp2_with fail
      refine (L1.out _ HG.out).mono ?_
      rintro e w1 ⟨rfl, hg⟩
      replace HG := Lib.hid hg; clear hg
      go_wp2_with fail
      refine (T3.out _ HG.out).mono ?_
      rintro e w1 ⟨rfl, hg⟩
      replace HG := Lib.hid hg; clear hg
      go_wp2_with fail
      refine (T4.out _ HG.out).mono ?_
      rintro e w1 ⟨rfl, hg⟩
      replace HG := Lib.hid hg; clear hg
      go_wp2_with fail
      refine (L2.out _ HG.out).mono ?_
      rintro e w1 ⟨rfl, hg⟩
      replace HG := Lib.hid hg; clear hg
      go_wp2
      go_ret
      exact ⟨rfl, HG.out⟩
    · intro w hg
      have HG := Lib.hid hg; clear hg
      go_enter Tryz.func97, Tryz.ntmps97
      go_wp2_with fail
      refine (T1.out _ HG.out).mono ?_
      rintro e w1 ⟨rfl, hg⟩
      replace HG := Lib.hid hg; clear hg
      go_wp2_with fail
      refine (T2.out _ HG.out).mono ?_
      rintro e w1 ⟨rfl, hg⟩
      replace HG := Lib.hid hg; clear hg
      go_wp2_with fail
      refine (L1.out _ HG.out).mono ?_
      rintro e w1 ⟨rfl, hg⟩
      replace HG := Lib.hid hg; clear hg
      go_wp2_with fail
      refine (T3.out _ HG.out).mono ?_
      rintro e w1 ⟨rfl, hg⟩
      replace HG := Lib.hid hg; clear hg
      go_wp2_with fail
      refine (T4.out _ HG.out).mono ?_
      rintro e w1 ⟨rfl, hg⟩
      replace HG := Lib.hid hg; clear hg
      go_wp2_with fail
      refine (L2.out _ HG.out).mono ?_
      rintro e w1 ⟨rfl, hg⟩
      replace HG := Lib.hid hg; clear hg
      go_wp2
      go_ret
      exact ⟨rfl, HG.out⟩
  · intro w hg
    have HG := Lib.hid hg; clear hg
    go_enter Tryz.func97, Tryz.ntmps97
    go_wp2_with fail
    refine (T1.out _ HG.out).mono ?_
    rintro e w1 ⟨rfl, hg⟩
    replace HG := Lib.hid hg; clear hg
    go_wp2_with fail
    refine (T2.out _ HG.out).mono ?_
    rintro e w1 ⟨rfl, hg⟩
    replace HG := Lib.hid hg; clear hg
    go_wp2_with fail
    refine (L1.out _ HG.out).mono ?_
    rintro e w1 ⟨rfl, hg⟩
    replace HG := Lib.hid hg; clear hg
    go_wp2
    go_ret
    exact ⟨rfl, HG.out⟩
set_option maxHeartbeats 1000000 in
set_option maxRecDepth 100000 in
theorem ret_Compare2 {s t : ByteArray} (hs : s.size ≤ 400000) (ht : t.size ≤ 400000) : Ret w0 65 #[.string s, .string t] (vII (cmp2 s t)) := by
  have C1 := Lib.hid (ret_Checks (w0 := w0) hs ht)
  rcases both2_cases s t with h | ⟨a, b, rfl, rfl, ha, hb⟩
  · refine Ret.toII (cmp2_err h) ?_
    have hne : (both2 s t == 0) = false := beq_eq_false_iff_ne.2 h
    clear h hs ht
    generalize both2 s t = c at *
    intro w hg
    have HG := Lib.hid hg; clear hg
    go_enter Tryz.func65, Tryz.ntmps65
    go_wp2_with fail
    refine (C1.out _ HG.out).mono ?_
    rintro e w1 ⟨rfl, hg⟩
    replace HG := Lib.hid hg; clear hg
    go_wp2
    go_ret2
    exact ⟨rfl, HG.out⟩
  · have C2 := Lib.hid (ret_crossed (w0 := w0) ha hb)
    have C3 := Lib.hid (ret_OrderR (w0 := w0) ha.sh hb.sh (by omega) (by omega))
    rw [both2_RT ha hb] at C1
    have HF := cmp2_ok ha hb
    cases hx : crossL a b
    · rw [hx] at C2 HF
      refine Ret.toII HF ?_
      clear HF hx ha hb hs ht
      generalize RT a = s at *
      generalize RT b = t at *
      generalize cmpQ a b = c at *
      intro w hg
      have HG := Lib.hid hg; clear hg
      go_enter Tryz.func65, Tryz.ntmps65
      go_wp2_with fail
      refine (C1.out _ HG.out).mono ?_
      rintro e w1 ⟨rfl, hg⟩
      replace HG := Lib.hid hg; clear hg
      go_wp2_with fail
      refine (C2.out _ HG.out).mono ?_
      rintro e w1 ⟨rfl, hg⟩
      replace HG := Lib.hid hg; clear hg
      go_wp2_with fail
      refine (C3.out _ HG.out).mono ?_
      rintro e w1 ⟨rfl, hg⟩
      replace HG := Lib.hid hg; clear hg
      go_wp2
      go_ret2
      exact ⟨rfl, HG.out⟩
    · rw [hx] at C2 HF
      refine Ret.toII HF ?_
      clear HF hx ha hb hs ht C3
      generalize RT a = s at *
      generalize RT b = t at *
      intro w hg
      have HG := Lib.hid hg; clear hg
      go_enter Tryz.func65, Tryz.ntmps65
      go_wp2_with fail
      refine (C1.out _ HG.out).mono ?_
      rintro e w1 ⟨rfl, hg⟩
      replace HG := Lib.hid hg; clear hg
      go_wp2_with fail
      refine (C2.out _ HG.out).mono ?_
      rintro e w1 ⟨rfl, hg⟩
      replace HG := Lib.hid hg; clear hg
      go_wp2
      go_ret2
      exact ⟨rfl, HG.out⟩
set_option maxHeartbeats 1000000 in
set_option maxRecDepth 100000 in
theorem ret_summed {a b : Rat} (ha : InR a) (hb : InR b) : Ret w0 63 #[.string (RT a), .string (RT b)] (.int .i64 (if (crossL a b || lg (a.num * b.den + b.num * a.den) || lg ((a.den : Int) * b.den)) = true then 23 else 0)) := by
  have T1 := Lib.hid (ret_TopR (w0 := w0) ha.sh (by omega))
  have T2 := Lib.hid (ret_BottomR (w0 := w0) hb.sh (by omega))
  have T3 := Lib.hid (ret_TopR (w0 := w0) hb.sh (by omega))
  have T4 := Lib.hid (ret_BottomR (w0 := w0) ha.sh (by omega))
  have P1 := Lib.hid (ret_Product (w0 := w0) (sm_num ha.sh (by omega)) (sm_den hb.sh (by omega)) (by omega))
  have P2 := Lib.hid (ret_Product (w0 := w0) (sm_num hb.sh (by omega)) (sm_den ha.sh (by omega)) (by omega))
  have n1 := nd_mul ha.1 hb.sh.d (by omega) (by omega)
  have n2 := nd_mul hb.1 ha.sh.d (by omega) (by omega)
  have n3 := nd_add n1 n2 (by omega)
  have S := Lib.hid (ret_Sum (w0 := w0) (k := 4096 + 4096) (k' := 4096 + 4096) (a := a.num * b.den) (b := b.num * a.den) ⟨n1, by omega⟩ ⟨n2, by omega⟩ (by omega))
  have X := Lib.hid (ret_crossed (w0 := w0) ha hb)
  have D := Lib.hid (ret_DigitsI (w0 := w0) (k := 4096 + 4096 + 1) (a := a.num * b.den + b.num * a.den) ⟨n3, by omega⟩)
  have L := Lib.hid (ret_long (w0 := w0) (sm_den ha.sh (by omega)) (sm_den hb.sh (by omega)) (by omega))
  have hl : lg (a.num * b.den + b.num * a.den) = decide (4096 < Lib.nDigits (a.num * b.den + b.num * a.den).natAbs) := rfl
  rw [hl]
  clear hl n1 n2 ha hb
  generalize Lib.nDigits (a.num * b.den + b.num * a.den).natAbs = u at *
  generalize Tx (a.num * b.den + b.num * a.den) = x0 at *
  generalize Tx (a.num * b.den) = x1 at *
  generalize Tx (b.num * a.den) = x2 at *
  generalize lg ((a.den : Int) * b.den) = l2 at *
  generalize crossL a b = l1 at *
  generalize Tx a.num = x3 at *
  generalize Tx b.num = x4 at *
  generalize Tx (a.den : Int) = x5 at *
  generalize Tx (b.den : Int) = x6 at *
  generalize RT a = s at *
  generalize RT b = t at *
  cases l1
  · by_cases h : 4096 < u
    · rw [decide_eq_true h]
      simp only [Bool.false_or, Bool.true_or, if_true] at X ⊢
      intro w hg
      have HG := Lib.hid hg; clear hg
      go_enter Tryz.func63, Tryz.ntmps63
      go_wp2_with fail
      refine (T1.out _ HG.out).mono ?_
      rintro e w1 ⟨rfl, hg⟩
      replace HG := Lib.hid hg; clear hg
      go_wp2_with fail
      refine (T2.out _ HG.out).mono ?_
      rintro e w1 ⟨rfl, hg⟩
      replace HG := Lib.hid hg; clear hg
      go_wp2_with fail
      refine (P1.out _ HG.out).mono ?_
      rintro e w1 ⟨rfl, hg⟩
      replace HG := Lib.hid hg; clear hg
      go_wp2_with fail
      refine (T3.out _ HG.out).mono ?_
      rintro e w1 ⟨rfl, hg⟩
      replace HG := Lib.hid hg; clear hg
      go_wp2_with fail
      refine (T4.out _ HG.out).mono ?_
      rintro e w1 ⟨rfl, hg⟩
      replace HG := Lib.hid hg; clear hg
      go_wp2_with fail
      refine (P2.out _ HG.out).mono ?_
      rintro e w1 ⟨rfl, hg⟩
      replace HG := Lib.hid hg; clear hg
      go_wp2_with fail
      refine (S.out _ HG.out).mono ?_
      rintro e w1 ⟨rfl, hg⟩
      replace HG := Lib.hid hg; clear hg
      go_wp2_with fail
      refine (X.out _ HG.out).mono ?_
      rintro e w1 ⟨rfl, hg⟩
      replace HG := Lib.hid hg; clear hg
      go_wp2_with fail
      refine (D.out _ HG.out).mono ?_
      rintro e w1 ⟨rfl, hg⟩
      replace HG := Lib.hid hg; clear hg
      go_wp2
      go_ret
      exact ⟨rfl, HG.out⟩
    · rw [decide_eq_false h]
      have h' : u ≤ 4096 := by omega
      clear h
      cases l2
      · simp only [Bool.or_self, Bool.false_eq_true, if_false] at X ⊢
        intro w hg
        have HG := Lib.hid hg; clear hg
        go_enter Tryz.func63, Tryz.ntmps63
        go_wp2_with fail
        refine (T1.out _ HG.out).mono ?_
        rintro e w1 ⟨rfl, hg⟩
        replace HG := Lib.hid hg; clear hg
        go_wp2_with fail
        refine (T2.out _ HG.out).mono ?_
        rintro e w1 ⟨rfl, hg⟩
        replace HG := Lib.hid hg; clear hg
        go_wp2_with fail
        refine (P1.out _ HG.out).mono ?_
        rintro e w1 ⟨rfl, hg⟩
        replace HG := Lib.hid hg; clear hg
        go_wp2_with fail
        refine (T3.out _ HG.out).mono ?_
        rintro e w1 ⟨rfl, hg⟩
        replace HG := Lib.hid hg; clear hg
        go_wp2_with fail
        refine (T4.out _ HG.out).mono ?_
        rintro e w1 ⟨rfl, hg⟩
        replace HG := Lib.hid hg; clear hg
        go_wp2_with fail
        refine (P2.out _ HG.out).mono ?_
        rintro e w1 ⟨rfl, hg⟩
        replace HG := Lib.hid hg; clear hg
        go_wp2_with fail
        refine (S.out _ HG.out).mono ?_
        rintro e w1 ⟨rfl, hg⟩
        replace HG := Lib.hid hg; clear hg
        go_wp2_with fail
        refine (X.out _ HG.out).mono ?_
        rintro e w1 ⟨rfl, hg⟩
        replace HG := Lib.hid hg; clear hg
        go_wp2_with fail
        refine (D.out _ HG.out).mono ?_
        rintro e w1 ⟨rfl, hg⟩
        replace HG := Lib.hid hg; clear hg
        go_wp2_with fail
        refine (T4.out _ HG.out).mono ?_
        rintro e w1 ⟨rfl, hg⟩
        replace HG := Lib.hid hg; clear hg
        go_wp2_with fail
        refine (T2.out _ HG.out).mono ?_
        rintro e w1 ⟨rfl, hg⟩
        replace HG := Lib.hid hg; clear hg
        go_wp2_with fail
        refine (L.out _ HG.out).mono ?_
        rintro e w1 ⟨rfl, hg⟩
        replace HG := Lib.hid hg; clear hg
        go_wp2
        go_ret
        exact ⟨rfl, HG.out⟩
      · simp only [Bool.false_or, if_true, Bool.false_eq_true, if_false] at X ⊢
        intro w hg
        have HG := Lib.hid hg; clear hg
        go_enter Tryz.func63, Tryz.ntmps63
        go_wp2_with fail
        refine (T1.out _ HG.out).mono ?_
        rintro e w1 ⟨rfl, hg⟩
        replace HG := Lib.hid hg; clear hg
        go_wp2_with fail
        refine (T2.out _ HG.out).mono ?_
        rintro e w1 ⟨rfl, hg⟩
        replace HG := Lib.hid hg; clear hg
        go_wp2_with fail
        refine (P1.out _ HG.out).mono ?_
        rintro e w1 ⟨rfl, hg⟩
        replace HG := Lib.hid hg; clear hg
        go_wp2_with fail
        refine (T3.out _ HG.out).mono ?_
        rintro e w1 ⟨rfl, hg⟩
        replace HG := Lib.hid hg; clear hg
        go_wp2_with fail
        refine (T4.out _ HG.out).mono ?_
        rintro e w1 ⟨rfl, hg⟩
        replace HG := Lib.hid hg; clear hg
        go_wp2_with fail
        refine (P2.out _ HG.out).mono ?_
        rintro e w1 ⟨rfl, hg⟩
        replace HG := Lib.hid hg; clear hg
        go_wp2_with fail
        refine (S.out _ HG.out).mono ?_
        rintro e w1 ⟨rfl, hg⟩
        replace HG := Lib.hid hg; clear hg
        go_wp2_with fail
        refine (X.out _ HG.out).mono ?_
        rintro e w1 ⟨rfl, hg⟩
        replace HG := Lib.hid hg; clear hg
        go_wp2_with fail
        refine (D.out _ HG.out).mono ?_
        rintro e w1 ⟨rfl, hg⟩
        replace HG := Lib.hid hg; clear hg
        go_wp2_with fail
        refine (T4.out _ HG.out).mono ?_
        rintro e w1 ⟨rfl, hg⟩
        replace HG := Lib.hid hg; clear hg
        go_wp2_with fail
        refine (T2.out _ HG.out).mono ?_
        rintro e w1 ⟨rfl, hg⟩
        replace HG := Lib.hid hg; clear hg
        go_wp2_with fail
        refine (L.out _ HG.out).mono ?_
        rintro e w1 ⟨rfl, hg⟩
        replace HG := Lib.hid hg; clear hg
        go_wp2
        go_ret
        exact ⟨rfl, HG.out⟩
  · simp only [Bool.true_or, if_true] at X ⊢
    intro w hg
    have HG := Lib.hid hg; clear hg
    go_enter Tryz.func63, Tryz.ntmps63
    go_wp2_with fail
    refine (T1.out _ HG.out).mono ?_
    rintro e w1 ⟨rfl, hg⟩
    replace HG := Lib.hid hg; clear hg
    go_wp2_with fail
    refine (T2.out _ HG.out).mono ?_
    rintro e w1 ⟨rfl, hg⟩
    replace HG := Lib.hid hg; clear hg
    go_wp2_with fail
    refine (P1.out _ HG.out).mono ?_
    rintro e w1 ⟨rfl, hg⟩
    replace HG := Lib.hid hg; clear hg
    go_wp2_with fail
    refine (T3.out _ HG.out).mono ?_
    rintro e w1 ⟨rfl, hg⟩
    replace HG := Lib.hid hg; clear hg
    go_wp2_with fail
    refine (T4.out _ HG.out).mono ?_
    rintro e w1 ⟨rfl, hg⟩
    replace HG := Lib.hid hg; clear hg
    go_wp2_with fail
    refine (P2.out _ HG.out).mono ?_
    rintro e w1 ⟨rfl, hg⟩
    replace HG := Lib.hid hg; clear hg
    go_wp2_with fail
    refine (S.out _ HG.out).mono ?_
    rintro e w1 ⟨rfl, hg⟩
    replace HG := Lib.hid hg; clear hg
    go_wp2_with fail
    refine (X.out _ HG.out).mono ?_
    rintro e w1 ⟨rfl, hg⟩
    replace HG := Lib.hid hg; clear hg
    go_wp2
    go_ret
    exact ⟨rfl, HG.out⟩
set_option maxHeartbeats 1000000 in
set_option maxRecDepth 100000 in
theorem ret_Add2 {s t : ByteArray} (hs : s.size ≤ 400000) (ht : t.size ≤ 400000) : Ret w0 24 #[.string s, .string t] (vSI (op2 s t addR)) := by
  have C1 := Lib.hid (ret_Checks (w0 := w0) hs ht)
  rcases both2_cases s t with h | ⟨a, b, rfl, rfl, ha, hb⟩
  · refine Ret.toSI (op2_err h) ?_
    have hne : (both2 s t == 0) = false := beq_eq_false_iff_ne.2 h
    clear h hs ht
    generalize both2 s t = c at *
    intro w hg
    have HG := Lib.hid hg; clear hg
    go_enter Tryz.func24, Tryz.ntmps24
    go_wp2_with fail
    refine (C1.out _ HG.out).mono ?_
    rintro e w1 ⟨rfl, hg⟩
    replace HG := Lib.hid hg; clear hg
    go_wp2
    go_ret2
    exact ⟨rfl, HG.out⟩
  · have C2 := Lib.hid (ret_summed (w0 := w0) ha hb)
    have C3 := Lib.hid (ret_Plus (w0 := w0) ha.sh hb.sh (by omega) (by omega))
    rw [both2_RT ha hb] at C1
    have HF := op2_ok (f := addR) ha hb
    unfold addR at HF
    cases hx : (crossL a b || lg (a.num * b.den + b.num * a.den) || lg ((a.den : Int) * b.den))
    · rw [hx] at C2 HF
      refine Ret.toSI HF ?_
      clear HF hx ha hb hs ht
      generalize RT (a + b) = c at *
      generalize RT a = s at *
      generalize RT b = t at *
      intro w hg
      have HG := Lib.hid hg; clear hg
      go_enter Tryz.func24, Tryz.ntmps24
      go_wp2_with fail
      refine (C1.out _ HG.out).mono ?_
      rintro e w1 ⟨rfl, hg⟩
      replace HG := Lib.hid hg; clear hg
      go_wp2_with fail
      refine (C2.out _ HG.out).mono ?_
      rintro e w1 ⟨rfl, hg⟩
      replace HG := Lib.hid hg; clear hg
      go_wp2_with fail
      refine (C3.out _ HG.out).mono ?_
      rintro e w1 ⟨rfl, hg⟩
      replace HG := Lib.hid hg; clear hg
      go_wp2
      go_ret2
      exact ⟨rfl, HG.out⟩
    · rw [hx] at C2 HF
      refine Ret.toSI HF ?_
      clear HF hx ha hb hs ht C3
      generalize RT a = s at *
      generalize RT b = t at *
      intro w hg
      have HG := Lib.hid hg; clear hg
      go_enter Tryz.func24, Tryz.ntmps24
      go_wp2_with fail
      refine (C1.out _ HG.out).mono ?_
      rintro e w1 ⟨rfl, hg⟩
      replace HG := Lib.hid hg; clear hg
      go_wp2_with fail
      refine (C2.out _ HG.out).mono ?_
      rintro e w1 ⟨rfl, hg⟩
      replace HG := Lib.hid hg; clear hg
      go_wp2
      go_ret2
      exact ⟨rfl, HG.out⟩
set_option maxHeartbeats 1000000 in
set_option maxRecDepth 100000 in
theorem ret_Mul2 {s t : ByteArray} (hs : s.size ≤ 400000) (ht : t.size ≤ 400000) : Ret w0 22 #[.string s, .string t] (vSI (op2 s t mulR)) := by
  have C1 := Lib.hid (ret_Checks (w0 := w0) hs ht)
  rcases both2_cases s t with h | ⟨a, b, rfl, rfl, ha, hb⟩
  · refine Ret.toSI (op2_err h) ?_
    have hne : (both2 s t == 0) = false := beq_eq_false_iff_ne.2 h
    clear h hs ht
    generalize both2 s t = c at *
    intro w hg
    have HG := Lib.hid hg; clear hg
    go_enter Tryz.func22, Tryz.ntmps22
    go_wp2_with fail
    refine (C1.out _ HG.out).mono ?_
    rintro e w1 ⟨rfl, hg⟩
    replace HG := Lib.hid hg; clear hg
    go_wp2
    go_ret2
    exact ⟨rfl, HG.out⟩
  · have T1 := Lib.hid (ret_TopR (w0 := w0) ha.sh (by omega))
    have T2 := Lib.hid (ret_BottomR (w0 := w0) hb.sh (by omega))
    have T3 := Lib.hid (ret_TopR (w0 := w0) hb.sh (by omega))
    have T4 := Lib.hid (ret_BottomR (w0 := w0) ha.sh (by omega))
    have L1 := Lib.hid (ret_long (w0 := w0) (sm_num ha.sh (by omega)) (sm_num hb.sh (by omega)) (by omega))
    have L2 := Lib.hid (ret_long (w0 := w0) (sm_den ha.sh (by omega)) (sm_den hb.sh (by omega)) (by omega))
    have C3 := Lib.hid (ret_Times (w0 := w0) ha.sh hb.sh (by omega) (by omega))
    rw [both2_RT ha hb] at C1
    have HF := op2_ok (f := mulR) ha hb
    unfold mulR at HF
    generalize lg (a.num * b.num) = l1 at *
    generalize lg ((a.den : Int) * b.den) = l2 at *
    generalize Tx a.num = x3 at *
    generalize Tx b.num = x4 at *
    generalize Tx (a.den : Int) = x5 at *
    generalize Tx (b.den : Int) = x6 at *
    cases l1
    · cases l2
      · refine Ret.toSI HF ?_
        clear HF ha hb hs ht
        generalize RT (a * b) = c at *
        generalize RT a = s at *
        generalize RT b = t at *
        intro w hg
        have HG := Lib.hid hg; clear hg
        go_enter Tryz.func22, Tryz.ntmps22
        go_wp2_with fail
        refine (C1.out _ HG.out).mono ?_
        rintro e w1 ⟨rfl, hg⟩
        replace HG := Lib.hid hg; clear hg
        go_wp2_with fail
        refine (T1.out _ HG.out).mono ?_
        rintro e w1 ⟨rfl, hg⟩
        replace HG := Lib.hid hg; clear hg
        go_wp2_with fail
        refine (T3.out _ HG.out).mono ?_
        rintro e w1 ⟨rfl, hg⟩
        replace HG := Lib.hid hg; clear hg
        go_wp2_with fail
        refine (L1.out _ HG.out).mono ?_
        rintro e w1 ⟨rfl, hg⟩
        replace HG := Lib.hid hg; clear hg
        go_wp2_with fail
        refine (T4.out _ HG.out).mono ?_
        rintro e w1 ⟨rfl, hg⟩
        replace HG := Lib.hid hg; clear hg
        go_wp2_with fail
        refine (T2.out _ HG.out).mono ?_
        rintro e w1 ⟨rfl, hg⟩
        replace HG := Lib.hid hg; clear hg
        go_wp2_with fail
        refine (L2.out _ HG.out).mono ?_
        rintro e w1 ⟨rfl, hg⟩
        replace HG := Lib.hid hg; clear hg
        go_wp2_with fail
        refine (C3.out _ HG.out).mono ?_
        rintro e w1 ⟨rfl, hg⟩
        replace HG := Lib.hid hg; clear hg
        go_wp2
        go_ret2
        exact ⟨rfl, HG.out⟩
      · refine Ret.toSI HF ?_
        clear HF ha hb hs ht
        generalize RT (a * b) = c at *
        generalize RT a = s at *
        generalize RT b = t at *
        intro w hg
        have HG := Lib.hid hg; clear hg
        go_enter Tryz.func22, Tryz.ntmps22
        go_wp2_with fail
        refine (C1.out _ HG.out).mono ?_
        rintro e w1 ⟨rfl, hg⟩
        replace HG := Lib.hid hg; clear hg
        go_wp2_with fail
        refine (T1.out _ HG.out).mono ?_
        rintro e w1 ⟨rfl, hg⟩
        replace HG := Lib.hid hg; clear hg
        go_wp2_with fail
        refine (T3.out _ HG.out).mono ?_
        rintro e w1 ⟨rfl, hg⟩
        replace HG := Lib.hid hg; clear hg
        go_wp2_with fail
        refine (L1.out _ HG.out).mono ?_
        rintro e w1 ⟨rfl, hg⟩
        replace HG := Lib.hid hg; clear hg
        go_wp2_with fail
        refine (T4.out _ HG.out).mono ?_
        rintro e w1 ⟨rfl, hg⟩
        replace HG := Lib.hid hg; clear hg
        go_wp2_with fail
        refine (T2.out _ HG.out).mono ?_
        rintro e w1 ⟨rfl, hg⟩
        replace HG := Lib.hid hg; clear hg
        go_wp2_with fail
        refine (L2.out _ HG.out).mono ?_
        rintro e w1 ⟨rfl, hg⟩
        replace HG := Lib.hid hg; clear hg
        go_wp2
        go_ret2
        exact ⟨rfl, HG.out⟩
    · refine Ret.toSI HF ?_
      clear HF ha hb hs ht
      generalize RT (a * b) = c at *
      generalize RT a = s at *
      generalize RT b = t at *
      intro w hg
      have HG := Lib.hid hg; clear hg
      go_enter Tryz.func22, Tryz.ntmps22
      go_wp2_with fail
      refine (C1.out _ HG.out).mono ?_
      rintro e w1 ⟨rfl, hg⟩
      replace HG := Lib.hid hg; clear hg
      go_wp2_with fail
      refine (T1.out _ HG.out).mono ?_
      rintro e w1 ⟨rfl, hg⟩
      replace HG := Lib.hid hg; clear hg
      go_wp2_with fail
      refine (T3.out _ HG.out).mono ?_
      rintro e w1 ⟨rfl, hg⟩
      replace HG := Lib.hid hg; clear hg
      go_wp2_with fail
      refine (L1.out _ HG.out).mono ?_
      rintro e w1 ⟨rfl, hg⟩
      replace HG := Lib.hid hg; clear hg
      go_wp2
      go_ret2
      exact ⟨rfl, HG.out⟩
theorem least_cmp {a b : Rat} : (if b < a then RT b else RT a) = if cmpQ a b < 0 then RT a else RT b := by
  rcases cmpQ_cases a b with ⟨h, e, _⟩ | ⟨rfl, e, _⟩ | ⟨h, e, _⟩
  · rw [e, if_neg (by rw [Rat.not_lt]; exact Rat.le_of_lt h), if_pos (by omega)]
  · rw [e, if_neg Rat.lt_irrefl, if_neg (by omega)]
  · rw [e, if_pos h, if_neg (by omega)]
theorem most_cmp {a b : Rat} : (if a < b then RT b else RT a) = if 0 < cmpQ a b then RT a else RT b := by
  rcases cmpQ_cases a b with ⟨h, e, _⟩ | ⟨rfl, e, _⟩ | ⟨h, e, _⟩
  · rw [e, if_pos h, if_neg (by omega)]
  · rw [e, if_neg Rat.lt_irrefl, if_neg (by omega)]
  · rw [e, if_neg (by rw [Rat.not_lt]; exact Rat.le_of_lt h), if_pos (by omega)]
theorem cmp2_zero {s t : ByteArray} (h : (cmp2 s t).2 = 0) : ∃ a b : Rat, s = RT a ∧ t = RT b ∧ InR a ∧ InR b ∧ (cmp2 s t).1 = cmpQ a b := by
  rcases both2_cases s t with h1 | ⟨a, b, rfl, rfl, ha, hb⟩
  · rw [cmp2_err h1] at h; exact absurd h h1
  · refine ⟨a, b, rfl, rfl, ha, hb, ?_⟩
    rw [cmp2_ok ha hb] at h ⊢
    split at h
    · cases h
    · rename_i hx; rw [if_neg hx]
set_option maxHeartbeats 1000000 in
set_option maxRecDepth 100000 in
theorem ret_Few2 {s : ByteArray} (hs : s.size ≤ maxLen) : Ret w0 69 #[.string s] (.bool (decide (s.size ≤ 120))) := by
  unfold maxLen at hs
  intro w hg
  have HG := Lib.hid hg; clear hg
  go_enter Tryz.func69, Tryz.ntmps69
  go_wp2
  go_ret
  exact ⟨ret_bool (by rw [decide_eq_decide]; omega), HG.out⟩
end
end Go.Proofs.YtjoipfiomeocoabGreatDoor
