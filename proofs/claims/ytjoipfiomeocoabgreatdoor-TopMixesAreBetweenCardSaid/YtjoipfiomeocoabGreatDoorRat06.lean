/- The reference of rational numbers: arithmetic of right numbers. -/
import Derived.Test.YtjoipfiomeocoabGreatDoorRat05
set_option linter.unusedVariables false
set_option linter.unusedSimpArgs false
namespace Go.Proofs.YtjoipfiomeocoabGreatDoor
open Go.RowKit
open Z

theorem Ret.si {w0 : World} {f : FuncId} {args : Array Value} {p : ByteArray × Int} {x : ByteArray} {e : Int} (h : Ret w0 f args (vSI p)) (hp : p = (x, e)) : Ret w0 f args (.tuple #[.string x, .int .i64 e]) := by subst hp; exact h
theorem Ret.ii {w0 : World} {f : FuncId} {args : Array Value} {p : Int × Int} {x e : Int} (h : Ret w0 f args (vII p)) (hp : p = (x, e)) : Ret w0 f args (.tuple #[.int .i64 x, .int .i64 e]) := by subst hp; exact h
theorem Ret.toSI {w0 : World} {f : FuncId} {args : Array Value} {p : ByteArray × Int} {x : ByteArray} {e : Int} (hp : p = (x, e)) (h : Ret w0 f args (.tuple #[.string x, .int .i64 e])) : Ret w0 f args (vSI p) := by subst hp; exact h
theorem Ret.toII {w0 : World} {f : FuncId} {args : Array Value} {p : Int × Int} {x e : Int} (hp : p = (x, e)) (h : Ret w0 f args (.tuple #[.int .i64 x, .int .i64 e])) : Ret w0 f args (vII p) := by subst hp; exact h
section
variable {w0 : World}
theorem sm_gcd {k : Nat} {p q : Int} (hq : Sm k q) (h0 : q ≠ 0) : Sm k ((Nat.gcd p.natAbs q.natAbs : Nat) : Int) := by
  refine ⟨Nat.le_trans (nDigits_mono ?_) hq.1, hq.2⟩
  rw [Int.natAbs_natCast]; exact Nat.gcd_le_right _ (by omega)
set_option maxHeartbeats 1000000 in
set_option maxRecDepth 100000 in
theorem ret_Ratio {k : Nat} {p q : Int} (hp : Sm k p) (hq : Sm k q) (hk : k ≤ 400000) (h0 : q ≠ 0) : Ret w0 47 #[.string (Tx p), .string (Tx q)] (.string (RT (Rat.divInt p q))) := by
  have CG := Lib.hid (ret_Common (w0 := w0) hp hq (by omega))
  have CS := Lib.hid (ret_SignI (w0 := w0) hq)
  have sg := sm_gcd (p := p) hq h0
  have hgne := gs_ne (p := p) h0
  have hn := gs_num (p := p) h0
  have hd := gs_den (p := p) h0
  have sn : Sm k (Rat.divInt p q).num := hp.of_le (num_le h0)
  have sd : Sm k ((Rat.divInt p q).den : Int) := hq.of_le (by rw [Int.natAbs_natCast]; exact den_le h0)
  have ln := sn.len2
  have ld := sd.len2
  have is1 := Tx_is1 ((Rat.divInt p q).den : Int)
  by_cases h : q < 0
  · have hgs : gs p q = -((Nat.gcd p.natAbs q.natAbs : Nat) : Int) := by unfold gs; rw [if_pos h]
    rw [hgs] at hgne hn hd
    have CN := Lib.hid (ret_NegatedI (w0 := w0) sg)
    have C1 := Lib.hid (ret_FloorI (w0 := w0) hp sg.neg (by omega) hgne)
    have C2 := Lib.hid (ret_FloorI (w0 := w0) hq sg.neg (by omega) hgne)
    rw [hn] at C1
    rw [hd] at C2
    rw [Int.sign_eq_neg_one_of_neg h] at CS
    by_cases h1 : (Rat.divInt p q).den = 1
    · have HF := Lib.hid (RT_one h1)
      rw [h1] at C2
      rw [decide_eq_true (by omega), h1] at is1
      rw [HF.out]
      clear hgs hgne hn hd sn sd HF h h1 ld hp hq sg h0
      generalize Tx (-((Nat.gcd p.natAbs q.natAbs : Nat) : Int)) = g' at *
      generalize Tx ((Nat.gcd p.natAbs q.natAbs : Nat) : Int) = g at *
      generalize Tx (Rat.divInt p q).num = n at *
      generalize Tx p = ps at *
      generalize Tx q = qs at *
      generalize Tx ((1 : Nat) : Int) = d at *
      intro w hg
      have HG := Lib.hid hg; clear hg
      go_enter Tryz.func47, Tryz.ntmps47
      go_wp2_with fail
      refine (CG.out _ HG.out).mono ?_
      rintro e w1 ⟨rfl, hg⟩
      replace HG := Lib.hid hg; clear hg
      go_wp2_with fail
      refine (CS.out _ HG.out).mono ?_
      rintro e w1 ⟨rfl, hg⟩
      replace HG := Lib.hid hg; clear hg
      go_wp2_with fail
      refine (CN.out _ HG.out).mono ?_
      rintro e w1 ⟨rfl, hg⟩
      replace HG := Lib.hid hg; clear hg
      go_wp2_with fail
      refine (C1.out _ HG.out).mono ?_
      rintro e w1 ⟨rfl, hg⟩
      replace HG := Lib.hid hg; clear hg
      go_wp2_with fail
      refine (C2.out _ HG.out).mono ?_
      rintro e w1 ⟨rfl, hg⟩
      replace HG := Lib.hid hg; clear hg
      go_wp2
      go_ret
      exact ⟨rfl, HG.out⟩
    · have HF := Lib.hid (RT_many h1)
      rw [decide_eq_false (by omega)] at is1
      rw [HF.out]
      clear hgs hgne hn hd sn sd HF h h1 hp hq sg h0
      generalize Tx (-((Nat.gcd p.natAbs q.natAbs : Nat) : Int)) = g' at *
      generalize Tx ((Nat.gcd p.natAbs q.natAbs : Nat) : Int) = g at *
      generalize Tx (Rat.divInt p q).num = n at *
      generalize Tx ((Rat.divInt p q).den : Int) = d at *
      generalize Tx p = ps at *
      generalize Tx q = qs at *
      intro w hg
      have HG := Lib.hid hg; clear hg
      go_enter Tryz.func47, Tryz.ntmps47
      go_wp2_with fail
      refine (CG.out _ HG.out).mono ?_
      rintro e w1 ⟨rfl, hg⟩
      replace HG := Lib.hid hg; clear hg
      go_wp2_with fail
      refine (CS.out _ HG.out).mono ?_
      rintro e w1 ⟨rfl, hg⟩
      replace HG := Lib.hid hg; clear hg
      go_wp2_with fail
      refine (CN.out _ HG.out).mono ?_
      rintro e w1 ⟨rfl, hg⟩
      replace HG := Lib.hid hg; clear hg
      go_wp2_with fail
      refine (C1.out _ HG.out).mono ?_
      rintro e w1 ⟨rfl, hg⟩
      replace HG := Lib.hid hg; clear hg
      go_wp2_with fail
      refine (C2.out _ HG.out).mono ?_
      rintro e w1 ⟨rfl, hg⟩
      replace HG := Lib.hid hg; clear hg
      go_wp2
      go_ret
      exact ⟨rfl, HG.out⟩
  · have hgs : gs p q = ((Nat.gcd p.natAbs q.natAbs : Nat) : Int) := by unfold gs; rw [if_neg h]
    rw [hgs] at hgne hn hd
    have C1 := Lib.hid (ret_FloorI (w0 := w0) hp sg (by omega) hgne)
    have C2 := Lib.hid (ret_FloorI (w0 := w0) hq sg (by omega) hgne)
    rw [hn] at C1
    rw [hd] at C2
    rw [Int.sign_eq_one_of_pos (by omega)] at CS
    by_cases h1 : (Rat.divInt p q).den = 1
    · have HF := Lib.hid (RT_one h1)
      rw [h1] at C2
      rw [decide_eq_true (by omega), h1] at is1
      rw [HF.out]
      clear hgs hgne hn hd sn sd HF h h1 ld hp hq sg h0
      generalize Tx ((Nat.gcd p.natAbs q.natAbs : Nat) : Int) = g at *
      generalize Tx (Rat.divInt p q).num = n at *
      generalize Tx p = ps at *
      generalize Tx q = qs at *
      generalize Tx ((1 : Nat) : Int) = d at *
      intro w hg
      have HG := Lib.hid hg; clear hg
      go_enter Tryz.func47, Tryz.ntmps47
      go_wp2_with fail
      refine (CG.out _ HG.out).mono ?_
      rintro e w1 ⟨rfl, hg⟩
      replace HG := Lib.hid hg; clear hg
      go_wp2_with fail
      refine (CS.out _ HG.out).mono ?_
      rintro e w1 ⟨rfl, hg⟩
      replace HG := Lib.hid hg; clear hg
      go_wp2_with fail
      refine (C1.out _ HG.out).mono ?_
      rintro e w1 ⟨rfl, hg⟩
      replace HG := Lib.hid hg; clear hg
      go_wp2_with fail
      refine (C2.out _ HG.out).mono ?_
      rintro e w1 ⟨rfl, hg⟩
      replace HG := Lib.hid hg; clear hg
      go_wp2
      go_ret
      exact ⟨rfl, HG.out⟩
    · have HF := Lib.hid (RT_many h1)
      rw [decide_eq_false (by omega)] at is1
      rw [HF.out]
      clear hgs hgne hn hd sn sd HF h h1 hp hq sg h0
      generalize Tx ((Nat.gcd p.natAbs q.natAbs : Nat) : Int) = g at *
      generalize Tx (Rat.divInt p q).num = n at *
      generalize Tx ((Rat.divInt p q).den : Int) = d at *
      generalize Tx p = ps at *
      generalize Tx q = qs at *
      intro w hg
      have HG := Lib.hid hg; clear hg
      go_enter Tryz.func47, Tryz.ntmps47
      go_wp2_with fail
      refine (CG.out _ HG.out).mono ?_
      rintro e w1 ⟨rfl, hg⟩
      replace HG := Lib.hid hg; clear hg
      go_wp2_with fail
      refine (CS.out _ HG.out).mono ?_
      rintro e w1 ⟨rfl, hg⟩
      replace HG := Lib.hid hg; clear hg
      go_wp2_with fail
      refine (C1.out _ HG.out).mono ?_
      rintro e w1 ⟨rfl, hg⟩
      replace HG := Lib.hid hg; clear hg
      go_wp2_with fail
      refine (C2.out _ HG.out).mono ?_
      rintro e w1 ⟨rfl, hg⟩
      replace HG := Lib.hid hg; clear hg
      go_wp2
      go_ret
      exact ⟨rfl, HG.out⟩
set_option maxHeartbeats 1000000 in
set_option maxRecDepth 100000 in
theorem ret_Of2 {s t : ByteArray} (hs : s.size ≤ maxLen) (ht : t.size ≤ maxLen) : Ret w0 13 #[.string s, .string t] (vSI (ofR s t)) := by
  have C1 := Lib.hid (ret_CheckI (w0 := w0) hs)
  have C2 := Lib.hid (ret_CheckI (w0 := w0) ht)
  by_cases h1 : chk s.data.toList = 0
  · by_cases h2 : chk t.data.toList = 0
    · have hb : both s t = 0 := by unfold both; rw [if_pos h1, h2]
      obtain ⟨f1, l1⟩ := chk_zeroF h1
      obtain ⟨f2, l2⟩ := chk_zeroF h2
      have s1 : Sm 4096 (ival s.data.toList) := ⟨by rw [← body_nd f1]; exact l1, by omega⟩
      have s2 : Sm 4096 (ival t.data.toList) := ⟨by rw [← body_nd f2]; exact l2, by omega⟩
      have e1 := Tx_ival s f1
      have e2 := Tx_ival t f2
      have is0 := Tx_is0 (ival t.data.toList)
      rw [h1] at C1
      rw [h2] at C2
      by_cases h0 : ival t.data.toList = 0
      · refine Ret.toSI (x := ⟨#[]⟩) (e := 15) (by unfold ofR; rw [if_pos hb, if_pos h0]) ?_
        rw [decide_eq_true h0, e2] at is0
        clear hb f1 l1 f2 l2 s1 s2 e1 e2 h0 h1 h2 hs ht
        intro w hg
        have HG := Lib.hid hg; clear hg
        go_enter Tryz.func13, Tryz.ntmps13
        go_wp2_with fail
        refine (C1.out _ HG.out).mono ?_
        rintro e w1 ⟨rfl, hg⟩
        replace HG := Lib.hid hg; clear hg
        go_wp2_with fail
        refine (C2.out _ HG.out).mono ?_
        rintro e w1 ⟨rfl, hg⟩
        replace HG := Lib.hid hg; clear hg
        go_wp2
        go_ret2
        exact ⟨rfl, HG.out⟩
      · have C3 := Lib.hid (ret_Ratio (w0 := w0) s1 s2 (by omega) h0)
        have HF : ofR s t = (RT (Rat.divInt (ival s.data.toList) (ival t.data.toList)), 0) := by unfold ofR; rw [if_pos hb, if_neg h0]
        refine Ret.toSI HF ?_
        rw [decide_eq_false h0, e2] at is0
        rw [e1, e2] at C3
        clear hb f1 l1 f2 l2 s1 s2 e1 e2 h0 h1 h2 hs ht HF
        generalize RT (Rat.divInt (ival s.data.toList) (ival t.data.toList)) = r at *
        intro w hg
        have HG := Lib.hid hg; clear hg
        go_enter Tryz.func13, Tryz.ntmps13
        go_wp2_with fail
        refine (C1.out _ HG.out).mono ?_
        rintro e w1 ⟨rfl, hg⟩
        replace HG := Lib.hid hg; clear hg
        go_wp2_with fail
        refine (C2.out _ HG.out).mono ?_
        rintro e w1 ⟨rfl, hg⟩
        replace HG := Lib.hid hg; clear hg
        go_wp2_with fail
        refine (C3.out _ HG.out).mono ?_
        rintro e w1 ⟨rfl, hg⟩
        replace HG := Lib.hid hg; clear hg
        go_wp2
        go_ret2
        exact ⟨rfl, HG.out⟩
    · have hb : both s t = chk t.data.toList := by unfold both; rw [if_pos h1]
      refine Ret.toSI (x := ⟨#[]⟩) (e := chk t.data.toList) (by unfold ofR; rw [hb, if_neg h2]) ?_
      rw [h1] at C1
      have hne : (chk t.data.toList == 0) = false := beq_eq_false_iff_ne.2 h2
      clear h1 h2 hb hs ht
      generalize chk t.data.toList = c at *
      intro w hg
      have HG := Lib.hid hg; clear hg
      go_enter Tryz.func13, Tryz.ntmps13
      go_wp2_with fail
      refine (C1.out _ HG.out).mono ?_
      rintro e w1 ⟨rfl, hg⟩
      replace HG := Lib.hid hg; clear hg
      go_wp2_with fail
      refine (C2.out _ HG.out).mono ?_
      rintro e w1 ⟨rfl, hg⟩
      replace HG := Lib.hid hg; clear hg
      go_wp2
      go_ret2
      exact ⟨rfl, HG.out⟩
  · have hb : both s t = chk s.data.toList := by unfold both; rw [if_neg h1]
    refine Ret.toSI (x := ⟨#[]⟩) (e := chk s.data.toList) (by unfold ofR; rw [hb, if_neg h1]) ?_
    have hne : (chk s.data.toList == 0) = false := beq_eq_false_iff_ne.2 h1
    clear h1 hb hs ht C2
    generalize chk s.data.toList = c at *
    intro w hg
    have HG := Lib.hid hg; clear hg
    go_enter Tryz.func13, Tryz.ntmps13
    go_wp2_with fail
    refine (C1.out _ HG.out).mono ?_
    rintro e w1 ⟨rfl, hg⟩
    replace HG := Lib.hid hg; clear hg
    go_wp2
    go_ret2
    exact ⟨rfl, HG.out⟩
theorem sm_int {n : Int} (h1 : -9223372036854775808 ≤ n) (h2 : n ≤ 9223372036854775807) : Sm 4096 n := by
  refine ⟨?_, by omega⟩
  have : Lib.nDigits n.natAbs ≤ 19 := (nDigits_le_iff _ 19 (by omega)).2 (by omega)
  omega
set_option maxHeartbeats 1000000 in
set_option maxRecDepth 100000 in
theorem ret_Whole2 {n : Int} (h1 : -9223372036854775808 ≤ n) (h2 : n ≤ 9223372036854775807) : Ret w0 17 #[.int .i64 n] (.string (Tx n)) := by
  have C1 := Lib.hid (ret_WholeI (w0 := w0) h1 h2)
  generalize Tx n = s at *
  intro w hg
  have HG := Lib.hid hg; clear hg
  go_enter Tryz.func17, Tryz.ntmps17
  go_wp2_with fail
  refine (C1.out _ HG.out).mono ?_
  rintro e w1 ⟨rfl, hg⟩
  replace HG := Lib.hid hg; clear hg
  go_wp2
  go_ret
  exact ⟨rfl, HG.out⟩
set_option maxHeartbeats 1000000 in
set_option maxRecDepth 100000 in
theorem ret_Over {n d : Int} (h1 : -9223372036854775808 ≤ n) (h2 : n ≤ 9223372036854775807) (h3 : -9223372036854775808 ≤ d) (h4 : d ≤ 9223372036854775807) (h0 : d ≠ 0) : Ret w0 35 #[.int .i64 n, .int .i64 d] (.string (RT (Rat.divInt n d))) := by
  have C1 := Lib.hid (ret_WholeI (w0 := w0) h1 h2)
  have C2 := Lib.hid (ret_WholeI (w0 := w0) h3 h4)
  have C3 := Lib.hid (ret_Ratio (w0 := w0) (sm_int h1 h2) (sm_int h3 h4) (by omega) h0)
  generalize RT (Rat.divInt n d) = r at *
  generalize Tx n = s at *
  generalize Tx d = t at *
  intro w hg
  have HG := Lib.hid hg; clear hg
  go_enter Tryz.func35, Tryz.ntmps35
  go_wp2_with fail
  refine (C1.out _ HG.out).mono ?_
  rintro e w1 ⟨rfl, hg⟩
  replace HG := Lib.hid hg; clear hg
  go_wp2_with fail
  refine (C2.out _ HG.out).mono ?_
  rintro e w1 ⟨rfl, hg⟩
  replace HG := Lib.hid hg; clear hg
  go_wp2_with fail
  refine (C3.out _ HG.out).mono ?_
  rintro e w1 ⟨rfl, hg⟩
  replace HG := Lib.hid hg; clear hg
  go_wp2
  go_ret
  exact ⟨rfl, HG.out⟩
set_option maxHeartbeats 1000000 in
set_option maxRecDepth 100000 in
theorem ret_Part2 {n d : Int} (h1 : -9223372036854775808 ≤ n) (h2 : n ≤ 9223372036854775807) (h3 : -9223372036854775808 ≤ d) (h4 : d ≤ 9223372036854775807) : Ret w0 15 #[.int .i64 n, .int .i64 d] (vSI (partR n d)) := by
  by_cases h0 : d = 0
  · refine Ret.toSI (x := ⟨#[]⟩) (e := 15) (by unfold partR; rw [if_pos h0]) ?_
    subst h0
    intro w hg
    have HG := Lib.hid hg; clear hg
    go_enter Tryz.func15, Tryz.ntmps15
    go_wp2
    go_ret2
    exact ⟨rfl, HG.out⟩
  · have C1 := Lib.hid (ret_Over (w0 := w0) h1 h2 h3 h4 h0)
    refine Ret.toSI (x := RT (Rat.divInt n d)) (e := 0) (by unfold partR; rw [if_neg h0]) ?_
    generalize RT (Rat.divInt n d) = r at *
    have hne : (d == 0) = false := beq_eq_false_iff_ne.2 h0
    clear h0
    intro w hg
    have HG := Lib.hid hg; clear hg
    go_enter Tryz.func15, Tryz.ntmps15
    go_wp2_with fail
    refine (C1.out _ HG.out).mono ?_
    rintro e w1 ⟨rfl, hg⟩
    replace HG := Lib.hid hg; clear hg
    go_wp2
    go_ret2
    exact ⟨rfl, HG.out⟩
set_option maxHeartbeats 1000000 in
set_option maxRecDepth 100000 in
theorem ret_OrderR {k k' : Nat} {a b : Rat} (ha : Sh k a) (hb : Sh k' b) (hk : k ≤ 100000) (hk' : k' ≤ 100000) : Ret w0 27 #[.string (RT a), .string (RT b)] (.int .i64 (cmpQ a b)) := by
  have T1 := Lib.hid (ret_TopR (w0 := w0) ha hk)
  have T2 := Lib.hid (ret_BottomR (w0 := w0) hb hk')
  have P1 := Lib.hid (ret_Product (w0 := w0) (sm_num ha (by omega)) (sm_den hb (by omega)) (by omega))
  have T3 := Lib.hid (ret_TopR (w0 := w0) hb hk')
  have T4 := Lib.hid (ret_BottomR (w0 := w0) ha hk)
  have P2 := Lib.hid (ret_Product (w0 := w0) (sm_num hb (by omega)) (sm_den ha (by omega)) (by omega))
  have O := Lib.hid (ret_Order1 (w0 := w0) (k := k + k') (k' := k + k') (a := a.num * b.den) (b := b.num * a.den) ⟨nd_mul ha.1 hb.d ha.pos hb.pos, by omega⟩ ⟨by rw [Nat.add_comm]; exact nd_mul hb.1 ha.d hb.pos ha.pos, by omega⟩)
  rw [cmpQ_parts] at O
  clear ha hb hk hk'
  generalize cmpQ a b = c at *
  generalize Tx (a.num * b.den) = x1 at *
  generalize Tx (b.num * a.den) = x2 at *
  generalize Tx a.num = x3 at *
  generalize Tx b.num = x4 at *
  generalize Tx (a.den : Int) = x5 at *
  generalize Tx (b.den : Int) = x6 at *
  generalize RT a = s at *
  generalize RT b = t at *
  intro w hg
  have HG := Lib.hid hg; clear hg
  go_enter Tryz.func27, Tryz.ntmps27
  go_wp2_with fail
  refine (T1.out _ HG.out).mono ?_
  rintro e w1 ⟨rfl, hg⟩
  replace HG := Lib.hid hg; clear hg
  go_wp2_with fail
  refine (T2.out _ HG.out).mono ?_
  rintro e w1 ⟨rfl, hg⟩
  replace HG := Lib.hid hg; clear hg
  go_wp2_with fail
  refine (P1.out _ HG.out).mono ?_
  rintro e w1 ⟨rfl, hg⟩
  replace HG := Lib.hid hg; clear hg
  go_wp2_with fail
  refine (T3.out _ HG.out).mono ?_
  rintro e w1 ⟨rfl, hg⟩
  replace HG := Lib.hid hg; clear hg
  go_wp2_with fail
  refine (T4.out _ HG.out).mono ?_
  rintro e w1 ⟨rfl, hg⟩
  replace HG := Lib.hid hg; clear hg
  go_wp2_with fail
  refine (P2.out _ HG.out).mono ?_
  rintro e w1 ⟨rfl, hg⟩
  replace HG := Lib.hid hg; clear hg
  go_wp2_with fail
  refine (O.out _ HG.out).mono ?_
  rintro e w1 ⟨rfl, hg⟩
  replace HG := Lib.hid hg; clear hg
  go_wp2
  go_ret
  exact ⟨rfl, HG.out⟩
set_option maxHeartbeats 1000000 in
set_option maxRecDepth 100000 in
theorem ret_Plus {k k' : Nat} {a b : Rat} (ha : Sh k a) (hb : Sh k' b) (hk : k ≤ 100000) (hk' : k' ≤ 100000) : Ret w0 64 #[.string (RT a), .string (RT b)] (.string (RT (a + b))) := by
  have T1 := Lib.hid (ret_TopR (w0 := w0) ha hk)
  have T2 := Lib.hid (ret_BottomR (w0 := w0) hb hk')
  have P1 := Lib.hid (ret_Product (w0 := w0) (sm_num ha (by omega)) (sm_den hb (by omega)) (by omega))
  have T3 := Lib.hid (ret_TopR (w0 := w0) hb hk')
  have T4 := Lib.hid (ret_BottomR (w0 := w0) ha hk)
  have P2 := Lib.hid (ret_Product (w0 := w0) (sm_num hb (by omega)) (sm_den ha (by omega)) (by omega))
  have n1 := nd_mul ha.1 hb.d ha.pos hb.pos
  have n2 : Lib.nDigits (b.num * a.den).natAbs ≤ k + k' := by rw [Nat.add_comm]; exact nd_mul hb.1 ha.d hb.pos ha.pos
  have n3 := nd_mul ha.d hb.d ha.pos hb.pos
  have S := Lib.hid (ret_Sum (w0 := w0) (k := k + k') (k' := k + k') (a := a.num * b.den) (b := b.num * a.den) ⟨n1, by omega⟩ ⟨n2, by omega⟩ (by rw [Nat.max_self]; omega))
  have P3 := Lib.hid (ret_Product (w0 := w0) (sm_den ha (by omega)) (sm_den hb (by omega)) (by omega))
  have R := Lib.hid (ret_Ratio (w0 := w0) (k := k + k' + 1) (p := a.num * b.den + b.num * a.den) (q := (a.den : Int) * b.den) ⟨nd_add n1 n2 (by have := ha.pos; omega), by omega⟩ ⟨by omega, by omega⟩ (by omega) (dens_ne a b))
  rw [← add_parts] at R
  clear ha hb hk hk' n1 n2 n3
  generalize RT (a + b) = c at *
  generalize Tx (a.num * b.den + b.num * a.den) = x0 at *
  generalize Tx (a.num * b.den) = x1 at *
  generalize Tx (b.num * a.den) = x2 at *
  generalize Tx ((a.den : Int) * b.den) = x7 at *
  generalize Tx a.num = x3 at *
  generalize Tx b.num = x4 at *
  generalize Tx (a.den : Int) = x5 at *
  generalize Tx (b.den : Int) = x6 at *
  generalize RT a = s at *
  generalize RT b = t at *
  intro w hg
  have HG := Lib.hid hg; clear hg
  go_enter Tryz.func64, Tryz.ntmps64
  go_wp2_with fail
  refine (T1.out _ HG.out).mono ?_
  rintro e w1 ⟨rfl, hg⟩
  replace HG := Lib.hid hg; clear hg
  go_wp2_with fail
  refine (T2.out _ HG.out).mono ?_
  rintro e w1 ⟨rfl, hg⟩
  replace HG := Lib.hid hg; clear hg
  go_wp2_with fail
  refine (P1.out _ HG.out).mono ?_
  rintro e w1 ⟨rfl, hg⟩
  replace HG := Lib.hid hg; clear hg
  go_wp2_with fail
  refine (T3.out _ HG.out).mono ?_
  rintro e w1 ⟨rfl, hg⟩
  replace HG := Lib.hid hg; clear hg
  go_wp2_with fail
  refine (T4.out _ HG.out).mono ?_
  rintro e w1 ⟨rfl, hg⟩
  replace HG := Lib.hid hg; clear hg
  go_wp2_with fail
  refine (P2.out _ HG.out).mono ?_
  rintro e w1 ⟨rfl, hg⟩
  replace HG := Lib.hid hg; clear hg
  go_wp2_with fail
  refine (S.out _ HG.out).mono ?_
  rintro e w1 ⟨rfl, hg⟩
  replace HG := Lib.hid hg; clear hg
  go_wp2_with fail
  refine (T4.out _ HG.out).mono ?_
  rintro e w1 ⟨rfl, hg⟩
  replace HG := Lib.hid hg; clear hg
  go_wp2_with fail
  refine (T2.out _ HG.out).mono ?_
  rintro e w1 ⟨rfl, hg⟩
  replace HG := Lib.hid hg; clear hg
  go_wp2_with fail
  refine (P3.out _ HG.out).mono ?_
  rintro e w1 ⟨rfl, hg⟩
  replace HG := Lib.hid hg; clear hg
  go_wp2_with fail
  refine (R.out _ HG.out).mono ?_
  rintro e w1 ⟨rfl, hg⟩
  replace HG := Lib.hid hg; clear hg
  go_wp2
  go_ret
  exact ⟨rfl, HG.out⟩
set_option maxHeartbeats 1000000 in
set_option maxRecDepth 100000 in
theorem ret_Times {k k' : Nat} {a b : Rat} (ha : Sh k a) (hb : Sh k' b) (hk : k ≤ 100000) (hk' : k' ≤ 100000) : Ret w0 62 #[.string (RT a), .string (RT b)] (.string (RT (a * b))) := by
  have T1 := Lib.hid (ret_TopR (w0 := w0) ha hk)
  have T2 := Lib.hid (ret_BottomR (w0 := w0) hb hk')
  have P1 := Lib.hid (ret_Product (w0 := w0) (sm_num ha (by omega)) (sm_num hb (by omega)) (by omega))
  have T3 := Lib.hid (ret_TopR (w0 := w0) hb hk')
  have T4 := Lib.hid (ret_BottomR (w0 := w0) ha hk)
  have n1 := nd_mul ha.1 hb.1 ha.pos hb.pos
  have n3 := nd_mul ha.d hb.d ha.pos hb.pos
  have P3 := Lib.hid (ret_Product (w0 := w0) (sm_den ha (by omega)) (sm_den hb (by omega)) (by omega))
  have R := Lib.hid (ret_Ratio (w0 := w0) (k := k + k') (p := a.num * b.num) (q := (a.den : Int) * b.den) ⟨n1, by omega⟩ ⟨n3, by omega⟩ (by omega) (dens_ne a b))
  rw [← mul_parts] at R
  clear ha hb hk hk' n1 n3
  generalize RT (a * b) = c at *
  generalize Tx (a.num * b.num) = x1 at *
  generalize Tx ((a.den : Int) * b.den) = x7 at *
  generalize Tx a.num = x3 at *
  generalize Tx b.num = x4 at *
  generalize Tx (a.den : Int) = x5 at *
  generalize Tx (b.den : Int) = x6 at *
  generalize RT a = s at *
  generalize RT b = t at *
  intro w hg
  have HG := Lib.hid hg; clear hg
  go_enter Tryz.func62, Tryz.ntmps62
  go_wp2_with fail
  refine (T1.out _ HG.out).mono ?_
  rintro e w1 ⟨rfl, hg⟩
  replace HG := Lib.hid hg; clear hg
  go_wp2_with fail
  refine (T3.out _ HG.out).mono ?_
  rintro e w1 ⟨rfl, hg⟩
  replace HG := Lib.hid hg; clear hg
  go_wp2_with fail
  refine (P1.out _ HG.out).mono ?_
  rintro e w1 ⟨rfl, hg⟩
  replace HG := Lib.hid hg; clear hg
  go_wp2_with fail
  refine (T4.out _ HG.out).mono ?_
  rintro e w1 ⟨rfl, hg⟩
  replace HG := Lib.hid hg; clear hg
  go_wp2_with fail
  refine (T2.out _ HG.out).mono ?_
  rintro e w1 ⟨rfl, hg⟩
  replace HG := Lib.hid hg; clear hg
  go_wp2_with fail
  refine (P3.out _ HG.out).mono ?_
  rintro e w1 ⟨rfl, hg⟩
  replace HG := Lib.hid hg; clear hg
  go_wp2_with fail
  refine (R.out _ HG.out).mono ?_
  rintro e w1 ⟨rfl, hg⟩
  replace HG := Lib.hid hg; clear hg
  go_wp2
  go_ret
  exact ⟨rfl, HG.out⟩
theorem half_RT : RT (1/2) = ⟨#[49, 47, 50]⟩ := by
  have h := RT_rv (s := ⟨#[49, 47, 50]⟩) (by decide +kernel)
  rw [show rv ⟨#[49, 47, 50]⟩ = 1/2 by decide +kernel] at h
  exact h
theorem half_sh : Sh 1 (1/2) := by
  refine ⟨?_, ?_⟩
  · rw [half_num.1]; exact Nat.le_of_eq (Lib.nDigits_small (by decide))
  · rw [half_num.2]; exact Nat.le_of_eq (Lib.nDigits_small (by decide))
set_option maxHeartbeats 1000000 in
set_option maxRecDepth 100000 in
theorem ret_Least {k k' : Nat} {a b : Rat} (ha : Sh k a) (hb : Sh k' b) (hk : k ≤ 100000) (hk' : k' ≤ 100000) : Ret w0 37 #[.string (RT a), .string (RT b)] (.string (if b < a then RT b else RT a)) := by
  have O := Lib.hid (ret_OrderR (w0 := w0) hb ha hk' hk)
  by_cases h : b < a
  · rw [if_pos h]
    rw [cmpQ_lt h] at O
    clear h
    generalize RT a = s at *
    generalize RT b = t at *
    intro w hg
    have HG := Lib.hid hg; clear hg
    go_enter Tryz.func37, Tryz.ntmps37
    go_wp2_with fail
    refine (O.out _ HG.out).mono ?_
    rintro e w1 ⟨rfl, hg⟩
    replace HG := Lib.hid hg; clear hg
    go_wp2
    go_ret
    exact ⟨rfl, HG.out⟩
  · rw [if_neg h]
    have hc : ¬ cmpQ b a < 0 := by rcases cmpQ_cases b a with ⟨h', _, _⟩ | ⟨_, e, _⟩ | ⟨_, e, _⟩ <;> first | exact absurd h' h | (rw [e]; omega)
    clear h
    generalize cmpQ b a = c at *
    generalize RT a = s at *
    generalize RT b = t at *
    intro w hg
    have HG := Lib.hid hg; clear hg
    go_enter Tryz.func37, Tryz.ntmps37
    go_wp2_with fail
    refine (O.out _ HG.out).mono ?_
    rintro e w1 ⟨rfl, hg⟩
    replace HG := Lib.hid hg; clear hg
    go_wp2
    go_ret
    exact ⟨rfl, HG.out⟩
set_option maxHeartbeats 1000000 in
set_option maxRecDepth 100000 in
theorem ret_Most {k k' : Nat} {a b : Rat} (ha : Sh k a) (hb : Sh k' b) (hk : k ≤ 100000) (hk' : k' ≤ 100000) : Ret w0 38 #[.string (RT a), .string (RT b)] (.string (if a < b then RT b else RT a)) := by
  have O := Lib.hid (ret_OrderR (w0 := w0) hb ha hk' hk)
  by_cases h : a < b
  · rw [if_pos h]
    rw [cmpQ_gt h] at O
    clear h
    generalize RT a = s at *
    generalize RT b = t at *
    intro w hg
    have HG := Lib.hid hg; clear hg
    go_enter Tryz.func38, Tryz.ntmps38
    go_wp2_with fail
    refine (O.out _ HG.out).mono ?_
    rintro e w1 ⟨rfl, hg⟩
    replace HG := Lib.hid hg; clear hg
    go_wp2
    go_ret
    exact ⟨rfl, HG.out⟩
  · rw [if_neg h]
    have hc : ¬ 0 < cmpQ b a := by rcases cmpQ_cases b a with ⟨_, e, _⟩ | ⟨_, e, _⟩ | ⟨h', _, _⟩ <;> first | exact absurd h' h | (rw [e]; omega)
    clear h
    generalize cmpQ b a = c at *
    generalize RT a = s at *
    generalize RT b = t at *
    intro w hg
    have HG := Lib.hid hg; clear hg
    go_enter Tryz.func38, Tryz.ntmps38
    go_wp2_with fail
    refine (O.out _ HG.out).mono ?_
    rintro e w1 ⟨rfl, hg⟩
    replace HG := Lib.hid hg; clear hg
    go_wp2
    go_ret
    exact ⟨rfl, HG.out⟩
set_option maxHeartbeats 1000000 in
set_option maxRecDepth 100000 in
theorem ret_long {x y : Int} {k k' : Nat} (hx : Sm k x) (hy : Sm k' y) (hk : k + k' ≤ 900000) : Ret w0 61 #[.string (Tx x), .string (Tx y)] (.bool (lg (x * y))) := by
  have P := Lib.hid (ret_Product (w0 := w0) hx hy hk)
  have D := Lib.hid (ret_DigitsI (w0 := w0) (k := k + k' + 2) (a := x * y) ⟨by
    have := nd_mul (k := k + 1) (k' := k' + 1) (x := x) (y := y) (by have := hx.1; omega) (by have := hy.1; omega) (by omega) (by omega); omega, by omega⟩)
  have hl : lg (x * y) = decide (4096 < Lib.nDigits (x * y).natAbs) := rfl
  rw [hl]
  have hn := Lib.nDigits_pos (x * y).natAbs
  have hle : Lib.nDigits (x * y).natAbs ≤ 1000000 := by
    have := nd_mul (k := k + 1) (k' := k' + 1) (x := x) (y := y) (by have := hx.1; omega) (by have := hy.1; omega) (by omega) (by omega); omega
  clear hl hx hy hk
  generalize Lib.nDigits (x * y).natAbs = u at *
  generalize Tx (x * y) = x1 at *
  generalize Tx x = s at *
  generalize Tx y = t at *
  intro w hg
  have HG := Lib.hid hg; clear hg
  go_enter Tryz.func61, Tryz.ntmps61
  go_wp2_with fail
  refine (P.out _ HG.out).mono ?_
  rintro e w1 ⟨rfl, hg⟩
  replace HG := Lib.hid hg; clear hg
  go_wp2_with fail
  refine (D.out _ HG.out).mono ?_
  rintro e w1 ⟨rfl, hg⟩
  replace HG := Lib.hid hg; clear hg
  go_wp2
  go_ret
  exact ⟨ret_bool (by rw [decide_eq_decide]; omega), HG.out⟩
end
end Go.Proofs.YtjoipfiomeocoabGreatDoor
