/- Laws of layer 2: RatioField. -/
import Derived.Test.YtjoipfiomeocoabGreatDoorLaw02b
import Derived.Test.YtjoipfiomeocoabGreatDoorLaw02p
set_option linter.unusedVariables false
set_option linter.unusedSimpArgs false
namespace Go.Proofs.YtjoipfiomeocoabGreatDoor
open Go.RowKit Go.Shelf
open Z

section
variable {w0 : World} (htab : Tab w0) (hmx : Mx w0)
include htab hmx
set_option maxHeartbeats 4000000 in
set_option maxRecDepth 100000 in
theorem l2_RatioField {s t u : ByteArray} (hs : s.size ≤ maxLen) (ht : t.size ≤ maxLen) (hu : u.size ≤ maxLen) : Ret w0 6 #[.string s, .string t, .string u] (.bool true) := by
  have AW := Lib.hid (l2_awake htab hmx)
  have HR := Lib.hid (fun w' ty hg => short_new3 s t u w0 w' ty hg hs ht hu)
  cases hr : (shortB s && shortB t && shortB u)
  · rw [hr] at HR
    clear hr hs ht hu htab hmx
    intro w hg
    have HG := Lib.hid hg; clear hg
    go_enter Tryz.func6, Tryz.ntmps6
    go_wp2_with fail
    refine (HR.out _ _ HG.out).mono ?_
    rintro e w1 ⟨rfl, hg⟩
    replace HG := Lib.hid hg; clear hg
    go_wp2_with fail
    refine (AW.out _ HG.out).mono ?_
    rintro e w1 ⟨rfl, hg⟩
    replace HG := Lib.hid hg; clear hg
    go_wp2
    go_ret
    exact ⟨rfl, HG.out⟩
  · rw [hr] at HR
    rw [Bool.and_eq_true, Bool.and_eq_true] at hr
    obtain ⟨a, rfl, ka⟩ := short_RT hr.1.1
    obtain ⟨b, rfl, kb⟩ := short_RT hr.1.2
    obtain ⟨c, rfl, kc⟩ := short_RT hr.2
    have is0 := RT_is0 b
    have A1 := Lib.hid ((ret_QAdd htab hmx (s := RT (a)) (t := RT (b)) (RT_small (ka.inR (by omega))) (RT_small (kb.inR (by omega)))).si ((op2_ok (ka.inR (by omega)) (kb.inR (by omega))).trans (addR_sh ka kb (by omega))))
    have kab := ka.add kb
    have M1 := Lib.hid ((ret_QMul htab hmx (s := RT (a + b)) (t := RT (c)) (RT_small (kab.inR (by omega))) (RT_small (kc.inR (by omega)))).si ((op2_ok (kab.inR (by omega)) (kc.inR (by omega))).trans (mulR_sh kab kc (by omega))))
    have M2 := Lib.hid ((ret_QMul htab hmx (s := RT (a)) (t := RT (c)) (RT_small (ka.inR (by omega))) (RT_small (kc.inR (by omega)))).si ((op2_ok (ka.inR (by omega)) (kc.inR (by omega))).trans (mulR_sh ka kc (by omega))))
    have M3 := Lib.hid ((ret_QMul htab hmx (s := RT (b)) (t := RT (c)) (RT_small (kb.inR (by omega))) (RT_small (kc.inR (by omega)))).si ((op2_ok (kb.inR (by omega)) (kc.inR (by omega))).trans (mulR_sh kb kc (by omega))))
    have kac := ka.mul kc
    have kbc := kb.mul kc
    have A2 := Lib.hid ((ret_QAdd htab hmx (s := RT (a * c)) (t := RT (b * c)) (RT_small (kac.inR (by omega))) (RT_small (kbc.inR (by omega)))).si ((op2_ok (kac.inR (by omega)) (kbc.inR (by omega))).trans (addR_sh kac kbc (by omega))))
    have S1 := Lib.hid ((ret_QSub htab hmx (s := RT (a + b)) (t := RT (b)) (RT_small (kab.inR (by omega))) (RT_small (kb.inR (by omega)))).si ((op2_ok (kab.inR (by omega)) (kb.inR (by omega))).trans (subR_sh kab kb (by omega))))
    rw [Rat.add_mul] at M1
    rw [Rat.add_sub_cancel] at S1
    have C1 := Lib.hid ((ret_QCompare htab hmx (s := RT (a)) (t := RT (b)) (RT_small (ka.inR (by omega))) (RT_small (kb.inR (by omega)))).ii (cmp2_sh ka kb (by omega)))
    have S2 := Lib.hid ((ret_QSub htab hmx (s := RT (a)) (t := RT (b)) (RT_small (ka.inR (by omega))) (RT_small (kb.inR (by omega)))).si ((op2_ok (ka.inR (by omega)) (kb.inR (by omega))).trans (subR_sh ka kb (by omega))))
    have ksub := ka.sub kb
    have k0 : Sh 1 ((0 : Int) : Rat) := ⟨by rw [Rat.num_intCast]; exact Nat.le_of_eq (Lib.nDigits_small (by decide)), by rw [Rat.den_intCast]; exact Nat.le_of_eq (Lib.nDigits_small (by decide))⟩
    have C2 := Lib.hid ((ret_QCompare htab hmx (s := RT (a - b)) (t := RT (((0 : Int) : Rat))) (RT_small (ksub.inR (by omega))) (RT_small (k0.inR (by omega)))).ii (cmp2_sh ksub k0 (by omega)))
    rw [cmp_sub, RT_int, Tx_zero] at C2
    by_cases hb : b = 0
    · rw [decide_eq_true hb] at is0
      clear hb ka kb kc kab kac kbc ksub k0 hr hs ht hu htab hmx
      generalize cmpQ a b = n at *
      generalize RT (a - b) = x1 at *
      generalize RT (a * c + b * c) = x2 at *
      generalize RT (a + b) = x3 at *
      generalize RT (a * c) = x4 at *
      generalize RT (b * c) = x5 at *
      generalize RT a = s at *
      generalize RT b = t at *
      generalize RT c = u at *
      intro w hg
      have HG := Lib.hid hg; clear hg
      go_enter Tryz.func6, Tryz.ntmps6
      go_wp2_with fail
      refine (HR.out _ _ HG.out).mono ?_
      rintro e w1 ⟨rfl, hg⟩
      replace HG := Lib.hid hg; clear hg
      go_wp2_with fail
      refine (A1.out _ HG.out).mono ?_
      rintro e w1 ⟨rfl, hg⟩
      replace HG := Lib.hid hg; clear hg
      go_wp2_with fail
      refine (M1.out _ HG.out).mono ?_
      rintro e w1 ⟨rfl, hg⟩
      replace HG := Lib.hid hg; clear hg
      go_wp2_with fail
      refine (M2.out _ HG.out).mono ?_
      rintro e w1 ⟨rfl, hg⟩
      replace HG := Lib.hid hg; clear hg
      go_wp2_with fail
      refine (M3.out _ HG.out).mono ?_
      rintro e w1 ⟨rfl, hg⟩
      replace HG := Lib.hid hg; clear hg
      go_wp2_with fail
      refine (A2.out _ HG.out).mono ?_
      rintro e w1 ⟨rfl, hg⟩
      replace HG := Lib.hid hg; clear hg
      go_wp2_with fail
      refine (S1.out _ HG.out).mono ?_
      rintro e w1 ⟨rfl, hg⟩
      replace HG := Lib.hid hg; clear hg
      go_wp2_with fail
      refine (C1.out _ HG.out).mono ?_
      rintro e w1 ⟨rfl, hg⟩
      replace HG := Lib.hid hg; clear hg
      go_wp2_with fail
      refine (S2.out _ HG.out).mono ?_
      rintro e w1 ⟨rfl, hg⟩
      replace HG := Lib.hid hg; clear hg
      go_wp2_with fail
      refine (C2.out _ HG.out).mono ?_
      rintro e w1 ⟨rfl, hg⟩
      replace HG := Lib.hid hg; clear hg
      go_wp2_with fail
      refine (AW.out _ HG.out).mono ?_
      rintro e w1 ⟨rfl, hg⟩
      replace HG := Lib.hid hg; clear hg
      go_wp2
      go_ret
      exact ⟨rfl, HG.out⟩
    · rw [decide_eq_false hb] at is0
      have M4 := Lib.hid ((ret_QMul htab hmx (s := RT (a)) (t := RT (b)) (RT_small (ka.inR (by omega))) (RT_small (kb.inR (by omega)))).si ((op2_ok (ka.inR (by omega)) (kb.inR (by omega))).trans (mulR_sh ka kb (by omega))))
      have kmul := ka.mul kb
      have D1 := Lib.hid ((ret_QDiv htab hmx (s := RT (a * b)) (t := RT (b)) (RT_small (kmul.inR (by omega))) (RT_small (kb.inR (by omega)))).si ((op2_ok (kmul.inR (by omega)) (kb.inR (by omega))).trans (divR_sh kmul kb (by omega) hb)))
      rw [Rat.mul_div_cancel hb] at D1
      clear hb ka kb kc kab kac kbc ksub k0 kmul hr hs ht hu htab hmx
      generalize cmpQ a b = n at *
      generalize RT (a - b) = x1 at *
      generalize RT (a * c + b * c) = x2 at *
      generalize RT (a + b) = x3 at *
      generalize RT (a * c) = x4 at *
      generalize RT (b * c) = x5 at *
      generalize RT (a * b) = x6 at *
      generalize RT a = s at *
      generalize RT b = t at *
      generalize RT c = u at *
      intro w hg
      have HG := Lib.hid hg; clear hg
      go_enter Tryz.func6, Tryz.ntmps6
      go_wp2_with fail
      refine (HR.out _ _ HG.out).mono ?_
      rintro e w1 ⟨rfl, hg⟩
      replace HG := Lib.hid hg; clear hg
      go_wp2_with fail
      refine (A1.out _ HG.out).mono ?_
      rintro e w1 ⟨rfl, hg⟩
      replace HG := Lib.hid hg; clear hg
      go_wp2_with fail
      refine (M1.out _ HG.out).mono ?_
      rintro e w1 ⟨rfl, hg⟩
      replace HG := Lib.hid hg; clear hg
      go_wp2_with fail
      refine (M2.out _ HG.out).mono ?_
      rintro e w1 ⟨rfl, hg⟩
      replace HG := Lib.hid hg; clear hg
      go_wp2_with fail
      refine (M3.out _ HG.out).mono ?_
      rintro e w1 ⟨rfl, hg⟩
      replace HG := Lib.hid hg; clear hg
      go_wp2_with fail
      refine (A2.out _ HG.out).mono ?_
      rintro e w1 ⟨rfl, hg⟩
      replace HG := Lib.hid hg; clear hg
      go_wp2_with fail
      refine (S1.out _ HG.out).mono ?_
      rintro e w1 ⟨rfl, hg⟩
      replace HG := Lib.hid hg; clear hg
      go_wp2_with fail
      refine (M4.out _ HG.out).mono ?_
      rintro e w1 ⟨rfl, hg⟩
      replace HG := Lib.hid hg; clear hg
      go_wp2_with fail
      refine (D1.out _ HG.out).mono ?_
      rintro e w1 ⟨rfl, hg⟩
      replace HG := Lib.hid hg; clear hg
      go_wp2_with fail
      refine (C1.out _ HG.out).mono ?_
      rintro e w1 ⟨rfl, hg⟩
      replace HG := Lib.hid hg; clear hg
      go_wp2_with fail
      refine (S2.out _ HG.out).mono ?_
      rintro e w1 ⟨rfl, hg⟩
      replace HG := Lib.hid hg; clear hg
      go_wp2_with fail
      refine (C2.out _ HG.out).mono ?_
      rintro e w1 ⟨rfl, hg⟩
      replace HG := Lib.hid hg; clear hg
      go_wp2_with fail
      refine (AW.out _ HG.out).mono ?_
      rintro e w1 ⟨rfl, hg⟩
      replace HG := Lib.hid hg; clear hg
      go_wp2
      go_ret
      exact ⟨rfl, HG.out⟩
end
end Go.Proofs.YtjoipfiomeocoabGreatDoor
