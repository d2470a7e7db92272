/- Laws of layer 1: IntegerRing, IntegerRemains, IntegerOrders, IntegerCommon. -/
import Derived.Test.YtieplenmknjmiaaDoorLaw01c
set_option linter.unusedVariables false
set_option linter.unusedSimpArgs false
namespace Go.Proofs.YtieplenmknjmiaaDoor
open Go.RowKit Go.Shelf
open Z

theorem fmod_sign (a b : Int) (hb : b ≠ 0) : a.fmod b = 0 ∨ (0 < a.fmod b ∧ 0 < b) ∨ (a.fmod b < 0 ∧ b < 0) := by
  by_cases h : 0 < b
  · have := Int.fmod_nonneg_of_pos a h
    omega
  · have h1 := Int.neg_fmod_neg (-a) (-b)
    rw [Int.neg_neg, Int.neg_neg] at h1
    have h2 := Int.fmod_nonneg_of_pos (-a) (show (0 : Int) < -b by omega)
    omega
theorem gcd_parts (a b : Int) (hg : 0 < Nat.gcd a.natAbs b.natAbs) :
    a.fmod ((Nat.gcd a.natAbs b.natAbs : Nat) : Int) = 0 ∧ b.fmod ((Nat.gcd a.natAbs b.natAbs : Nat) : Int) = 0 ∧
    ((Nat.gcd (a.fdiv ((Nat.gcd a.natAbs b.natAbs : Nat) : Int)).natAbs (b.fdiv ((Nat.gcd a.natAbs b.natAbs : Nat) : Int)).natAbs : Nat) : Int) = ((1 : Nat) : Int) := by
  obtain ⟨g, hgg⟩ : ∃ g, g = Nat.gcd a.natAbs b.natAbs := ⟨_, rfl⟩
  rw [← hgg] at hg ⊢
  have h1 : a.fmod (g : Int) = 0 := Int.fmod_eq_zero_of_dvd (Int.ofNat_dvd_left.2 (by rw [hgg]; exact Nat.gcd_dvd_left _ _))
  have h2 : b.fmod (g : Int) = 0 := Int.fmod_eq_zero_of_dvd (Int.ofNat_dvd_left.2 (by rw [hgg]; exact Nat.gcd_dvd_right _ _))
  refine ⟨h1, h2, ?_⟩
  have h3 := Int.mul_fdiv_add_fmod a (g : Int)
  have h4 := Int.mul_fdiv_add_fmod b (g : Int)
  rw [h1, Int.add_zero] at h3
  rw [h2, Int.add_zero] at h4
  have h5 := congrArg Int.natAbs h3
  have h6 := congrArg Int.natAbs h4
  rw [Int.natAbs_mul, Int.natAbs_natCast] at h5 h6
  rw [← h5, ← h6, Nat.gcd_mul_left] at hgg
  have h7 : g * 1 = g * Nat.gcd (a.fdiv (g : Int)).natAbs (b.fdiv (g : Int)).natAbs := by rw [Nat.mul_one]; exact hgg
  have h8 := Nat.eq_of_mul_eq_mul_left hg h7
  rw [← h8]
set_option maxHeartbeats 4000000 in
set_option maxRecDepth 100000 in
theorem l1_IntegerRing (s t u : ByteArray) (w : World) (hs : s.size ≤ maxLen) (ht : t.size ≤ maxLen) (hu : u.size ≤ maxLen) (htab : Tab w) :
    Calls Tryd.prog 8 #[.string s, .string t, .string u] w (fun e w' => e = .returned (.bool true) ∧ Gr w w') := by
  have HAW := Lib.hid (ret_awake htab)
  have HG := Lib.hid (Gr.refl w)
  have HR := Lib.hid (fun w' ty hg => right_new3 s t u w w' ty hg hs ht hu)
  cases hr : (rightB s && rightB t && rightB u)
  · rw [hr] at HR
    clear hr hs ht hu htab
    go_enter Tryd.func8, Tryd.ntmps8
    go_wp2_with fail
    refine (HR.out _ _ HG.out).mono ?_
    rintro e w1 ⟨rfl, hg⟩
    replace HG := Lib.hid hg; clear hg
    go_wp2_with fail
    refine (HAW.out _ HG.out).mono ?_
    rintro e w2 ⟨rfl, hg⟩
    replace HG := Lib.hid hg; clear hg
    go_wp2
    go_ret
    exact ⟨rfl, HG.out⟩
  · rw [hr] at HR
    rw [Bool.and_eq_true, Bool.and_eq_true] at hr
    obtain ⟨a, rfl, sa⟩ := right_Tx hr.1.1
    obtain ⟨b, rfl, sb⟩ := right_Tx hr.1.2
    obtain ⟨c, rfl, sc⟩ := right_Tx hr.2
    have ia := sa.in (by omega)
    have ib := sb.in (by omega)
    have ic := sc.in (by omega)
    have sab := sa.addZ sb (by omega)
    have sbc := sb.addZ sc (by omega)
    have C1 := Lib.hid (ret_Add htab ia ib (sab.in (by omega)))
    have C2 := Lib.hid (ret_Add htab ib ia ((sb.addZ sa (by omega)).in (by omega)))
    have C3 := Lib.hid (ret_Add htab ib ic (sbc.in (by omega)))
    have C4 := Lib.hid (ret_Add htab (sab.in (by omega)) ic ((sab.addZ sc (by omega)).in (by omega)))
    have C5 := Lib.hid (ret_Add htab ia (sbc.in (by omega)) ((sa.addZ sbc (by omega)).in (by omega)))
    have smab := sa.mulZ sb (by omega)
    have smac := sa.mulZ sc (by omega)
    have C6 := Lib.hid (ret_Mul htab ia ib (smab.in (by omega)))
    have C7 := Lib.hid (ret_Mul htab ia ic (smac.in (by omega)))
    have C8 := Lib.hid (ret_Mul htab ia (sbc.in (by omega)) ((sa.mulZ sbc (by omega)).in (by omega)))
    have C9 := Lib.hid (ret_Add htab (smab.in (by omega)) (smac.in (by omega)) ((smab.addZ smac (by omega)).in (by omega)))
    have CA := Lib.hid (ret_Mul htab ib ia ((sb.mulZ sa (by omega)).in (by omega)))
    rw [Int.add_comm b a] at C2
    rw [← Int.add_assoc] at C5
    rw [Int.mul_add] at C8
    rw [Int.mul_comm b a] at CA
    clear sab sbc smab smac sa sb sc ia ib ic hr htab hs ht hu
    generalize Tx (a + b + c) = x1 at C4 C5
    generalize Tx (a + b) = x2 at C1 C2 C4
    generalize Tx (b + c) = x3 at C3 C5 C8
    generalize Tx (a * b + a * c) = x4 at C8 C9
    generalize Tx (a * b) = x5 at C6 C9 CA
    generalize Tx (a * c) = x6 at C7 C9
    generalize Tx a = s at HR C1 C2 C5 C6 C7 C8 CA ⊢
    generalize Tx b = t at HR C1 C2 C3 C6 CA ⊢
    generalize Tx c = u at HR C3 C4 C7 ⊢
    go_enter Tryd.func8, Tryd.ntmps8
    go_wp2_with fail
    refine (HR.out _ _ HG.out).mono ?_
    rintro e w1 ⟨rfl, hg⟩
    replace HG := Lib.hid hg; clear hg
    go_wp2_with fail
    refine (C1.out _ HG.out).mono ?_
    rintro e w2 ⟨rfl, hg⟩
    replace HG := Lib.hid hg; clear hg
    go_wp2_with fail
    refine (C2.out _ HG.out).mono ?_
    rintro e w3 ⟨rfl, hg⟩
    replace HG := Lib.hid hg; clear hg
    go_wp2_with fail
    refine (C3.out _ HG.out).mono ?_
    rintro e w4 ⟨rfl, hg⟩
    replace HG := Lib.hid hg; clear hg
    go_wp2_with fail
    refine (C4.out _ HG.out).mono ?_
    rintro e w5 ⟨rfl, hg⟩
    replace HG := Lib.hid hg; clear hg
    go_wp2_with fail
    refine (C5.out _ HG.out).mono ?_
    rintro e w6 ⟨rfl, hg⟩
    replace HG := Lib.hid hg; clear hg
    go_wp2_with fail
    refine (C6.out _ HG.out).mono ?_
    rintro e w7 ⟨rfl, hg⟩
    replace HG := Lib.hid hg; clear hg
    go_wp2_with fail
    refine (C7.out _ HG.out).mono ?_
    rintro e w8 ⟨rfl, hg⟩
    replace HG := Lib.hid hg; clear hg
    go_wp2_with fail
    refine (C8.out _ HG.out).mono ?_
    rintro e w9 ⟨rfl, hg⟩
    replace HG := Lib.hid hg; clear hg
    go_wp2_with fail
    refine (C9.out _ HG.out).mono ?_
    rintro e w10 ⟨rfl, hg⟩
    replace HG := Lib.hid hg; clear hg
    go_wp2_with fail
    refine (CA.out _ HG.out).mono ?_
    rintro e w11 ⟨rfl, hg⟩
    replace HG := Lib.hid hg; clear hg
    go_wp2_with fail
    refine (HAW.out _ HG.out).mono ?_
    rintro e w12 ⟨rfl, hg⟩
    replace HG := Lib.hid hg; clear hg
    go_wp2
    go_ret
    exact ⟨rfl, HG.out⟩
set_option maxHeartbeats 4000000 in
set_option maxRecDepth 100000 in
theorem l1_IntegerRemains (s t : ByteArray) (w : World) (hs : s.size ≤ maxLen) (ht : t.size ≤ maxLen) (htab : Tab w) :
    Calls Tryd.prog 9 #[.string s, .string t] w (fun e w' => e = .returned (.bool true) ∧ Gr w w') := by
  have HAW := Lib.hid (ret_awake htab)
  have HG := Lib.hid (Gr.refl w)
  have HR := Lib.hid (fun w' ty hg => right_new2 s t w w' ty hg hs ht)
  cases hr : (rightB s && rightB t)
  · rw [hr] at HR
    clear hr hs ht htab
    go_enter Tryd.func9, Tryd.ntmps9
    go_wp2_with fail
    refine (HR.out _ _ HG.out).mono ?_
    rintro e w1 ⟨rfl, hg⟩
    replace HG := Lib.hid hg; clear hg
    go_wp2_with fail
    refine (HAW.out _ HG.out).mono ?_
    rintro e w2 ⟨rfl, hg⟩
    replace HG := Lib.hid hg; clear hg
    go_wp2
    go_ret
    exact ⟨rfl, HG.out⟩
  · rw [hr] at HR
    rw [Bool.and_eq_true] at hr
    obtain ⟨a, rfl, sa⟩ := right_Tx hr.1
    obtain ⟨b, rfl, sb⟩ := right_Tx hr.2
    have hz := Tx_is0 b
    by_cases hb : b = 0
    · rw [decide_eq_true hb] at hz
      clear hb sa sb hr hs ht htab
      generalize Tx a = s at HR ⊢
      generalize Tx b = t at HR hz ⊢
      go_enter Tryd.func9, Tryd.ntmps9
      go_wp2_with fail
      refine (HR.out _ _ HG.out).mono ?_
      rintro e w1 ⟨rfl, hg⟩
      replace HG := Lib.hid hg; clear hg
      go_wp2_with fail
      refine (HAW.out _ HG.out).mono ?_
      rintro e w2 ⟨rfl, hg⟩
      replace HG := Lib.hid hg; clear hg
      go_wp2
      go_ret
      exact ⟨rfl, HG.out⟩
    · rw [decide_eq_false hb] at hz
      have ia := sa.in (by omega)
      have ib := sb.in (by omega)
      have sq := sa.of_le (fdiv_natAbs_le a b hb)
      have hlt := fmod_natAbs_le a b hb
      have sr := sb.of_le (Nat.le_of_lt hlt)
      have sp := sb.mulZ sq (by omega)
      have hqr := Int.mul_fdiv_add_fmod a b
      have C1 := Lib.hid (ret_Quo htab ia ib hb (sq.in (by omega)))
      have C2 := Lib.hid (ret_Rem htab ia ib hb (sr.in (by omega)))
      have C3 := Lib.hid (ret_Mul htab ib (sq.in (by omega)) (sp.in (by omega)))
      have C4 := Lib.hid (ret_Add htab (sp.in (by omega)) (sr.in (by omega)) (by rw [hqr]; exact ia))
      rw [hqr] at C4
      have C5 := Lib.hid (ret_Abs (w0 := w) (sr.in (by omega)))
      have C6 := Lib.hid (ret_Abs (w0 := w) ib)
      have C7 := Lib.hid (ret_Compare (w0 := w) (sr.abs.in (by omega)) (sb.abs.in (by omega)))
      rw [cmpZ_lt (by omega)] at C7
      have C8 := Lib.hid (ret_Sign (w0 := w) (sr.in (by omega)))
      have C9 := Lib.hid (ret_Sign (w0 := w) ib)
      have hsg : a.fmod b = 0 ∨ (0 < a.fmod b ∧ 0 < b) ∨ (a.fmod b < 0 ∧ b < 0) := fmod_sign a b hb
      clear hqr hlt sq sp sr sa sb ia ib hr hs ht htab
      generalize Tx (b * a.fdiv b) = x1 at C3 C4
      generalize Tx (a.fdiv b) = x2 at C1 C3
      generalize Tx ((a.fmod b).natAbs : Int) = x4 at C5 C7
      generalize Tx (a.fmod b) = x3 at C2 C4 C5 C8
      generalize Tx (b.natAbs : Int) = x5 at C6 C7
      generalize Tx a = s at HR C1 C2 C4 ⊢
      generalize Tx b = t at HR C1 C2 C3 C6 C9 hz ⊢
      rcases hsg with h | ⟨h, h'⟩ | ⟨h, h'⟩
      · rw [h, show cmpZ 0 0 = 0 from rfl] at C8
        generalize cmpZ b 0 = n at C9
        clear h hb
        go_enter Tryd.func9, Tryd.ntmps9
        go_wp2_with fail
        refine (HR.out _ _ HG.out).mono ?_
        rintro e w1 ⟨rfl, hg⟩
        replace HG := Lib.hid hg; clear hg
        go_wp2_with fail
        refine (C1.out _ HG.out).mono ?_
        rintro e w2 ⟨rfl, hg⟩
        replace HG := Lib.hid hg; clear hg
        go_wp2_with fail
        refine (C2.out _ HG.out).mono ?_
        rintro e w3 ⟨rfl, hg⟩
        replace HG := Lib.hid hg; clear hg
        go_wp2_with fail
        refine (C3.out _ HG.out).mono ?_
        rintro e w4 ⟨rfl, hg⟩
        replace HG := Lib.hid hg; clear hg
        go_wp2_with fail
        refine (C4.out _ HG.out).mono ?_
        rintro e w5 ⟨rfl, hg⟩
        replace HG := Lib.hid hg; clear hg
        go_wp2_with fail
        refine (C5.out _ HG.out).mono ?_
        rintro e w6 ⟨rfl, hg⟩
        replace HG := Lib.hid hg; clear hg
        go_wp2_with fail
        refine (C6.out _ HG.out).mono ?_
        rintro e w7 ⟨rfl, hg⟩
        replace HG := Lib.hid hg; clear hg
        go_wp2_with fail
        refine (C7.out _ HG.out).mono ?_
        rintro e w8 ⟨rfl, hg⟩
        replace HG := Lib.hid hg; clear hg
        go_wp2_with fail
        refine (C8.out _ HG.out).mono ?_
        rintro e w9 ⟨rfl, hg⟩
        replace HG := Lib.hid hg; clear hg
        go_wp2_with fail
        refine (C9.out _ HG.out).mono ?_
        rintro e w10 ⟨rfl, hg⟩
        replace HG := Lib.hid hg; clear hg
        go_wp2_with fail
        refine (HAW.out _ HG.out).mono ?_
        rintro e w11 ⟨rfl, hg⟩
        replace HG := Lib.hid hg; clear hg
        go_wp2
        go_ret
        exact ⟨rfl, HG.out⟩
      · rw [cmpZ_gt h] at C8
        rw [cmpZ_gt h'] at C9
        clear h h' hb
        go_enter Tryd.func9, Tryd.ntmps9
        go_wp2_with fail
        refine (HR.out _ _ HG.out).mono ?_
        rintro e w1 ⟨rfl, hg⟩
        replace HG := Lib.hid hg; clear hg
        go_wp2_with fail
        refine (C1.out _ HG.out).mono ?_
        rintro e w2 ⟨rfl, hg⟩
        replace HG := Lib.hid hg; clear hg
        go_wp2_with fail
        refine (C2.out _ HG.out).mono ?_
        rintro e w3 ⟨rfl, hg⟩
        replace HG := Lib.hid hg; clear hg
        go_wp2_with fail
        refine (C3.out _ HG.out).mono ?_
        rintro e w4 ⟨rfl, hg⟩
        replace HG := Lib.hid hg; clear hg
        go_wp2_with fail
        refine (C4.out _ HG.out).mono ?_
        rintro e w5 ⟨rfl, hg⟩
        replace HG := Lib.hid hg; clear hg
        go_wp2_with fail
        refine (C5.out _ HG.out).mono ?_
        rintro e w6 ⟨rfl, hg⟩
        replace HG := Lib.hid hg; clear hg
        go_wp2_with fail
        refine (C6.out _ HG.out).mono ?_
        rintro e w7 ⟨rfl, hg⟩
        replace HG := Lib.hid hg; clear hg
        go_wp2_with fail
        refine (C7.out _ HG.out).mono ?_
        rintro e w8 ⟨rfl, hg⟩
        replace HG := Lib.hid hg; clear hg
        go_wp2_with fail
        refine (C8.out _ HG.out).mono ?_
        rintro e w9 ⟨rfl, hg⟩
        replace HG := Lib.hid hg; clear hg
        go_wp2_with fail
        refine (C9.out _ HG.out).mono ?_
        rintro e w10 ⟨rfl, hg⟩
        replace HG := Lib.hid hg; clear hg
        go_wp2_with fail
        refine (HAW.out _ HG.out).mono ?_
        rintro e w11 ⟨rfl, hg⟩
        replace HG := Lib.hid hg; clear hg
        go_wp2
        go_ret
        exact ⟨rfl, HG.out⟩
      · rw [cmpZ_lt h] at C8
        rw [cmpZ_lt h'] at C9
        clear h h' hb
        go_enter Tryd.func9, Tryd.ntmps9
        go_wp2_with fail
        refine (HR.out _ _ HG.out).mono ?_
        rintro e w1 ⟨rfl, hg⟩
        replace HG := Lib.hid hg; clear hg
        go_wp2_with fail
        refine (C1.out _ HG.out).mono ?_
        rintro e w2 ⟨rfl, hg⟩
        replace HG := Lib.hid hg; clear hg
        go_wp2_with fail
        refine (C2.out _ HG.out).mono ?_
        rintro e w3 ⟨rfl, hg⟩
        replace HG := Lib.hid hg; clear hg
        go_wp2_with fail
        refine (C3.out _ HG.out).mono ?_
        rintro e w4 ⟨rfl, hg⟩
        replace HG := Lib.hid hg; clear hg
        go_wp2_with fail
        refine (C4.out _ HG.out).mono ?_
        rintro e w5 ⟨rfl, hg⟩
        replace HG := Lib.hid hg; clear hg
        go_wp2_with fail
        refine (C5.out _ HG.out).mono ?_
        rintro e w6 ⟨rfl, hg⟩
        replace HG := Lib.hid hg; clear hg
        go_wp2_with fail
        refine (C6.out _ HG.out).mono ?_
        rintro e w7 ⟨rfl, hg⟩
        replace HG := Lib.hid hg; clear hg
        go_wp2_with fail
        refine (C7.out _ HG.out).mono ?_
        rintro e w8 ⟨rfl, hg⟩
        replace HG := Lib.hid hg; clear hg
        go_wp2_with fail
        refine (C8.out _ HG.out).mono ?_
        rintro e w9 ⟨rfl, hg⟩
        replace HG := Lib.hid hg; clear hg
        go_wp2_with fail
        refine (C9.out _ HG.out).mono ?_
        rintro e w10 ⟨rfl, hg⟩
        replace HG := Lib.hid hg; clear hg
        go_wp2_with fail
        refine (HAW.out _ HG.out).mono ?_
        rintro e w11 ⟨rfl, hg⟩
        replace HG := Lib.hid hg; clear hg
        go_wp2
        go_ret
        exact ⟨rfl, HG.out⟩
set_option maxHeartbeats 4000000 in
set_option maxRecDepth 100000 in
theorem l1_IntegerOrders (s t : ByteArray) (n : Int) (w : World) (hs : s.size ≤ maxLen) (ht : t.size ≤ maxLen) (hn0 : -9223372036854775808 ≤ n) (hn1 : n ≤ 9223372036854775807) (htab : Tab w) (herr : ErrR w) :
    Calls Tryd.prog 10 #[.string s, .string t, .int .i64 n] w (fun e w' => e = .returned (.bool true) ∧ Gr w w') := by
  have HAW := Lib.hid (ret_awake htab)
  have HG := Lib.hid (Gr.refl w)
  have HR := Lib.hid (fun w' ty hg => right_new2 s t w w' ty hg hs ht)
  cases hr : (rightB s && rightB t)
  · rw [hr] at HR
    clear hr hs ht htab herr
    go_enter Tryd.func10, Tryd.ntmps10
    go_wp2_with fail
    refine (HR.out _ _ HG.out).mono ?_
    rintro e w1 ⟨rfl, hg⟩
    replace HG := Lib.hid hg; clear hg
    go_wp2_with fail
    refine (HAW.out _ HG.out).mono ?_
    rintro e w2 ⟨rfl, hg⟩
    replace HG := Lib.hid hg; clear hg
    go_wp2
    go_ret
    exact ⟨rfl, HG.out⟩
  · rw [hr] at HR
    rw [Bool.and_eq_true] at hr
    obtain ⟨a, rfl, sa⟩ := right_Tx hr.1
    obtain ⟨b, rfl, sb⟩ := right_Tx hr.2
    have ia := sa.in (by omega)
    have ib := sb.in (by omega)
    have sn : Sm 19 n := ⟨(nDigits_le_iff _ 19 (by omega)).2 (by omega), by omega⟩
    have iN := sn.in (by omega)
    have sd := sa.addZ sb.neg (by omega)
    rw [← Int.sub_eq_add_neg] at sd
    have san := sa.addZ sn (by omega)
    have sbn := sb.addZ sn (by omega)
    have C1 := Lib.hid (ret_Compare (w0 := w) ia ib)
    have C2 := Lib.hid (ret_Sub htab ia ib (sd.in (by omega)))
    have C3 := Lib.hid (ret_Sign (w0 := w) (sd.in (by omega)))
    have C4 := Lib.hid (ret_Of htab hn0 hn1)
    have C5 := Lib.hid (ret_Add htab ia iN (san.in (by omega)))
    have C6 := Lib.hid (ret_Add htab ib iN (sbn.in (by omega)))
    have C7 := Lib.hid (ret_Compare (w0 := w) (san.in (by omega)) (sbn.in (by omega)))
    have C8 := Lib.hid (ret_Small iN.len herr)
    rw [show cmpZ (a - b) 0 = cmpZ a b by unfold cmpZ; repeat' split <;> omega] at C3
    rw [show cmpZ (a + n) (b + n) = cmpZ a b by unfold cmpZ; repeat' split <;> omega] at C7
    rw [show smallR (Tx n) = (n, 0) by unfold smallR; rw [if_pos iN.chk, data_Tx, ival_itoa, if_pos (show inI n = true by unfold inI minI maxI; simp; omega)]] at C8
    unfold vII at C8
    clear sd san sbn sa sb ia ib sn iN hr hs ht htab herr
    generalize cmpZ a b = c at C1 C3 C7
    generalize Tx (a - b) = x1 at C2 C3
    generalize Tx (a + n) = x2 at C5 C7
    generalize Tx (b + n) = x3 at C6 C7
    generalize Tx n = x4 at C4 C5 C6 C8
    generalize Tx a = s at HR C1 C2 C5 ⊢
    generalize Tx b = t at HR C1 C2 C6 ⊢
    go_enter Tryd.func10, Tryd.ntmps10
    go_wp2_with fail
    refine (HR.out _ _ HG.out).mono ?_
    rintro e w1 ⟨rfl, hg⟩
    replace HG := Lib.hid hg; clear hg
    go_wp2_with fail
    refine (C1.out _ HG.out).mono ?_
    rintro e w2 ⟨rfl, hg⟩
    replace HG := Lib.hid hg; clear hg
    go_wp2_with fail
    refine (C2.out _ HG.out).mono ?_
    rintro e w3 ⟨rfl, hg⟩
    replace HG := Lib.hid hg; clear hg
    go_wp2_with fail
    refine (C3.out _ HG.out).mono ?_
    rintro e w4 ⟨rfl, hg⟩
    replace HG := Lib.hid hg; clear hg
    go_wp2_with fail
    refine (C4.out _ HG.out).mono ?_
    rintro e w5 ⟨rfl, hg⟩
    replace HG := Lib.hid hg; clear hg
    go_wp2_with fail
    refine (C5.out _ HG.out).mono ?_
    rintro e w6 ⟨rfl, hg⟩
    replace HG := Lib.hid hg; clear hg
    go_wp2_with fail
    refine (C6.out _ HG.out).mono ?_
    rintro e w7 ⟨rfl, hg⟩
    replace HG := Lib.hid hg; clear hg
    go_wp2_with fail
    refine (C7.out _ HG.out).mono ?_
    rintro e w8 ⟨rfl, hg⟩
    replace HG := Lib.hid hg; clear hg
    go_wp2_with fail
    refine (C8.out _ HG.out).mono ?_
    rintro e w9 ⟨rfl, hg⟩
    replace HG := Lib.hid hg; clear hg
    go_wp2_with fail
    refine (HAW.out _ HG.out).mono ?_
    rintro e w10 ⟨rfl, hg⟩
    replace HG := Lib.hid hg; clear hg
    go_wp2
    go_ret
    exact ⟨rfl, HG.out⟩
set_option maxHeartbeats 4000000 in
set_option maxRecDepth 100000 in
theorem l1_IntegerCommon (s t : ByteArray) (w : World) (hs : s.size ≤ maxLen) (ht : t.size ≤ maxLen) (htab : Tab w) :
    Calls Tryd.prog 11 #[.string s, .string t] w (fun e w' => e = .returned (.bool true) ∧ Gr w w') := by
  have HAW := Lib.hid (ret_awake htab)
  have HG := Lib.hid (Gr.refl w)
  have HR := Lib.hid (fun w' ty hg => right_new2 s t w w' ty hg hs ht)
  cases hr : (rightB s && rightB t)
  · rw [hr] at HR
    clear hr hs ht htab
    go_enter Tryd.func11, Tryd.ntmps11
    go_wp2_with fail
    refine (HR.out _ _ HG.out).mono ?_
    rintro e w1 ⟨rfl, hg⟩
    replace HG := Lib.hid hg; clear hg
    go_wp2_with fail
    refine (HAW.out _ HG.out).mono ?_
    rintro e w2 ⟨rfl, hg⟩
    replace HG := Lib.hid hg; clear hg
    go_wp2
    go_ret
    exact ⟨rfl, HG.out⟩
  · rw [hr] at HR
    rw [Bool.and_eq_true] at hr
    obtain ⟨a, rfl, sa⟩ := right_Tx hr.1
    obtain ⟨b, rfl, sb⟩ := right_Tx hr.2
    have hza := Tx_is0 a
    have hzb := Tx_is0 b
    by_cases h0 : a = 0 ∧ b = 0
    · rw [decide_eq_true h0.1] at hza
      rw [decide_eq_true h0.2] at hzb
      clear h0 sa sb hr hs ht htab
      generalize Tx a = s at HR hza ⊢
      generalize Tx b = t at HR hzb ⊢
      go_enter Tryd.func11, Tryd.ntmps11
      go_wp2_with fail
      refine (HR.out _ _ HG.out).mono ?_
      rintro e w1 ⟨rfl, hg⟩
      replace HG := Lib.hid hg; clear hg
      go_wp2_with fail
      refine (HAW.out _ HG.out).mono ?_
      rintro e w2 ⟨rfl, hg⟩
      replace HG := Lib.hid hg; clear hg
      go_wp2
      go_ret
      exact ⟨rfl, HG.out⟩
    · have ia := sa.in (by omega)
      have ib := sb.in (by omega)
      have hg0 : 0 < Nat.gcd a.natAbs b.natAbs := by
        rcases Nat.eq_zero_or_pos (Nat.gcd a.natAbs b.natAbs) with h | h
        · have := Nat.gcd_eq_zero_iff.1 h; omega
        · exact h
      have sg : Sm 400 ((Nat.gcd a.natAbs b.natAbs : Nat) : Int) := by
        by_cases h : a = 0
        · refine sb.of_le ?_
          rw [Int.natAbs_natCast]
          exact Nat.le_of_dvd (by omega) (Nat.gcd_dvd_right _ _)
        · refine sa.of_le ?_
          rw [Int.natAbs_natCast]
          exact Nat.le_of_dvd (by omega) (Nat.gcd_dvd_left _ _)
      have C1 := Lib.hid (ret_Gcd htab ia ib (sg.in (by omega)))
      obtain ⟨hda, hdb, hd1⟩ := gcd_parts a b hg0
      obtain ⟨g, hg⟩ : ∃ g : Int, g = ((Nat.gcd a.natAbs b.natAbs : Nat) : Int) := ⟨_, rfl⟩
      rw [← hg] at C1 sg hda hdb hd1
      have hgn : g ≠ 0 := by omega
      have ig := sg.in (by omega)
      have sx := sa.of_le (fdiv_natAbs_le a g hgn)
      have sy := sb.of_le (fdiv_natAbs_le b g hgn)
      have hzg := Tx_is0 g
      rw [decide_eq_false hgn] at hzg
      have C2 := Lib.hid (ret_Quo htab ia ig hgn (sx.in (by omega)))
      have C3 := Lib.hid (ret_Quo htab ib ig hgn (sy.in (by omega)))
      have C4 := Lib.hid (ret_Rem htab ia ig hgn (by rw [hda]; exact In.zero))
      have C5 := Lib.hid (ret_Rem htab ib ig hgn (by rw [hdb]; exact In.zero))
      have C6 := Lib.hid (ret_Gcd htab (sx.in (by omega)) (sy.in (by omega)) (by rw [hd1]; exact In.lit (by decide)))
      rw [hda, Tx_zero] at C4
      rw [hdb, Tx_zero] at C5
      rw [hd1, Tx_one] at C6
      clear hda hdb hd1 hg hgn ig sx sy sg hg0 ia ib hr hs ht htab
      generalize Tx (a.fdiv g) = x1 at C2 C6
      generalize Tx (b.fdiv g) = x2 at C3 C6
      generalize Tx g = x3 at C1 C2 C3 C4 C5 hzg
      by_cases ha : a = 0
      · have hb : b ≠ 0 := fun h => h0 ⟨ha, h⟩
        rw [decide_eq_true ha] at hza
        rw [decide_eq_false hb] at hzb
        clear ha hb h0 sa sb
        generalize Tx a = s at HR C1 C2 C4 hza ⊢
        generalize Tx b = t at HR C1 C3 C5 hzb ⊢
        go_enter Tryd.func11, Tryd.ntmps11
        go_wp2_with fail
        refine (HR.out _ _ HG.out).mono ?_
        rintro e w1 ⟨rfl, hg⟩
        replace HG := Lib.hid hg; clear hg
        go_wp2_with fail
        refine (C1.out _ HG.out).mono ?_
        rintro e w2 ⟨rfl, hg⟩
        replace HG := Lib.hid hg; clear hg
        go_wp2_with fail
        refine (C2.out _ HG.out).mono ?_
        rintro e w3 ⟨rfl, hg⟩
        replace HG := Lib.hid hg; clear hg
        go_wp2_with fail
        refine (C3.out _ HG.out).mono ?_
        rintro e w4 ⟨rfl, hg⟩
        replace HG := Lib.hid hg; clear hg
        go_wp2_with fail
        refine (C4.out _ HG.out).mono ?_
        rintro e w5 ⟨rfl, hg⟩
        replace HG := Lib.hid hg; clear hg
        go_wp2_with fail
        refine (C5.out _ HG.out).mono ?_
        rintro e w6 ⟨rfl, hg⟩
        replace HG := Lib.hid hg; clear hg
        go_wp2_with fail
        refine (C6.out _ HG.out).mono ?_
        rintro e w7 ⟨rfl, hg⟩
        replace HG := Lib.hid hg; clear hg
        go_wp2_with fail
        refine (HAW.out _ HG.out).mono ?_
        rintro e w8 ⟨rfl, hg⟩
        replace HG := Lib.hid hg; clear hg
        go_wp2
        go_ret
        exact ⟨rfl, HG.out⟩
      · rw [decide_eq_false ha] at hza
        clear ha h0 sa sb hzb
        generalize Tx a = s at HR C1 C2 C4 hza ⊢
        generalize Tx b = t at HR C1 C3 C5 ⊢
        go_enter Tryd.func11, Tryd.ntmps11
        go_wp2_with fail
        refine (HR.out _ _ HG.out).mono ?_
        rintro e w1 ⟨rfl, hg⟩
        replace HG := Lib.hid hg; clear hg
        go_wp2_with fail
        refine (C1.out _ HG.out).mono ?_
        rintro e w2 ⟨rfl, hg⟩
        replace HG := Lib.hid hg; clear hg
        go_wp2_with fail
        refine (C2.out _ HG.out).mono ?_
        rintro e w3 ⟨rfl, hg⟩
        replace HG := Lib.hid hg; clear hg
        go_wp2_with fail
        refine (C3.out _ HG.out).mono ?_
        rintro e w4 ⟨rfl, hg⟩
        replace HG := Lib.hid hg; clear hg
        go_wp2_with fail
        refine (C4.out _ HG.out).mono ?_
        rintro e w5 ⟨rfl, hg⟩
        replace HG := Lib.hid hg; clear hg
        go_wp2_with fail
        refine (C5.out _ HG.out).mono ?_
        rintro e w6 ⟨rfl, hg⟩
        replace HG := Lib.hid hg; clear hg
        go_wp2_with fail
        refine (C6.out _ HG.out).mono ?_
        rintro e w7 ⟨rfl, hg⟩
        replace HG := Lib.hid hg; clear hg
        go_wp2_with fail
        refine (HAW.out _ HG.out).mono ?_
        rintro e w8 ⟨rfl, hg⟩
        replace HG := Lib.hid hg; clear hg
        go_wp2
        go_ret
        exact ⟨rfl, HG.out⟩
end Go.Proofs.YtieplenmknjmiaaDoor
