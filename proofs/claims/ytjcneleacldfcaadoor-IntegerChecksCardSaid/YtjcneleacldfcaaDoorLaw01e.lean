/- Laws of layer 1: IntegerAdds, IntegerDivides, IntegerChecks, IntegerCompares. -/
import Derived.Test.YtjcneleacldfcaaDoorLaw01c
set_option linter.unusedVariables false
set_option linter.unusedSimpArgs false
namespace Go.Proofs.YtjcneleacldfcaaDoor
open Go.RowKit Go.Shelf
open Z

theorem opR_congr {s t : ByteArray} {f g : Int → Int → ByteArray × Int} (h : ∀ a b, In a → In b → f a b = g a b) : opR s t f = opR s t g := by
  rcases both_cases s t with h0 | ⟨a, b, h1, h2, ha, hb, h3⟩
  · rw [opR_err h0, opR_err h0]
  · rw [opR_ok h1 h2 h3, opR_ok h1 h2 h3, h a b ha.1 hb.1]
theorem chk0 : chk (⟨#[48]⟩ : ByteArray).data.toList = 0 := by decide
theorem both0 (s : ByteArray) : both ⟨#[48]⟩ s = chk s.data.toList := by unfold both; rw [if_pos chk0]
theorem both_0 (s : ByteArray) : both s ⟨#[48]⟩ = chk s.data.toList := by
  unfold both
  split
  · rename_i h; rw [h]; exact chk0
  · rfl
section
variable {w0 : World} (ht : Tab w0) {s t : ByteArray} (hs : s.size ≤ maxLen) (h2 : t.size ≤ maxLen)
include ht hs h2
theorem any_Add : Ret w0 23 #[.string s, .string t] (vSI (opR s t fun a b => longR (a + b))) := .mk fun w hg => i_Add s t w hs h2 (htab_gr ht hg)
theorem any_Sub : Ret w0 25 #[.string s, .string t] (vSI (opR s t fun a b => longR (a - b))) := .mk fun w hg => i_Sub s t w hs h2 (htab_gr ht hg)
theorem any_Mul : Ret w0 31 #[.string s, .string t] (vSI (opR s t fun a b => longR (a * b))) := .mk fun w hg => i_Mul s t w hs h2 (htab_gr ht hg)
theorem any_Gcd : Ret w0 37 #[.string s, .string t] (vSI (opR s t fun a b => longR ((Nat.gcd a.natAbs b.natAbs : Nat) : Int))) := .mk fun w hg => i_Gcd s t w hs h2 (htab_gr ht hg)
theorem any_Quo : Ret w0 33 #[.string s, .string t] (vSI (opR s t fun a b => if b = 0 then (⟨#[]⟩, 15) else (Tx (a.fdiv b), 0))) := .mk fun w hg => by
  have H := i_Quo s t w hs h2 (htab_gr ht hg)
  rw [opR_congr (g := fun a b => if b = 0 then (⟨#[]⟩, 15) else (Tx (a.fdiv b), 0)) (fun a b ha hb => ?_)] at H
  · exact H
  · by_cases h : b = 0
    · simp only [if_pos h]
    · simp only [if_neg h]
      exact longR_in ((ha.sm.of_le (fdiv_natAbs_le a b h)).1)
theorem any_Rem : Ret w0 35 #[.string s, .string t] (vSI (opR s t fun a b => if b = 0 then (⟨#[]⟩, 15) else (Tx (a.fmod b), 0))) := .mk fun w hg => by
  have H := i_Rem s t w hs h2 (htab_gr ht hg)
  rw [opR_congr (g := fun a b => if b = 0 then (⟨#[]⟩, 15) else (Tx (a.fmod b), 0)) (fun a b ha hb => ?_)] at H
  · exact H
  · by_cases h : b = 0
    · simp only [if_pos h]
    · simp only [if_neg h]
      exact longR_in ((hb.sm.of_le (Nat.le_of_lt (fmod_natAbs_le a b h))).1)
omit ht
theorem ref_Add : Ret w0 24 #[.string s, .string t] (vSI (opR s t fun a b => longR (a + b))) := .mk fun w _ => r1_Add s t w hs h2
theorem ref_Sub : Ret w0 26 #[.string s, .string t] (vSI (opR s t fun a b => longR (a - b))) := .mk fun w _ => r1_Sub s t w hs h2
theorem ref_Mul : Ret w0 32 #[.string s, .string t] (vSI (opR s t fun a b => longR (a * b))) := .mk fun w _ => r1_Mul s t w hs h2
theorem ref_Quo : Ret w0 34 #[.string s, .string t] (vSI (opR s t fun a b => if b = 0 then (⟨#[]⟩, 15) else (Tx (a.fdiv b), 0))) := .mk fun w _ => r1_Quo s t w hs h2
theorem ref_Rem : Ret w0 36 #[.string s, .string t] (vSI (opR s t fun a b => if b = 0 then (⟨#[]⟩, 15) else (Tx (a.fmod b), 0))) := .mk fun w _ => r1_Rem s t w hs h2
theorem ref_Both : Ret w0 19 #[.string s, .string t] (.int .i64 (both s t)) := .same fun w => r1_Both s t w hs h2
theorem any_Compare : Ret w0 18 #[.string s, .string t] (vII (cmpR s t)) := .mk fun w _ => i_Compare s t w hs h2
omit h2
theorem any_Sign : Ret w0 14 #[.string s] (vII (cmpR s ⟨#[48]⟩)) := .mk fun w _ => i_Sign s w hs
theorem any_Digits : Ret w0 13 #[.string s] (vII (digR s)) := .same fun w => i_Digits s w hs
theorem any_Abs : Ret w0 28 #[.string s] (vSI (absR s)) := .same fun w => i_Abs s w hs
theorem ref_Check : Ret w0 10 #[.string s] (.int .i64 (chk s.data.toList)) := .same fun w => r1_Check s w hs
theorem ref_Small : Ret w0 12 #[.string s] (vII (smallR s)) := .mk fun w _ => r1_Small s w hs
include ht
theorem any_Neg : Ret w0 27 #[.string s] (vSI (opR ⟨#[48]⟩ s fun a b => longR (a - b))) := .mk fun w hg => i_Neg s w hs (htab_gr ht hg)
end
theorem in_gcd {a b : Int} (ha : In a) (hb : In b) : In ((Nat.gcd a.natAbs b.natAbs : Nat) : Int) := by
  by_cases h : a = 0
  · subst h
    simp only [Int.natAbs_zero, Nat.gcd_zero_left]
    exact hb.sm.abs.1
  · refine (ha.sm.of_le ?_).1
    rw [Int.natAbs_natCast]
    exact Nat.le_of_dvd (by omega) (Nat.gcd_dvd_left _ _)
theorem cmpZ_sign (a : Int) : cmpZ a 0 = a.sign := by
  unfold cmpZ
  rcases Int.lt_trichotomy a 0 with h | h | h
  · rw [if_pos h, Int.sign_eq_neg_one_of_neg h]
  · subst h; rfl
  · rw [if_neg (by omega), if_pos h, Int.sign_eq_one_of_pos h]
theorem few_len {s : ByteArray} (h : fewB s = true) : s.size ≤ 5000 := by
  unfold fewB at h
  rw [Bool.and_eq_true] at h
  exact of_decide_eq_true h.2

set_option maxHeartbeats 4000000 in
set_option maxRecDepth 100000 in
theorem l1_IntegerAdds (s t : ByteArray) (w : World) (hs : s.size ≤ maxLen) (ht : t.size ≤ maxLen) (htab : Tab w) :
    Calls Tryd.prog 5 #[.string s, .string t] w (fun e w' => e = .returned (.bool true) ∧ Gr w w') := by
  have HAW := Lib.hid (ret_awake htab)
  have HG := Lib.hid (Gr.refl w)
  have HR := Lib.hid (fun w' ty hg => few_new2 s t w w' ty hg hs ht)
  cases hr : (fewB s && fewB t)
  · rw [hr] at HR
    clear hr hs ht htab
    go_enter Tryd.func5, Tryd.ntmps5
    go_wp2_with fail
    refine (HR.out _ _ HG.out).mono ?_
    rintro e w1 ⟨rfl, hg⟩
    replace HG := Lib.hid hg; clear hg
    go_wp2_with fail
    refine (HAW.out _ HG.out).mono ?_
    rintro e w2 ⟨rfl, hg⟩
    replace HG := Lib.hid hg; clear hg
    go_wp2
    go_ret
    exact ⟨rfl, HG.out⟩
  · rw [hr] at HR
    have C1 := Lib.hid (any_Add htab hs ht)
    have C2 := Lib.hid (ref_Add (w0 := w) hs ht)
    have C3 := Lib.hid (any_Sub htab hs ht)
    have C4 := Lib.hid (ref_Sub (w0 := w) hs ht)
    have C5 := Lib.hid (any_Neg htab hs)
    have C6 := Lib.hid (any_Abs (w0 := w) hs)
    have C7 := Lib.hid (ref_Check (w0 := w) hs)
    obtain ⟨p, Hp⟩ : ∃ p, Hid ((opR s t fun a b => longR (a + b)) = p) := ⟨_, rfl⟩
    rw [Hp.out] at C1 C2
    clear Hp
    obtain ⟨p1, p2⟩ := p
    simp only [vSI, vII] at C1 C2
    obtain ⟨q, Hq⟩ : ∃ p, Hid ((opR s t fun a b => longR (a - b)) = p) := ⟨_, rfl⟩
    rw [Hq.out] at C3 C4
    clear Hq
    obtain ⟨q1, q2⟩ := q
    simp only [vSI, vII] at C3 C4
    rcases chk_cases s with h | ⟨a, rfl, ha, h3⟩
    · have e1 : (opR ⟨#[48]⟩ s fun a b => longR (a - b)) = (⟨#[]⟩, chk s.data.toList) := by rw [opR_err (by rw [both0]; exact h), both0]
      have e2 : absR s = (⟨#[]⟩, chk s.data.toList) := by unfold absR; rw [if_neg (by simpa using h)]
      rw [e1] at C5
      rw [e2] at C6
      clear e1 e2
      generalize chk s.data.toList = c at C5 C6 C7 h
      have h2 : (c != 0) = true := by rw [bne, h]; rfl
      simp only [vSI] at C5 C6
      clear hr hs ht htab
      go_enter Tryd.func5, Tryd.ntmps5
      go_wp2_with fail
      refine (HR.out _ _ HG.out).mono ?_
      rintro e w1 ⟨rfl, hg⟩
      replace HG := Lib.hid hg; clear hg
      go_wp2_with fail
      refine (C1.out _ HG.out).mono ?_
      rintro e w2 ⟨rfl, hg⟩
      replace HG := Lib.hid hg; clear hg
      go_wp2_with fail
      refine (C2.out _ HG.out).mono ?_
      rintro e w3 ⟨rfl, hg⟩
      replace HG := Lib.hid hg; clear hg
      go_wp2_with fail
      refine (C3.out _ HG.out).mono ?_
      rintro e w4 ⟨rfl, hg⟩
      replace HG := Lib.hid hg; clear hg
      go_wp2_with fail
      refine (C4.out _ HG.out).mono ?_
      rintro e w5 ⟨rfl, hg⟩
      replace HG := Lib.hid hg; clear hg
      go_wp2_with fail
      refine (C5.out _ HG.out).mono ?_
      rintro e w6 ⟨rfl, hg⟩
      replace HG := Lib.hid hg; clear hg
      go_wp2_with fail
      refine (C6.out _ HG.out).mono ?_
      rintro e w7 ⟨rfl, hg⟩
      replace HG := Lib.hid hg; clear hg
      go_wp2_with fail
      refine (C7.out _ HG.out).mono ?_
      rintro e w8 ⟨rfl, hg⟩
      replace HG := Lib.hid hg; clear hg
      go_wp2_with fail
      refine (HAW.out _ HG.out).mono ?_
      rintro e w9 ⟨rfl, hg⟩
      replace HG := Lib.hid hg; clear hg
      go_wp2
      go_ret
      exact ⟨rfl, HG.out⟩
    · have ia : In a := ha.1
      have C8 := Lib.hid (Ret.same (w0 := w) fun w => r1_Negated a w ha)
      have C9 := Lib.hid (Ret.same (w0 := w) fun w => r1_Magnitude a w ha)
      have e1 : (opR ⟨#[48]⟩ (Tx a) fun a b => longR (a - b)) = (Tx (-a), 0) := by
        rw [← Tx_zero, opR_Tx In.zero ia, Int.zero_sub, longR_in (ha.neg.in (Nat.le_refl _))]
      have e2 : absR (Tx a) = (Tx (a.natAbs : Int), 0) := by unfold absR; rw [if_pos h3, str_body_Tx]
      rw [e1] at C5
      rw [e2] at C6
      rw [h3] at C7
      simp only [vSI] at C5 C6
      clear e1 e2 hr hs ht htab ia ha h3
      generalize Tx (-a) = x1 at C5 C8
      generalize Tx (a.natAbs : Int) = x2 at C6 C9
      generalize Tx a = s at HR C1 C2 C3 C4 C5 C6 C7 C8 C9 ⊢
      go_enter Tryd.func5, Tryd.ntmps5
      go_wp2_with fail
      refine (HR.out _ _ HG.out).mono ?_
      rintro e w1 ⟨rfl, hg⟩
      replace HG := Lib.hid hg; clear hg
      go_wp2_with fail
      refine (C1.out _ HG.out).mono ?_
      rintro e w2 ⟨rfl, hg⟩
      replace HG := Lib.hid hg; clear hg
      go_wp2_with fail
      refine (C2.out _ HG.out).mono ?_
      rintro e w3 ⟨rfl, hg⟩
      replace HG := Lib.hid hg; clear hg
      go_wp2_with fail
      refine (C3.out _ HG.out).mono ?_
      rintro e w4 ⟨rfl, hg⟩
      replace HG := Lib.hid hg; clear hg
      go_wp2_with fail
      refine (C4.out _ HG.out).mono ?_
      rintro e w5 ⟨rfl, hg⟩
      replace HG := Lib.hid hg; clear hg
      go_wp2_with fail
      refine (C5.out _ HG.out).mono ?_
      rintro e w6 ⟨rfl, hg⟩
      replace HG := Lib.hid hg; clear hg
      go_wp2_with fail
      refine (C6.out _ HG.out).mono ?_
      rintro e w7 ⟨rfl, hg⟩
      replace HG := Lib.hid hg; clear hg
      go_wp2_with fail
      refine (C7.out _ HG.out).mono ?_
      rintro e w8 ⟨rfl, hg⟩
      replace HG := Lib.hid hg; clear hg
      go_wp2_with fail
      refine (C8.out _ HG.out).mono ?_
      rintro e w9 ⟨rfl, hg⟩
      replace HG := Lib.hid hg; clear hg
      go_wp2_with fail
      refine (C9.out _ HG.out).mono ?_
      rintro e w10 ⟨rfl, hg⟩
      replace HG := Lib.hid hg; clear hg
      go_wp2_with fail
      refine (HAW.out _ HG.out).mono ?_
      rintro e w11 ⟨rfl, hg⟩
      replace HG := Lib.hid hg; clear hg
      go_wp2
      go_ret
      exact ⟨rfl, HG.out⟩
set_option maxHeartbeats 4000000 in
set_option maxRecDepth 100000 in
theorem l1_IntegerDivides (s t : ByteArray) (w : World) (hs : s.size ≤ maxLen) (ht : t.size ≤ maxLen) (htab : Tab w) :
    Calls Tryd.prog 6 #[.string s, .string t] w (fun e w' => e = .returned (.bool true) ∧ Gr w w') := by
  have HAW := Lib.hid (ret_awake htab)
  have HG := Lib.hid (Gr.refl w)
  have HR := Lib.hid (fun w' ty hg => few_new2 s t w w' ty hg hs ht)
  cases hr : (fewB s && fewB t)
  · rw [hr] at HR
    clear hr hs ht htab
    go_enter Tryd.func6, Tryd.ntmps6
    go_wp2_with fail
    refine (HR.out _ _ HG.out).mono ?_
    rintro e w1 ⟨rfl, hg⟩
    replace HG := Lib.hid hg; clear hg
    go_wp2_with fail
    refine (HAW.out _ HG.out).mono ?_
    rintro e w2 ⟨rfl, hg⟩
    replace HG := Lib.hid hg; clear hg
    go_wp2
    go_ret
    exact ⟨rfl, HG.out⟩
  · rw [hr] at HR
    have C1 := Lib.hid (any_Mul htab hs ht)
    have C2 := Lib.hid (ref_Mul (w0 := w) hs ht)
    have C3 := Lib.hid (any_Quo htab hs ht)
    have C4 := Lib.hid (ref_Quo (w0 := w) hs ht)
    have C5 := Lib.hid (any_Rem htab hs ht)
    have C6 := Lib.hid (ref_Rem (w0 := w) hs ht)
    have C7 := Lib.hid (any_Gcd htab hs ht)
    have C8 := Lib.hid (ref_Both (w0 := w) hs ht)
    obtain ⟨p, Hp⟩ : ∃ p, Hid ((opR s t fun a b => longR (a * b)) = p) := ⟨_, rfl⟩
    rw [Hp.out] at C1 C2
    clear Hp
    obtain ⟨p1, p2⟩ := p
    simp only [vSI, vII] at C1 C2
    obtain ⟨q, Hq⟩ : ∃ p, Hid ((opR s t fun a b => if b = 0 then (⟨#[]⟩, 15) else (Tx (a.fdiv b), 0)) = p) := ⟨_, rfl⟩
    rw [Hq.out] at C3 C4
    clear Hq
    obtain ⟨q1, q2⟩ := q
    simp only [vSI, vII] at C3 C4
    obtain ⟨r, Hr⟩ : ∃ p, Hid ((opR s t fun a b => if b = 0 then (⟨#[]⟩, 15) else (Tx (a.fmod b), 0)) = p) := ⟨_, rfl⟩
    rw [Hr.out] at C5 C6
    clear Hr
    obtain ⟨r1, r2⟩ := r
    simp only [vSI, vII] at C5 C6
    rcases both_cases s t with h | ⟨a, b, rfl, rfl, ha, hb, h3⟩
    · rw [opR_err h] at C7
      generalize both s t = c at C7 C8 h
      have h2 : (c != 0) = true := by rw [bne, h]; rfl
      simp only [vSI] at C7
      clear hr hs ht htab
      go_enter Tryd.func6, Tryd.ntmps6
      go_wp2_with fail
      refine (HR.out _ _ HG.out).mono ?_
      rintro e w1 ⟨rfl, hg⟩
      replace HG := Lib.hid hg; clear hg
      go_wp2_with fail
      refine (C1.out _ HG.out).mono ?_
      rintro e w2 ⟨rfl, hg⟩
      replace HG := Lib.hid hg; clear hg
      go_wp2_with fail
      refine (C2.out _ HG.out).mono ?_
      rintro e w3 ⟨rfl, hg⟩
      replace HG := Lib.hid hg; clear hg
      go_wp2_with fail
      refine (C3.out _ HG.out).mono ?_
      rintro e w4 ⟨rfl, hg⟩
      replace HG := Lib.hid hg; clear hg
      go_wp2_with fail
      refine (C4.out _ HG.out).mono ?_
      rintro e w5 ⟨rfl, hg⟩
      replace HG := Lib.hid hg; clear hg
      go_wp2_with fail
      refine (C5.out _ HG.out).mono ?_
      rintro e w6 ⟨rfl, hg⟩
      replace HG := Lib.hid hg; clear hg
      go_wp2_with fail
      refine (C6.out _ HG.out).mono ?_
      rintro e w7 ⟨rfl, hg⟩
      replace HG := Lib.hid hg; clear hg
      go_wp2_with fail
      refine (C7.out _ HG.out).mono ?_
      rintro e w8 ⟨rfl, hg⟩
      replace HG := Lib.hid hg; clear hg
      go_wp2_with fail
      refine (C8.out _ HG.out).mono ?_
      rintro e w9 ⟨rfl, hg⟩
      replace HG := Lib.hid hg; clear hg
      go_wp2_with fail
      refine (HAW.out _ HG.out).mono ?_
      rintro e w10 ⟨rfl, hg⟩
      replace HG := Lib.hid hg; clear hg
      go_wp2
      go_ret
      exact ⟨rfl, HG.out⟩
    · have ia : In a := ha.1
      have ib : In b := hb.1
      have C9 := Lib.hid (Ret.mk (w0 := w) fun w _ => r1_Common a b w ha hb (by omega))
      rw [opR_Tx ia ib, longR_in (in_gcd ia ib)] at C7
      rw [h3] at C8
      simp only [vSI] at C7
      clear hr hs ht htab ia ha ib hb h3
      generalize Tx ((Nat.gcd a.natAbs b.natAbs : Nat) : Int) = x1 at C7 C9
      generalize Tx a = s at HR C1 C2 C3 C4 C5 C6 C7 C8 C9 ⊢
      generalize Tx b = t at HR C1 C2 C3 C4 C5 C6 C7 C8 C9 ⊢
      go_enter Tryd.func6, Tryd.ntmps6
      go_wp2_with fail
      refine (HR.out _ _ HG.out).mono ?_
      rintro e w1 ⟨rfl, hg⟩
      replace HG := Lib.hid hg; clear hg
      go_wp2_with fail
      refine (C1.out _ HG.out).mono ?_
      rintro e w2 ⟨rfl, hg⟩
      replace HG := Lib.hid hg; clear hg
      go_wp2_with fail
      refine (C2.out _ HG.out).mono ?_
      rintro e w3 ⟨rfl, hg⟩
      replace HG := Lib.hid hg; clear hg
      go_wp2_with fail
      refine (C3.out _ HG.out).mono ?_
      rintro e w4 ⟨rfl, hg⟩
      replace HG := Lib.hid hg; clear hg
      go_wp2_with fail
      refine (C4.out _ HG.out).mono ?_
      rintro e w5 ⟨rfl, hg⟩
      replace HG := Lib.hid hg; clear hg
      go_wp2_with fail
      refine (C5.out _ HG.out).mono ?_
      rintro e w6 ⟨rfl, hg⟩
      replace HG := Lib.hid hg; clear hg
      go_wp2_with fail
      refine (C6.out _ HG.out).mono ?_
      rintro e w7 ⟨rfl, hg⟩
      replace HG := Lib.hid hg; clear hg
      go_wp2_with fail
      refine (C7.out _ HG.out).mono ?_
      rintro e w8 ⟨rfl, hg⟩
      replace HG := Lib.hid hg; clear hg
      go_wp2_with fail
      refine (C8.out _ HG.out).mono ?_
      rintro e w9 ⟨rfl, hg⟩
      replace HG := Lib.hid hg; clear hg
      go_wp2_with fail
      refine (C9.out _ HG.out).mono ?_
      rintro e w10 ⟨rfl, hg⟩
      replace HG := Lib.hid hg; clear hg
      go_wp2_with fail
      refine (HAW.out _ HG.out).mono ?_
      rintro e w11 ⟨rfl, hg⟩
      replace HG := Lib.hid hg; clear hg
      go_wp2
      go_ret
      exact ⟨rfl, HG.out⟩
set_option maxHeartbeats 4000000 in
set_option maxRecDepth 100000 in
theorem l1_IntegerChecks (s : ByteArray) (w : World) (hs : s.size ≤ maxLen) (htab : Tab w) (herr : ErrR w) :
    Calls Tryd.prog 3 #[.string s] w (fun e w' => e = .returned (.bool true) ∧ Gr w w') := by
  have HAW := Lib.hid (ret_awake htab)
  have HG := Lib.hid (Gr.refl w)
  have HR := Lib.hid (fun w' ty hg => few_new1 s w w' ty hg hs)
  cases hr : (fewB s)
  · rw [hr] at HR
    clear hr hs htab herr
    go_enter Tryd.func3, Tryd.ntmps3
    go_wp2_with fail
    refine (HR.out _ _ HG.out).mono ?_
    rintro e w1 ⟨rfl, hg⟩
    replace HG := Lib.hid hg; clear hg
    go_wp2_with fail
    refine (HAW.out _ HG.out).mono ?_
    rintro e w2 ⟨rfl, hg⟩
    replace HG := Lib.hid hg; clear hg
    go_wp2
    go_ret
    exact ⟨rfl, HG.out⟩
  · rw [hr] at HR
    have C1 := Lib.hid (ref_Check (w0 := w) hs)
    have C2 := Lib.hid (ret_Small (w0 := w) hs herr)
    have C3 := Lib.hid (ref_Small (w0 := w) hs)
    have C4 := Lib.hid (any_Digits (w0 := w) hs)
    have C5 := Lib.hid (any_Sign (w0 := w) hs)
    have C6 := Lib.hid (ret_Check (w0 := w) hs)
    obtain ⟨p, Hp⟩ : ∃ p, Hid (smallR s = p) := ⟨_, rfl⟩
    rw [Hp.out] at C2 C3
    clear Hp
    obtain ⟨p1, p2⟩ := p
    simp only [vSI, vII] at C2 C3
    rcases chk_cases s with h | ⟨a, rfl, ha, h3⟩
    · have e1 : digR s = (0, chk s.data.toList) := by unfold digR; rw [if_neg (by simpa using h)]
      have e2 : cmpR s ⟨#[48]⟩ = (0, chk s.data.toList) := by unfold cmpR; rw [both_0, if_neg (by simpa using h)]
      rw [e1] at C4
      rw [e2] at C5
      clear e1 e2
      generalize chk s.data.toList = c at C1 C4 C5 C6 h
      have h2 : (c != 0) = true := by rw [bne, h]; rfl
      simp only [vII] at C4 C5
      clear hr hs htab herr
      go_enter Tryd.func3, Tryd.ntmps3
      go_wp2_with fail
      refine (HR.out _ _ HG.out).mono ?_
      rintro e w1 ⟨rfl, hg⟩
      replace HG := Lib.hid hg; clear hg
      go_wp2_with fail
      refine (C1.out _ HG.out).mono ?_
      rintro e w2 ⟨rfl, hg⟩
      replace HG := Lib.hid hg; clear hg
      go_wp2_with fail
      refine (C2.out _ HG.out).mono ?_
      rintro e w3 ⟨rfl, hg⟩
      replace HG := Lib.hid hg; clear hg
      go_wp2_with fail
      refine (C3.out _ HG.out).mono ?_
      rintro e w4 ⟨rfl, hg⟩
      replace HG := Lib.hid hg; clear hg
      go_wp2_with fail
      refine (C4.out _ HG.out).mono ?_
      rintro e w5 ⟨rfl, hg⟩
      replace HG := Lib.hid hg; clear hg
      go_wp2_with fail
      refine (C5.out _ HG.out).mono ?_
      rintro e w6 ⟨rfl, hg⟩
      replace HG := Lib.hid hg; clear hg
      go_wp2_with fail
      refine (C6.out _ HG.out).mono ?_
      rintro e w7 ⟨rfl, hg⟩
      replace HG := Lib.hid hg; clear hg
      go_wp2_with fail
      refine (HAW.out _ HG.out).mono ?_
      rintro e w8 ⟨rfl, hg⟩
      replace HG := Lib.hid hg; clear hg
      go_wp2
      go_ret
      exact ⟨rfl, HG.out⟩
    · have ia : In a := ha.1
      have C7 := Lib.hid (Ret.same (w0 := w) fun w => r1_Digits a w ha)
      have C8 := Lib.hid (Ret.same (w0 := w) fun w => r1_Sign a w ha)
      have e1 : digR (Tx a) = ((Lib.nDigits a.natAbs : Int), 0) := by
        unfold digR; rw [if_pos h3]
        have h4 : (body (Tx a).data.toList).length = (str (body (Tx a).data.toList)).size := (size_str _).symm
        rw [h4, str_body_Tx, size_Tx_nat]
      have e2 : cmpR (Tx a) ⟨#[48]⟩ = (a.sign, 0) := by rw [← Tx_zero, cmpR_Tx ia In.zero, cmpZ_sign]
      rw [e1] at C4
      rw [e2] at C5
      rw [h3] at C1 C6
      simp only [vII] at C4 C5
      clear e1 e2 hr hs htab herr ia ha h3
      generalize (Lib.nDigits a.natAbs : Int) = x1 at C4 C7
      generalize a.sign = x2 at C5 C8
      generalize Tx a = s at HR C1 C2 C3 C4 C5 C6 C7 C8 ⊢
      go_enter Tryd.func3, Tryd.ntmps3
      go_wp2_with fail
      refine (HR.out _ _ HG.out).mono ?_
      rintro e w1 ⟨rfl, hg⟩
      replace HG := Lib.hid hg; clear hg
      go_wp2_with fail
      refine (C1.out _ HG.out).mono ?_
      rintro e w2 ⟨rfl, hg⟩
      replace HG := Lib.hid hg; clear hg
      go_wp2_with fail
      refine (C2.out _ HG.out).mono ?_
      rintro e w3 ⟨rfl, hg⟩
      replace HG := Lib.hid hg; clear hg
      go_wp2_with fail
      refine (C3.out _ HG.out).mono ?_
      rintro e w4 ⟨rfl, hg⟩
      replace HG := Lib.hid hg; clear hg
      go_wp2_with fail
      refine (C4.out _ HG.out).mono ?_
      rintro e w5 ⟨rfl, hg⟩
      replace HG := Lib.hid hg; clear hg
      go_wp2_with fail
      refine (C5.out _ HG.out).mono ?_
      rintro e w6 ⟨rfl, hg⟩
      replace HG := Lib.hid hg; clear hg
      go_wp2_with fail
      refine (C6.out _ HG.out).mono ?_
      rintro e w7 ⟨rfl, hg⟩
      replace HG := Lib.hid hg; clear hg
      go_wp2_with fail
      refine (C7.out _ HG.out).mono ?_
      rintro e w8 ⟨rfl, hg⟩
      replace HG := Lib.hid hg; clear hg
      go_wp2_with fail
      refine (C8.out _ HG.out).mono ?_
      rintro e w9 ⟨rfl, hg⟩
      replace HG := Lib.hid hg; clear hg
      go_wp2_with fail
      refine (HAW.out _ HG.out).mono ?_
      rintro e w10 ⟨rfl, hg⟩
      replace HG := Lib.hid hg; clear hg
      go_wp2
      go_ret
      exact ⟨rfl, HG.out⟩
set_option maxHeartbeats 4000000 in
set_option maxRecDepth 100000 in
theorem l1_IntegerCompares (s t : ByteArray) (n : Int) (w : World) (hs : s.size ≤ maxLen) (ht : t.size ≤ maxLen) (hn0 : -9223372036854775808 ≤ n) (hn1 : n ≤ 9223372036854775807) (htab : Tab w) :
    Calls Tryd.prog 4 #[.string s, .string t, .int .i64 n] w (fun e w' => e = .returned (.bool true) ∧ Gr w w') := by
  have HAW := Lib.hid (ret_awake htab)
  have HG := Lib.hid (Gr.refl w)
  have HR := Lib.hid (fun w' ty hg => few_new2 s t w w' ty hg hs ht)
  cases hr : (fewB s && fewB t)
  · rw [hr] at HR
    clear hr hs ht htab
    go_enter Tryd.func4, Tryd.ntmps4
    go_wp2_with fail
    refine (HR.out _ _ HG.out).mono ?_
    rintro e w1 ⟨rfl, hg⟩
    replace HG := Lib.hid hg; clear hg
    go_wp2_with fail
    refine (HAW.out _ HG.out).mono ?_
    rintro e w2 ⟨rfl, hg⟩
    replace HG := Lib.hid hg; clear hg
    go_wp2
    go_ret
    exact ⟨rfl, HG.out⟩
  · rw [hr] at HR
    have C1 := Lib.hid (any_Compare (w0 := w) hs ht)
    have C2 := Lib.hid (ref_Both (w0 := w) hs ht)
    have C3 := Lib.hid (ret_Of htab hn0 hn1)
    have C4 := Lib.hid (Ret.mk (w0 := w) fun w _ => r1_Whole n w hn0 hn1)
    generalize Tx n = xn at C3 C4
    rcases both_cases s t with h | ⟨a, b, rfl, rfl, ha, hb, h3⟩
    · have e1 : cmpR s t = (0, both s t) := by unfold cmpR; rw [if_neg (by simpa using h)]
      rw [e1] at C1
      clear e1
      generalize both s t = c at C1 C2 h
      have h2 : (c != 0) = true := by rw [bne, h]; rfl
      simp only [vII] at C1
      clear hr hs ht htab
      go_enter Tryd.func4, Tryd.ntmps4
      go_wp2_with fail
      refine (HR.out _ _ HG.out).mono ?_
      rintro e w1 ⟨rfl, hg⟩
      replace HG := Lib.hid hg; clear hg
      go_wp2_with fail
      refine (C1.out _ HG.out).mono ?_
      rintro e w2 ⟨rfl, hg⟩
      replace HG := Lib.hid hg; clear hg
      go_wp2_with fail
      refine (C2.out _ HG.out).mono ?_
      rintro e w3 ⟨rfl, hg⟩
      replace HG := Lib.hid hg; clear hg
      go_wp2_with fail
      refine (C3.out _ HG.out).mono ?_
      rintro e w4 ⟨rfl, hg⟩
      replace HG := Lib.hid hg; clear hg
      go_wp2_with fail
      refine (C4.out _ HG.out).mono ?_
      rintro e w5 ⟨rfl, hg⟩
      replace HG := Lib.hid hg; clear hg
      go_wp2_with fail
      refine (HAW.out _ HG.out).mono ?_
      rintro e w6 ⟨rfl, hg⟩
      replace HG := Lib.hid hg; clear hg
      go_wp2
      go_ret
      exact ⟨rfl, HG.out⟩
    · have ia : In a := ha.1
      have ib : In b := hb.1
      have C5 := Lib.hid (Ret.mk (w0 := w) fun w _ => r1_Order a b w ha hb)
      rw [cmpR_Tx ia ib] at C1
      rw [h3] at C2
      simp only [vII] at C1
      clear hr hs ht htab ia ha ib hb h3
      generalize cmpZ a b = x1 at C1 C5
      generalize Tx a = s at HR C1 C2 C5 ⊢
      generalize Tx b = t at HR C1 C2 C5 ⊢
      go_enter Tryd.func4, Tryd.ntmps4
      go_wp2_with fail
      refine (HR.out _ _ HG.out).mono ?_
      rintro e w1 ⟨rfl, hg⟩
      replace HG := Lib.hid hg; clear hg
      go_wp2_with fail
      refine (C1.out _ HG.out).mono ?_
      rintro e w2 ⟨rfl, hg⟩
      replace HG := Lib.hid hg; clear hg
      go_wp2_with fail
      refine (C2.out _ HG.out).mono ?_
      rintro e w3 ⟨rfl, hg⟩
      replace HG := Lib.hid hg; clear hg
      go_wp2_with fail
      refine (C5.out _ HG.out).mono ?_
      rintro e w4 ⟨rfl, hg⟩
      replace HG := Lib.hid hg; clear hg
      go_wp2_with fail
      refine (C3.out _ HG.out).mono ?_
      rintro e w5 ⟨rfl, hg⟩
      replace HG := Lib.hid hg; clear hg
      go_wp2_with fail
      refine (C4.out _ HG.out).mono ?_
      rintro e w6 ⟨rfl, hg⟩
      replace HG := Lib.hid hg; clear hg
      go_wp2_with fail
      refine (HAW.out _ HG.out).mono ?_
      rintro e w7 ⟨rfl, hg⟩
      replace HG := Lib.hid hg; clear hg
      go_wp2
      go_ret
      exact ⟨rfl, HG.out⟩
end Go.Proofs.YtjcneleacldfcaaDoor
