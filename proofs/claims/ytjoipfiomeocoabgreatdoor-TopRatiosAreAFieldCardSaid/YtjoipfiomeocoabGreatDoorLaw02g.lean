/- Laws of layer 2: RatioNeighbours, RatioBetween. -/
import Derived.Test.YtjoipfiomeocoabGreatDoorLaw02b
import Derived.Test.YtjoipfiomeocoabGreatDoorLaw02p
set_option linter.unusedVariables false
set_option linter.unusedSimpArgs false
namespace Go.Proofs.YtjoipfiomeocoabGreatDoor
open Go.RowKit Go.Shelf
open Z

theorem cmpQ_ge' {a b : Rat} (h : b ≤ a) : 0 ≤ cmpQ a b := by
  rcases cmpQ_cases a b with ⟨h', _, _⟩ | ⟨_, e, _⟩ | ⟨_, e, _⟩
  · exact absurd h (by rw [Rat.not_le]; exact h')
  · omega
  · omega
theorem cmpQ_le' {a b : Rat} (h : a ≤ b) : cmpQ a b ≤ 0 := by
  rcases cmpQ_cases a b with ⟨_, e, _⟩ | ⟨_, e, _⟩ | ⟨h', _, _⟩
  · omega
  · omega
  · exact absurd h (by rw [Rat.not_le]; exact h')
theorem sh_of_int {n : Int} {k : Nat} (h : Lib.nDigits n.natAbs ≤ k) : Sh k ((n : Int) : Rat) := by
  refine ⟨by rw [Rat.num_intCast]; exact h, ?_⟩
  rw [Rat.den_intCast, Lib.nDigits_small (by decide)]
  exact Nat.le_trans (Lib.nDigits_pos _) h
theorem lit_RT {s : ByteArray} {r : Rat} (h : chkS s = 0) (e : rv s = r) : RT r = s := by rw [← e]; exact RT_rv h
theorem sh_lit {s : ByteArray} {r : Rat} (h : chkS s = 0) (e : rv s = r) (hl : s.size ≤ 100) : Sh 100 r := by
  obtain ⟨x, _, hx, ex⟩ := text_sh h hl
  rw [← e, ex]; exact hx
theorem near_nd {a : Rat} {k : Nat} (h : Sh k a) : Lib.nDigits (nearest a).natAbs ≤ k + 1 := by
  have hf := floor_abs a
  have h1 : Lib.nDigits a.floor.natAbs ≤ k := Nat.le_trans (nDigits_mono hf) h.1
  rw [round_parts, floor_parts]
  split
  · omega
  · exact nd_add h1 (Nat.le_trans (Nat.le_of_eq (Lib.nDigits_small (show (1 : Int).natAbs < 10 by decide))) h.pos) h.pos
section
variable {w0 : World} (htab : Tab w0) (hmx : Mx w0)
include htab hmx
set_option maxHeartbeats 4000000 in
set_option maxRecDepth 100000 in
theorem l2_RatioNeighbours {s : ByteArray} (hs : s.size ≤ maxLen) : Ret w0 7 #[.string s] (.bool true) := by
  have AW := Lib.hid (l2_awake htab hmx)
  have HR := Lib.hid (fun w' ty hg => short_new1 s w0 w' ty hg hs)
  cases hr : shortB s
  · rw [hr] at HR
    clear hr hs htab hmx
    intro w hg
    have HG := Lib.hid hg; clear hg
    go_enter Tryz.func7, Tryz.ntmps7
    go_wp2_with fail
    refine (HR.out _ _ HG.out).mono ?_
    rintro e w1 ⟨rfl, hg⟩
    replace HG := Lib.hid hg; clear hg
    go_wp2_with fail
    refine (AW.out _ HG.out).mono ?_
    rintro e w1 ⟨rfl, hg⟩
    replace HG := Lib.hid hg; clear hg
    go_wp2
    go_ret
    exact ⟨rfl, HG.out⟩
  · rw [hr] at HR
    obtain ⟨a, rfl, ka⟩ := short_RT hr
    have ia := ka.inR (by omega)
    have nf : Lib.nDigits a.floor.natAbs ≤ 120 := Nat.le_trans (nDigits_mono (floor_abs a)) ka.1
    have nn := near_nd ka
    have kf := sh_of_int nf
    have kn := sh_of_int nn
    have F := Lib.hid ((ret_QFloor htab hmx (RT_small ia)).si (floorR_ok ia))
    have R := Lib.hid ((ret_QRound htab hmx (RT_small ia)).si (roundR_ok ia))
    have K1 := ret_CheckI (w0 := w0) (s := Tx a.floor) (show In a.floor by unfold In; omega).len
    rw [(show In a.floor by unfold In; omega).chk] at K1
    have K2 := ret_CheckI (w0 := w0) (s := Tx (nearest a)) (show In (nearest a) by unfold In; omega).len
    rw [(show In (nearest a) by unfold In; omega).chk] at K2
    have S1 := (ret_QSub htab hmx (s := RT a) (t := RT (a.floor : Rat)) (RT_small ia) (RT_small (kf.inR (by omega)))).si ((op2_ok ia (kf.inR (by omega))).trans (subR_sh ka kf (by omega)))
    have S2 := (ret_QSub htab hmx (s := RT (nearest a : Rat)) (t := RT a) (RT_small (kn.inR (by omega))) (RT_small ia)).si ((op2_ok (kn.inR (by omega)) ia).trans (subR_sh kn ka (by omega)))
    have kp := ka.sub kf
    have kg := kn.sub ka
    have C1 := r2_Check (w0 := w0) (RT (a - (a.floor : Rat))) (RT_small (kp.inR (by omega)))
    rw [chkS_RT (kp.inR (by omega))] at C1
    have C2 := r2_Check (w0 := w0) (RT ((nearest a : Rat) - a)) (RT_small (kg.inR (by omega)))
    rw [chkS_RT (kg.inR (by omega))] at C2
    have z0 := lit_RT (s := ⟨#[48]⟩) (r := 0) (by decide +kernel) (by decide +kernel)
    have z1 := lit_RT (s := ⟨#[49]⟩) (r := 1) (by decide +kernel) (by decide +kernel)
    have z2 := lit_RT (s := ⟨#[45, 49, 47, 50]⟩) (r := -(1/2)) (by decide +kernel) (by decide +kernel)
    have z3 := lit_RT (s := ⟨#[49, 47, 50]⟩) (r := 1/2) (by decide +kernel) (by decide +kernel)
    have O1 := ret_OrderR (w0 := w0) kp (sh_lit (s := ⟨#[48]⟩) (r := 0) (by decide +kernel) (by decide +kernel) (by decide)) (by omega) (by omega)
    have O2 := ret_OrderR (w0 := w0) kp (sh_lit (s := ⟨#[49]⟩) (r := 1) (by decide +kernel) (by decide +kernel) (by decide)) (by omega) (by omega)
    have O3 := ret_OrderR (w0 := w0) kg (sh_lit (s := ⟨#[45, 49, 47, 50]⟩) (r := -(1/2)) (by decide +kernel) (by decide +kernel) (by decide)) (by omega) (by omega)
    have O4 := ret_OrderR (w0 := w0) kg (sh_lit (s := ⟨#[49, 47, 50]⟩) (r := 1/2) (by decide +kernel) (by decide +kernel) (by decide)) (by omega) (by omega)
    obtain ⟨f1, f2⟩ := floor_part a
    obtain ⟨g1, g2⟩ := near_part a (nearest a) rfl
    have h1 := cmpQ_ge' f1
    rw [cmpQ_lt f2] at O2
    rw [cmpQ_gt g1] at O3
    have h4 := cmpQ_le' g2
    rw [z0] at O1
    rw [z1] at O2
    rw [z2] at O3
    rw [z3] at O4
    rw [RT_int] at S1 S2
    have K1' := Lib.hid K1
    have K2' := Lib.hid K2
    have S1' := Lib.hid S1
    have S2' := Lib.hid S2
    have C1' := Lib.hid C1
    have C2' := Lib.hid C2
    have O1' := Lib.hid O1
    have O2' := Lib.hid O2
    have O3' := Lib.hid O3
    have O4' := Lib.hid O4
    clear K1 K2 S1 S2 C1 C2 O1 O2 O3 O4 z0 z1 z2 z3 f1 f2 g1 g2 kp kg ka ia nf nn kf kn hr hs htab hmx
    generalize cmpQ (a - (a.floor : Rat)) 0 = o1 at *
    generalize cmpQ ((nearest a : Rat) - a) (1/2) = o4 at *
    generalize RT (a - (a.floor : Rat)) = p at *
    generalize RT ((nearest a : Rat) - a) = g at *
    generalize Tx a.floor = x at *
    generalize Tx (nearest a) = y at *
    generalize RT a = s at *
    intro w hg
    have HG := Lib.hid hg; clear hg
    go_enter Tryz.func7, Tryz.ntmps7
    go_wp2_with fail
    refine (HR.out _ _ HG.out).mono ?_
    rintro e w1 ⟨rfl, hg⟩
    replace HG := Lib.hid hg; clear hg
    go_wp2_with fail
    refine (F.out _ HG.out).mono ?_
    rintro e w1 ⟨rfl, hg⟩
    replace HG := Lib.hid hg; clear hg
    go_wp2_with fail
    refine (R.out _ HG.out).mono ?_
    rintro e w1 ⟨rfl, hg⟩
    replace HG := Lib.hid hg; clear hg
    go_wp2_with fail
    refine (K1'.out _ HG.out).mono ?_
    rintro e w1 ⟨rfl, hg⟩
    replace HG := Lib.hid hg; clear hg
    go_wp2_with fail
    refine (K2'.out _ HG.out).mono ?_
    rintro e w1 ⟨rfl, hg⟩
    replace HG := Lib.hid hg; clear hg
    go_wp2_with fail
    refine (S1'.out _ HG.out).mono ?_
    rintro e w1 ⟨rfl, hg⟩
    replace HG := Lib.hid hg; clear hg
    go_wp2_with fail
    refine (S2'.out _ HG.out).mono ?_
    rintro e w1 ⟨rfl, hg⟩
    replace HG := Lib.hid hg; clear hg
    go_wp2_with fail
    refine (C1'.out _ HG.out).mono ?_
    rintro e w1 ⟨rfl, hg⟩
    replace HG := Lib.hid hg; clear hg
    go_wp2_with fail
    refine (C2'.out _ HG.out).mono ?_
    rintro e w1 ⟨rfl, hg⟩
    replace HG := Lib.hid hg; clear hg
    go_wp2_with fail
    refine (O1'.out _ HG.out).mono ?_
    rintro e w1 ⟨rfl, hg⟩
    replace HG := Lib.hid hg; clear hg
    go_wp2_with fail
    refine (O2'.out _ HG.out).mono ?_
    rintro e w1 ⟨rfl, hg⟩
    replace HG := Lib.hid hg; clear hg
    go_wp2_with fail
    refine (O3'.out _ HG.out).mono ?_
    rintro e w1 ⟨rfl, hg⟩
    replace HG := Lib.hid hg; clear hg
    go_wp2_with fail
    refine (O4'.out _ HG.out).mono ?_
    rintro e w1 ⟨rfl, hg⟩
    replace HG := Lib.hid hg; clear hg
    go_wp2_with fail
    refine (AW.out _ HG.out).mono ?_
    rintro e w1 ⟨rfl, hg⟩
    replace HG := Lib.hid hg; clear hg
    go_wp2
    go_ret
    exact ⟨rfl, HG.out⟩
set_option maxHeartbeats 4000000 in
set_option maxRecDepth 100000 in
theorem l2_RatioBetween {s t : ByteArray} {n : Int} (hs : s.size ≤ maxLen) (ht : t.size ≤ maxLen) (hn : 0 ≤ n ∧ n ≤ 255) : Ret w0 8 #[.string s, .string t, .int .u8 n] (.bool true) := by
  have AW := Lib.hid (l2_awake htab hmx)
  have HR := Lib.hid (fun w' ty hg => short_new2 s t w0 w' ty hg hs ht)
  obtain ⟨hn0, hn1⟩ := hn
  cases hr : (shortB s && shortB t)
  · rw [hr] at HR
    clear hr hs ht htab hmx
    intro w hg
    have HG := Lib.hid hg; clear hg
    go_enter Tryz.func8, Tryz.ntmps8
    go_wp2_with fail
    refine (HR.out _ _ HG.out).mono ?_
    rintro e w1 ⟨rfl, hg⟩
    replace HG := Lib.hid hg; clear hg
    go_wp2_with fail
    refine (AW.out _ HG.out).mono ?_
    rintro e w1 ⟨rfl, hg⟩
    replace HG := Lib.hid hg; clear hg
    go_wp2
    go_ret
    exact ⟨rfl, HG.out⟩
  · rw [hr] at HR
    rw [Bool.and_eq_true] at hr
    obtain ⟨a, rfl, ka⟩ := short_RT hr.1
    obtain ⟨b, rfl, kb⟩ := short_RT hr.2
    have ia := ka.inR (by omega)
    have ib := kb.inR (by omega)
    obtain ⟨v, hv⟩ : ∃ v, v = Rat.divInt n 255 := ⟨_, rfl⟩
    have kv : Sh 3 v := by
      rw [hv]; exact .divInt (by omega) ((nDigits_le_iff _ 3 (by omega)).2 (by omega)) ((nDigits_le_iff _ 3 (by omega)).2 (by omega))
    have kt : Sh 3 (1 - v) := by
      rw [hv, ← turned_w]; exact .divInt (by omega) ((nDigits_le_iff _ 3 (by omega)).2 (by omega)) ((nDigits_le_iff _ 3 (by omega)).2 (by omega))
    obtain ⟨v0, v1⟩ := w_range n hn0 hn1
    rw [← hv] at v0 v1
    have V1 := ret_Over (w0 := w0) (n := n) (d := 255) (by omega) (by omega) (by omega) (by omega) (by omega)
    have V2 := ret_Over (w0 := w0) (n := 255 - n) (d := 255) (by omega) (by omega) (by omega) (by omega) (by omega)
    rw [turned_w, ← hv] at V2
    rw [← hv] at V1
    have z0 := lit_RT (s := ⟨#[48]⟩) (r := 0) (by decide +kernel) (by decide +kernel)
    have z1 := lit_RT (s := ⟨#[49]⟩) (r := 1) (by decide +kernel) (by decide +kernel)
    have k0 := sh_lit (s := ⟨#[48]⟩) (r := 0) (by decide +kernel) (by decide +kernel) (by decide)
    have k1 := sh_lit (s := ⟨#[49]⟩) (r := 1) (by decide +kernel) (by decide +kernel) (by decide)
    have X := (ret_QMix htab hmx (s := RT a) (t := RT b) (u := RT 0) (RT_small ia) (RT_small ib) (RT_small (k0.inR (by omega)))).si (mix_sh ka kb k0 (by omega))
    have Y := (ret_QMix htab hmx (s := RT a) (t := RT b) (u := RT 1) (RT_small ia) (RT_small ib) (RT_small (k1.inR (by omega)))).si (mix_sh ka kb k1 (by omega))
    have M := (ret_QMix htab hmx (s := RT a) (t := RT b) (u := RT v) (RT_small ia) (RT_small ib) (RT_small (kv.inR (by omega)))).si (mix_sh ka kb kv (by omega))
    have N := (ret_QMix htab hmx (s := RT b) (t := RT a) (u := RT (1 - v)) (RT_small ib) (RT_small ia) (RT_small (kt.inR (by omega)))).si (mix_sh kb ka kt (by omega))
    rw [mix0, z0] at X
    rw [mix1, z1] at Y
    rw [← mix_turn] at N
    have km := sh_mix ka kb kv
    have C := r2_Check (w0 := w0) (RT (a + (b - a) * v)) (RT_small (km.inR (by omega)))
    rw [chkS_RT (km.inR (by omega))] at C
    have L := ret_Least (w0 := w0) ka kb (by omega) (by omega)
    have U := ret_Most (w0 := w0) ka kb (by omega) (by omega)
    have hbt : (∃ lo hi : Rat, Sh 120 lo ∧ Sh 120 hi ∧ (if b < a then RT b else RT a) = RT lo ∧ (if a < b then RT b else RT a) = RT hi ∧ lo ≤ a + (b - a) * v ∧ a + (b - a) * v ≤ hi) := by
      by_cases h : b < a
      · have h' : ¬ a < b := by rw [Rat.not_lt]; exact Rat.le_of_lt h
        obtain ⟨p, q⟩ := mix_le (Rat.le_of_lt h) v0 v1
        exact ⟨b, a, kb, ka, by rw [if_pos h], by rw [if_neg h'], p, q⟩
      · obtain ⟨p, q⟩ := mix_ge (Rat.not_lt.1 h) v0 v1
        by_cases h' : a < b
        · exact ⟨a, b, ka, kb, by rw [if_neg h], by rw [if_pos h'], p, q⟩
        · have e : a = b := Rat.le_antisymm (Rat.not_lt.1 h) (Rat.not_lt.1 h')
          exact ⟨a, a, ka, ka, by rw [if_neg h], by rw [if_neg h'], p, by rw [← e] at q; rw [← e]; exact q⟩
    obtain ⟨lo, hi, kl, kh, el, eh, hl, hh⟩ := hbt
    rw [el] at L
    rw [eh] at U
    have O1 := ret_OrderR (w0 := w0) km kl (by omega) (by omega)
    have O2 := ret_OrderR (w0 := w0) km kh (by omega) (by omega)
    have h1 := cmpQ_ge' hl
    have h2 := cmpQ_le' hh
    have V1' := Lib.hid V1
    have V2' := Lib.hid V2
    have X' := Lib.hid X
    have Y' := Lib.hid Y
    have M' := Lib.hid M
    have N' := Lib.hid N
    have C' := Lib.hid C
    have L' := Lib.hid L
    have U' := Lib.hid U
    have O1' := Lib.hid O1
    have O2' := Lib.hid O2
    clear V1 V2 X Y M N C L U O1 O2 z0 z1 k0 k1 hv kv kt v0 v1 km kl kh el eh hl hh ka kb ia ib hr hs ht htab hmx
    generalize cmpQ (a + (b - a) * v) lo = o1 at *
    generalize cmpQ (a + (b - a) * v) hi = o2 at *
    generalize RT (a + (b - a) * v) = m at *
    generalize RT (1 - v) = y at *
    generalize RT v = x at *
    generalize RT lo = l at *
    generalize RT hi = h at *
    generalize RT a = s at *
    generalize RT b = t at *
    intro w hg
    have HG := Lib.hid hg; clear hg
    go_enter Tryz.func8, Tryz.ntmps8
    go_wp2_with fail
    refine (HR.out _ _ HG.out).mono ?_
    rintro e w1 ⟨rfl, hg⟩
    replace HG := Lib.hid hg; clear hg
    go_wp2_with fail
    refine (V1'.out _ HG.out).mono ?_
    rintro e w1 ⟨rfl, hg⟩
    replace HG := Lib.hid hg; clear hg
    go_wp2_with fail
    refine (V2'.out _ HG.out).mono ?_
    rintro e w1 ⟨rfl, hg⟩
    replace HG := Lib.hid hg; clear hg
    go_wp2_with fail
    refine (X'.out _ HG.out).mono ?_
    rintro e w1 ⟨rfl, hg⟩
    replace HG := Lib.hid hg; clear hg
    go_wp2_with fail
    refine (Y'.out _ HG.out).mono ?_
    rintro e w1 ⟨rfl, hg⟩
    replace HG := Lib.hid hg; clear hg
    go_wp2_with fail
    refine (M'.out _ HG.out).mono ?_
    rintro e w1 ⟨rfl, hg⟩
    replace HG := Lib.hid hg; clear hg
    go_wp2_with fail
    refine (N'.out _ HG.out).mono ?_
    rintro e w1 ⟨rfl, hg⟩
    replace HG := Lib.hid hg; clear hg
    go_wp2_with fail
    refine (C'.out _ HG.out).mono ?_
    rintro e w1 ⟨rfl, hg⟩
    replace HG := Lib.hid hg; clear hg
    go_wp2_with fail
    refine (L'.out _ HG.out).mono ?_
    rintro e w1 ⟨rfl, hg⟩
    replace HG := Lib.hid hg; clear hg
    go_wp2_with fail
    refine (O1'.out _ HG.out).mono ?_
    rintro e w1 ⟨rfl, hg⟩
    replace HG := Lib.hid hg; clear hg
    go_wp2_with fail
    refine (U'.out _ HG.out).mono ?_
    rintro e w1 ⟨rfl, hg⟩
    replace HG := Lib.hid hg; clear hg
    go_wp2_with fail
    refine (O2'.out _ HG.out).mono ?_
    rintro e w1 ⟨rfl, hg⟩
    replace HG := Lib.hid hg; clear hg
    go_wp2_with fail
    refine (AW.out _ HG.out).mono ?_
    rintro e w1 ⟨rfl, hg⟩
    replace HG := Lib.hid hg; clear hg
    go_wp2
    go_ret
    exact ⟨rfl, HG.out⟩
end
end Go.Proofs.YtjoipfiomeocoabGreatDoor
