/- The top laws of glides: the fixed example; a glide's raw values. -/
import Derived.Test.YtffifpinnhaloaaGreatDoorGlC
import Derived.Test.YtffifpinnhaloaaGreatDoorGlN
import Derived.Test.YtffifpinnhaloaaGreatDoorLaw02g
set_option linter.unusedVariables false
set_option linter.unusedSimpArgs false
namespace Go.Proofs.YtffifpinnhaloaaGreatDoor
open Go.RowKit Go.Shelf
open Z

theorem txt12850 : Tx 12850 = (⟨#[49, 50, 56, 53, 48]⟩ : ByteArray) := by rw [← Tx_ival ⟨#[49, 50, 56, 53, 48]⟩ (by decide +kernel)]; congr 1
theorem rt0 : RT 0 = Tx 0 := by rw [← RT_int]; rfl
theorem rv_Tx (n : Int) : rv (Tx n) = (n : Rat) := by rw [← RT_int, rv_RT]
theorem glE_int {n x st ti : Int} (n0 : 0 ≤ n) (n1 : n ≤ 65535) (h : tgE x st ti = 0) : glE (Tx n) x st ti = 0 := by
  unfold glE
  rw [← RT_int, compE_RT (Sh.inR (sh_lvl n0 n1) (by omega)), if_pos (lvlQ_int n0 n1), if_pos rfl, h]
theorem go_first : goE ⟨#[48]⟩ 0 0 0 0 25700 100 = ((⟨#[48]⟩, 25700, 0, 100), 0) := by
  unfold goE
  rw [txt0, if_pos (glE_int (by omega) (by omega) (by decide)), if_pos (by decide)]
  unfold ofG
  rw [if_pos (by omega), RT_int]
theorem at_half : atE ⟨#[48]⟩ 25700 0 100 50 = (⟨#[49, 50, 56, 53, 48]⟩, 0) := by
  unfold atE
  rw [txt0, if_pos (glE_int (by omega) (by omega) (by decide)), rv_Tx]
  unfold ofG
  rw [if_neg (by omega), if_neg (by omega), show (((0 : Int) : Rat) + (((25700 : Int) : Rat) - ((0 : Int) : Rat)) * Rat.divInt (50 - 0) 100) = ((12850 : Int) : Rat) by decide +kernel, RT_int, txt12850]
theorem eight_half : eightR ⟨#[49, 50, 56, 53, 48]⟩ = (50, 0) := by rw [← txt12850, eight_int (by omega) (by omega)]; decide
theorem half257_text : (⟨#[50, 53, 55, 47, 50]⟩ : ByteArray) = RT (257/2) := by decide +kernel
theorem sh_half257 : Sh 3 (257/2 : Rat) := ⟨(nDigits_le_iff _ 3 (by omega)).2 (by decide +kernel), (nDigits_le_iff _ 3 (by omega)).2 (by decide +kernel)⟩
section
variable {w0 : World}
set_option maxHeartbeats 1000000 in
set_option maxRecDepth 100000 in
theorem ret_tryNear {k j : Nat} {a m : Rat} (ha : Sh k a) (hm : Sh j m) (hk : k ≤ 10000) (hj : j ≤ 10000) (h1 : a ≤ m) (h2 : -m ≤ a) : Ret w0 51 #[.string (RT a), .string (RT m)] (.bool true) := by
  have C1 := Lib.hid (ret_OrderR (w0 := w0) ha hm (by omega) (by omega))
  have C2 := Lib.hid (ret_Turned (w0 := w0) hm (by omega))
  have C3 := Lib.hid (ret_OrderR (w0 := w0) ha hm.neg (by omega) (by omega))
  have hc := cmpQ_le' h1
  have hd := cmpQ_ge' h2
  clear ha hm h1 h2
  generalize cmpQ a m = c at *
  generalize cmpQ a (-m) = d at *
  generalize RT a = s at *
  generalize RT (-m) = v at *
  generalize RT m = u at *
  intro w hg
  have HG := Lib.hid hg; clear hg
  go_enter Tryz.func51, Tryz.ntmps51
  go_wp2_with fail
  refine (C1.out _ HG.out).mono ?_
  rintro e w1 ⟨rfl, hg⟩
  replace HG := Lib.hid hg; clear hg
  go_wp2_with fail
  refine (C2.out _ HG.out).mono ?_
  rintro e w1 ⟨rfl, hg⟩
  replace HG := Lib.hid hg; clear hg
  go_wp2_with fail
  refine (C3.out _ HG.out).mono ?_
  rintro e w1 ⟨rfl, hg⟩
  replace HG := Lib.hid hg; clear hg
  go_wp2
  go_ret
  exact ⟨rfl, HG.out⟩
end
section
variable {w0 : World} (htab : Tab w0) (hmx : Mx w0) (herr : ErrR w0)
include htab hmx herr
set_option maxHeartbeats 1000000 in
set_option maxRecDepth 100000 in
theorem top_tryGlides : Ret w0 43 #[] (.bool true) := by
  have C0 := Lib.hid (ret_GZero htab)
  have C1 := Lib.hid ((ret_GGo htab hmx herr (s := ⟨#[48]⟩) (by decide) (x := 0) (st := 0) (ti := 0) (t := 0) (y := 25700) (d := 100) (by unfold isJ; omega)).cast (show vGI _ = .tuple #[vGl ⟨#[48]⟩ 25700 0 100, .int .i64 0] by rw [go_first]; rfl))
  have C2 := Lib.hid ((ret_GAt htab hmx herr (s := ⟨#[48]⟩) (by decide) (x := 25700) (st := 0) (ti := 100) (t := 50) (by unfold isJ; omega)).si at_half)
  have C3 := Lib.hid ((ret_LEight htab hmx herr (s := ⟨#[49, 50, 56, 53, 48]⟩) (by decide)).ii eight_half)
  clear htab hmx herr
  intro w hg
  have HG := Lib.hid hg; clear hg
  go_enter Tryz.func43, Tryz.ntmps43
  go_wp2_with fail
  refine (C0.out _ HG.out).mono ?_
  rintro e w1 ⟨rfl, hg⟩
  replace HG := Lib.hid hg; clear hg
  go_wp2_with fail
  refine (C1.out _ HG.out).mono ?_
  rintro e w1 ⟨rfl, hg⟩
  replace HG := Lib.hid hg; clear hg
  replace HG := Lib.hid (HG.out.alloc (oGl ⟨#[48]⟩ 25700 0 100))
  go_wp2_with fail
  refine (C2.out _ HG.out).mono ?_
  rintro e w1 ⟨rfl, hg⟩
  replace HG := Lib.hid hg; clear hg
  go_wp2_with fail
  refine (C3.out _ HG.out).mono ?_
  rintro e w1 ⟨rfl, hg⟩
  replace HG := Lib.hid hg; clear hg
  go_wp2
  go_ret
  exact ⟨rfl, HG.out⟩
end
end Go.Proofs.YtffifpinnhaloaaGreatDoor
