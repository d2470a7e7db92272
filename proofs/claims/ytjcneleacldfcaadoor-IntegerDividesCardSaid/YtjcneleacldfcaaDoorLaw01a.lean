/- The law's helpers of layer 1: what awake asks, and awake itself. -/
import Derived.Test.YtjcneleacldfcaaDoorRet
set_option linter.unusedVariables false
set_option linter.unusedSimpArgs false
namespace Go.Proofs.YtjcneleacldfcaaDoor
open Go.RowKit Go.Shelf
open Z

set_option maxHeartbeats 4000000 in
set_option maxRecDepth 100000 in
theorem l1_awake (w : World) (htab : Tab w) : Calls Tryd.prog 9 #[] w (fun e w' => e = .returned (.bool true) ∧ Gr w w') := by
  have HTAB := Lib.hid htab; clear htab
  have H1 := Lib.hid (lit_Quo (s := ⟨#[55]⟩) (t := ⟨#[45, 50]⟩) (r := ⟨#[45, 52]⟩) (a := 7) (b := -2) (x := -4) (by decide) (by decide) (by decide) (by decide) (by decide) (by decide) (by decide) (by decide) (by decide) (by decide))
  have H2 := Lib.hid (lit_Rem (s := ⟨#[55]⟩) (t := ⟨#[45, 50]⟩) (r := ⟨#[45, 49]⟩) (a := 7) (b := -2) (x := -1) (by decide) (by decide) (by decide) (by decide) (by decide) (by decide) (by decide) (by decide) (by decide) (by decide))
  have H3 := Lib.hid (lit_Quo (s := ⟨#[45, 55]⟩) (t := ⟨#[50]⟩) (r := ⟨#[45, 52]⟩) (a := -7) (b := 2) (x := -4) (by decide) (by decide) (by decide) (by decide) (by decide) (by decide) (by decide) (by decide) (by decide) (by decide))
  have H4 := Lib.hid (lit_Rem (s := ⟨#[45, 55]⟩) (t := ⟨#[50]⟩) (r := ⟨#[49]⟩) (a := -7) (b := 2) (x := 1) (by decide) (by decide) (by decide) (by decide) (by decide) (by decide) (by decide) (by decide) (by decide) (by decide))
  have H5 := Lib.hid (lit_Gcd (s := ⟨#[49, 50]⟩) (t := ⟨#[45, 49, 56]⟩) (r := ⟨#[54]⟩) (a := 12) (b := -18) (x := 6) (by decide) (by decide) (by decide) (by decide) (by decide) (by decide) (by decide) (by decide) (by decide))
  have H6 := Lib.hid (lit_Add (s := ⟨#[57, 57, 57, 57, 57, 57, 57, 57, 57, 57, 57, 57, 57, 57, 57, 57, 57, 57, 57, 57]⟩) (t := ⟨#[49]⟩) (r := ⟨#[49, 48, 48, 48, 48, 48, 48, 48, 48, 48, 48, 48, 48, 48, 48, 48, 48, 48, 48, 48, 48]⟩)
    (a := 99999999999999999999) (b := 1) (x := 100000000000000000000) (by decide +kernel) (by decide +kernel) (by decide +kernel) (by decide +kernel) (by decide +kernel) (by decide +kernel) (by decide +kernel) (by decide) (by decide))
  have C0 := Lib.hid (lit_Check (s := ⟨#[]⟩) (c := 3) (by decide) (by decide))
  have C1 := Lib.hid (lit_Check (s := ⟨#[48, 49]⟩) (c := 3) (by decide) (by decide))
  have C2 := Lib.hid (lit_Check (s := ⟨#[43, 49]⟩) (c := 3) (by decide) (by decide))
  have C3 := Lib.hid (lit_Check (s := ⟨#[45, 48]⟩) (c := 3) (by decide) (by decide))
  have C4 := Lib.hid (lit_Check (s := ⟨#[49, 46, 48]⟩) (c := 3) (by decide) (by decide))
  have C5 := Lib.hid (lit_Check (s := ⟨#[45, 49, 48]⟩) (c := 0) (by decide) (by decide))
  go_enter Tryd.func9, Tryd.ntmps9
  go_wp2_with fail
  refine (H1.out _ HTAB.out).mono ?_
  rintro e w1 ⟨rfl, hg1⟩
  have HT1 := Lib.hid (htab_gr HTAB.out hg1)
  have HG1 := Lib.hid hg1; clear hg1
  go_wp2_with fail
  refine (H2.out _ HT1.out).mono ?_
  rintro e w2 ⟨rfl, hg2⟩
  have HT2 := Lib.hid (htab_gr HT1.out hg2)
  have HG2 := Lib.hid (Gr.trans HG1.out hg2); clear hg2
  go_wp2_with fail
  refine (H3.out _ HT2.out).mono ?_
  rintro e w3 ⟨rfl, hg3⟩
  have HT3 := Lib.hid (htab_gr HT2.out hg3)
  have HG3 := Lib.hid (Gr.trans HG2.out hg3); clear hg3
  go_wp2_with fail
  refine (H4.out _ HT3.out).mono ?_
  rintro e w4 ⟨rfl, hg4⟩
  have HT4 := Lib.hid (htab_gr HT3.out hg4)
  have HG4 := Lib.hid (Gr.trans HG3.out hg4); clear hg4
  go_wp2_with fail
  refine (H5.out _ HT4.out).mono ?_
  rintro e w5 ⟨rfl, hg5⟩
  have HT5 := Lib.hid (htab_gr HT4.out hg5)
  have HG5 := Lib.hid (Gr.trans HG4.out hg5); clear hg5
  go_wp2_with fail
  refine (H6.out _ HT5.out).mono ?_
  rintro e w6 ⟨rfl, hg6⟩
  have HG6 := Lib.hid (Gr.trans HG5.out hg6); clear hg6
  clear H1 H2 H3 H4 H5 H6 HT1 HT2 HT3 HT4 HT5 HG1 HG2 HG3 HG4 HG5 HTAB
  go_wp2
  go_loop [14, 77] (fun _ i => ∃ k : Nat, k ≤ 5 ∧ i = .int .i64 k) (fun _ i => 5 - (intOf i).toNat)
  case atStart => exact ⟨0, Nat.zero_le _, rfl⟩
  case round =>
    obtain ⟨k, hk, rfl⟩ := hrel
    have hk5 : k = 0 ∨ k = 1 ∨ k = 2 ∨ k = 3 ∨ k = 4 ∨ k = 5 := by omega
    rcases hk5 with rfl | rfl | rfl | rfl | rfl | rfl
    · go_wp2_with fail
      refine (C0.out _).mono ?_
      rintro e w' ⟨rfl, rfl⟩
      go_wp2
      go_round
      case rel => exact ⟨1, by omega, by go_num⟩
      case measure => simp [intOf]
    · go_wp2_with fail
      refine (C1.out _).mono ?_
      rintro e w' ⟨rfl, rfl⟩
      go_wp2
      go_round
      case rel => exact ⟨2, by omega, by go_num⟩
      case measure => simp [intOf]
    · go_wp2_with fail
      refine (C2.out _).mono ?_
      rintro e w' ⟨rfl, rfl⟩
      go_wp2
      go_round
      case rel => exact ⟨3, by omega, by go_num⟩
      case measure => simp [intOf]
    · go_wp2_with fail
      refine (C3.out _).mono ?_
      rintro e w' ⟨rfl, rfl⟩
      go_wp2
      go_round
      case rel => exact ⟨4, by omega, by go_num⟩
      case measure => simp [intOf]
    · go_wp2_with fail
      refine (C4.out _).mono ?_
      rintro e w' ⟨rfl, rfl⟩
      go_wp2
      go_round
      case rel => exact ⟨5, by omega, by go_num⟩
      case measure => simp [intOf]
    · go_wp2_with fail
      refine (C5.out _).mono ?_
      rintro e w' ⟨rfl, rfl⟩
      go_wp2
      go_ret
      exact ⟨rfl, HG6.out.alloc _⟩
end Go.Proofs.YtjcneleacldfcaaDoor
