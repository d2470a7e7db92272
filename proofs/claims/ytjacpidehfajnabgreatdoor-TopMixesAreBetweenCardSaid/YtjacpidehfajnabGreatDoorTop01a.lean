/- T1: what runIntegers asks. -/
import Derived.Test.YtjacpidehfajnabGreatDoorRatF
import Derived.Test.YtjacpidehfajnabGreatDoorLaw02p
set_option linter.unusedVariables false
set_option linter.unusedSimpArgs false
namespace Go.Proofs.YtjacpidehfajnabGreatDoor
open Go.RowKit Go.Shelf
open Z

section
variable {w0 : World} (htab : Tab w0) (hmx : Mx w0)
include htab hmx
set_option maxHeartbeats 4000000 in
set_option maxRecDepth 100000 in
theorem top_runIntegers : Ret w0 33 #[] (.bool true) := by
  have H1 : Hid (Ret w0 63 #[.string ⟨#[49, 48, 48]⟩, .string ⟨#[55]⟩] (.tuple #[.string ⟨#[49, 52]⟩, .int .i64 0])) := .mk fun w hg => lit_Quo (a := 100) (b := 7) (x := 14) (by decide) (by decide) (by decide) (by decide) (by decide) (by decide) (by decide) (by decide) (by decide) (by decide) w (htab_gr htab hg)
  have H2 : Hid (Ret w0 64 #[.string ⟨#[49, 48, 48]⟩, .string ⟨#[55]⟩] (.tuple #[.string ⟨#[50]⟩, .int .i64 0])) := .mk fun w hg => lit_Rem (a := 100) (b := 7) (x := 2) (by decide) (by decide) (by decide) (by decide) (by decide) (by decide) (by decide) (by decide) (by decide) (by decide) w (htab_gr htab hg)
  have H3 := Lib.hid ((ret_QOf htab (s := ⟨#[49, 48, 48]⟩) (t := ⟨#[55]⟩) (by decide) (by decide)).si (lit_ofR (u := ⟨#[49, 48, 48, 47, 55]⟩) (a := 100) (b := 7) (by decide +kernel) (by decide +kernel) (by decide +kernel) (by decide) (by decide +kernel) (by decide +kernel)))
  have H4 := Lib.hid ((ret_QFloor htab hmx (s := ⟨#[49, 48, 48, 47, 55]⟩) (by decide)).si (lit_floorR (u := ⟨#[49, 52]⟩) (by decide +kernel) (by decide +kernel) (by decide +kernel)))
  clear htab hmx
  intro w hg
  have HG := Lib.hid hg; clear hg
  go_enter Tryz.func33, Tryz.ntmps33
  go_wp2_with fail
  refine (H1.out _ HG.out).mono ?_
  rintro e w1 ⟨rfl, hg⟩
  replace HG := Lib.hid hg; clear hg
  go_wp2_with fail
  refine (H2.out _ HG.out).mono ?_
  rintro e w1 ⟨rfl, hg⟩
  replace HG := Lib.hid hg; clear hg
  go_wp2_with fail
  refine (H3.out _ HG.out).mono ?_
  rintro e w1 ⟨rfl, hg⟩
  replace HG := Lib.hid hg; clear hg
  go_wp2_with fail
  refine (H4.out _ HG.out).mono ?_
  rintro e w1 ⟨rfl, hg⟩
  replace HG := Lib.hid hg; clear hg
  go_wp2
  go_ret
  exact ⟨rfl, HG.out⟩
end
end Go.Proofs.YtjacpidehfajnabGreatDoor
