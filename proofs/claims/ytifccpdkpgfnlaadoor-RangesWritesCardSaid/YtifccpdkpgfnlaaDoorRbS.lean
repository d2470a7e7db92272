/- Law 6: RangesWrites. -/
import Derived.Test.YtifccpdkpgfnlaaDoorRbO
set_option linter.unusedVariables false
set_option linter.unusedSimpArgs false
namespace Go.Proofs.YtifccpdkpgfnlaaDoor
open Go.RowKit Go.Shelf
open Z
set_option maxRecDepth 100000 in
set_option maxHeartbeats 4000000 in
theorem l6_Writes_ok (a : Option Addr) (R : List (Int × Int)) (cap : Nat) (w : World) (htab : Tab w) (hR : RngAt w a R) (hcap : a = none → cap = 0) (hlen : R.length ≤ 300) :
    Calls Tryd.prog 6 #[.slice a R.length cap] w fun e w' => e = .returned (.bool true) ∧ Gr w w' := by
  have OW : Hid (∀ w', Gr w w' → Calls Tryd.prog 14 #[.slice a R.length cap] w' fun e w2 => (∃ c d, e = .returned (.slice c R.length d) ∧ RngAt w2 c R ∧ (c = none → d = 0)) ∧ Gr w' w2) := Lib.hid fun w' hg => (l6_own a R cap w' (hR.gr hg) hcap (by omega)).mono fun e w2 ⟨v, he, ho, hg2⟩ => by
    obtain ⟨c, d, rfl, hr, hd, -⟩ := ho.shape2
    exact ⟨⟨c, d, he, hr, hd⟩, hg2⟩
  have AW := Lib.hid (fun w' (hg : Gr w w') => l6_awake w' (htab_gr htab hg))
  have PF := Lib.hid (fun w' (hg : Gr w w') => ra_Format a R cap w' (hR.gr hg) hcap (by omega) (htab_gr htab hg))
  have QF := Lib.hid (fun c d w' (hr : RngAt w' c R) => r6_Format c R d w' hr (by omega))
  clear hR hcap htab
  generalize formatR R = H at *
  obtain ⟨hs, he⟩ := H
  simp only at PF QF
  generalize str hs = hs at *
  generalize R.length = n at *
  have da : decide (300 < (n : Int)) = false := decide_eq_false (by omega)
  have HG0 := Lib.hid (Gr.refl w)
  go_enter Tryd.func6, Tryd.ntmps6
  go_wp2_with fail
  refine (PF.out _ HG0.out).mono ?_; rintro e w1 ⟨rfl, hg⟩
  have HG1 := Lib.hid (Gr.trans HG0.out hg)
  clear hg HG0 PF
  go_wp2_with fail
  refine (OW.out _ HG1.out).mono ?_; rintro e w2 ⟨⟨c, d, rfl, hr, hd⟩, hg⟩
  have HG2 := Lib.hid (Gr.trans HG1.out hg)
  have HQ := Lib.hid (QF.out c d w2 hr)
  clear hr hd
  clear hg HG1
  go_wp2_with fail
  refine HQ.out.mono ?_; rintro e w3 ⟨rfl, hg⟩
  have HG3 := Lib.hid (Gr.trans HG2.out hg)
  clear hg HG2 HQ OW QF
  go_wp2_with fail
  refine (AW.out _ HG3.out).mono ?_; rintro e w4 ⟨rfl, hg⟩
  have HG4 := Lib.hid (Gr.trans HG3.out hg)
  clear hg HG3 AW
  go_wp2
  go_ret
  exact ⟨rfl, HG4.out⟩
set_option maxRecDepth 100000 in
set_option maxHeartbeats 4000000 in
theorem l6_RangesWrites {w0 : World} {a : Option Addr} {R : List (Int × Int)} {cap : Nat} (htab : Tab w0) (hR : RngAt w0 a R) (hcap : a = none → cap = 0) (hp : ∀ p o, a = some ⟨p, o, none⟩ → p < w0.heap.size) (hb : R.length ≤ 10000000000000) (w : World) (hg : Gr w0 w) :
    Calls Tryd.prog 6 #[.slice a R.length cap] w fun e w' => e = .returned (.bool true) ∧ Gr w w' := by
  by_cases h1 : 300 < R.length
  · have AW := Lib.hid (fun w' (h : Gr w w') => l6_awake w' (htab_gr htab (Gr.trans hg h)))
    clear hR hcap hp
    generalize R.length = n at *
    have da : decide (300 < (n : Int)) = true := decide_eq_true (by omega)
    go_enter Tryd.func6, Tryd.ntmps6
    go_wp2_with fail
    refine (AW.out _ (Gr.refl w)).mono ?_; rintro e w1 ⟨rfl, hg⟩
    have HG := Lib.hid hg
    clear hg
    go_wp2
    go_ret
    exact ⟨rfl, HG.out⟩
  · exact l6_Writes_ok a R cap w (htab_gr htab hg) (hR.gr hg) hcap (by omega)
end Go.Proofs.YtifccpdkpgfnlaaDoor
