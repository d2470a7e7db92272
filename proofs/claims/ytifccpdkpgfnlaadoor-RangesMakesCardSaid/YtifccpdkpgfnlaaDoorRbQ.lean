/- Law 6: RangesMakes. -/
import Derived.Test.YtifccpdkpgfnlaaDoorRbO
set_option linter.unusedVariables false
set_option linter.unusedSimpArgs false
namespace Go.Proofs.YtifccpdkpgfnlaaDoor
open Go.RowKit Go.Shelf
open Z
set_option maxRecDepth 100000 in
set_option maxHeartbeats 4000000 in
theorem l6_Makes_ok (a b : Option Addr) (R : List (Int × Int)) (L : List Int) (cap cb : Nat) (w : World) (htab : Tab w) (hR : RngAt w a R) (hcap : a = none → cap = 0) (hp : ∀ p o, a = some ⟨p, o, none⟩ → p < w.heap.size) (hL : IntsAt w b L) (hcb : b = none → cb = 0) (hlen : R.length ≤ 600) (hll : L.length ≤ 9000) :
    Calls Tryd.prog 4 #[.slice a R.length cap, .slice b L.length cb] w fun e w' => e = .returned (.bool true) ∧ Gr w w' := by
  have OW : Hid (∀ w', Gr w w' → Calls Tryd.prog 14 #[.slice a R.length cap] w' fun e w2 => (∃ c d, e = .returned (.slice c R.length d) ∧ RngAt w2 c R ∧ (c = none → d = 0)) ∧ Gr w' w2) := Lib.hid fun w' hg => (l6_own a R cap w' (hR.gr hg) hcap (by omega)).mono fun e w2 ⟨v, he, ho, hg2⟩ => by
    obtain ⟨c, d, rfl, hr, hd, -⟩ := ho.shape2
    exact ⟨⟨c, d, he, hr, hd⟩, hg2⟩
  have AW := Lib.hid (fun w' (hg : Gr w w') => l6_awake w' (htab_gr htab hg))
  have PM := Lib.hid (fun w' (hg : Gr w w') => ra_Make a R cap w' (hR.gr hg) hcap (by omega) (fun p o e => Nat.lt_of_lt_of_le (hp p o e) hg.size))
  have QM := Lib.hid (fun c d w' (hr : RngAt w' c R) => r6_Make c R d w' hr (by omega))
  have PO := Lib.hid (fun w' (hg : Gr w w') => ra_Of b L cb w' (hL.gr hg) hcb (by omega))
  have QO := Lib.hid (fun w' (hg : Gr w w') => r6_Of b L cb w' (hL.gr hg) (by omega))
  have lm := makeR_len R
  have lo := ofR_len L
  clear hR hcap hp htab hL hcb
  generalize makeR R = M at *
  generalize ofR L = O at *
  obtain ⟨X, me⟩ := M
  obtain ⟨Y, oe⟩ := O
  simp only at PM QM PO QO lm lo
  have Em := Lib.hid (fun (v u : Value) (B1 B2 : Nat) (w1 : World) (h1 : OwnR B1 w1 v X) (h2 : OwnF B2 w1 u X) => same_own h1 h2 lm)
  have Eo := Lib.hid (fun (v u : Value) (B1 B2 : Nat) (w1 : World) (h1 : OwnR B1 w1 v Y) (h2 : OwnF B2 w1 u Y) => same_own h1 h2 lo)
  clear lm lo
  generalize R.length = n at *
  generalize L.length = m at *
  have da : decide (600 < (n : Int)) = false := decide_eq_false (by omega)
  have db : decide (9000 < (m : Int)) = false := decide_eq_false (by omega)
  have HG0 := Lib.hid (Gr.refl w)
  go_enter Tryd.func4, Tryd.ntmps4
  go_wp2_with fail
  refine (PM.out _ HG0.out).mono ?_; rintro e w1 ⟨v, rfl, ho, hg⟩
  have HG1 := Lib.hid (Gr.trans HG0.out hg)
  have HV := Lib.hid ho
  clear hg ho HG0 PM
  go_wp2_with fail
  refine (OW.out _ HG1.out).mono ?_; rintro e w2 ⟨⟨c0, d0, rfl, hr, hd⟩, hg⟩
  have HG2 := Lib.hid (Gr.trans HG1.out hg)
  have HV' := Lib.hid (HV.out.gr hg)
  clear HV
  have HV := HV'
  clear HV'
  have HR0 := Lib.hid hr
  clear hg hr hd HG1
  have HQ := Lib.hid (QM.out c0 d0 w2 HR0.out)
  clear HR0 QM
  go_wp2_with fail
  refine HQ.out.mono ?_; rintro e w3 ⟨u, rfl, ho, hg⟩
  have HG3 := Lib.hid (Gr.trans HG2.out hg)
  obtain ⟨b1, f1, b2, f2, rfl, rfl, hE⟩ := Em.out _ _ _ _ _ (HV.out.gr hg) ho
  have HEm := Lib.hid hE
  clear hg ho hE HG2 HQ HV Em
  go_wp2_with fail
  refine (PO.out _ HG3.out).mono ?_; rintro e w4 ⟨v, rfl, ho, hg⟩
  have HG4 := Lib.hid (Gr.trans HG3.out hg)
  have HV := Lib.hid ho
  have HEm' := Lib.hid (fun w' (h : Gr w4 w') => HEm.out w' (Gr.trans hg h))
  clear HEm
  have HEm := HEm'
  clear HEm'
  clear hg ho HG3 PO
  have HQ := Lib.hid (QO.out w4 HG4.out)
  clear QO
  go_wp2_with fail
  refine HQ.out.mono ?_; rintro e w5 ⟨u, rfl, ho, hg⟩
  have HG5 := Lib.hid (Gr.trans HG4.out hg)
  obtain ⟨b1, f1, b2, f2, rfl, rfl, hE⟩ := Eo.out _ _ _ _ _ (HV.out.gr hg) ho
  have HEo := Lib.hid hE
  have HEm' := Lib.hid (fun w' (h : Gr w5 w') => HEm.out w' (Gr.trans hg h))
  clear HEm
  have HEm := HEm'
  clear HEm'
  clear hg ho hE HG4 HQ HV Eo
  go_wp2_with fail
  refine (AW.out _ HG5.out).mono ?_; rintro e w6 ⟨rfl, hg⟩
  have HG6 := Lib.hid (Gr.trans HG5.out hg)
  have HEm' := Lib.hid (fun w' (h : Gr w6 w') => HEm.out w' (Gr.trans hg h))
  clear HEm
  have HEm := HEm'
  clear HEm'
  have HEo' := Lib.hid (fun w' (h : Gr w6 w') => HEo.out w' (Gr.trans hg h))
  clear HEo
  have HEo := HEo'
  clear HEo'
  clear hg HG5 AW
  go_wp2_with fail
  refine (HEm.out _ (Gr.refl _)).mono ?_; rintro e w7 ⟨rfl, hg⟩
  have HG7 := Lib.hid (Gr.trans HG6.out hg)
  have HEo' := Lib.hid (fun w' (h : Gr w7 w') => HEo.out w' (Gr.trans hg h))
  clear HEo
  have HEo := HEo'
  clear HEo'
  clear hg HG6 HEm
  go_wp2_with fail
  refine (HEo.out _ (Gr.refl _)).mono ?_; rintro e w8 ⟨rfl, hg⟩
  have HG8 := Lib.hid (Gr.trans HG7.out hg)
  clear hg HG7 HEo
  go_wp2
  go_ret
  exact ⟨rfl, HG8.out⟩
set_option maxRecDepth 100000 in
set_option maxHeartbeats 4000000 in
theorem l6_RangesMakes {w0 : World} {a b : Option Addr} {R : List (Int × Int)} {L : List Int} {cap cb : Nat} (htab : Tab w0) (hR : RngAt w0 a R) (hcap : a = none → cap = 0) (hp : ∀ p o, a = some ⟨p, o, none⟩ → p < w0.heap.size) (hb : R.length ≤ 10000000000000)
    (hL : IntsAt w0 b L) (hcb : b = none → cb = 0) (hpb : ∀ p o, b = some ⟨p, o, none⟩ → p < w0.heap.size) (w : World) (hg : Gr w0 w) :
    Calls Tryd.prog 4 #[.slice a R.length cap, .slice b L.length cb] w fun e w' => e = .returned (.bool true) ∧ Gr w w' := by
  have AW := Lib.hid (fun w' (h : Gr w w') => l6_awake w' (htab_gr htab (Gr.trans hg h)))
  by_cases h1 : 600 < R.length
  · clear hR hcap hp hL hcb hpb
    generalize R.length = n at *
    generalize L.length = m at *
    have da : decide (600 < (n : Int)) = true := decide_eq_true (by omega)
    go_enter Tryd.func4, Tryd.ntmps4
    go_wp2_with fail
    refine (AW.out _ (Gr.refl w)).mono ?_; rintro e w1 ⟨rfl, hg⟩
    have HG := Lib.hid hg
    clear hg
    go_wp2
    go_ret
    exact ⟨rfl, HG.out⟩
  · by_cases h2 : 9000 < L.length
    · clear hR hcap hp hL hcb hpb
      generalize R.length = n at *
      generalize L.length = m at *
      have da : decide (600 < (n : Int)) = false := decide_eq_false (by omega)
      have db : decide (9000 < (m : Int)) = true := decide_eq_true (by omega)
      go_enter Tryd.func4, Tryd.ntmps4
      go_wp2_with fail
      refine (AW.out _ (Gr.refl w)).mono ?_; rintro e w1 ⟨rfl, hg⟩
      have HG := Lib.hid hg
      clear hg
      go_wp2
      go_ret
      exact ⟨rfl, HG.out⟩
    · exact l6_Makes_ok a b R L cap cb w (htab_gr htab hg) (hR.gr hg) hcap (fun p o e => Nat.lt_of_lt_of_le (hp p o e) hg.size) (hL.gr hg) hcb (by omega) (by omega)
end Go.Proofs.YtifccpdkpgfnlaaDoor
