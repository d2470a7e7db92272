/- Law 6: RangesChecks. -/
import Derived.Test.YtifccpdkpgfnlaaDoorRbO
set_option linter.unusedVariables false
set_option linter.unusedSimpArgs false
namespace Go.Proofs.YtifccpdkpgfnlaaDoor
open Go.RowKit Go.Shelf
open Z
set_option maxRecDepth 100000 in
set_option maxHeartbeats 4000000 in
theorem l6_Checks_ok (a : Option Addr) (R : List (Int × Int)) (cap : Nat) (ch : Int) (w : World) (htab : Tab w) (hR : RngAt w a R) (hcap : a = none → cap = 0) (hp : ∀ p o, a = some ⟨p, o, none⟩ → p < w.heap.size) (hlen : R.length ≤ 300) :
    Calls Tryd.prog 3 #[.slice a R.length cap, .int .i64 ch] w fun e w' => e = .returned (.bool true) ∧ Gr w w' := by
  have hap : ∀ w', Gr w w' → ∀ p o, a = some ⟨p, o, none⟩ → p < w'.heap.size := fun w' hg p o e => Nat.lt_of_lt_of_le (hp p o e) hg.size
  have OW : Hid (∀ w', Gr w w' → Calls Tryd.prog 14 #[.slice a R.length cap] w' fun e w2 => (∃ c d, e = .returned (.slice c R.length d) ∧ RngAt w2 c R ∧ (c = none → d = 0)) ∧ Gr w' w2) := Lib.hid fun w' hg => (l6_own a R cap w' (hR.gr hg) hcap (by omega)).mono fun e w2 ⟨v, he, ho, hg2⟩ => by
    obtain ⟨c, d, rfl, hr, hd, -⟩ := ho.shape2
    exact ⟨⟨c, d, he, hr, hd⟩, hg2⟩
  have AW := Lib.hid (fun w' (hg : Gr w w') => l6_awake w' (htab_gr htab hg))
  have PH := Lib.hid (fun w' (hg : Gr w w') => ra_Holds a R cap ch w' (hR.gr hg) hcap (by omega))
  have QH := Lib.hid (fun c d w' (hr : RngAt w' c R) => r6_Holds c R d ch w' hr (by omega))
  have PC := Lib.hid (fun w' (hg : Gr w w') => ra_Count a R cap w' (hR.gr hg) hcap (by omega) (hap w' hg))
  have QC := Lib.hid (fun c d w' (hr : RngAt w' c R) => r6_Count c R d w' hr (by omega))
  have PL := Lib.hid (fun w' (hg : Gr w w') => ra_List a R cap w' (hR.gr hg) hcap (by omega) (hap w' hg))
  have QL := Lib.hid (fun c d w' (hr : RngAt w' c R) => r6_List c R d w' hr (by omega))
  have PK := Lib.hid (fun w' (hg : Gr w w') => ra_Check a R cap w' (hR.gr hg) hcap (by omega))
  have QK := Lib.hid (fun c d w' (hr : RngAt w' c R) => r6_Check c R d w' hr (by omega))
  have hll := listR_len R
  clear hR hcap hp hap htab
  generalize holdsR R ch = H at *
  generalize countR R = C at *
  generalize listR R = L at *
  generalize checkR R = K at *
  obtain ⟨hb, he⟩ := H
  obtain ⟨cn, ce⟩ := C
  obtain ⟨X, le⟩ := L
  simp only at PH QH PC QC PL QL hll
  have EQ := Lib.hid (fun (v u : Value) (B1 B2 : Nat) (w1 : World) (h1 : OwnI B1 w1 v X) (h2 : OwnI B2 w1 u X) => eq_own h1 h2 hll)
  clear hll
  have hbb : (hb == hb) = true := by simp
  generalize R.length = n at *
  have da : decide (300 < (n : Int)) = false := decide_eq_false (by omega)
  have HG0 := Lib.hid (Gr.refl w)
  go_enter Tryd.func3, Tryd.ntmps3
  go_wp2_with fail
  refine (PH.out _ HG0.out).mono ?_; rintro e w1 ⟨rfl, hg⟩
  have HG1 := Lib.hid (Gr.trans HG0.out hg)
  clear hg HG0 PH
  go_wp2_with fail
  refine (OW.out _ HG1.out).mono ?_; rintro e w2 ⟨⟨c, d, rfl, hr, hd⟩, hg⟩
  have HG2 := Lib.hid (Gr.trans HG1.out hg)
  have HQ := Lib.hid (QH.out c d w2 hr)
  clear hr hd
  clear hg HG1
  go_wp2_with fail
  refine HQ.out.mono ?_; rintro e w3 ⟨rfl, hg⟩
  have HG3 := Lib.hid (Gr.trans HG2.out hg)
  clear hg HG2 HQ QH
  go_wp2_with fail
  refine (PC.out _ HG3.out).mono ?_; rintro e w4 ⟨rfl, hg⟩
  have HG4 := Lib.hid (Gr.trans HG3.out hg)
  clear hg HG3 PC
  go_wp2_with fail
  refine (OW.out _ HG4.out).mono ?_; rintro e w5 ⟨⟨c, d, rfl, hr, hd⟩, hg⟩
  have HG5 := Lib.hid (Gr.trans HG4.out hg)
  have HQ := Lib.hid (QC.out c d w5 hr)
  clear hr hd
  clear hg HG4
  go_wp2_with fail
  refine HQ.out.mono ?_; rintro e w6 ⟨rfl, hg⟩
  have HG6 := Lib.hid (Gr.trans HG5.out hg)
  clear hg HG5 HQ QC
  go_wp2_with fail
  refine (PL.out _ HG6.out).mono ?_; rintro e w7 ⟨v, rfl, ho, hg⟩
  have HG7 := Lib.hid (Gr.trans HG6.out hg)
  have HV := Lib.hid ho
  clear hg ho HG6 PL
  go_wp2_with fail
  refine (OW.out _ HG7.out).mono ?_; rintro e w8 ⟨⟨c, d, rfl, hr, hd⟩, hg⟩
  have HG8 := Lib.hid (Gr.trans HG7.out hg)
  have HQ := Lib.hid (QL.out c d w8 hr)
  have HV2 := Lib.hid (HV.out.gr hg)
  clear hr hd HV
  clear hg HG7
  go_wp2_with fail
  refine HQ.out.mono ?_; rintro e w9 ⟨u, rfl, ho, hg⟩
  have HG9 := Lib.hid (Gr.trans HG8.out hg)
  obtain ⟨b1, c1, b2, c2, rfl, rfl, hE⟩ := EQ.out _ _ _ _ _ (HV2.out.gr hg) ho
  have HE := Lib.hid hE
  clear hg ho HG8 QL HQ HV2 hE EQ
  have HE9 := HE
  clear HE
  go_wp2_with fail
  refine (AW.out _ HG9.out).mono ?_; rintro e w10 ⟨rfl, hg⟩
  have HG10 := Lib.hid (Gr.trans HG9.out hg)
  have HE10 := Lib.hid (fun w' (h : Gr w10 w') => HE9.out w' (Gr.trans hg h))
  clear HE9
  clear hg HG9 AW
  go_wp2_with fail
  refine (PK.out _ HG10.out).mono ?_; rintro e w11 ⟨rfl, hg⟩
  have HG11 := Lib.hid (Gr.trans HG10.out hg)
  have HE11 := Lib.hid (fun w' (h : Gr w11 w') => HE10.out w' (Gr.trans hg h))
  clear HE10
  clear hg HG10 PK
  go_wp2_with fail
  refine (OW.out _ HG11.out).mono ?_; rintro e w12 ⟨⟨c, d, rfl, hr, hd⟩, hg⟩
  have HG12 := Lib.hid (Gr.trans HG11.out hg)
  have HQ := Lib.hid (QK.out c d w12 hr)
  have HE12 := Lib.hid (fun w' (h : Gr w12 w') => HE11.out w' (Gr.trans hg h))
  clear hr hd HE11
  clear hg HG11
  go_wp2_with fail
  refine HQ.out.mono ?_; rintro e w13 ⟨rfl, hg⟩
  have HG13 := Lib.hid (Gr.trans HG12.out hg)
  have HE13 := Lib.hid (HE12.out w13 hg)
  clear hg HG12 HQ QK HE12 OW
  go_wp2_with fail
  refine HE13.out.mono ?_; rintro e w14 ⟨rfl, hg⟩
  have HG14 := Lib.hid (Gr.trans HG13.out hg)
  clear hg HG13 HE13
  go_wp2
  go_ret
  exact ⟨rfl, HG14.out⟩
set_option maxRecDepth 100000 in
set_option maxHeartbeats 4000000 in
theorem l6_RangesChecks {w0 : World} {a : Option Addr} {R : List (Int × Int)} {cap : Nat} {ch : Int} (htab : Tab w0) (hR : RngAt w0 a R) (hcap : a = none → cap = 0) (hp : ∀ p o, a = some ⟨p, o, none⟩ → p < w0.heap.size) (hb : R.length ≤ 10000000000000) (hch : -9223372036854775808 ≤ ch ∧ ch ≤ 9223372036854775807) (w : World) (hg : Gr w0 w) :
    Calls Tryd.prog 3 #[.slice a R.length cap, .int .i64 ch] w fun e w' => e = .returned (.bool true) ∧ Gr w w' := by
  by_cases h1 : 300 < R.length
  · have AW := Lib.hid (fun w' (h : Gr w w') => l6_awake w' (htab_gr htab (Gr.trans hg h)))
    clear hR hcap hp
    generalize R.length = n at *
    have da : decide (300 < (n : Int)) = true := decide_eq_true (by omega)
    go_enter Tryd.func3, Tryd.ntmps3
    go_wp2_with fail
    refine (AW.out _ (Gr.refl w)).mono ?_; rintro e w1 ⟨rfl, hg⟩
    have HG := Lib.hid hg
    clear hg
    go_wp2
    go_ret
    exact ⟨rfl, HG.out⟩
  · exact l6_Checks_ok a R cap ch w (htab_gr htab hg) (hR.gr hg) hcap (fun p o e => Nat.lt_of_lt_of_le (hp p o e) hg.size) (by omega)
end Go.Proofs.YtifccpdkpgfnlaaDoor
