/- Law 6: RangesCombines. -/
import Derived.Test.YtifccpdkpgfnlaaDoorRbO
set_option linter.unusedVariables false
set_option linter.unusedSimpArgs false
namespace Go.Proofs.YtifccpdkpgfnlaaDoor
open Go.RowKit Go.Shelf
open Z
set_option maxRecDepth 100000 in
set_option maxHeartbeats 4000000 in
theorem l6_Combines_ok (a b : Option Addr) (A B : List (Int × Int)) (ca cb : Nat) (w : World) (htab : Tab w) (hA : RngAt w a A) (hB : RngAt w b B) (hca : a = none → ca = 0) (hcb : b = none → cb = 0)
    (hpa : ∀ p o, a = some ⟨p, o, none⟩ → p < w.heap.size) (hpb : ∀ p o, b = some ⟨p, o, none⟩ → p < w.heap.size) (hla : A.length ≤ 60) (hlb : B.length ≤ 60) :
    Calls Tryd.prog 5 #[.slice a A.length ca, .slice b B.length cb] w fun e w' => e = .returned (.bool true) ∧ Gr w w' := by
  have OA : Hid (∀ w', Gr w w' → Calls Tryd.prog 14 #[.slice a A.length ca] w' fun e w2 => (∃ c d, e = .returned (.slice c A.length d) ∧ RngAt w2 c A ∧ (c = none → d = 0)) ∧ Gr w' w2) := Lib.hid fun w' hg => (l6_own a A ca w' (hA.gr hg) hca (by omega)).mono fun e w2 ⟨v, he, ho, hg2⟩ => by
    obtain ⟨c, d, rfl, hr, hd, -⟩ := ho.shape2
    exact ⟨⟨c, d, he, hr, hd⟩, hg2⟩
  have OB : Hid (∀ w', Gr w w' → Calls Tryd.prog 14 #[.slice b B.length cb] w' fun e w2 => (∃ c d, e = .returned (.slice c B.length d) ∧ RngAt w2 c B ∧ (c = none → d = 0)) ∧ Gr w' w2) := Lib.hid fun w' hg => (l6_own b B cb w' (hB.gr hg) hcb (by omega)).mono fun e w2 ⟨v, he, ho, hg2⟩ => by
    obtain ⟨c, d, rfl, hr, hd, -⟩ := ho.shape2
    exact ⟨⟨c, d, he, hr, hd⟩, hg2⟩
  have AW := Lib.hid (fun w' (hg : Gr w w') => l6_awake w' (htab_gr htab hg))
  have Pu := Lib.hid (fun w' (hg : Gr w w') => ra_Union a b A B ca cb w' (hA.gr hg) (hB.gr hg) hca hcb (by omega) (by omega) (fun p o e => Nat.lt_of_lt_of_le (hpa p o e) hg.size) (fun p o e => Nat.lt_of_lt_of_le (hpb p o e) hg.size))
  have Qu := Lib.hid (fun c d c' d' w' (hr : RngAt w' c A) (hr' : RngAt w' c' B) => r6_Union c c' A B d d' w' hr hr' (by omega) (by omega))
  have lu := combR_len (fun x y => x || y) A B
  have Pm := Lib.hid (fun w' (hg : Gr w w') => ra_Minus a b A B ca cb w' (hA.gr hg) (hB.gr hg) hca hcb (by omega) (by omega) (fun p o e => Nat.lt_of_lt_of_le (hpa p o e) hg.size) (fun p o e => Nat.lt_of_lt_of_le (hpb p o e) hg.size))
  have Qm := Lib.hid (fun c d c' d' w' (hr : RngAt w' c A) (hr' : RngAt w' c' B) => r6_Minus c c' A B d d' w' hr hr' (by omega) (by omega))
  have lm := combR_len (fun x y => x && !y) A B
  have Pc := Lib.hid (fun w' (hg : Gr w w') => ra_Common a b A B ca cb w' (hA.gr hg) (hB.gr hg) hca hcb (by omega) (by omega) (fun p o e => Nat.lt_of_lt_of_le (hpa p o e) hg.size) (fun p o e => Nat.lt_of_lt_of_le (hpb p o e) hg.size))
  have Qc := Lib.hid (fun c d c' d' w' (hr : RngAt w' c A) (hr' : RngAt w' c' B) => r6_Common c c' A B d d' w' hr hr' (by omega) (by omega))
  have lc := combR_len (fun x y => x && y) A B
  clear hA hB hca hcb hpa hpb htab
  generalize combR (fun x y => x || y) A B = Cu at *
  obtain ⟨Xu, eu⟩ := Cu
  simp only at Pu Qu lu
  have Eu := Lib.hid (fun (v u : Value) (B1 B2 : Nat) (w1 : World) (h1 : OwnR B1 w1 v Xu) (h2 : OwnF B2 w1 u Xu) => same_own h1 h2 lu)
  clear lu
  generalize combR (fun x y => x && !y) A B = Cm at *
  obtain ⟨Xm, em⟩ := Cm
  simp only at Pm Qm lm
  have Em := Lib.hid (fun (v u : Value) (B1 B2 : Nat) (w1 : World) (h1 : OwnR B1 w1 v Xm) (h2 : OwnF B2 w1 u Xm) => same_own h1 h2 lm)
  clear lm
  generalize combR (fun x y => x && y) A B = Cc at *
  obtain ⟨Xc, ec⟩ := Cc
  simp only at Pc Qc lc
  have Ec := Lib.hid (fun (v u : Value) (B1 B2 : Nat) (w1 : World) (h1 : OwnR B1 w1 v Xc) (h2 : OwnF B2 w1 u Xc) => same_own h1 h2 lc)
  clear lc
  generalize A.length = n at *
  generalize B.length = m at *
  have da : decide (60 < (n : Int)) = false := decide_eq_false (by omega)
  have db : decide (60 < (m : Int)) = false := decide_eq_false (by omega)
  have HG0 := Lib.hid (Gr.refl w)
  go_enter Tryd.func5, Tryd.ntmps5
  go_wp2_with fail
  refine (Pu.out _ HG0.out).mono ?_; rintro e w1 ⟨v, rfl, ho, hg⟩
  have HG1 := Lib.hid (Gr.trans HG0.out hg)
  have HV := Lib.hid ho
  clear hg ho HG0 Pu
  go_wp2_with fail
  refine (OA.out _ HG1.out).mono ?_; rintro e w2 ⟨⟨c0, d0, rfl, hr, hd⟩, hg⟩
  have HG2 := Lib.hid (Gr.trans HG1.out hg)
  have HV' := Lib.hid (HV.out.gr hg)
  clear HV
  have HV := HV'
  clear HV'
  have HR0 := Lib.hid hr
  clear hg hr hd HG1
  go_wp2_with fail
  refine (OB.out _ HG2.out).mono ?_; rintro e w3 ⟨⟨c1, d1, rfl, hr, hd⟩, hg⟩
  have HG3 := Lib.hid (Gr.trans HG2.out hg)
  have HV' := Lib.hid (HV.out.gr hg)
  clear HV
  have HV := HV'
  clear HV'
  have HR0' := Lib.hid (HR0.out.gr hg)
  clear HR0
  have HR0 := HR0'
  clear HR0'
  have HR1 := Lib.hid hr
  clear hg hr hd HG2
  have HQ := Lib.hid (Qu.out c0 d0 c1 d1 w3 HR0.out HR1.out)
  clear HR0 HR1 Qu
  go_wp2_with fail
  refine HQ.out.mono ?_; rintro e w4 ⟨u, rfl, ho, hg⟩
  have HG4 := Lib.hid (Gr.trans HG3.out hg)
  obtain ⟨b1, f1, b2, f2, rfl, rfl, hE⟩ := Eu.out _ _ _ _ _ (HV.out.gr hg) ho
  have HEu := Lib.hid hE
  clear hg ho hE HG3 HQ HV Eu
  go_wp2_with fail
  refine (Pm.out _ HG4.out).mono ?_; rintro e w5 ⟨v, rfl, ho, hg⟩
  have HG5 := Lib.hid (Gr.trans HG4.out hg)
  have HV := Lib.hid ho
  have HEu' := Lib.hid (fun w' (h : Gr w5 w') => HEu.out w' (Gr.trans hg h))
  clear HEu
  have HEu := HEu'
  clear HEu'
  clear hg ho HG4 Pm
  go_wp2_with fail
  refine (OA.out _ HG5.out).mono ?_; rintro e w6 ⟨⟨c0, d0, rfl, hr, hd⟩, hg⟩
  have HG6 := Lib.hid (Gr.trans HG5.out hg)
  have HV' := Lib.hid (HV.out.gr hg)
  clear HV
  have HV := HV'
  clear HV'
  have HR0 := Lib.hid hr
  have HEu' := Lib.hid (fun w' (h : Gr w6 w') => HEu.out w' (Gr.trans hg h))
  clear HEu
  have HEu := HEu'
  clear HEu'
  clear hg hr hd HG5
  go_wp2_with fail
  refine (OB.out _ HG6.out).mono ?_; rintro e w7 ⟨⟨c1, d1, rfl, hr, hd⟩, hg⟩
  have HG7 := Lib.hid (Gr.trans HG6.out hg)
  have HV' := Lib.hid (HV.out.gr hg)
  clear HV
  have HV := HV'
  clear HV'
  have HR0' := Lib.hid (HR0.out.gr hg)
  clear HR0
  have HR0 := HR0'
  clear HR0'
  have HR1 := Lib.hid hr
  have HEu' := Lib.hid (fun w' (h : Gr w7 w') => HEu.out w' (Gr.trans hg h))
  clear HEu
  have HEu := HEu'
  clear HEu'
  clear hg hr hd HG6
  have HQ := Lib.hid (Qm.out c0 d0 c1 d1 w7 HR0.out HR1.out)
  clear HR0 HR1 Qm
  go_wp2_with fail
  refine HQ.out.mono ?_; rintro e w8 ⟨u, rfl, ho, hg⟩
  have HG8 := Lib.hid (Gr.trans HG7.out hg)
  obtain ⟨b1, f1, b2, f2, rfl, rfl, hE⟩ := Em.out _ _ _ _ _ (HV.out.gr hg) ho
  have HEm := Lib.hid hE
  have HEu' := Lib.hid (fun w' (h : Gr w8 w') => HEu.out w' (Gr.trans hg h))
  clear HEu
  have HEu := HEu'
  clear HEu'
  clear hg ho hE HG7 HQ HV Em
  go_wp2_with fail
  refine (Pc.out _ HG8.out).mono ?_; rintro e w9 ⟨v, rfl, ho, hg⟩
  have HG9 := Lib.hid (Gr.trans HG8.out hg)
  have HV := Lib.hid ho
  have HEu' := Lib.hid (fun w' (h : Gr w9 w') => HEu.out w' (Gr.trans hg h))
  clear HEu
  have HEu := HEu'
  clear HEu'
  have HEm' := Lib.hid (fun w' (h : Gr w9 w') => HEm.out w' (Gr.trans hg h))
  clear HEm
  have HEm := HEm'
  clear HEm'
  clear hg ho HG8 Pc
  go_wp2_with fail
  refine (OA.out _ HG9.out).mono ?_; rintro e w10 ⟨⟨c0, d0, rfl, hr, hd⟩, hg⟩
  have HG10 := Lib.hid (Gr.trans HG9.out hg)
  have HV' := Lib.hid (HV.out.gr hg)
  clear HV
  have HV := HV'
  clear HV'
  have HR0 := Lib.hid hr
  have HEu' := Lib.hid (fun w' (h : Gr w10 w') => HEu.out w' (Gr.trans hg h))
  clear HEu
  have HEu := HEu'
  clear HEu'
  have HEm' := Lib.hid (fun w' (h : Gr w10 w') => HEm.out w' (Gr.trans hg h))
  clear HEm
  have HEm := HEm'
  clear HEm'
  clear hg hr hd HG9
  go_wp2_with fail
  refine (OB.out _ HG10.out).mono ?_; rintro e w11 ⟨⟨c1, d1, rfl, hr, hd⟩, hg⟩
  have HG11 := Lib.hid (Gr.trans HG10.out hg)
  have HV' := Lib.hid (HV.out.gr hg)
  clear HV
  have HV := HV'
  clear HV'
  have HR0' := Lib.hid (HR0.out.gr hg)
  clear HR0
  have HR0 := HR0'
  clear HR0'
  have HR1 := Lib.hid hr
  have HEu' := Lib.hid (fun w' (h : Gr w11 w') => HEu.out w' (Gr.trans hg h))
  clear HEu
  have HEu := HEu'
  clear HEu'
  have HEm' := Lib.hid (fun w' (h : Gr w11 w') => HEm.out w' (Gr.trans hg h))
  clear HEm
  have HEm := HEm'
  clear HEm'
  clear hg hr hd HG10
  have HQ := Lib.hid (Qc.out c0 d0 c1 d1 w11 HR0.out HR1.out)
  clear HR0 HR1 Qc
  go_wp2_with fail
  refine HQ.out.mono ?_; rintro e w12 ⟨u, rfl, ho, hg⟩
  have HG12 := Lib.hid (Gr.trans HG11.out hg)
  obtain ⟨b1, f1, b2, f2, rfl, rfl, hE⟩ := Ec.out _ _ _ _ _ (HV.out.gr hg) ho
  have HEc := Lib.hid hE
  have HEu' := Lib.hid (fun w' (h : Gr w12 w') => HEu.out w' (Gr.trans hg h))
  clear HEu
  have HEu := HEu'
  clear HEu'
  have HEm' := Lib.hid (fun w' (h : Gr w12 w') => HEm.out w' (Gr.trans hg h))
  clear HEm
  have HEm := HEm'
  clear HEm'
  clear hg ho hE HG11 HQ HV Ec
  go_wp2_with fail
  refine (AW.out _ HG12.out).mono ?_; rintro e w13 ⟨rfl, hg⟩
  have HG13 := Lib.hid (Gr.trans HG12.out hg)
  have HEu' := Lib.hid (fun w' (h : Gr w13 w') => HEu.out w' (Gr.trans hg h))
  clear HEu
  have HEu := HEu'
  clear HEu'
  have HEm' := Lib.hid (fun w' (h : Gr w13 w') => HEm.out w' (Gr.trans hg h))
  clear HEm
  have HEm := HEm'
  clear HEm'
  have HEc' := Lib.hid (fun w' (h : Gr w13 w') => HEc.out w' (Gr.trans hg h))
  clear HEc
  have HEc := HEc'
  clear HEc'
  clear hg HG12 AW
  go_wp2_with fail
  refine (HEu.out _ (Gr.refl _)).mono ?_; rintro e w14 ⟨rfl, hg⟩
  have HG14 := Lib.hid (Gr.trans HG13.out hg)
  have HEm' := Lib.hid (fun w' (h : Gr w14 w') => HEm.out w' (Gr.trans hg h))
  clear HEm
  have HEm := HEm'
  clear HEm'
  have HEc' := Lib.hid (fun w' (h : Gr w14 w') => HEc.out w' (Gr.trans hg h))
  clear HEc
  have HEc := HEc'
  clear HEc'
  clear hg HG13 HEu
  go_wp2_with fail
  refine (HEm.out _ (Gr.refl _)).mono ?_; rintro e w15 ⟨rfl, hg⟩
  have HG15 := Lib.hid (Gr.trans HG14.out hg)
  have HEc' := Lib.hid (fun w' (h : Gr w15 w') => HEc.out w' (Gr.trans hg h))
  clear HEc
  have HEc := HEc'
  clear HEc'
  clear hg HG14 HEm
  go_wp2_with fail
  refine (HEc.out _ (Gr.refl _)).mono ?_; rintro e w16 ⟨rfl, hg⟩
  have HG16 := Lib.hid (Gr.trans HG15.out hg)
  clear hg HG15 HEc
  go_wp2
  go_ret
  exact ⟨rfl, HG16.out⟩
set_option maxRecDepth 100000 in
set_option maxHeartbeats 4000000 in
theorem l6_RangesCombines {w0 : World} {a b : Option Addr} {A B : List (Int × Int)} {ca cb : Nat} (htab : Tab w0) (hA : RngAt w0 a A) (hca : a = none → ca = 0) (hpa : ∀ p o, a = some ⟨p, o, none⟩ → p < w0.heap.size) (hla : A.length ≤ 10000000000000)
    (hB : RngAt w0 b B) (hcb : b = none → cb = 0) (hpb : ∀ p o, b = some ⟨p, o, none⟩ → p < w0.heap.size) (hlb : B.length ≤ 10000000000000) (w : World) (hg : Gr w0 w) :
    Calls Tryd.prog 5 #[.slice a A.length ca, .slice b B.length cb] w fun e w' => e = .returned (.bool true) ∧ Gr w w' := by
  have AW := Lib.hid (fun w' (h : Gr w w') => l6_awake w' (htab_gr htab (Gr.trans hg h)))
  by_cases h1 : 60 < A.length
  · clear hA hca hpa hB hcb hpb
    generalize A.length = n at *
    generalize B.length = m at *
    have da : decide (60 < (n : Int)) = true := decide_eq_true (by omega)
    go_enter Tryd.func5, Tryd.ntmps5
    go_wp2_with fail
    refine (AW.out _ (Gr.refl w)).mono ?_; rintro e w1 ⟨rfl, hg⟩
    have HG := Lib.hid hg
    clear hg
    go_wp2
    go_ret
    exact ⟨rfl, HG.out⟩
  · by_cases h2 : 60 < B.length
    · clear hA hca hpa hB hcb hpb
      generalize A.length = n at *
      generalize B.length = m at *
      have da : decide (60 < (n : Int)) = false := decide_eq_false (by omega)
      have db : decide (60 < (m : Int)) = true := decide_eq_true (by omega)
      go_enter Tryd.func5, Tryd.ntmps5
      go_wp2_with fail
      refine (AW.out _ (Gr.refl w)).mono ?_; rintro e w1 ⟨rfl, hg⟩
      have HG := Lib.hid hg
      clear hg
      go_wp2
      go_ret
      exact ⟨rfl, HG.out⟩
    · exact l6_Combines_ok a b A B ca cb w (htab_gr htab hg) (hA.gr hg) (hB.gr hg) hca hcb (fun p o e => Nat.lt_of_lt_of_le (hpa p o e) hg.size) (fun p o e => Nat.lt_of_lt_of_le (hpb p o e) hg.size) (by omega) (by omega)
end Go.Proofs.YtifccpdkpgfnlaaDoor
