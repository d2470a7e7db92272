/- Law 15: PaletteFlattens. -/
import Derived.Test.YtgjlcmheipmmlaaPaT
set_option linter.unusedVariables false
set_option linter.unusedSimpArgs false
namespace Go.Proofs.Ytgjlcmheipmmlaa
open Go.RowKit
open Z
set_option maxRecDepth 100000 in
set_option maxHeartbeats 8000000 in
theorem l15_PaletteFlattens {al : Option Addr} {l : List Pl} {cl : Nat} {ae : Option Addr} {es : List En} {ce : Nat} (w : World) (hr : RdP w al l) (hlen : l.length ≤ 9223372036854775807) (hin : ∀ g ∈ l, g.2.length ≤ 9223372036854775807) (he : Rd shE w ae es) (hle : es.length ≤ 9223372036854775807) :
    Calls Try.prog 6 #[.slice al l.length cl, .slice ae es.length ce] w fun e w' => e = .returned (.bool true) ∧ Gr w w' := by
  have HAW := Lib.hid (fun W => l15_awake W)
  have HF1 := Lib.hid (r15_Few (cap := cl) w hr (by omega))
  have HF2 := Lib.hid (fun W => r15_FewEntries (a := ae) (l := es) (cap := ce) W (by omega))
  have HU1 := Lib.hid (fun W (hW : Gr w W) => pl_Used (cap := ce) W (he.gr hW) hle)
  have HU2 := Lib.hid (fun W (hW : Gr w W) => r15_Used (cap := ce) W (he.gr hW) hle)
  have HL1 := Lib.hid (fun W (hW : Gr w W) => pl_Flat (cl := cl) (ce := ce) W (hr.gr hW) hlen hin (he.gr hW) hle)
  have HL2 := Lib.hid (fun W (hW : Gr w W) => r15_Flat (cl := cl) (ce := ce) W (hr.gr hW) hlen hin (he.gr hW) hle)
  have HM1 := Lib.hid (fun W (hW : Gr w W) => pl_Missing (cl := cl) (ce := ce) W (hr.gr hW) hlen hin (he.gr hW) hle)
  have HM2 := Lib.hid (fun W (hW : Gr w W) => r15_Missing (cl := cl) (ce := ce) W (hr.gr hW) hlen hin (he.gr hW) hle)
  clear hr hin he
  generalize fewB l = B1 at *
  generalize decide (es.length ≤ 200 ∨ 4096 < es.length) = B2 at *
  generalize usedL es = U at *
  generalize flatL l es = F at *
  generalize missL l es = M at *
  generalize bothR l es = EB at *
  generalize entR es = EE at *
  generalize es.length = me at *
  generalize l.length = ml at *
  go_enter Try.func6, Try.ntmps6
  go_wp2_with fail
  refine HF1.out.mono ?_; rintro e w2 ⟨rfl, rfl⟩
  cases B1
  · go_wp2_with fail
    refine (HAW.out _).mono ?_; rintro e w3 ⟨rfl, hg3⟩
    have HG3 := Lib.hid hg3
    clear hg3
    go_wp2
    go_ret
    exact ⟨rfl, HG3.out⟩
  · go_wp2_with fail
    refine (HF2.out _).mono ?_; rintro e w2 ⟨rfl, rfl⟩
    cases B2
    · go_wp2_with fail
      refine (HAW.out _).mono ?_; rintro e w3 ⟨rfl, hg3⟩
      have HG3 := Lib.hid hg3
      clear hg3
      go_wp2
      go_ret
      exact ⟨rfl, HG3.out⟩
    · go_wp2_with fail
      refine (HU1.out _ (Gr.refl _)).mono ?_; rintro e w3 ⟨⟨v3, rfl, ho3⟩, hg3⟩
      obtain ⟨a3, c3, rfl, r3, l3, m3, -⟩ := ho3.shape
      go_wp2_with fail
      refine (HU2.out _ hg3).mono ?_; rintro e w4 ⟨⟨a4, c4, rfl, r4, l4, m4⟩, hg4⟩
      have hg04 := hg3.trans hg4
      go_wp2_with fail
      refine (HL1.out _ hg04).mono ?_; rintro e w5 ⟨⟨v5, rfl, ho5⟩, hg5⟩
      obtain ⟨a5, c5, rfl, r5, l5, m5, -⟩ := ho5.shape
      have hg05 := hg04.trans hg5
      go_wp2_with fail
      refine (HL2.out _ hg05).mono ?_; rintro e w6 ⟨⟨v6, rfl, ho6⟩, hg6⟩
      obtain ⟨a6, c6, rfl, r6, l6, m6, -⟩ := ho6.shape
      have hg06 := hg05.trans hg6
      go_wp2_with fail
      refine (HM1.out _ hg06).mono ?_; rintro e w7 ⟨⟨v7, rfl, ho7⟩, hg7⟩
      obtain ⟨a7, c7, rfl, r7, l7, m7, -⟩ := ho7.shape
      have hg07 := hg06.trans hg7
      go_wp2_with fail
      refine (HM2.out _ hg07).mono ?_; rintro e w8 ⟨⟨v8, rfl, ho8⟩, hg8⟩
      obtain ⟨a8, c8, rfl, r8, l8, m8, -⟩ := ho8.shape
      unfold maxLen at m3 m4 m5 m6 m7 m8
      have HEQ1 := Lib.hid (fun W (hW : Gr w8 W) => sl_EqualI (ca := c3) (cb := c4) W (r3.gr (hg4.trans (hg5.trans (hg6.trans (hg7.trans (hg8.trans hW)))))) (r4.gr (hg5.trans (hg6.trans (hg7.trans (hg8.trans hW))))) (by omega) (by omega))
      have HEQ2 := Lib.hid (fun W (hW : Gr w8 W) => r15_SameEntries (ca := c5) (cb := c6) W (r5.gr (hg6.trans (hg7.trans (hg8.trans hW)))) (r6.gr (hg7.trans (hg8.trans hW))) (by omega) (by omega))
      have HEQ3 := Lib.hid (fun W (hW : Gr w8 W) => sl_EqualR (ca := c7) (cb := c8) W (r7.gr (hg8.trans hW)) (r8.gr hW) (by omega) (by omega))
      rw [decide_eq_true (show U = U from rfl)] at HEQ1
      rw [decide_eq_true (show F = F from rfl)] at HEQ2
      rw [decide_eq_true (show M = M from rfl)] at HEQ3
      have HG8 := Lib.hid (hg07.trans hg8)
      have HQ1 := Lib.hid (HEQ1.out w8 (Gr.refl _))
      clear hg3 hg4 hg5 hg6 hg7 hg8 hg04 hg05 hg06 hg07 ho3 ho5 ho6 ho7 ho8 r3 r4 r5 r6 r7 r8 l3 l4 l5 l6 l7 l8 m3 m4 m5 m6 m7 m8 HU1 HU2 HL1 HL2 HM1 HM2 HEQ1 HF1 HF2
      generalize U.length = nu at *
      generalize F.length = nf at *
      generalize M.length = nm at *
      go_wp2_with fail
      refine HQ1.out.mono ?_; rintro e w9 ⟨rfl, hg9⟩
      have HQ2 := Lib.hid (HEQ2.out w9 hg9)
      have HQ3 := Lib.hid (fun W (hW : Gr w9 W) => HEQ3.out W (hg9.trans hW))
      have HG9 := Lib.hid (HG8.out.trans hg9)
      clear hg9 HQ1 HEQ2 HEQ3 HG8
      go_wp2_with fail
      refine HQ2.out.mono ?_; rintro e w10 ⟨rfl, hg10⟩
      have HQ4 := Lib.hid (HQ3.out w10 hg10)
      have HG10 := Lib.hid (HG9.out.trans hg10)
      clear hg10 HQ2 HQ3 HG9
      go_wp2_with fail
      refine HQ4.out.mono ?_; rintro e w11 ⟨rfl, hg11⟩
      have HG11 := Lib.hid (HG10.out.trans hg11)
      clear hg11 HQ4 HG10
      go_wp2_with fail
      refine (HAW.out _).mono ?_; rintro e w12 ⟨rfl, hg12⟩
      have HG12 := Lib.hid (HG11.out.trans hg12)
      clear hg12
      go_wp2
      go_ret
      exact ⟨rfl, HG12.out⟩
end Go.Proofs.Ytgjlcmheipmmlaa
