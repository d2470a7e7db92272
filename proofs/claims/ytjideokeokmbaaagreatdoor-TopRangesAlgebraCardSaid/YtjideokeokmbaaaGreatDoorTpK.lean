/- T3: TopRangesAlgebra as its row asks for it. -/
import Derived.Test.YtjideokeokmbaaaGreatDoorTpJ
set_option linter.unusedVariables false
set_option linter.unusedSimpArgs false
namespace Go.Proofs.YtjideokeokmbaaaGreatDoor
open Go.RowKit Go.Shelf
open Z
set_option maxRecDepth 100000 in
set_option maxHeartbeats 4000000 in
theorem top_TopRangesAlgebra {w0 : World} {a b c : Option Addr} {A B C : List (Int × Int)} {ca cb cc : Nat} (htab : Tab w0) (hA : RngAt w0 a A) (hca : a = none → ca = 0) (hpa : ∀ p o, a = some ⟨p, o, none⟩ → p < w0.heap.size) (hla : A.length ≤ 8796093022208)
    (hB : RngAt w0 b B) (hcb : b = none → cb = 0) (hpb : ∀ p o, b = some ⟨p, o, none⟩ → p < w0.heap.size) (hlb : B.length ≤ 8796093022208)
    (hC : RngAt w0 c C) (hcc : c = none → cc = 0) (hpc : ∀ p o, c = some ⟨p, o, none⟩ → p < w0.heap.size) (hlc : C.length ≤ 8796093022208) (w : World) (hg : Gr w0 w) :
    Calls Tryz.prog 3 #[.slice a A.length ca, .slice b B.length cb, .slice c C.length cc] w fun e w' => e = .returned (.bool true) ∧ Gr w w' := by
  have AW := Lib.hid (fun w' (h : Gr w w') => pl_play w' (htab_gr htab (Gr.trans hg h)))
  have SA := Lib.hid (fun w' (h : Gr w w') => pl_Set a A ca w' (hA.gr (Gr.trans hg h)) hla)
  have SB := Lib.hid (fun w' (h : Gr w w') => pl_Set b B cb w' (hB.gr (Gr.trans hg h)) hlb)
  have SC := Lib.hid (fun w' (h : Gr w w') => pl_Set c C cc w' (hC.gr (Gr.trans hg h)) hlc)
  by_cases hok : (A.length ≤ 30 ∧ checkR A = 0) ∧ (B.length ≤ 30 ∧ checkR B = 0) ∧ (C.length ≤ 30 ∧ checkR C = 0)
  · obtain ⟨⟨a1, a2⟩, ⟨b1, b2⟩, ⟨c1, c2⟩⟩ := hok
    rw [decide_eq_true a1, decide_eq_true a2] at SA
    rw [decide_eq_true b1, decide_eq_true b2] at SB
    rw [decide_eq_true c1, decide_eq_true c2] at SC
    exact top_Alg_ok a b c A B C _ _ _ ca cb cc w (htab_gr htab hg)
      ⟨⟨a, ca, rfl, hA.gr hg, hca, fun p o e => Nat.lt_of_lt_of_le (hpa p o e) hg.size⟩, a2, by omega⟩
      ⟨⟨b, cb, rfl, hB.gr hg, hcb, fun p o e => Nat.lt_of_lt_of_le (hpb p o e) hg.size⟩, b2, by omega⟩
      ⟨⟨c, cc, rfl, hC.gr hg, hcc, fun p o e => Nat.lt_of_lt_of_le (hpc p o e) hg.size⟩, c2, by omega⟩ SA SB SC
  · clear hA hca hpa hB hcb hpb hC hcc hpc
    obtain ⟨pa, hpa⟩ : ∃ x, (decide (A.length ≤ 30) && decide (checkR A = 0)) = x := ⟨_, rfl⟩
    obtain ⟨pb, hpb⟩ : ∃ x, (decide (B.length ≤ 30) && decide (checkR B = 0)) = x := ⟨_, rfl⟩
    obtain ⟨pc, hpc⟩ : ∃ x, (decide (C.length ≤ 30) && decide (checkR C = 0)) = x := ⟨_, rfl⟩
    rw [hpa] at SA
    rw [hpb] at SB
    rw [hpc] at SC
    have hcase : pa = false ∨ (pa = true ∧ pb = false) ∨ (pa = true ∧ pb = true ∧ pc = false) := by
      cases pa
      · exact .inl rfl
      · cases pb
        · exact .inr (.inl ⟨rfl, rfl⟩)
        · cases pc
          · exact .inr (.inr ⟨rfl, rfl, rfl⟩)
          · exfalso
            simp at hpa hpb hpc
            exact hok ⟨hpa, hpb, hpc⟩
    clear hpa hpb hpc hok
    generalize A.length = n at *
    generalize B.length = m at *
    generalize C.length = l at *
    have HG0 := Lib.hid (Gr.refl w)
    clear hg htab
    rcases hcase with h | ⟨h, h'⟩ | ⟨h, h', h''⟩
    · subst h
      go_enter Tryz.func3, Tryz.ntmps3
      go_wp2_with fail
      refine (SA.out _ HG0.out).mono ?_; rintro e w1 ⟨rfl, hg⟩
      have HG1 := Lib.hid (Gr.trans HG0.out hg)
      clear hg
      go_wp2_with fail
      refine (AW.out _ HG1.out).mono ?_; rintro e w2 ⟨rfl, hg⟩
      have HG2 := Lib.hid (Gr.trans HG1.out hg)
      clear hg
      go_wp2
      go_ret
      exact ⟨rfl, HG2.out⟩
    · subst h; subst h'
      go_enter Tryz.func3, Tryz.ntmps3
      go_wp2_with fail
      refine (SA.out _ HG0.out).mono ?_; rintro e w1 ⟨rfl, hg⟩
      have HG1 := Lib.hid (Gr.trans HG0.out hg)
      clear hg
      go_wp2_with fail
      refine (SB.out _ HG1.out).mono ?_; rintro e w2 ⟨rfl, hg⟩
      have HG2 := Lib.hid (Gr.trans HG1.out hg)
      clear hg
      go_wp2_with fail
      refine (AW.out _ HG2.out).mono ?_; rintro e w3 ⟨rfl, hg⟩
      have HG3 := Lib.hid (Gr.trans HG2.out hg)
      clear hg
      go_wp2
      go_ret
      exact ⟨rfl, HG3.out⟩
    · subst h; subst h'; subst h''
      go_enter Tryz.func3, Tryz.ntmps3
      go_wp2_with fail
      refine (SA.out _ HG0.out).mono ?_; rintro e w1 ⟨rfl, hg⟩
      have HG1 := Lib.hid (Gr.trans HG0.out hg)
      clear hg
      go_wp2_with fail
      refine (SB.out _ HG1.out).mono ?_; rintro e w2 ⟨rfl, hg⟩
      have HG2 := Lib.hid (Gr.trans HG1.out hg)
      clear hg
      go_wp2_with fail
      refine (SC.out _ HG2.out).mono ?_; rintro e w3 ⟨rfl, hg⟩
      have HG3 := Lib.hid (Gr.trans HG2.out hg)
      clear hg
      go_wp2_with fail
      refine (AW.out _ HG3.out).mono ?_; rintro e w4 ⟨rfl, hg⟩
      have HG4 := Lib.hid (Gr.trans HG3.out hg)
      clear hg
      go_wp2
      go_ret
      exact ⟨rfl, HG4.out⟩
end Go.Proofs.YtjideokeokmbaaaGreatDoor
