/- T3: TopRangesTexts as its row asks for it. -/
import Derived.Test.YtifccpdkpgfnlaaDoorTpF
set_option linter.unusedVariables false
set_option linter.unusedSimpArgs false
namespace Go.Proofs.YtifccpdkpgfnlaaDoor
open Go.RowKit Go.Shelf
open Z
set_option maxRecDepth 100000 in
set_option maxHeartbeats 2000000 in
theorem top_TopRangesTexts {w0 : World} {a b : Option Addr} {A B : List (Int × Int)} {ca cb : Nat} (htab : Tab w0) (hA : RngAt w0 a A) (hca : a = none → ca = 0) (hpa : ∀ p o, a = some ⟨p, o, none⟩ → p < w0.heap.size) (hla : A.length ≤ 8796093022208)
    (hB : RngAt w0 b B) (hcb : b = none → cb = 0) (hpb : ∀ p o, b = some ⟨p, o, none⟩ → p < w0.heap.size) (hlb : B.length ≤ 8796093022208) (w : World) (hg : Gr w0 w) :
    Calls Tryd.prog 10 #[.slice a A.length ca, .slice b B.length cb] w fun e w' => e = .returned (.bool true) ∧ Gr w w' := by
  have AW := Lib.hid (fun w' (h : Gr w w') => pl_play w' (htab_gr htab (Gr.trans hg h)))
  have SA := Lib.hid (fun w' (h : Gr w w') => pl_Set a A ca w' (hA.gr (Gr.trans hg h)) hla)
  have SB := Lib.hid (fun w' (h : Gr w w') => pl_Set b B cb w' (hB.gr (Gr.trans hg h)) hlb)
  by_cases hok : (A.length ≤ 30 ∧ checkR A = 0) ∧ (B.length ≤ 30 ∧ checkR B = 0) ∧ 0 < A.length ∧ 0 < B.length
  · obtain ⟨⟨a1, a2⟩, ⟨b1, b2⟩, a3, b3⟩ := hok
    exact top_Texts_ok a b A B ca cb w (htab_gr htab hg) (hA.gr hg) (hB.gr hg) hca hcb (fun p o e => Nat.lt_of_lt_of_le (hpa p o e) hg.size) (fun p o e => Nat.lt_of_lt_of_le (hpb p o e) hg.size) a1 b1 a2 b2 a3 b3
  · clear hA hca hpa hB hcb hpb
    obtain ⟨pa, hpa⟩ : ∃ x, (decide (A.length ≤ 30) && decide (checkR A = 0)) = x := ⟨_, rfl⟩
    obtain ⟨pb, hpb⟩ : ∃ x, (decide (B.length ≤ 30) && decide (checkR B = 0)) = x := ⟨_, rfl⟩
    rw [hpa] at SA
    rw [hpb] at SB
    have hcase : pa = false ∨ (pa = true ∧ pb = false) ∨ (pa = true ∧ pb = true ∧ A.length = 0) ∨ (pa = true ∧ pb = true ∧ ¬ A.length = 0 ∧ B.length = 0) := by
      cases pa
      · exact .inl rfl
      · cases pb
        · exact .inr (.inl ⟨rfl, rfl⟩)
        · by_cases h1 : A.length = 0
          · exact .inr (.inr (.inl ⟨rfl, rfl, h1⟩))
          · by_cases h2 : B.length = 0
            · exact .inr (.inr (.inr ⟨rfl, rfl, h1, h2⟩))
            · exfalso
              simp at hpa hpb
              exact hok ⟨hpa, hpb, by omega, by omega⟩
    clear hpa hpb hok
    generalize A.length = n at *
    generalize B.length = m at *
    have HG0 := Lib.hid (Gr.refl w)
    rcases hcase with h | ⟨h, h'⟩ | ⟨h, h', h0⟩ | ⟨h, h', h0, h1⟩
    · subst h
      go_enter Tryd.func10, Tryd.ntmps10
      go_wp2_with fail
      refine (SA.out _ HG0.out).mono ?_; rintro e w1 ⟨rfl, hg⟩
      have HG1 := Lib.hid (Gr.trans HG0.out hg)
      clear hg HG0 SA
      go_wp2_with fail
      refine (AW.out _ HG1.out).mono ?_; rintro e w2 ⟨rfl, hg⟩
      have HG2 := Lib.hid (Gr.trans HG1.out hg)
      clear hg
      go_wp2
      go_ret
      exact ⟨rfl, HG2.out⟩
    · subst h; subst h'
      go_enter Tryd.func10, Tryd.ntmps10
      go_wp2_with fail
      refine (SA.out _ HG0.out).mono ?_; rintro e w1 ⟨rfl, hg⟩
      have HG1 := Lib.hid (Gr.trans HG0.out hg)
      clear hg HG0 SA
      go_wp2_with fail
      refine (SB.out _ HG1.out).mono ?_; rintro e w2 ⟨rfl, hg⟩
      have HG2 := Lib.hid (Gr.trans HG1.out hg)
      clear hg HG1 SB
      go_wp2_with fail
      refine (AW.out _ HG2.out).mono ?_; rintro e w3 ⟨rfl, hg⟩
      have HG3 := Lib.hid (Gr.trans HG2.out hg)
      clear hg
      go_wp2
      go_ret
      exact ⟨rfl, HG3.out⟩
    · subst h; subst h'
      have na : ((n : Int) == 0) = true := by rw [beq_iff_eq]; omega
      clear h0
      go_enter Tryd.func10, Tryd.ntmps10
      go_wp2_with fail
      refine (SA.out _ HG0.out).mono ?_; rintro e w1 ⟨rfl, hg⟩
      have HG1 := Lib.hid (Gr.trans HG0.out hg)
      clear hg HG0 SA
      go_wp2_with fail
      refine (SB.out _ HG1.out).mono ?_; rintro e w2 ⟨rfl, hg⟩
      have HG2 := Lib.hid (Gr.trans HG1.out hg)
      clear hg HG1 SB
      go_wp2_with fail
      refine (AW.out _ HG2.out).mono ?_; rintro e w3 ⟨rfl, hg⟩
      have HG3 := Lib.hid (Gr.trans HG2.out hg)
      clear hg
      go_wp2
      go_ret
      exact ⟨rfl, HG3.out⟩
    · subst h; subst h'
      have na : ((n : Int) == 0) = false := by rw [beq_eq_false_iff_ne]; omega
      have nb : ((m : Int) == 0) = true := by rw [beq_iff_eq]; omega
      clear h0 h1
      go_enter Tryd.func10, Tryd.ntmps10
      go_wp2_with fail
      refine (SA.out _ HG0.out).mono ?_; rintro e w1 ⟨rfl, hg⟩
      have HG1 := Lib.hid (Gr.trans HG0.out hg)
      clear hg HG0 SA
      go_wp2_with fail
      refine (SB.out _ HG1.out).mono ?_; rintro e w2 ⟨rfl, hg⟩
      have HG2 := Lib.hid (Gr.trans HG1.out hg)
      clear hg HG1 SB
      go_wp2_with fail
      refine (AW.out _ HG2.out).mono ?_; rintro e w3 ⟨rfl, hg⟩
      have HG3 := Lib.hid (Gr.trans HG2.out hg)
      clear hg
      go_wp2
      go_ret
      exact ⟨rfl, HG3.out⟩
end Go.Proofs.YtifccpdkpgfnlaaDoor
