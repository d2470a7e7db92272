/- Law 6: what the laws against the reference share. -/
import Derived.Test.YtifccpdkpgfnlaaDoorRbN
set_option linter.unusedVariables false
set_option linter.unusedSimpArgs false
namespace Go.Proofs.YtifccpdkpgfnlaaDoor.Z
open Go
theorem listR_len (R : List (Int × Int)) : (listR R).1.length ≤ 999 := by
  unfold listR
  by_cases h : checkR R = 0
  · rw [if_neg (by simp [h])]; exact chans_le h
  · rw [if_pos h]; simp
theorem makeR_len (R : List (Int × Int)) : (makeR R).1.length ≤ 1000 := by
  unfold makeR
  split
  · simp
  · split
    · exact setS_len _ _
    · simp
theorem ofR_len (L : List Int) : (ofR L).1.length ≤ 1000 := by
  unfold ofR
  split
  · simp
  · split
    · exact setS_len _ _
    · simp
theorem combR_len (rem : Bool → Bool → Bool) (A B : List (Int × Int)) : (combR rem A B).1.length ≤ 1000 := by
  have h := setS_len (combG rem (inR A) (inR B) (chans [(1, 999)])) 1000
  unfold combR
  generalize setS (combG rem (inR A) (inR B) (chans [(1, 999)])) 1000 = X at *
  split
  · simp
  · split
    · simp
    · exact h
end Go.Proofs.YtifccpdkpgfnlaaDoor.Z
namespace Go.Proofs.YtifccpdkpgfnlaaDoor
open Go.RowKit Go.Shelf
open Z
theorem eq_own {v u : Value} {B1 B2 : Nat} {w : World} {X : List Int} (h1 : OwnI B1 w v X) (h2 : OwnI B2 w u X) (hl : X.length ≤ 999) :
    ∃ b1 c1 b2 c2, v = .slice b1 X.length c1 ∧ u = .slice b2 X.length c2 ∧ ∀ w', Gr w w' → Calls Tryd.prog 21 #[.slice b1 X.length c1, .slice b2 X.length c2] w' fun e w2 => e = .returned (.bool true) ∧ Gr w' w2 := by
  obtain ⟨b1, c1, rfl, g1, -⟩ := h1.shape2
  obtain ⟨b2, c2, rfl, g2, -⟩ := h2.shape2
  refine ⟨b1, c1, b2, c2, rfl, rfl, fun w' hg => ?_⟩
  have := sl_EqualI b1 b2 X X c1 c2 w' (g1.gr hg) (g2.gr hg) (by omega) (by omega)
  rwa [decide_eq_true rfl] at this
theorem same_own {v u : Value} {B1 B2 : Nat} {w : World} {X : List (Int × Int)} (h1 : OwnR B1 w v X) (h2 : OwnF B2 w u X) (hl : X.length ≤ 1000) :
    ∃ b1 c1 b2 c2, v = .slice b1 X.length c1 ∧ u = .slice b2 X.length c2 ∧ ∀ w', Gr w w' → Calls Tryd.prog 26 #[.slice b1 X.length c1, .slice b2 X.length c2] w' fun e w2 => e = .returned (.bool true) ∧ Gr w' w2 := by
  obtain ⟨b1, c1, rfl, g1, n1, -⟩ := h1.shape2
  obtain ⟨b2, c2, rfl, g2, -, -⟩ := h2.shape2
  refine ⟨b1, c1, b2, c2, rfl, rfl, fun w' hg => ?_⟩
  have := l6_same b1 b2 X X c1 c2 w' (g1.gr hg) (g2.gr hg) n1 (by omega) (by omega)
  rwa [decide_eq_true rfl] at this
end Go.Proofs.YtifccpdkpgfnlaaDoor
