/- Law 15: mathematics of putting and dropping. -/
import Derived.Test.YtgjlcmheipmmlaaPbD
import Derived.Test.YtgjlcmheipmmlaaPbB
import Derived.Test.YtgjlcmheipmmlaaPbE
set_option linter.unusedVariables false
set_option linter.unusedSimpArgs false
namespace Go.Proofs.Ytgjlcmheipmmlaa
open Go.RowKit
open Z
theorem find_asc {l : List Pl} (ha : asc l) {n : Int} {x : Pl} : l.find? (fun g => decide (g.1 = n)) = some x ↔ x ∈ l ∧ x.1 = n := by
  constructor
  · intro h
    exact ⟨List.mem_of_find?_eq_some h, by simpa using List.find?_some h⟩
  · rintro ⟨h1, h2⟩
    obtain ⟨k, hk, rfl⟩ := List.getElem_of_mem h1
    rw [List.find?_eq_some_iff_getElem]
    exact ⟨by simpa using h2, k, hk, rfl, fun j hj => by have := asc_lt ha hk hj; simp; omega⟩
theorem hueL_put {l : List Pl} {g : Pl} {n c a : Int} (ha : asc l) (h : n ≠ g.1) : hueL (putL l g) n c a = hueL l n c a := by
  have hf : (putL l g).find? (fun g => decide (g.1 = n)) = l.find? (fun g => decide (g.1 = n)) := by
    apply Option.ext
    intro z
    rw [find_asc (asc_putL ha), find_asc ha, mem_putL]
    constructor
    · rintro ⟨rfl | ⟨h1, -⟩, h2⟩
      · exact absurd h2.symm h
      · exact ⟨h1, h2⟩
    · rintro ⟨h1, h2⟩
      exact ⟨.inr ⟨h1, by rw [h2]; exact h⟩, h2⟩
  unfold hueL
  rw [hf]
theorem hueL_gone {l : List Pl} {n c a : Int} : hueL (dropL l n) n c a = none := by
  unfold hueL
  rw [show (dropL l n).find? (fun g => decide (g.1 = n)) = none by
    rw [List.find?_eq_none]; intro x hx; have := (List.mem_filter.1 hx).2; simpa using this]
theorem put_drop (M : List Pl) (g : Pl) : putL (dropL M g.1) g = putL M g := by
  unfold putL dropL
  rw [List.filter_filter, List.filter_filter]
  congr 2
  · funext x; by_cases h : x.1 < g.1
    · simp [h]; omega
    · simp [h]
  · congr 1
    funext x; by_cases h : g.1 < x.1
    · simp [h]; omega
    · simp [h]
theorem put_put (l : List Pl) (g : Pl) : putL (putL l g) g = putL l g := by
  have h1 : (putL l g).filter (fun x => decide (x.1 < g.1)) = l.filter fun x => decide (x.1 < g.1) := by
    unfold putL
    rw [List.filter_append, List.filter_cons, if_neg (by simp), List.filter_filter, List.filter_filter]
    rw [show (l.filter fun x => decide (x.1 < g.1) && decide (g.1 < x.1)) = [] from List.filter_eq_nil_iff.2 fun x _ => by simp; omega, List.append_nil]
    congr 1
    funext x
    simp
  have h2 : (putL l g).filter (fun x => decide (g.1 < x.1)) = l.filter fun x => decide (g.1 < x.1) := by
    unfold putL
    rw [List.filter_append, List.filter_cons, if_neg (by simp), List.filter_filter, List.filter_filter]
    rw [show (l.filter fun x => decide (g.1 < x.1) && decide (x.1 < g.1)) = [] from List.filter_eq_nil_iff.2 fun x _ => by simp; omega, List.nil_append]
    congr 1
    funext x
    simp
  show (putL l g).filter (fun x => decide (x.1 < g.1)) ++ g :: (putL l g).filter (fun x => decide (g.1 < x.1)) = putL l g
  rw [h1, h2]
  rfl
theorem put_len (g : Pl) : ∀ l : List Pl, (putL l g).length ≤ l.length + 1
  | [] => by simp [putL]
  | x :: r => by
    have ih := put_len g r
    unfold putL at ih ⊢
    rw [List.length_append, List.length_cons] at ih ⊢
    rw [List.filter_cons, List.filter_cons]
    rcases Int.lt_trichotomy x.1 g.1 with h | h | h
    · rw [if_pos (by simpa using h), if_neg (by simp; omega)]; simp only [List.length_cons] at *; omega
    · rw [if_neg (by simp; omega), if_neg (by simp; omega)]; simp only [List.length_cons] at *; omega
    · rw [if_neg (by simp; omega), if_pos (by simpa using h)]; simp only [List.length_cons] at *; omega
theorem put_ok {l : List Pl} {g : Pl} (h : palR l = 0) (hg : palR [g] = 0) (hm : (putL l g).length ≤ 32) : palR (putL l g) = 0 := by
  have h1 := palR_zero.1 h
  have h2 := palR_zero.1 hg
  refine palR_zero.2 ⟨hm, fun y hy => ?_, asc_putL h1.2.2⟩
  rcases mem_putL.1 hy with rfl | ⟨h3, -⟩
  · exact h2.2.1 _ (by simp)
  · exact h1.2.1 y h3
theorem told_put {l : List Pl} {g : Pl} {y : En} {home : Int} (ha : asc l) (h : y.2.2.1 ≠ g.1) : toldR (putL l g) y home = toldR l y home ∧ toldR (dropL (putL l g) g.1) y home = toldR l y home := by
  unfold toldR
  rw [hueL_drop h, hueL_put ha h]
  exact ⟨rfl, rfl⟩
theorem told_gone {l : List Pl} {x : Int} {y : En} {home : Int} (h0 : x ≠ 0) (h : y.2.2.1 = x) : toldR (dropL l x) y home = home := by
  unfold toldR
  rw [if_neg (by omega), h, hueL_gone]
  rfl
theorem num_pos {x : Int} {L : List Hu} (h : palR [(x, L)] = 0) : x ≠ 0 := by
  have := ((palR_zero.1 h).2.1 (x, L) (by simp)).1
  unfold numE at this
  split at this
  · simp only at *; omega
  · omega
theorem one_few {x : Int} {L : List Hu} (h : palR [(x, L)] = 0) : fewB [(x, L)] = true := by
  have := (huR_zero.1 ((palR_zero.1 h).2.1 (x, L) (by simp)).2).1
  unfold fewB
  rw [decide_eq_true_eq]
  refine ⟨by simp, fun g hg => ?_⟩
  rcases List.mem_singleton.1 hg with rfl
  simp only at this ⊢
  omega
end Go.Proofs.Ytgjlcmheipmmlaa
