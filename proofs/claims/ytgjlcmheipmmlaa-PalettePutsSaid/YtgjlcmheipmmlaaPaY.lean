/- Law 15: mathematics of flat entries. No program. -/
import Derived.Test.YtgjlcmheipmmlaaPaP
import Derived.Test.YtgjlcmheipmmlaaPaJ
set_option linter.unusedVariables false
set_option linter.unusedSimpArgs false
namespace Go.Proofs.Ytgjlcmheipmmlaa
open Go.RowKit
open Z
theorem hueX_ok {l : List Hu} {c a v : Int} (h : ∀ x ∈ l, huE x = 0) (hv : hueX l c a = some v) : 0 ≤ v ∧ v ≤ 65535 := by
  unfold hueX at hv
  obtain ⟨x, hx, rfl⟩ := Option.map_eq_some_iff.1 hv
  have h1 := h x (List.mem_of_find?_eq_some hx)
  unfold huE at h1
  split at h1
  · omega
  · omega
theorem hueL_ok {l : List Pl} {n c a v : Int} (h : palR l = 0) (hv : hueL l n c a = some v) : 0 ≤ v ∧ v ≤ 65535 := by
  unfold hueL at hv
  split at hv
  · cases hv
  · rename_i g hg
    have h1 := (huR_zero.1 ((palR_zero.1 h).2.1 g (List.mem_of_find?_eq_some hg)).2).2.1
    split at hv
    · rename_i u hu
      cases hv
      exact hueX_ok h1 hu
    · exact hueX_ok h1 hv
theorem flatE_par (l : List Pl) (x : En) : (flatE l x).1 = x.1 ∧ (flatE l x).2.1 = x.2.1 := by
  unfold flatE
  split
  · split <;> exact ⟨rfl, rfl⟩
  · exact ⟨rfl, rfl⟩
theorem enE_iff {x : En} : enE x = 0 ↔ parR x.1 x.2.1 = 0 ∧ valR x.2.2.1 x.2.2.2 = 0 := by
  unfold enE
  split
  · rename_i h; exact ⟨fun h2 => ⟨h, h2⟩, fun h2 => h2.2⟩
  · rename_i h; exact ⟨fun h2 => by omega, fun h2 => absurd h2.1 h⟩
theorem flatE_ok {l : List Pl} {x : En} (h : palR l = 0) (hx : enE x = 0) : enE (flatE l x) = 0 ∧ ¬ 0 < (flatE l x).2.2.1 := by
  rw [enE_iff] at hx ⊢
  obtain ⟨h1, h2⟩ := flatE_par l x
  rw [h1, h2]
  refine ⟨⟨hx.1, ?_⟩, ?_⟩
  · unfold flatE
    split
    · cases hH : hueL l x.2.2.1 x.1 x.2.1 with
      | none => show valR (-1) 0 = 0; decide
      | some v =>
        have := hueL_ok h hH
        show valR 0 v = 0
        unfold valR; rw [if_pos (.inl ⟨rfl, this⟩)]
    · exact hx.2
  · unfold flatE
    split
    · cases hueL l x.2.2.1 x.1 x.2.1 <;> simp
    · assumption
theorem lev_right {l : List Pl} {x : En} {home : Int} (h : palR l = 0) (hx : enE x = 0) (hh : 0 ≤ home ∧ home ≤ 65535) : levE l x home = 0 ∧ levV l x home = toldR l x home ∧ lev3 l x = 0 := by
  obtain ⟨h1, h2⟩ := enE_iff.1 hx
  have h3 : lev3 l x = 0 := by unfold lev3 or3; rw [if_pos h, if_pos h2, h1]
  have h4 : levE l x home = 0 := levE_zero.2 ⟨h3, hh⟩
  exact ⟨h4, if_pos h4, h3⟩
theorem lev_flat {l : List Pl} {x : En} {home : Int} (h : palR l = 0) (hx : enE x = 0) (hh : 0 ≤ home ∧ home ≤ 65535) : levE [] (flatE l x) home = 0 ∧ levV [] (flatE l x) home = levV l x home := by
  obtain ⟨h1, h2⟩ := flatE_ok h hx
  obtain ⟨e1, v1, -⟩ := lev_right (l := l) h hx hh
  obtain ⟨e2, v2, t2⟩ := lev_right (l := []) (home := home) (by decide) h1 hh
  refine ⟨e2, ?_⟩
  rw [v1, v2, told_flat home (lev_right h hx hh).2.2, told_flat home t2]
  have h3 : ∀ y : En, ¬ 0 < y.2.2.1 → flatE [] y = y := fun y hy => by
    unfold flatE
    rw [if_neg hy]
  rw [h3 _ h2]
theorem miss_home {l : List Pl} {es : List En} {x : En} {home : Int} (hb : bothR l es = 0) (hx : x ∈ es) (hm : (x.1, x.2.1) ∈ missL l es) : 0 < x.2.2.1 ∧ toldR l x home = home := by
  unfold missL at hm
  rw [if_pos hb, List.mem_map] at hm
  obtain ⟨y, hy, e⟩ := hm
  rw [List.mem_filter, List.mem_filter] at hy
  obtain ⟨⟨hy1, hy2⟩, hy3⟩ := hy
  obtain ⟨-, -, hs⟩ := entR_zero.1 (bothR_zero.1 hb).2
  have hxy : y = x := by
    obtain ⟨i, hi, rfl⟩ := List.getElem_of_mem hx
    obtain ⟨j, hj, rfl⟩ := List.getElem_of_mem hy1
    have hk : enK es[j] = enK es[i] := e
    rcases Nat.lt_trichotomy i j with h | h | h
    · have := (List.pairwise_iff_getElem.1 hs) i j hi hj h
      rw [hk, bef_ir] at this; cases this
    · subst h; rfl
    · have := (List.pairwise_iff_getElem.1 hs) j i hj hi h
      rw [hk, bef_ir] at this; cases this
  subst hxy
  simp only [decide_eq_true_eq] at hy2
  refine ⟨hy2, ?_⟩
  unfold toldR
  rw [if_neg (by omega)]
  cases h : hueL l y.2.2.1 y.1 y.2.1 with
  | none => rfl
  | some v => rw [h] at hy3; cases hy3
end Go.Proofs.Ytgjlcmheipmmlaa
