/- Plain mathematics of chains: the level within a millisecond. -/
import Derived.Test.YtffifpinnhaloaaGreatDoorGlN
import Derived.Test.YtffifpinnhaloaaGreatDoorGlC
set_option linter.unusedVariables false
set_option linter.unusedSimpArgs false
namespace Go.Proofs.YtffifpinnhaloaaGreatDoor
open Go.RowKit
open Z

/-- what a right chain keeps -/
def Facts (l : List Gl) : Prop := (∀ g ∈ l, g.err = 0) ∧ ∀ j (h : j + 1 < l.length), (l[j]).st ≤ (l[j + 1]).st ∧ (l[j + 1]).f = (l[j]).at (l[j + 1]).st
theorem facts_of {l : List Gl} (h : chainE l = 0) : Facts l := by
  obtain ⟨-, hz⟩ := chainE_zero h
  refine ⟨fun g hg => ?_, fun j hj => ?_⟩
  · obtain ⟨j, hj, rfl⟩ := List.getElem_of_mem hg
    exact (step_zero hj (hz j hj)).1
  · have h1 := hz (j + 1) hj
    rw [stepE_at hj] at h1
    have e := (step_zero hj (hz (j + 1) hj)).1
    rw [if_neg (by simpa using e), if_neg (by omega)] at h1
    simp only [Nat.add_sub_cancel] at h1
    by_cases h2 : (l[j + 1]).st < (l[j]).st
    · rw [if_pos h2] at h1; omega
    · rw [if_neg h2] at h1
      by_cases h3 : (l[j + 1]).f = (l[j]).at (l[j + 1]).st
      · exact ⟨by omega, h3⟩
      · rw [if_neg h3] at h1; omega
theorem Facts.tail {g : Gl} {r : List Gl} (h : Facts (g :: r)) : Facts r :=
  ⟨fun x hx => h.1 x (by simp [hx]), fun j hj => by have := h.2 (j + 1) (by simpa using hj); simpa using this⟩
theorem Facts.next {g h : Gl} {r : List Gl} (hf : Facts (g :: h :: r)) : g.st ≤ h.st ∧ h.f = g.at h.st := by have := hf.2 0 (by simp); simpa using this
theorem rv_at (g : Gl) (t : Int) : rv (g.at t) = ofG (rv g.f) g.x g.st g.ti t := rv_RT _
theorem Gl.lvl {g : Gl} (h : g.err = 0) : lvlQ (rv g.f) = true ∧ 0 ≤ g.x ∧ g.x ≤ 65535 ∧ 0 ≤ g.st ∧ g.st ≤ 10000000 ∧ 0 ≤ g.ti ∧ g.ti ≤ 10000000 := by
  obtain ⟨b, hb, _, lb, h2⟩ := glE_zero_iff h
  rw [hb, rv_RT]; exact ⟨lb, h2⟩
theorem lv_first {m : Int} (hm : 0 < m) : ∀ (r : List Gl) (h : Gl) (t : Int), Facts (h :: r) → (∀ g ∈ h :: r, m ≤ g.ti) → t ≤ h.st → rv (valL (h :: r) t) = rv h.f := by
  intro r
  induction r with
  | nil =>
    intro h t _ hti ht
    have := hti h (by simp)
    show rv (h.at t) = _
    rw [rv_at]; unfold ofG
    rw [if_neg (by omega), if_pos ht]
  | cons h2 r ih =>
    intro h t hf hti ht
    have hth := hti h (by simp)
    unfold valL
    by_cases hs : h2.st ≤ t
    · rw [if_pos hs, ih h2 t hf.tail (fun g hg => hti g (by simp [hg])) (by have := hf.next.1; omega), hf.next.2, rv_at]
      unfold ofG
      rw [if_neg (by have := hf.next.1; omega), if_pos (by omega)]
    · rw [if_neg hs, rv_at]
      unfold ofG
      rw [if_neg (by omega), if_pos ht]
theorem lv_cont {m : Int} (hm : 0 < m) : ∀ (r : List Gl) (h : Gl) (t : Int), Facts (h :: r) → (∀ g ∈ h :: r, m ≤ g.ti) →
    rv (valL (h :: r) (t + 1)) - rv (valL (h :: r) t) ≤ Rat.divInt 65535 m ∧ rv (valL (h :: r) t) - rv (valL (h :: r) (t + 1)) ≤ Rat.divInt 65535 m := by
  intro r
  induction r with
  | nil =>
    intro h t hf hti
    obtain ⟨l1, l2, l3, _⟩ := Gl.lvl (hf.1 h (by simp))
    show rv (h.at (t + 1)) - rv (h.at t) ≤ _ ∧ rv (h.at t) - rv (h.at (t + 1)) ≤ _
    rw [rv_at, rv_at]
    exact ofG_slope l1 l2 l3 hm (hti h (by simp))
  | cons h2 r ih =>
    intro h t hf hti
    obtain ⟨l1, l2, l3, _⟩ := Gl.lvl (hf.1 h (by simp))
    have hsl := ofG_slope (st := h.st) (t := t) l1 l2 l3 hm (hti h (by simp))
    have htl : ∀ g ∈ h2 :: r, m ≤ g.ti := fun g hg => hti g (by simp [hg])
    unfold valL
    by_cases h1 : h2.st ≤ t
    · rw [if_pos h1, if_pos (by omega)]
      exact ih h2 t hf.tail htl
    · rw [if_neg h1]
      by_cases h3 : h2.st ≤ t + 1
      · have e : h2.st = t + 1 := by omega
        rw [if_pos h3, lv_first hm r h2 (t + 1) hf.tail htl (by omega), hf.next.2, rv_at, rv_at, e]
        exact hsl
      · rw [if_neg h3, rv_at, rv_at]
        exact hsl
theorem valL_mem : ∀ {l : List Gl} (t : Int), l ≠ [] → ∃ g ∈ l, valL l t = g.at t
  | [], _, h => absurd rfl h
  | [g], t, _ => ⟨g, by simp, rfl⟩
  | g :: h :: r, t, _ => by
    unfold valL
    by_cases hs : h.st ≤ t
    · rw [if_pos hs]
      obtain ⟨x, hx, e⟩ := valL_mem (l := h :: r) t (by simp)
      exact ⟨x, by simp [hx], e⟩
    · rw [if_neg hs]; exact ⟨g, by simp, rfl⟩
/-- the level of a right chain with short levels is a level, and not long -/
theorem valL_lvl {l : List Gl} {t : Int} (h : chainE l = 0) (hne : l ≠ []) (hs : ∀ g ∈ l, g.f.size ≤ 200) : ∃ q : Rat, valL l t = RT q ∧ Sh 420 q ∧ lvlQ q = true := by
  obtain ⟨g, hg, e⟩ := valL_mem t hne
  obtain ⟨q, e1, e2, e3, lq, x0, x1, st0, st1, ti0, ti1⟩ := Gl.err_zero ((facts_of h).1 g hg) (by have := hs g hg; omega)
  refine ⟨ofG (rv g.f) g.x g.st g.ti t, e, ?_, ?_⟩
  · rw [e2]; exact (sh_ofG e3 x0 x1 st0 st1 ti0 ti1).mono (by have := hs g hg; omega)
  · rw [e2]; exact ofG_lvl lq x0 x1 ti0
/-- one glide more at the end of a right chain -/
theorem chainE_snoc {l : List Gl} {p g : Gl} (h : chainE (l ++ [p]) = 0) (hl : l.length + 2 ≤ 256) (hg : g.err = 0) (hst : p.st ≤ g.st) (hf : g.f = p.at g.st) : chainE (l ++ [p] ++ [g]) = 0 := by
  obtain ⟨-, hz⟩ := chainE_zero h
  refine chainE_ok (by simp; omega) fun j hj => ?_
  simp only [List.length_append, List.length_cons, List.length_nil] at hj
  rw [stepE_at (by simp; omega)]
  by_cases hjl : j < (l ++ [p]).length
  · have h1 := hz j hjl
    rw [stepE_at hjl] at h1
    have e1 : (l ++ [p] ++ [g])[j]'(by simp; omega) = (l ++ [p])[j] := List.getElem_append_left hjl
    have e2 : (l ++ [p] ++ [g])[j - 1]'(by simp; omega) = (l ++ [p])[j - 1]'(by omega) := List.getElem_append_left (by omega)
    rw [e1, e2]; exact h1
  · simp only [List.length_append, List.length_cons, List.length_nil] at hjl
    have hj1 : j = l.length + 1 := by omega
    subst hj1
    have e1 : (l ++ [p] ++ [g])[l.length + 1]'(by simp) = g := by simp
    have e2 : (l ++ [p] ++ [g])[l.length + 1 - 1]'(by simp) = p := by simp
    rw [e1, e2, if_neg (by simpa using hg), if_neg (by omega), if_neg (by omega), if_pos hf]
theorem chainE_one {g : Gl} (hg : g.err = 0) : chainE [g] = 0 := chainE_ok (by simp) fun j hj => by
  have : j = 0 := by simp at hj; omega
  subst this
  rw [stepE_at (by simp)]
  rw [if_neg (by simpa using hg), if_pos rfl]
end Go.Proofs.YtffifpinnhaloaaGreatDoor
