/- GlMN: GlM, GlN, joined. -/
import Derived.Test.YtflkgkchoagphaaGreatDoorGlB
import Derived.Test.YtflkgkchoagphaaGreatDoorLaw02p
set_option linter.unusedVariables false
set_option linter.unusedSimpArgs false

/- Plain mathematics of chains of glides and their knots. -/
namespace Go.Proofs.YtflkgkchoagphaaGreatDoor
open Go.RowKit
open Z

/-- a glide: From, To, Start, Time -/
abbrev Gl := ByteArray × Int × Int × Int
abbrev Gl.f (g : Gl) : ByteArray := g.1
abbrev Gl.x (g : Gl) : Int := g.2.1
abbrev Gl.st (g : Gl) : Int := g.2.2.1
abbrev Gl.ti (g : Gl) : Int := g.2.2.2
def Gl.err (g : Gl) : Int := glE g.f g.x g.st g.ti
def Gl.at (g : Gl) (t : Int) : ByteArray := RT (ofG (rv g.f) g.x g.st g.ti t)
/-- the error that the k-th glide of a chain shows -/
def stepE (l : List Gl) (k : Nat) : Int :=
  match l[k]? with
  | none => 0
  | some g => if g.err ≠ 0 then g.err else if k = 0 then 0 else
    match l[k - 1]? with
    | none => 0
    | some p => if g.st < p.st then 9 else if g.f = p.at g.st then 0 else 3
def chainE (l : List Gl) : Int := if 256 < l.length then 5 else firstE ((List.range l.length).map (stepE l))
theorem stepE_at {l : List Gl} {k : Nat} (hk : k < l.length) : stepE l k = if (l[k]).err ≠ 0 then (l[k]).err else if k = 0 then 0 else (if (l[k]).st < (l[k - 1]'(by omega)).st then 9 else if (l[k]).f = (l[k - 1]'(by omega)).at (l[k]).st then 0 else 3) := by
  unfold stepE
  rw [List.getElem?_eq_getElem hk, List.getElem?_eq_getElem (show k - 1 < l.length by omega)]
theorem chainE_at {l : List Gl} {k : Nat} (hl : l.length ≤ 256) (hk : k < l.length) (h : ∀ j, j < k → stepE l j = 0) (hne : stepE l k ≠ 0) : chainE l = stepE l k := by
  unfold chainE
  rw [if_neg (by omega)]
  have := firstE_at (l := (List.range l.length).map (stepE l)) (k := k) (by simpa using hk) (fun j hj hjk => by simpa using h j hjk) (by simpa using hne)
  rw [this]; simp
theorem chainE_ok {l : List Gl} (hl : l.length ≤ 256) (h : ∀ j, j < l.length → stepE l j = 0) : chainE l = 0 := by
  unfold chainE
  rw [if_neg (by omega)]
  exact firstE_all fun j hj => by simpa using h j (by simpa using hj)
theorem chainE_many {l : List Gl} (hl : 256 < l.length) : chainE l = 5 := by unfold chainE; rw [if_pos hl]
theorem chainE_zero {l : List Gl} (h : chainE l = 0) : l.length ≤ 256 ∧ ∀ j, j < l.length → stepE l j = 0 := by
  by_cases hl : 256 < l.length
  · rw [chainE_many hl] at h; omega
  · refine ⟨by omega, fun j => ?_⟩
    induction j using Nat.strongRecOn with
    | _ j ih =>
      intro hj
      by_cases hne : stepE l j = 0
      · exact hne
      · rw [chainE_at (by omega) hj (fun i hi => ih i hi (by omega)) hne] at h; exact absurd h hne
theorem step_zero {l : List Gl} {k : Nat} (hk : k < l.length) (h : stepE l k = 0) : (l[k]).err = 0 ∧ (0 < k → (l[k - 1]'(by omega)).st ≤ (l[k]).st) := by
  rw [stepE_at hk] at h
  by_cases h1 : (l[k]).err ≠ 0
  · rw [if_pos h1] at h; exact absurd h h1
  · refine ⟨by simpa using h1, fun h0 => ?_⟩
    rw [if_neg h1, if_neg (by omega)] at h
    by_cases h2 : (l[k]).st < (l[k - 1]'(by omega)).st
    · rw [if_pos h2] at h; omega
    · omega
/-- the place of the glide that counts at a time -/
def IsAt (l : List Gl) (t : Int) (k : Nat) : Prop := k < l.length ∧ (∀ j (hj : j + 1 < l.length), j < k → (l[j + 1]).st ≤ t) ∧ ∀ hk : k + 1 < l.length, t < (l[k + 1]).st
theorem IsAt.unique {l : List Gl} {t : Int} {k k' : Nat} (h : IsAt l t k) (h' : IsAt l t k') : k = k' := by
  obtain ⟨a1, a2, a3⟩ := h
  obtain ⟨b1, b2, b3⟩ := h'
  rcases Nat.lt_trichotomy k k' with hlt | rfl | hlt
  · have h1 := a3 (by omega)
    have h2 := b2 k (by omega) hlt
    omega
  · rfl
  · have h1 := b3 (by omega)
    have h2 := a2 k' (by omega) hlt
    omega
/-- knots -/
abbrev Kn := Int × ByteArray
/-- equal neighbours are taken together -/
def compactL : List Kn → List Kn
  | [] => []
  | [a] => [a]
  | a :: b :: r => if a = b then compactL (b :: r) else a :: compactL (b :: r)
/-- the knots of the glides from the k-th one on, all of them -/
def kn1 (g : Gl) (next : Option Gl) : List Kn :=
  (g.st, g.f) :: (match next with | none => [(g.st + g.ti, Tx g.x)] | some n => if g.st + g.ti ≤ n.st then [(g.st + g.ti, Tx g.x)] else [])
def knAll (l : List Gl) (n : Nat) : List Kn := ((List.range n).map fun i => match l[i]? with | none => [] | some g => kn1 g l[i + 1]?).flatten
/-- what the reference lays behind each other -/
def putL (l : List Kn) (k : Kn) : List Kn := if l.getLast? = some k then l else l ++ [k]
theorem putL_last (l : List Kn) (k : Kn) : (putL l k).getLast? = some k := by
  unfold putL; split
  · assumption
  · simp
def putAll (l : List Kn) (r : List Kn) : List Kn := r.foldl putL l
theorem compact_append : ∀ (r : List Kn) (a : Kn), putAll [a] r = compactL (a :: r) := by
  have key : ∀ (r : List Kn) (p : List Kn) (a : Kn), putAll (p ++ [a]) r = p ++ compactL (a :: r) := by
    intro r
    induction r with
    | nil => intro p a; simp [putAll, compactL]
    | cons b r ih =>
      intro p a
      have e : putAll (p ++ [a]) (b :: r) = putAll (putL (p ++ [a]) b) r := rfl
      rw [e]
      unfold putL
      by_cases hab : a = b
      · subst hab
        rw [if_pos (by simp), ih]
        simp [compactL]
      · rw [if_neg (by simpa using hab), ih]
        simp [compactL, hab]
  intro r a
  have := key r [] a
  simpa using this
theorem putAll_compact (r : List Kn) : putAll [] r = compactL r := by
  cases r with
  | nil => rfl
  | cons a r =>
    have e : putAll [] (a :: r) = putAll (putL [] a) r := rfl
    rw [e, show putL [] a = [a] from rfl, compact_append]
end Go.Proofs.YtflkgkchoagphaaGreatDoor

/- Plain mathematics of single glides, and of the levels of chains. -/
namespace Go.Proofs.YtflkgkchoagphaaGreatDoor
open Go.RowKit
open Z

theorem sh_ofG {k : Nat} {a : Rat} (ha : Sh k a) {x st ti t : Int} (x0 : 0 ≤ x) (x1 : x ≤ 65535) (st0 : 0 ≤ st) (st1 : st ≤ 10000000) (ti0 : 0 ≤ ti) (ti1 : ti ≤ 10000000) : Sh (2 * k + 20) (ofG a x st ti t) := by
  unfold ofG
  split
  · exact (sh_lvl x0 x1).mono (by omega)
  · split
    · exact ha.mono (by omega)
    · exact (ha.add (((sh_lvl x0 x1).sub ha).mul (sh_part (p := t - st) (q := ti) (by omega) (by omega) (by omega) (by omega)))).mono (by omega)
theorem part_mono {p p' q : Int} (hq : 0 < q) (h : p ≤ p') : Rat.divInt p q ≤ Rat.divInt p' q := by
  rw [Rat.divInt_eq_div, Rat.divInt_eq_div, Rat.div_def, Rat.div_def]
  exact Rat.mul_le_mul_of_nonneg_right (Rat.intCast_le_intCast.2 h) (Rat.le_of_lt (Rat.inv_pos.2 (Rat.intCast_pos.2 hq)))
theorem part_self {q : Int} (hq : 0 < q) : Rat.divInt q q = 1 := by
  rw [Rat.divInt_eq_div, Rat.div_def, Rat.mul_inv_cancel _ (by have := Rat.intCast_pos.2 hq; grind)]
theorem part_01 {p q : Int} (hq : 0 < q) (h0 : 0 ≤ p) (h1 : p ≤ q) : 0 ≤ Rat.divInt p q ∧ Rat.divInt p q ≤ 1 := by
  refine ⟨?_, ?_⟩
  · have := part_mono hq h0; rwa [divInt_zero] at this
  · have := part_mono hq h1; rwa [part_self hq] at this
/-- a glide stays between its levels, and goes one way -/
theorem ofG_up {a : Rat} {x st ti t : Int} (h : a ≤ (x : Rat)) (_ti0 : 0 ≤ ti) : a ≤ ofG a x st ti t ∧ ofG a x st ti t ≤ (x : Rat) := by
  unfold ofG
  split
  · exact ⟨h, Rat.le_refl⟩
  · split
    · exact ⟨Rat.le_refl, h⟩
    · obtain ⟨w0, w1⟩ := part_01 (p := t - st) (q := ti) (by omega) (by omega) (by omega)
      exact mix_ge h w0 w1
theorem ofG_down {a : Rat} {x st ti t : Int} (h : (x : Rat) ≤ a) (_ti0 : 0 ≤ ti) : (x : Rat) ≤ ofG a x st ti t ∧ ofG a x st ti t ≤ a := by
  unfold ofG
  split
  · exact ⟨Rat.le_refl, h⟩
  · split
    · exact ⟨h, Rat.le_refl⟩
    · obtain ⟨w0, w1⟩ := part_01 (p := t - st) (q := ti) (by omega) (by omega) (by omega)
      exact mix_le h w0 w1
theorem ofG_lvl {a : Rat} {x st ti t : Int} (ha : lvlQ a = true) (x0 : 0 ≤ x) (x1 : x ≤ 65535) (ti0 : 0 ≤ ti) : lvlQ (ofG a x st ti t) = true := by
  have hx := lvlQ_iff.1 (lvlQ_int x0 x1)
  have ha := lvlQ_iff.1 ha
  rw [lvlQ_iff]
  rcases Rat.le_total (a := a) (b := (x : Rat)) with h | h
  · have := ofG_up (st := st) (t := t) h ti0; grind
  · have := ofG_down (st := st) (t := t) h ti0; grind
/-- the level of a chain -/
def valL : List Gl → Int → ByteArray
  | [], _ => ⟨#[]⟩
  | [g], t => g.at t
  | g :: h :: r, t => if h.st ≤ t then valL (h :: r) t else g.at t
theorem valL_at : ∀ {l : List Gl} {t : Int} {k : Nat} (h : IsAt l t k), valL l t = (l[k]'h.1).at t
  | [], _, _, h => absurd h.1 (by simp)
  | [g], t, k, h => by
    have : k = 0 := by have := h.1; simp at this; omega
    subst this; rfl
  | g :: h' :: r, t, k, h => by
    unfold valL
    by_cases hst : h'.st ≤ t
    · rw [if_pos hst]
      cases k with
      | zero => have := h.2.2 (by simp); simp at this; omega
      | succ k =>
        have h1 : IsAt (h' :: r) t k := ⟨by have := h.1; simpa using this, fun j hj hjk => by
          have := h.2.1 (j + 1) (by simpa using hj) (by omega)
          simpa using this, fun hk => by
          have := h.2.2 (by simpa using hk)
          simpa using this⟩
        rw [valL_at h1]
        simp
    · rw [if_neg hst]
      cases k with
      | zero => rfl
      | succ k => have := h.2.1 0 (by simp) (by omega); simp at this; omega
/-- what the value of a chain is -/
def valE (l : List Gl) (t : Int) : ByteArray × Int := if chainE l = 0 then (if l = [] then (⟨#[]⟩, 12) else (valL l t, 0)) else (⟨#[]⟩, chainE l)
end Go.Proofs.YtflkgkchoagphaaGreatDoor
