/- Plain mathematics of chains of glides and their knots. -/
import Derived.Test.YtffifpinnhaloaaGreatDoorGlB
set_option linter.unusedVariables false
set_option linter.unusedSimpArgs false
namespace Go.Proofs.YtffifpinnhaloaaGreatDoor
open Go.RowKit
open Z

/-- a glide: From, To, Start, Time -/
abbrev Gl := ByteArray × Int × Int × Int
abbrev Gl.f (g : Gl) : ByteArray := g.1
abbrev Gl.x (g : Gl) : Int := g.2.1
abbrev Gl.st (g : Gl) : Int := g.2.2.1
abbrev Gl.ti (g : Gl) : Int := g.2.2.2
def Gl.err (g : Gl) : Int := glE g.f g.x g.st g.ti
def Gl.at (g : Gl) (t : Int) : ByteArray := RT (ofG (rv g.f) g.x g.st g.ti t)
/-- the error that the k-th glide of a chain shows -/
def stepE (l : List Gl) (k : Nat) : Int :=
  match l[k]? with
  | none => 0
  | some g => if g.err ≠ 0 then g.err else if k = 0 then 0 else
    match l[k - 1]? with
    | none => 0
    | some p => if g.st < p.st then 9 else if g.f = p.at g.st then 0 else 3
def chainE (l : List Gl) : Int := if 256 < l.length then 5 else firstE ((List.range l.length).map (stepE l))
theorem stepE_at {l : List Gl} {k : Nat} (hk : k < l.length) : stepE l k = if (l[k]).err ≠ 0 then (l[k]).err else if k = 0 then 0 else (if (l[k]).st < (l[k - 1]'(by omega)).st then 9 else if (l[k]).f = (l[k - 1]'(by omega)).at (l[k]).st then 0 else 3) := by
  unfold stepE
  rw [List.getElem?_eq_getElem hk, List.getElem?_eq_getElem (show k - 1 < l.length by omega)]
theorem chainE_at {l : List Gl} {k : Nat} (hl : l.length ≤ 256) (hk : k < l.length) (h : ∀ j, j < k → stepE l j = 0) (hne : stepE l k ≠ 0) : chainE l = stepE l k := by
  unfold chainE
  rw [if_neg (by omega)]
  have := firstE_at (l := (List.range l.length).map (stepE l)) (k := k) (by simpa using hk) (fun j hj hjk => by simpa using h j hjk) (by simpa using hne)
  rw [this]; simp
theorem chainE_ok {l : List Gl} (hl : l.length ≤ 256) (h : ∀ j, j < l.length → stepE l j = 0) : chainE l = 0 := by
  unfold chainE
  rw [if_neg (by omega)]
  exact firstE_all fun j hj => by simpa using h j (by simpa using hj)
theorem chainE_many {l : List Gl} (hl : 256 < l.length) : chainE l = 5 := by unfold chainE; rw [if_pos hl]
theorem chainE_zero {l : List Gl} (h : chainE l = 0) : l.length ≤ 256 ∧ ∀ j, j < l.length → stepE l j = 0 := by
  by_cases hl : 256 < l.length
  · rw [chainE_many hl] at h; omega
  · refine ⟨by omega, fun j => ?_⟩
    induction j using Nat.strongRecOn with
    | _ j ih =>
      intro hj
      by_cases hne : stepE l j = 0
      · exact hne
      · rw [chainE_at (by omega) hj (fun i hi => ih i hi (by omega)) hne] at h; exact absurd h hne
theorem step_zero {l : List Gl} {k : Nat} (hk : k < l.length) (h : stepE l k = 0) : (l[k]).err = 0 ∧ (0 < k → (l[k - 1]'(by omega)).st ≤ (l[k]).st) := by
  rw [stepE_at hk] at h
  by_cases h1 : (l[k]).err ≠ 0
  · rw [if_pos h1] at h; exact absurd h h1
  · refine ⟨by simpa using h1, fun h0 => ?_⟩
    rw [if_neg h1, if_neg (by omega)] at h
    by_cases h2 : (l[k]).st < (l[k - 1]'(by omega)).st
    · rw [if_pos h2] at h; omega
    · omega
/-- the place of the glide that counts at a time -/
def IsAt (l : List Gl) (t : Int) (k : Nat) : Prop := k < l.length ∧ (∀ j (hj : j + 1 < l.length), j < k → (l[j + 1]).st ≤ t) ∧ ∀ hk : k + 1 < l.length, t < (l[k + 1]).st
theorem IsAt.unique {l : List Gl} {t : Int} {k k' : Nat} (h : IsAt l t k) (h' : IsAt l t k') : k = k' := by
  obtain ⟨a1, a2, a3⟩ := h
  obtain ⟨b1, b2, b3⟩ := h'
  rcases Nat.lt_trichotomy k k' with hlt | rfl | hlt
  · have h1 := a3 (by omega)
    have h2 := b2 k (by omega) hlt
    omega
  · rfl
  · have h1 := b3 (by omega)
    have h2 := a2 k' (by omega) hlt
    omega
/-- knots -/
abbrev Kn := Int × ByteArray
/-- equal neighbours are taken together -/
def compactL : List Kn → List Kn
  | [] => []
  | [a] => [a]
  | a :: b :: r => if a = b then compactL (b :: r) else a :: compactL (b :: r)
/-- the knots of the glides from the k-th one on, all of them -/
def kn1 (g : Gl) (next : Option Gl) : List Kn :=
  (g.st, g.f) :: (match next with | none => [(g.st + g.ti, Tx g.x)] | some n => if g.st + g.ti ≤ n.st then [(g.st + g.ti, Tx g.x)] else [])
def knAll (l : List Gl) (n : Nat) : List Kn := ((List.range n).map fun i => match l[i]? with | none => [] | some g => kn1 g l[i + 1]?).flatten
/-- what the reference lays behind each other -/
def putL (l : List Kn) (k : Kn) : List Kn := if l.getLast? = some k then l else l ++ [k]
theorem putL_last (l : List Kn) (k : Kn) : (putL l k).getLast? = some k := by
  unfold putL; split
  · assumption
  · simp
def putAll (l : List Kn) (r : List Kn) : List Kn := r.foldl putL l
theorem compact_append : ∀ (r : List Kn) (a : Kn), putAll [a] r = compactL (a :: r) := by
  have key : ∀ (r : List Kn) (p : List Kn) (a : Kn), putAll (p ++ [a]) r = p ++ compactL (a :: r) := by
    intro r
    induction r with
    | nil => intro p a; simp [putAll, compactL]
    | cons b r ih =>
      intro p a
      have e : putAll (p ++ [a]) (b :: r) = putAll (putL (p ++ [a]) b) r := rfl
      rw [e]
      unfold putL
      by_cases hab : a = b
      · subst hab
        rw [if_pos (by simp), ih]
        simp [compactL]
      · rw [if_neg (by simpa using hab), ih]
        simp [compactL, hab]
  intro r a
  have := key r [] a
  simpa using this
theorem putAll_compact (r : List Kn) : putAll [] r = compactL r := by
  cases r with
  | nil => rfl
  | cons a r =>
    have e : putAll [] (a :: r) = putAll (putL [] a) r := rfl
    rw [e, show putL [] a = [a] from rfl, compact_append]
end Go.Proofs.YtffifpinnhaloaaGreatDoor
