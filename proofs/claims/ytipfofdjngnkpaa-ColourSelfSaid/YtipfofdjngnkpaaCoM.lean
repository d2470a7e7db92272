/- Law 11: mathematics of colours. No program. -/
import Derived.Lib.Hide
set_option linter.unusedVariables false
set_option linter.unusedSimpArgs false
namespace Go.Proofs.Ytipfofdjngnkpaa.Z
open Go
abbrev C3 := Int × Int × Int
def isL (v : Int) : Bool := decide (0 ≤ v) && decide (v ≤ 65535)
def isC (c : C3) : Bool := isL c.1 && (isL c.2.1 && isL c.2.2)
def has3 (l : List Int) (a b c : Int) : Bool := l.contains a && (l.contains b && l.contains c)
def addi (l : List Int) : Bool := has3 l 3 4 5
def subt (l : List Int) : Bool := has3 l 8 9 10
/-- the number of the error of a palette whose first part is right -/
def palF : List Int → List Int → Int
  | done, [] => if (addi done || subt done) = true then 0 else 6
  | done, a :: r => if 3 ≤ a ∧ a ≤ 10 then (if done.contains a = true then 7 else palF (done ++ [a]) r) else 1
def palR (l : List Int) : Int := if 15 < l.length then 5 else palF [] l
theorem isL_iff {v : Int} : isL v = true ↔ 0 ≤ v ∧ v ≤ 65535 := by simp [isL]
theorem isC_iff {c : C3} : isC c = true ↔ (0 ≤ c.1 ∧ c.1 ≤ 65535) ∧ (0 ≤ c.2.1 ∧ c.2.1 ≤ 65535) ∧ (0 ≤ c.2.2 ∧ c.2.2 ≤ 65535) := by simp [isC, isL_iff]
theorem palF_zero : ∀ (r d : List Int), palF d r = 0 ↔ (∀ a ∈ r, 3 ≤ a ∧ a ≤ 10) ∧ r.Nodup ∧ (∀ a ∈ r, a ∉ d) ∧ (addi (d ++ r) || subt (d ++ r)) = true
  | [], d => by
    unfold palF
    split
    · rename_i h; simp only [List.append_nil, h]; simp
    · rename_i h; simp only [List.append_nil, h]; simp
  | a :: r, d => by
    unfold palF
    have ih := palF_zero r (d ++ [a])
    split
    · rename_i h
      split
      · rename_i h2
        have : a ∈ d := by simpa using h2
        constructor
        · intro h3; omega
        · intro h3; exact absurd this (h3.2.2.1 a (by simp))
      · rename_i h2
        have h4 : a ∉ d := by simpa using h2
        rw [ih, List.append_assoc, List.singleton_append, List.nodup_cons]
        constructor
        · rintro ⟨h5, h6, h7, h8⟩
          refine ⟨?_, ⟨?_, h6⟩, ?_, h8⟩
          · intro x hx; rcases List.mem_cons.1 hx with rfl | hx
            · exact h
            · exact h5 x hx
          · intro hx; exact h7 a hx (by simp)
          · intro x hx; rcases List.mem_cons.1 hx with rfl | hx
            · exact h4
            · intro hd; exact h7 x hx (by simp [hd])
        · rintro ⟨h5, ⟨h6, h7⟩, h8, h9⟩
          refine ⟨fun x hx => h5 x (by simp [hx]), h7, ?_, h9⟩
          intro x hx hd
          rcases List.mem_append.1 hd with hd | hd
          · exact h8 x (by simp [hx]) hd
          · simp only [List.mem_singleton] at hd; subst hd; exact h6 hx
    · rename_i h
      constructor
      · intro h3; omega
      · intro h3; exact absurd (h3.1 a (by simp)) h
theorem palR_zero {l : List Int} : palR l = 0 ↔ l.length ≤ 15 ∧ (∀ a ∈ l, 3 ≤ a ∧ a ≤ 10) ∧ l.Nodup ∧ (addi l || subt l) = true := by
  unfold palR
  split
  · constructor
    · intro h; omega
    · intro h; omega
  · rw [palF_zero]
    simp only [List.nil_append, List.not_mem_nil, not_false_eq_true, implies_true, true_and]
    constructor
    · rintro ⟨h1, h2, h3⟩; exact ⟨by omega, h1, h2, h3⟩
    · rintro ⟨_, h1, h2, h3⟩; exact ⟨h1, h2, h3⟩
/-- the step at a place -/
theorem palF_step {l : List Int} {i : Nat} (hi : i < l.length) : palF (l.take i) (l.drop i) = if 3 ≤ l[i] ∧ l[i] ≤ 10 then (if (l.take i).contains l[i] = true then 7 else palF (l.take (i + 1)) (l.drop (i + 1))) else 1 := by
  rw [List.drop_eq_getElem_cons hi, List.take_succ_eq_append_getElem hi]
  rfl
theorem palF_end {l : List Int} : palF (l.take l.length) (l.drop l.length) = if (addi l || subt l) = true then 0 else 6 := by
  rw [List.take_length, List.drop_length]; rfl
def min3 (c : C3) : Int := min (min c.1 c.2.1) c.2.2
def max3 (c : C3) : Int := max (max c.1 c.2.1) c.2.2
/-- the level of white -/
def whA (l : List Int) (c : C3) : Int := if l.contains 6 = true then min3 c else 0
def mixAdd (w : Int) (c : C3) (a : Int) : Int := if a = 3 then c.1 - w else if a = 4 then c.2.1 - w else if a = 5 then c.2.2 - w else if a = 6 then w else 0
def mixSub (c : C3) (a : Int) : Int := if a = 8 then 65535 - c.1 else if a = 9 then 65535 - c.2.1 else if a = 10 then 65535 - c.2.2 else 0
def mixA (l : List Int) (c : C3) (a : Int) : Int := if addi l = true then mixAdd (whA l c) c a else mixSub c a
def mixL (l : List Int) (c : C3) : List Int := l.map (mixA l c)
/-- the level that a list has for an attribute, 0 without it -/
def atA : List Int → List Int → Int → Int
  | a :: l, x :: v, k => if a = k then x else atA l v k
  | _, _, _ => 0
def lightR (l v : List Int) : C3 :=
  if addi l = true then (min 65535 (atA l v 3 + atA l v 6), min 65535 (atA l v 4 + atA l v 6), min 65535 (atA l v 5 + atA l v 6))
  else (65535 - atA l v 8, 65535 - atA l v 9, 65535 - atA l v 10)
def mixR (l : List Int) (c : C3) : List Int × Int := if palR l ≠ 0 then ([], palR l) else if isC c = true then (mixL l c, 0) else ([], 2)
def lightE (l v : List Int) : C3 × Int := if palR l ≠ 0 then ((0, 0, 0), palR l) else if l.length ≠ v.length then ((0, 0, 0), 14) else if v.all isL = true then (lightR l v, 0) else ((0, 0, 0), 2)
theorem atA_not {l v : List Int} {k : Int} (h : k ∉ l) : atA l v k = 0 := by
  induction l generalizing v with
  | nil => unfold atA; rfl
  | cons a l ih =>
    cases v with
    | nil => unfold atA; rfl
    | cons x v =>
      unfold atA
      rw [if_neg (fun e => h (by simp [e]))]
      exact ih (fun e => h (by simp [e]))
theorem atA_map {l : List Int} {f : Int → Int} {k : Int} (h : k ∈ l) : atA l (l.map f) k = f k := by
  induction l with
  | nil => simp at h
  | cons a l ih =>
    rw [List.map_cons]
    unfold atA
    split
    · rename_i e; rw [e]
    · rename_i e
      exact ih ((List.mem_cons.1 h).resolve_left fun e2 => e e2.symm)
theorem atA_snoc : ∀ {l v : List Int} {a x k : Int}, l.length = v.length → a ∉ l → atA (l ++ [a]) (v ++ [x]) k = if a = k then x else atA l v k
  | [], [], a, x, k, _, _ => by simp [atA]
  | b :: l, y :: v, a, x, k, h, hn => by
    simp only [List.cons_append]
    rw [atA, atA, atA_snoc (by simpa using h) (fun e => hn (by simp [e]))]
    by_cases h1 : b = k
    · rw [if_pos h1, if_pos h1, if_neg (fun e => hn (by simp [e, h1]))]
    · rw [if_neg h1, if_neg h1]
theorem atA_take {l v : List Int} {i : Nat} (hi : i < l.length) (hv : l.length = v.length) (hn : l.Nodup) (k : Int) : atA (l.take (i + 1)) (v.take (i + 1)) k = if l[i] = k then v[i]'(by omega) else atA (l.take i) (v.take i) k := by
  rw [List.take_succ_eq_append_getElem hi, List.take_succ_eq_append_getElem (by omega : i < v.length)]
  refine atA_snoc (by simp; omega) ?_
  intro h
  rw [← List.take_append_drop i l, List.nodup_append] at hn
  have hm : l[i] ∈ l.drop i := List.mem_iff_getElem.2 ⟨0, by simp; omega, by simp⟩
  exact hn.2.2 _ h _ hm rfl
theorem atA_isL {l v : List Int} (h : v.all isL = true) (k : Int) : 0 ≤ atA l v k ∧ atA l v k ≤ 65535 := by
  induction l generalizing v with
  | nil => unfold atA; omega
  | cons a l ih =>
    cases v with
    | nil => unfold atA; omega
    | cons x v =>
      simp only [List.all_cons, Bool.and_eq_true] at h
      have h1 := isL_iff.1 h.1
      unfold atA
      split
      · exact h1
      · exact ih h.2
/-- the distance of two colours -/
def farR (a b : C3) : Int := (a.1 - b.1) * (a.1 - b.1) + (a.2.1 - b.2.1) * (a.2.1 - b.2.1) + (a.2.2 - b.2.2) * (a.2.2 - b.2.2)
/-- the nearest one among the first ones -/
def bestN (c : C3) (l : List C3) : Nat → Nat
  | 0 => 0
  | i + 1 => if farR c (l.getD i (0, 0, 0)) < farR c (l.getD (bestN c l i) (0, 0, 0)) then i else bestN c l i
def nearR (c : C3) (l : List C3) : Int × Int :=
  if isC c = false then (0, 2) else if l.length = 0 then (0, 12) else if 256 < l.length then (0, 5) else if l.all isC = true then (bestN c l l.length, 0) else (0, 2)
def hueF (h : Int) : Int := if h < 0 then h + 6000 else h
def hueR (c : C3) : Int :=
  if max3 c = min3 c then 0
  else if max3 c = c.1 then hueF (1000 * (c.2.1 - c.2.2) / (max3 c - min3 c))
  else if max3 c = c.2.1 then hueF (2000 + 1000 * (c.2.2 - c.1) / (max3 c - min3 c))
  else hueF (4000 + 1000 * (c.1 - c.2.1) / (max3 c - min3 c))
def satR (c : C3) : Int := if max3 c = 0 then 0 else (131070 * (max3 c - min3 c) + max3 c) / (2 * max3 c)
def wheelR (c : C3) : C3 × Int := if isC c = true then ((hueR c, satR c, max3 c), 0) else ((0, 0, 0), 2)
end Go.Proofs.Ytipfofdjngnkpaa.Z
