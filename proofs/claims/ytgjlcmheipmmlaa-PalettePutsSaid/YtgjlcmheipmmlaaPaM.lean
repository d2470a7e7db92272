/- Law 15: mathematics of values, entries, hues and palettes. No program. -/
import Derived.Test.YtgjlcmheipmmlaaRows
set_option linter.unusedVariables false
set_option linter.unusedSimpArgs false

namespace Go.Proofs.Ytgjlcmheipmmlaa.Z
open Go
abbrev Pr := Int × Int
abbrev Hu := Int × Int × Int
abbrev Pl := Int × List Hu
abbrev En := Int × Int × Int × Int
abbrev huK (h : Hu) : Pr := (h.1, h.2.1)
abbrev enK (x : En) : Pr := (x.1, x.2.1)
def cmpI (x y : Int) : Int := if x < y then -1 else if y < x then 1 else 0
/-- the error of a parameter, of a value -/
def parR (c a : Int) : Int := if 1 ≤ c ∧ c ≤ 999 ∧ 0 ≤ a ∧ a ≤ 14 then 0 else 2
def valR (p l : Int) : Int := if (p = 0 ∧ 0 ≤ l ∧ l ≤ 65535) ∨ (-1 ≤ p ∧ p ≤ 1048576 ∧ p ≠ 0 ∧ l = 0) then 0 else 2
def bef (p q : Pr) : Bool := decide (p.1 < q.1 ∨ (p.1 = q.1 ∧ p.2 < q.2))
theorem bef_iff {p q : Pr} : bef p q = true ↔ p.1 < q.1 ∨ (p.1 = q.1 ∧ p.2 < q.2) := by simp [bef]
theorem bef_tr {p q r : Pr} (h : bef p q = true) (k : bef q r = true) : bef p r = true := by rw [bef_iff] at *; omega
theorem bef_ir {p : Pr} : bef p p = false := by rw [Bool.eq_false_iff]; intro h; rw [bef_iff] at h; omega
/-- the checks of lists in order: a first error of each element, then the order, then a second error -/
def chk {α κ : Type} (e1 e2 : α → Int) (key : α → κ) (lt : κ → κ → Bool) : Option κ → List α → Int
  | _, [] => 0
  | o, x :: r => if e1 x = 0 then (if o.all (fun y => lt y (key x)) = true then (if e2 x = 0 then chk e1 e2 key lt (some (key x)) r else e2 x) else 9) else e1 x
def prevK {α κ : Type} (key : α → κ) (l : List α) : Nat → Option κ
  | 0 => none
  | k + 1 => l[k]?.map key
theorem chk_step {α κ : Type} {e1 e2 : α → Int} {key : α → κ} {lt : κ → κ → Bool} {l : List α} {j : Nat} (h : j < l.length) :
    chk e1 e2 key lt (prevK key l j) (l.drop j) = if e1 l[j] = 0 then (if (prevK key l j).all (fun y => lt y (key l[j])) = true then (if e2 l[j] = 0 then chk e1 e2 key lt (prevK key l (j + 1)) (l.drop (j + 1)) else e2 l[j]) else 9) else e1 l[j] := by
  rw [List.drop_eq_getElem_cons h]
  show (if _ then _ else _) = _
  rw [show prevK key l (j + 1) = some (key l[j]) by simp [prevK, List.getElem?_eq_getElem h]]
theorem prevK_pos {α κ : Type} {key : α → κ} {l : List α} {j : Nat} (h0 : 0 < j) (h : j - 1 < l.length) : prevK key l j = some (key l[j - 1]) := by
  obtain ⟨k, rfl⟩ : ∃ k, j = k + 1 := ⟨j - 1, by omega⟩
  simp only [Nat.add_sub_cancel] at h ⊢
  simp [prevK, List.getElem?_eq_getElem h]
theorem chk_zero {α κ : Type} {e1 e2 : α → Int} {key : α → κ} {lt : κ → κ → Bool} (htr : ∀ a b c, lt a b = true → lt b c = true → lt a c = true) :
    ∀ (l : List α) (o : Option κ), chk e1 e2 key lt o l = 0 ↔ (∀ x ∈ l, e1 x = 0 ∧ e2 x = 0) ∧ (l.Pairwise fun x y => lt (key x) (key y) = true) ∧ ∀ y, o = some y → ∀ x ∈ l, lt y (key x) = true
  | [], o => by simp [chk]
  | x :: r, o => by
    have ih := chk_zero (e1 := e1) (e2 := e2) (key := key) htr r (some (key x))
    unfold chk
    by_cases h1 : e1 x = 0
    · rw [if_pos h1]
      by_cases h2 : o.all (fun y => lt y (key x)) = true
      · rw [if_pos h2]
        by_cases h3 : e2 x = 0
        · rw [if_pos h3, ih]
          constructor
          · rintro ⟨a, b, c⟩
            refine ⟨fun y hy => ?_, List.pairwise_cons.2 ⟨fun y hy => c _ rfl y hy, b⟩, fun y hy z hz => ?_⟩
            · rcases List.mem_cons.1 hy with rfl | hy
              · exact ⟨h1, h3⟩
              · exact a y hy
            · subst hy
              have hyx : lt y (key x) = true := by simpa using h2
              rcases List.mem_cons.1 hz with rfl | hz
              · exact hyx
              · exact htr _ _ _ hyx (c _ rfl z hz)
          · rintro ⟨a, b, c⟩
            have b' := List.pairwise_cons.1 b
            exact ⟨fun y hy => a y (List.mem_cons_of_mem _ hy), b'.2, fun y hy z hz => by cases hy; exact b'.1 z hz⟩
        · rw [if_neg h3]
          exact ⟨fun h => absurd h h3, fun h => absurd (h.1 x (by simp)).2 h3⟩
      · rw [if_neg h2]
        refine ⟨fun h => by omega, fun ⟨_, _, c⟩ => absurd ?_ h2⟩
        cases o with
        | none => rfl
        | some y => simpa using c y rfl x (by simp)
    · rw [if_neg h1]
      exact ⟨fun h => absurd h h1, fun h => absurd (h.1 x (by simp)).1 h1⟩
def nlt (a b : Int) : Bool := decide (a < b)
def enE (x : En) : Int := if parR x.1 x.2.1 = 0 then valR x.2.2.1 x.2.2.2 else 2
def huE (h : Hu) : Int := if 0 ≤ h.1 ∧ h.1 ≤ 999 ∧ 0 ≤ h.2.1 ∧ h.2.1 ≤ 14 ∧ 0 ≤ h.2.2 ∧ h.2.2 ≤ 65535 then 0 else 2
def numE (n : Int) : Int := if 1 ≤ n ∧ n ≤ 1048576 then 0 else 2
def entC (l : List En) : Option Pr → Int := fun o => chk enE (fun _ => 0) enK bef o l
def entR (l : List En) : Int := if 4096 < l.length then 5 else chk enE (fun _ => 0) enK bef none l
def huR (l : List Hu) : Int := if 256 < l.length then 5 else chk huE (fun _ => 0) huK bef none l
def palR (l : List Pl) : Int := if 32 < l.length then 5 else chk (fun g => numE g.1) (fun g => huR g.2) (fun g => g.1) nlt none l
def asc (l : List Pl) : Prop := l.Pairwise fun x y => x.1 < y.1
theorem entR_zero {l : List En} : entR l = 0 ↔ l.length ≤ 4096 ∧ (∀ x ∈ l, enE x = 0) ∧ l.Pairwise fun x y => bef (enK x) (enK y) = true := by
  unfold entR
  split
  · rename_i h; exact ⟨fun h2 => by omega, fun h2 => by omega⟩
  · rename_i h
    rw [chk_zero (lt := bef) fun _ _ _ => bef_tr]
    exact ⟨fun ⟨a, b, _⟩ => ⟨by omega, fun x hx => (a x hx).1, b⟩, fun ⟨_, a, b⟩ => ⟨fun x hx => ⟨a x hx, rfl⟩, b, by simp⟩⟩
theorem huR_zero {l : List Hu} : huR l = 0 ↔ l.length ≤ 256 ∧ (∀ x ∈ l, huE x = 0) ∧ l.Pairwise fun x y => bef (huK x) (huK y) = true := by
  unfold huR
  split
  · rename_i h; exact ⟨fun h2 => by omega, fun h2 => by omega⟩
  · rename_i h
    rw [chk_zero (lt := bef) fun _ _ _ => bef_tr]
    exact ⟨fun ⟨a, b, _⟩ => ⟨by omega, fun x hx => (a x hx).1, b⟩, fun ⟨_, a, b⟩ => ⟨fun x hx => ⟨a x hx, rfl⟩, b, by simp⟩⟩
theorem nlt_tr {a b c : Int} (h : nlt a b = true) (k : nlt b c = true) : nlt a c = true := by unfold nlt at *; simp at *; omega
theorem palR_zero {l : List Pl} : palR l = 0 ↔ l.length ≤ 32 ∧ (∀ g ∈ l, numE g.1 = 0 ∧ huR g.2 = 0) ∧ asc l := by
  unfold palR
  split
  · rename_i h; exact ⟨fun h2 => by omega, fun h2 => by omega⟩
  · rename_i h
    rw [chk_zero (lt := nlt) fun _ _ _ => nlt_tr]
    have hp : (l.Pairwise fun x y => nlt x.1 y.1 = true) ↔ asc l := by unfold asc; simp [nlt]
    exact ⟨fun ⟨a, b, _⟩ => ⟨by omega, a, hp.1 b⟩, fun ⟨_, a, b⟩ => ⟨a, hp.2 b, by simp⟩⟩
/-- the hue of a channel and an attribute -/
def hueX (l : List Hu) (c a : Int) : Option Int := (l.find? fun h => decide (h.1 = c) && decide (h.2.1 = a)).map fun h => h.2.2
def hueL (l : List Pl) (n c a : Int) : Option Int := match l.find? (fun g => decide (g.1 = n)) with
  | none => none
  | some g => match hueX g.2 c a with
    | some v => some v
    | none => hueX g.2 0 a
theorem hueX_yes {l : List Hu} {c a : Int} {k : Nat} (hk : k < l.length) (h1 : ∀ j (hj : j < l.length), j < k → ¬ (l[j].1 = c ∧ l[j].2.1 = a)) (h2 : l[k].1 = c ∧ l[k].2.1 = a) : hueX l c a = some l[k].2.2 := by
  unfold hueX
  rw [show l.find? (fun h => decide (h.1 = c) && decide (h.2.1 = a)) = some l[k] by
    rw [List.find?_eq_some_iff_getElem]
    exact ⟨by simpa using h2, k, hk, rfl, fun j hj => by have := h1 j (by omega) hj; simp only [Bool.not_eq_true', Bool.and_eq_false_iff, decide_eq_false_iff_not]; omega⟩]
  rfl
theorem hueX_no {l : List Hu} {c a : Int} (h : ∀ j (hj : j < l.length), ¬ (l[j].1 = c ∧ l[j].2.1 = a)) : hueX l c a = none := by
  unfold hueX
  rw [show l.find? (fun h => decide (h.1 = c) && decide (h.2.1 = a)) = none by
    rw [List.find?_eq_none]
    intro x hx
    obtain ⟨k, hk, rfl⟩ := List.getElem_of_mem hx
    simpa using h k hk]
  rfl
/-- i parts hues at a key -/
def HuAt (l : List Hu) (i : Nat) (p : Pr) : Prop := i ≤ l.length ∧ (∀ k (h : k < l.length), k < i → bef (huK l[k]) p = true) ∧ ∀ k (h : k < l.length), i ≤ k → bef (huK l[k]) p = false
theorem HuAt.yes {l : List Hu} {i : Nat} {p : Pr} (h : HuAt l i p) (hi : i < l.length) (e : huK l[i] = p) : hueX l p.1 p.2 = some l[i].2.2 := by
  refine hueX_yes hi (fun j hj hji he => ?_) ⟨by rw [← e], by rw [← e]⟩
  have := h.2.1 j hj hji
  rw [show huK l[j] = p from Prod.ext he.1 he.2, bef_ir] at this
  cases this
theorem HuAt.no {l : List Hu} {i : Nat} {p : Pr} (ha : l.Pairwise fun x y => bef (huK x) (huK y) = true) (h : HuAt l i p) (e : ∀ hi : i < l.length, huK l[i] ≠ p) : hueX l p.1 p.2 = none := by
  refine hueX_no fun j hj he => ?_
  have hp : huK l[j] = p := Prod.ext he.1 he.2
  by_cases hji : j < i
  · have := h.2.1 j hj hji
    rw [hp, bef_ir] at this
    cases this
  · have hi : i < l.length := by omega
    by_cases hji2 : i = j
    · subst hji2; exact e hi hp
    · have h1 := (List.pairwise_iff_getElem.1 ha) i j hi hj (by omega)
      rw [hp] at h1
      have h2 := h.2.2 i hi (Nat.le_refl _)
      rw [h1] at h2; cases h2
/-- an entry without its reference -/
def flatE (l : List Pl) (x : En) : En := if 0 < x.2.2.1 then (match hueL l x.2.2.1 x.1 x.2.1 with | some v => (x.1, x.2.1, 0, v) | none => (x.1, x.2.1, -1, 0)) else x
def toldR (l : List Pl) (x : En) (home : Int) : Int := if x.2.2.1 = 0 then x.2.2.2 else (hueL l x.2.2.1 x.1 x.2.1).getD home
def missB (l : List Pl) (x : En) : Bool := decide (0 < x.2.2.1) && (hueL l x.2.2.1 x.1 x.2.1).isNone
def levE (l : List Pl) (x : En) (home : Int) : Int := if palR l = 0 then (if valR x.2.2.1 x.2.2.2 = 0 then (if parR x.1 x.2.1 = 0 then (if 0 ≤ home ∧ home ≤ 65535 then 0 else 2) else 2) else 2) else palR l
/-- numbers that are used, ascending -/
def insN (l : List Int) (n : Int) : List Int := l.filter (fun x => decide (x < n)) ++ n :: l.filter (fun x => decide (n < x))
def usedR (l : List En) : List Int := ((l.filter fun x => decide (0 < x.2.2.1)).map fun x => x.2.2.1).foldl insN []
/-- i parts a table at a number -/
def LoAt (l : List Pl) (i : Nat) (n : Int) : Prop := i ≤ l.length ∧ (∀ k (h : k < l.length), k < i → l[k].1 < n) ∧ ∀ k (h : k < l.length), i ≤ k → n ≤ l[k].1
theorem LoAt.take {l : List Pl} {i : Nat} {n : Int} (h : LoAt l i n) : l.take i = l.filter fun g => decide (g.1 < n) := by
  conv => rhs; rw [← List.take_append_drop i l, List.filter_append]
  rw [List.filter_eq_self.2 (fun x hx => ?_), List.filter_eq_nil_iff.2 (fun x hx => ?_), List.append_nil]
  · obtain ⟨k, hk, rfl⟩ := List.getElem_of_mem hx
    rw [List.getElem_drop]
    have := h.2.2 (i + k) (by rw [List.length_drop] at hk; omega) (by omega)
    simp; omega
  · obtain ⟨k, hk, rfl⟩ := List.getElem_of_mem hx
    rw [List.getElem_take]
    rw [List.length_take] at hk
    have := h.2.1 k (by omega) (by omega)
    simp; omega
theorem LoAt.drop {l : List Pl} {i : Nat} {n : Int} (h : LoAt l i n) : l.drop i = l.filter fun g => decide (n ≤ g.1) := by
  conv => rhs; rw [← List.take_append_drop i l, List.filter_append]
  rw [List.filter_eq_nil_iff.2 (fun x hx => ?_), List.filter_eq_self.2 (fun x hx => ?_), List.nil_append]
  · obtain ⟨k, hk, rfl⟩ := List.getElem_of_mem hx
    rw [List.getElem_drop]
    have := h.2.2 (i + k) (by rw [List.length_drop] at hk; omega) (by omega)
    simp; omega
  · obtain ⟨k, hk, rfl⟩ := List.getElem_of_mem hx
    rw [List.getElem_take]
    rw [List.length_take] at hk
    have := h.2.1 k (by omega) (by omega)
    simp; omega
def hasN (l : List Pl) (n : Int) : Bool := l.any fun g => decide (g.1 = n)
theorem hasN_iff {l : List Pl} {n : Int} : hasN l n = true ↔ ∃ g ∈ l, g.1 = n := by simp [hasN]
theorem asc_lt {l : List Pl} (ha : asc l) {j k : Nat} (hk : k < l.length) (h : j < k) : (l[j]'(by omega)).1 < l[k].1 := (List.pairwise_iff_getElem.1 ha) j k (by omega) hk h
theorem asc_inj {l : List Pl} (ha : asc l) {j k : Nat} (hj : j < l.length) (hk : k < l.length) (h : l[j].1 = l[k].1) : j = k := by
  rcases Nat.lt_trichotomy j k with h1 | h1 | h1
  · have := asc_lt ha hk h1; omega
  · exact h1
  · have := asc_lt ha hj h1; omega
theorem LoAt.has {l : List Pl} {i : Nat} {n : Int} (ha : asc l) (h : LoAt l i n) : hasN l n = true ↔ ∃ hi : i < l.length, l[i].1 = n := by
  rw [hasN_iff]
  constructor
  · rintro ⟨g, hg, e⟩
    obtain ⟨k, hk, rfl⟩ := List.getElem_of_mem hg
    by_cases hki : k < i
    · have := h.2.1 k hk hki; omega
    · have h1 := h.2.2 k hk (by omega)
      by_cases hik : i = k
      · subst hik; exact ⟨hk, e⟩
      · have hi : i < l.length := by omega
        have h2 := h.2.2 i hi (Nat.le_refl _)
        refine ⟨hi, ?_⟩
        have h3 := asc_lt ha hk (show i < k by omega)
        omega
  · rintro ⟨hi, e⟩
    exact ⟨_, List.getElem_mem hi, e⟩
theorem LoAt.drop1 {l : List Pl} {i : Nat} {n : Int} (ha : asc l) (h : LoAt l i n) (hi : i < l.length) (e : l[i].1 = n) : l.drop (i + 1) = l.filter fun g => decide (n < g.1) := by
  conv => rhs; rw [← List.take_append_drop (i + 1) l, List.filter_append]
  rw [List.filter_eq_nil_iff.2 (fun x hx => ?_), List.filter_eq_self.2 (fun x hx => ?_), List.nil_append]
  · obtain ⟨k, hk, rfl⟩ := List.getElem_of_mem hx
    rw [List.getElem_drop]
    have := asc_lt ha (j := i) (k := i + 1 + k) (by rw [List.length_drop] at hk; omega) (by omega)
    simp; omega
  · obtain ⟨k, hk, rfl⟩ := List.getElem_of_mem hx
    rw [List.getElem_take]
    rw [List.length_take] at hk
    by_cases hki : k = i
    · subst hki; simp; omega
    · have := h.2.1 k (by omega) (by omega)
      simp; omega
def putL (l : List Pl) (g : Pl) : List Pl := l.filter (fun x => decide (x.1 < g.1)) ++ g :: l.filter (fun x => decide (g.1 < x.1))
def dropL (l : List Pl) (n : Int) : List Pl := l.filter fun x => decide (x.1 ≠ n)
theorem LoAt.put {l : List Pl} {i : Nat} {g : Pl} (ha : asc l) (h : LoAt l i g.1) : l.take i ++ ([g] ++ l.drop (if hasN l g.1 = true then i + 1 else i)) = putL l g := by
  unfold putL
  rw [h.take]
  congr 1
  split
  · rename_i hh
    obtain ⟨hi, e⟩ := (h.has ha).1 hh
    rw [h.drop1 ha hi e]; rfl
  · rename_i hh
    rw [h.drop]
    show _ :: _ = _
    congr 1
    refine List.filter_congr fun x hx => ?_
    have : x.1 ≠ g.1 := fun e => hh (hasN_iff.2 ⟨x, hx, e⟩)
    rw [Bool.eq_iff_iff]; simp; omega
theorem ascdrop {l : List Pl} {n : Int} (ha : asc l) : dropL l n = l.filter (fun x => decide (x.1 < n)) ++ l.filter (fun x => decide (n < x.1)) := by
  unfold dropL
  induction l with
  | nil => rfl
  | cons a r ih =>
    have h := List.pairwise_cons.1 ha
    rw [List.filter_cons, List.filter_cons, List.filter_cons]
    have ih := ih h.2
    by_cases h1 : a.1 < n
    · rw [if_pos (by simp; omega), if_pos (by simpa using h1), if_neg (by simp; omega), ih]; rfl
    · have h0 : r.filter (fun x => decide (x.1 < n)) = [] := List.filter_eq_nil_iff.2 fun x hx => by have := h.1 x hx; simp; omega
      rw [h0, List.nil_append] at ih
      by_cases h2 : a.1 = n
      · rw [if_neg (by simpa using h2), if_neg (by simpa using h1), if_neg (by simp; omega), h0, ih]; rfl
      · rw [if_pos (by simpa using h2), if_neg (by simpa using h1), if_pos (by simp; omega), h0, ih]; rfl
theorem LoAt.drp {l : List Pl} {i : Nat} {n : Int} (ha : asc l) (h : LoAt l i n) (hh : hasN l n = true) : l.take i ++ l.drop (i + 1) = dropL l n := by
  obtain ⟨hi, e⟩ := (h.has ha).1 hh
  rw [ascdrop ha, h.take, h.drop1 ha hi e]
theorem mem_putL {l : List Pl} {g x : Pl} : x ∈ putL l g ↔ x = g ∨ (x ∈ l ∧ x.1 ≠ g.1) := by
  unfold putL
  rw [List.mem_append, List.mem_cons, List.mem_filter, List.mem_filter]
  simp only [decide_eq_true_eq]
  constructor
  · rintro (⟨h1, h2⟩ | h | ⟨h1, h2⟩)
    · exact .inr ⟨h1, by omega⟩
    · exact .inl h
    · exact .inr ⟨h1, by omega⟩
  · rintro (h | ⟨h1, h2⟩)
    · exact .inr (.inl h)
    · rcases Int.lt_or_gt_of_ne h2 with h3 | h3
      · exact .inl ⟨h1, h3⟩
      · exact .inr (.inr ⟨h1, h3⟩)
theorem asc_putL {l : List Pl} {g : Pl} (ha : asc l) : asc (putL l g) := by
  unfold putL asc
  rw [List.pairwise_append]
  refine ⟨ha.filter _, List.pairwise_cons.2 ⟨fun y hy => ?_, ha.filter _⟩, fun x hx y hy => ?_⟩
  · have := (List.mem_filter.1 hy).2; simpa using this
  · have h1 := (List.mem_filter.1 hx).2
    simp only [decide_eq_true_eq] at h1
    rcases List.mem_cons.1 hy with rfl | hy
    · exact h1
    · have h2 := (List.mem_filter.1 hy).2
      simp only [decide_eq_true_eq] at h2
      omega
theorem asc_dropL {l : List Pl} {n : Int} (ha : asc l) : asc (dropL l n) := ha.filter _
theorem not_has_dropL {l : List Pl} {n : Int} : hasN (dropL l n) n = false := by
  rw [Bool.eq_false_iff]
  intro h
  obtain ⟨g, hg, e⟩ := hasN_iff.1 h
  have := (List.mem_filter.1 hg).2
  simp at this
  exact this e
theorem putL_len {l : List Pl} {g : Pl} (ha : asc l) {i : Nat} (h : LoAt l i g.1) : (putL l g).length = if hasN l g.1 = true then l.length else l.length + 1 := by
  rw [← h.put ha, List.length_append, List.length_append, List.length_take, List.length_drop]
  have := h.1
  simp only [List.length_singleton]
  split
  · rename_i hh
    obtain ⟨hi, -⟩ := (h.has ha).1 hh
    omega
  · omega
theorem dropL_len {l : List Pl} {n : Int} : (dropL l n).length ≤ l.length := List.length_filter_le _ _
/-- With of the reference -/
def withF (g : Pl) : Bool → List Pl → List Pl
  | d, [] => if d = true then [] else [g]
  | d, a :: r => (if d = false ∧ g.1 ≤ a.1 then [g] else []) ++ ((if a.1 ≠ g.1 then [a] else []) ++ withF g (d || decide (g.1 ≤ a.1)) r)
theorem withF_true (g : Pl) : ∀ l, withF g true l = l.filter fun x => decide (x.1 ≠ g.1)
  | [] => rfl
  | a :: r => by
    unfold withF
    rw [if_neg (by simp), List.nil_append, Bool.true_or, withF_true g r, List.filter_cons]
    by_cases h : a.1 = g.1
    · rw [if_neg (by simpa using h), if_neg (by simpa using h)]; rfl
    · rw [if_pos (by simpa using h), if_pos (by simpa using h)]; rfl
theorem withF_put (g : Pl) : ∀ l, asc l → withF g false l = putL l g
  | [], _ => rfl
  | a :: r, ha => by
    have h := List.pairwise_cons.1 ha
    unfold withF putL
    by_cases h1 : g.1 ≤ a.1
    · have hl : (a :: r).filter (fun x => decide (x.1 < g.1)) = [] := List.filter_eq_nil_iff.2 fun x hx => by
        rcases List.mem_cons.1 hx with rfl | hx
        · simp; omega
        · have := h.1 x hx; simp; omega
      have h2 : r.filter (fun x => decide (x.1 ≠ g.1)) = r.filter (fun x => decide (g.1 < x.1)) := List.filter_congr fun x hx => by have := h.1 x hx; rw [Bool.eq_iff_iff]; simp; omega
      rw [if_pos ⟨rfl, h1⟩, Bool.false_or, decide_eq_true h1, withF_true, hl, List.nil_append, h2]
      by_cases h3 : a.1 = g.1
      · rw [if_neg (fun h => h h3), List.filter_cons, if_neg (by simp; omega)]; rfl
      · rw [if_pos h3, List.filter_cons, if_pos (by simp; omega)]; rfl
    · rw [if_neg (by simp; omega), List.nil_append, if_pos (by omega), Bool.false_or, decide_eq_false h1, withF_put g r h.2, List.filter_cons, if_pos (by simp; omega)]
      rw [List.filter_cons, if_neg (by simp; omega)]
      rfl
def idF (l : List Pl) (n : Int) : Int := match l.findIdx? (fun g => decide (g.1 = n)) with | some k => k | none => -1
theorem idF_yes {l : List Pl} {n : Int} {k : Nat} (hk : k < l.length) (h1 : ∀ j (hj : j < l.length), j < k → l[j].1 ≠ n) (h2 : l[k].1 = n) : idF l n = k := by
  unfold idF
  rw [List.findIdx?_eq_some_iff_getElem.2 ⟨hk, by simpa using h2, fun j hj => by simpa using h1 j (by omega) hj⟩]
theorem idF_no {l : List Pl} {n : Int} (h : ∀ j (hj : j < l.length), l[j].1 ≠ n) : idF l n = -1 := by
  unfold idF
  rw [List.findIdx?_eq_none_iff.2 (fun x hx => by obtain ⟨k, hk, rfl⟩ := List.getElem_of_mem hx; simpa using h k hk)]
theorem idF_lo {l : List Pl} {n : Int} {i : Nat} (ha : asc l) (h : LoAt l i n) : idF l n = if hasN l n = true then (i : Int) else -1 := by
  split
  · rename_i hh
    obtain ⟨hi, e⟩ := (h.has ha).1 hh
    exact idF_yes hi (fun j hj hji => by have := h.2.1 j hj hji; omega) e
  · rename_i hh
    exact idF_no fun j hj e => hh (hasN_iff.2 ⟨_, List.getElem_mem hj, e⟩)
theorem lo_of {l : List Pl} {n : Int} {k : Nat} (ha : asc l) (hk : k < l.length) (e : l[k].1 = n) : LoAt l k n :=
  ⟨by omega, fun j hj hjk => by have := asc_lt ha hk hjk; omega, fun j hj hkj => by
    by_cases h : k = j
    · subst h; omega
    · have := asc_lt ha hj (show k < j by omega); omega⟩
theorem LoAt.uniq {l : List Pl} {n : Int} {i j : Nat} (h1 : LoAt l i n) (h2 : LoAt l j n) : i = j := by
  rcases Nat.lt_trichotomy i j with h | h | h
  · have a := h2.2.1 i (by have := h2.1; omega) h
    have b := h1.2.2 i (by have := h2.1; omega) (Nat.le_refl _)
    omega
  · exact h
  · have a := h1.2.1 j (by have := h1.1; omega) h
    have b := h2.2.2 j (by have := h1.1; omega) (Nat.le_refl _)
    omega
end Go.Proofs.Ytgjlcmheipmmlaa.Z
