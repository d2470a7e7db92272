/- Law 14: mathematics of tables. No program. -/
import Derived.Test.YtmcngnnbfmjajaaGpM
set_option linter.unusedVariables false
set_option linter.unusedSimpArgs false
namespace Go.Proofs.Ytmcngnnbfmjajaa.Z
open Go
def asc (l : List Gp) : Prop := l.Pairwise fun x y => x.1 < y.1
theorem tbF_zero : ∀ (l : List Gp) (p : Option Int), tbF p l = 0 ↔ (∀ g ∈ l, gpR g = 0) ∧ asc l ∧ ∀ x, p = some x → ∀ g ∈ l, x < g.1
  | [], p => by simp [tbF, asc]
  | g :: r, p => by
    have ih := tbF_zero r (some g.1)
    unfold tbF
    by_cases h0 : gpR g = 0
    · rw [if_pos h0]
      by_cases h1 : notUp p g.1 = true
      · rw [if_pos h1]
        refine ⟨fun h => by omega, fun ⟨_, _, h⟩ => ?_⟩
        cases p with
        | none => simp [notUp] at h1
        | some x =>
          have := h x rfl g (by simp)
          simp [notUp] at h1; omega
      · rw [if_neg h1, ih]
        have hp : ∀ x, p = some x → x < g.1 := fun x hx => by subst hx; simp [notUp] at h1; omega
        constructor
        · rintro ⟨h2, h3, h4⟩
          refine ⟨fun y hy => ?_, List.pairwise_cons.2 ⟨fun y hy => h4 _ rfl y hy, h3⟩, fun x hx y hy => ?_⟩
          · rcases List.mem_cons.1 hy with rfl | hy
            · exact h0
            · exact h2 y hy
          · rcases List.mem_cons.1 hy with rfl | hy
            · exact hp x hx
            · have := hp x hx; have := h4 _ rfl y hy; omega
        · rintro ⟨h2, h3, -⟩
          have h5 := List.pairwise_cons.1 h3
          exact ⟨fun y hy => h2 y (by simp [hy]), h5.2, fun x hx y hy => by cases hx; exact h5.1 y hy⟩
    · rw [if_neg h0]
      exact ⟨fun h => absurd h h0, fun h => absurd (h.1 g (by simp)) h0⟩
theorem tbR_zero {l : List Gp} : tbR l = 0 ↔ l.length ≤ 32 ∧ (∀ g ∈ l, gpR g = 0) ∧ asc l := by
  unfold tbR
  split
  · rename_i h; exact ⟨fun h2 => by omega, fun h2 => by omega⟩
  · rename_i h
    rw [tbF_zero]
    exact ⟨fun ⟨a, b, _⟩ => ⟨by omega, a, b⟩, fun ⟨_, a, b⟩ => ⟨a, b, by simp⟩⟩
/-- i parts a table at a number -/
def LoAt (l : List Gp) (i : Nat) (n : Int) : Prop := i ≤ l.length ∧ (∀ k (h : k < l.length), k < i → l[k].1 < n) ∧ ∀ k (h : k < l.length), i ≤ k → n ≤ l[k].1
theorem LoAt.take {l : List Gp} {i : Nat} {n : Int} (h : LoAt l i n) : l.take i = l.filter fun g => decide (g.1 < n) := by
  conv => rhs; rw [← List.take_append_drop i l, List.filter_append]
  rw [List.filter_eq_self.2 (fun x hx => ?_), List.filter_eq_nil_iff.2 (fun x hx => ?_), List.append_nil]
  · obtain ⟨k, hk, rfl⟩ := List.getElem_of_mem hx
    rw [List.getElem_drop]
    have := h.2.2 (i + k) (by rw [List.length_drop] at hk; omega) (by omega)
    simp; omega
  · obtain ⟨k, hk, rfl⟩ := List.getElem_of_mem hx
    rw [List.getElem_take]
    rw [List.length_take] at hk
    have := h.2.1 k (by omega) (by omega)
    simp; omega
theorem LoAt.drop {l : List Gp} {i : Nat} {n : Int} (h : LoAt l i n) : l.drop i = l.filter fun g => decide (n ≤ g.1) := by
  conv => rhs; rw [← List.take_append_drop i l, List.filter_append]
  rw [List.filter_eq_nil_iff.2 (fun x hx => ?_), List.filter_eq_self.2 (fun x hx => ?_), List.nil_append]
  · obtain ⟨k, hk, rfl⟩ := List.getElem_of_mem hx
    rw [List.getElem_drop]
    have := h.2.2 (i + k) (by rw [List.length_drop] at hk; omega) (by omega)
    simp; omega
  · obtain ⟨k, hk, rfl⟩ := List.getElem_of_mem hx
    rw [List.getElem_take]
    rw [List.length_take] at hk
    have := h.2.1 k (by omega) (by omega)
    simp; omega
def hasN (l : List Gp) (n : Int) : Bool := l.any fun g => decide (g.1 = n)
theorem hasN_iff {l : List Gp} {n : Int} : hasN l n = true ↔ ∃ g ∈ l, g.1 = n := by simp [hasN]
theorem asc_lt {l : List Gp} (ha : asc l) {j k : Nat} (hk : k < l.length) (h : j < k) : (l[j]'(by omega)).1 < l[k].1 := (List.pairwise_iff_getElem.1 ha) j k (by omega) hk h
theorem asc_inj {l : List Gp} (ha : asc l) {j k : Nat} (hj : j < l.length) (hk : k < l.length) (h : l[j].1 = l[k].1) : j = k := by
  rcases Nat.lt_trichotomy j k with h1 | h1 | h1
  · have := asc_lt ha hk h1; omega
  · exact h1
  · have := asc_lt ha hj h1; omega
theorem LoAt.has {l : List Gp} {i : Nat} {n : Int} (ha : asc l) (h : LoAt l i n) : hasN l n = true ↔ ∃ hi : i < l.length, l[i].1 = n := by
  rw [hasN_iff]
  constructor
  · rintro ⟨g, hg, e⟩
    obtain ⟨k, hk, rfl⟩ := List.getElem_of_mem hg
    by_cases hki : k < i
    · have := h.2.1 k hk hki; omega
    · have h1 := h.2.2 k hk (by omega)
      by_cases hik : i = k
      · subst hik; exact ⟨hk, e⟩
      · have hi : i < l.length := by omega
        have h2 := h.2.2 i hi (Nat.le_refl _)
        refine ⟨hi, ?_⟩
        have h3 := asc_lt ha hk (show i < k by omega)
        omega
  · rintro ⟨hi, e⟩
    exact ⟨_, List.getElem_mem hi, e⟩
theorem LoAt.drop1 {l : List Gp} {i : Nat} {n : Int} (ha : asc l) (h : LoAt l i n) (hi : i < l.length) (e : l[i].1 = n) : l.drop (i + 1) = l.filter fun g => decide (n < g.1) := by
  conv => rhs; rw [← List.take_append_drop (i + 1) l, List.filter_append]
  rw [List.filter_eq_nil_iff.2 (fun x hx => ?_), List.filter_eq_self.2 (fun x hx => ?_), List.nil_append]
  · obtain ⟨k, hk, rfl⟩ := List.getElem_of_mem hx
    rw [List.getElem_drop]
    have := asc_lt ha (j := i) (k := i + 1 + k) (by rw [List.length_drop] at hk; omega) (by omega)
    simp; omega
  · obtain ⟨k, hk, rfl⟩ := List.getElem_of_mem hx
    rw [List.getElem_take]
    rw [List.length_take] at hk
    by_cases hki : k = i
    · subst hki; simp; omega
    · have := h.2.1 k (by omega) (by omega)
      simp; omega
def putL (l : List Gp) (g : Gp) : List Gp := l.filter (fun x => decide (x.1 < g.1)) ++ g :: l.filter (fun x => decide (g.1 < x.1))
def dropL (l : List Gp) (n : Int) : List Gp := l.filter fun x => decide (x.1 ≠ n)
theorem LoAt.put {l : List Gp} {i : Nat} {g : Gp} (ha : asc l) (h : LoAt l i g.1) : l.take i ++ ([g] ++ l.drop (if hasN l g.1 = true then i + 1 else i)) = putL l g := by
  unfold putL
  rw [h.take]
  congr 1
  split
  · rename_i hh
    obtain ⟨hi, e⟩ := (h.has ha).1 hh
    rw [h.drop1 ha hi e]; rfl
  · rename_i hh
    rw [h.drop]
    show _ :: _ = _
    congr 1
    refine List.filter_congr fun x hx => ?_
    have : x.1 ≠ g.1 := fun e => hh (hasN_iff.2 ⟨x, hx, e⟩)
    rw [Bool.eq_iff_iff]; simp; omega
theorem ascdrop {l : List Gp} {n : Int} (ha : asc l) : dropL l n = l.filter (fun x => decide (x.1 < n)) ++ l.filter (fun x => decide (n < x.1)) := by
  unfold dropL
  induction l with
  | nil => rfl
  | cons a r ih =>
    have h := List.pairwise_cons.1 ha
    rw [List.filter_cons, List.filter_cons, List.filter_cons]
    have ih := ih h.2
    by_cases h1 : a.1 < n
    · rw [if_pos (by simp; omega), if_pos (by simpa using h1), if_neg (by simp; omega), ih]; rfl
    · have h0 : r.filter (fun x => decide (x.1 < n)) = [] := List.filter_eq_nil_iff.2 fun x hx => by have := h.1 x hx; simp; omega
      rw [h0, List.nil_append] at ih
      by_cases h2 : a.1 = n
      · rw [if_neg (by simpa using h2), if_neg (by simpa using h1), if_neg (by simp; omega), h0, ih]; rfl
      · rw [if_pos (by simpa using h2), if_neg (by simpa using h1), if_pos (by simp; omega), h0, ih]; rfl
theorem LoAt.drp {l : List Gp} {i : Nat} {n : Int} (ha : asc l) (h : LoAt l i n) (hh : hasN l n = true) : l.take i ++ l.drop (i + 1) = dropL l n := by
  obtain ⟨hi, e⟩ := (h.has ha).1 hh
  rw [ascdrop ha, h.take, h.drop1 ha hi e]
theorem mem_putL {l : List Gp} {g x : Gp} : x ∈ putL l g ↔ x = g ∨ (x ∈ l ∧ x.1 ≠ g.1) := by
  unfold putL
  rw [List.mem_append, List.mem_cons, List.mem_filter, List.mem_filter]
  simp only [decide_eq_true_eq]
  constructor
  · rintro (⟨h1, h2⟩ | h | ⟨h1, h2⟩)
    · exact .inr ⟨h1, by omega⟩
    · exact .inl h
    · exact .inr ⟨h1, by omega⟩
  · rintro (h | ⟨h1, h2⟩)
    · exact .inr (.inl h)
    · rcases Int.lt_or_gt_of_ne h2 with h3 | h3
      · exact .inl ⟨h1, h3⟩
      · exact .inr (.inr ⟨h1, h3⟩)
theorem asc_putL {l : List Gp} {g : Gp} (ha : asc l) : asc (putL l g) := by
  unfold putL asc
  rw [List.pairwise_append]
  refine ⟨ha.filter _, List.pairwise_cons.2 ⟨fun y hy => ?_, ha.filter _⟩, fun x hx y hy => ?_⟩
  · have := (List.mem_filter.1 hy).2; simpa using this
  · have h1 := (List.mem_filter.1 hx).2
    simp only [decide_eq_true_eq] at h1
    rcases List.mem_cons.1 hy with rfl | hy
    · exact h1
    · have h2 := (List.mem_filter.1 hy).2
      simp only [decide_eq_true_eq] at h2
      omega
theorem asc_dropL {l : List Gp} {n : Int} (ha : asc l) : asc (dropL l n) := ha.filter _
theorem not_has_dropL {l : List Gp} {n : Int} : hasN (dropL l n) n = false := by
  rw [Bool.eq_false_iff]
  intro h
  obtain ⟨g, hg, e⟩ := hasN_iff.1 h
  have := (List.mem_filter.1 hg).2
  simp at this
  exact this e
theorem putL_len {l : List Gp} {g : Gp} (ha : asc l) {i : Nat} (h : LoAt l i g.1) : (putL l g).length = if hasN l g.1 = true then l.length else l.length + 1 := by
  rw [← h.put ha, List.length_append, List.length_append, List.length_take, List.length_drop]
  have := h.1
  simp only [List.length_singleton]
  split
  · rename_i hh
    obtain ⟨hi, -⟩ := (h.has ha).1 hh
    omega
  · omega
theorem dropL_len {l : List Gp} {n : Int} : (dropL l n).length ≤ l.length := List.length_filter_le _ _
/-- With of the reference -/
def withF (g : Gp) : Bool → List Gp → List Gp
  | d, [] => if d = true then [] else [g]
  | d, a :: r => (if d = false ∧ g.1 ≤ a.1 then [g] else []) ++ ((if a.1 ≠ g.1 then [a] else []) ++ withF g (d || decide (g.1 ≤ a.1)) r)
theorem withF_true (g : Gp) : ∀ l, withF g true l = l.filter fun x => decide (x.1 ≠ g.1)
  | [] => rfl
  | a :: r => by
    unfold withF
    rw [if_neg (by simp), List.nil_append, Bool.true_or, withF_true g r, List.filter_cons]
    by_cases h : a.1 = g.1
    · rw [if_neg (by simpa using h), if_neg (by simpa using h)]; rfl
    · rw [if_pos (by simpa using h), if_pos (by simpa using h)]; rfl
theorem withF_put (g : Gp) : ∀ l, asc l → withF g false l = putL l g
  | [], _ => rfl
  | a :: r, ha => by
    have h := List.pairwise_cons.1 ha
    unfold withF putL
    by_cases h1 : g.1 ≤ a.1
    · have hl : (a :: r).filter (fun x => decide (x.1 < g.1)) = [] := List.filter_eq_nil_iff.2 fun x hx => by
        rcases List.mem_cons.1 hx with rfl | hx
        · simp; omega
        · have := h.1 x hx; simp; omega
      have h2 : r.filter (fun x => decide (x.1 ≠ g.1)) = r.filter (fun x => decide (g.1 < x.1)) := List.filter_congr fun x hx => by have := h.1 x hx; rw [Bool.eq_iff_iff]; simp; omega
      rw [if_pos ⟨rfl, h1⟩, Bool.false_or, decide_eq_true h1, withF_true, hl, List.nil_append, h2]
      by_cases h3 : a.1 = g.1
      · rw [if_neg (fun h => h h3), List.filter_cons, if_neg (by simp; omega)]; rfl
      · rw [if_pos h3, List.filter_cons, if_pos (by simp; omega)]; rfl
    · rw [if_neg (by simp; omega), List.nil_append, if_pos (by omega), Bool.false_or, decide_eq_false h1, withF_put g r h.2, List.filter_cons, if_pos (by simp; omega)]
      rw [List.filter_cons, if_neg (by simp; omega)]
      rfl
def plF (l : List Gp) (n : Int) : Int := match l.findIdx? (fun g => decide (g.1 = n)) with | some k => k | none => -1
theorem plF_yes {l : List Gp} {n : Int} {k : Nat} (hk : k < l.length) (h1 : ∀ j (hj : j < l.length), j < k → l[j].1 ≠ n) (h2 : l[k].1 = n) : plF l n = k := by
  unfold plF
  rw [List.findIdx?_eq_some_iff_getElem.2 ⟨hk, by simpa using h2, fun j hj => by simpa using h1 j (by omega) hj⟩]
theorem plF_no {l : List Gp} {n : Int} (h : ∀ j (hj : j < l.length), l[j].1 ≠ n) : plF l n = -1 := by
  unfold plF
  rw [List.findIdx?_eq_none_iff.2 (fun x hx => by obtain ⟨k, hk, rfl⟩ := List.getElem_of_mem hx; simpa using h k hk)]
theorem plF_lo {l : List Gp} {n : Int} {i : Nat} (ha : asc l) (h : LoAt l i n) : plF l n = if hasN l n = true then (i : Int) else -1 := by
  split
  · rename_i hh
    obtain ⟨hi, e⟩ := (h.has ha).1 hh
    exact plF_yes hi (fun j hj hji => by have := h.2.1 j hj hji; omega) e
  · rename_i hh
    exact plF_no fun j hj e => hh (hasN_iff.2 ⟨_, List.getElem_mem hj, e⟩)
theorem lo_of {l : List Gp} {n : Int} {k : Nat} (ha : asc l) (hk : k < l.length) (e : l[k].1 = n) : LoAt l k n :=
  ⟨by omega, fun j hj hjk => by have := asc_lt ha hk hjk; omega, fun j hj hkj => by
    by_cases h : k = j
    · subst h; omega
    · have := asc_lt ha hj (show k < j by omega); omega⟩
theorem LoAt.uniq {l : List Gp} {n : Int} {i j : Nat} (h1 : LoAt l i n) (h2 : LoAt l j n) : i = j := by
  rcases Nat.lt_trichotomy i j with h | h | h
  · have a := h2.2.1 i (by have := h2.1; omega) h
    have b := h1.2.2 i (by have := h2.1; omega) (Nat.le_refl _)
    omega
  · exact h
  · have a := h1.2.1 j (by have := h1.1; omega) h
    have b := h2.2.2 j (by have := h1.1; omega) (Nat.le_refl _)
    omega
end Go.Proofs.Ytmcngnnbfmjajaa.Z
