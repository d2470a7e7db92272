/- Law 15: mathematics of numbers that are used. No program. -/
import Derived.Test.YtgjlcmheipmmlaaPaM
import Derived.Lib.SlicesCompact
set_option linter.unusedVariables false
set_option linter.unusedSimpArgs false
namespace Go.Proofs.Ytgjlcmheipmmlaa.Z
open Go
def up (l : List Int) : Prop := l.Pairwise fun x y => x < y
theorem up_uniq : ∀ {l m : List Int}, up l → up m → (∀ x, x ∈ l ↔ x ∈ m) → l = m
  | [], [], _, _, _ => rfl
  | [], b :: s, _, _, h => by have := (h b).2 (by simp); simp at this
  | a :: r, [], _, _, h => by have := (h a).1 (by simp); simp at this
  | a :: r, b :: s, hl, hm, h => by
    have h1 := List.pairwise_cons.1 hl
    have h2 := List.pairwise_cons.1 hm
    have hab : a = b := by
      have p := (h a).1 (by simp)
      have q := (h b).2 (by simp)
      rcases List.mem_cons.1 p with e | e
      · exact e
      · rcases List.mem_cons.1 q with e2 | e2
        · exact e2.symm
        · have := h2.1 a e; have := h1.1 b e2; omega
    subst hab
    congr 1
    refine up_uniq h1.2 h2.2 fun x => ?_
    constructor
    · intro hx
      rcases List.mem_cons.1 ((h x).1 (List.mem_cons_of_mem _ hx)) with e | e
      · have := h1.1 x hx; omega
      · exact e
    · intro hx
      rcases List.mem_cons.1 ((h x).2 (List.mem_cons_of_mem _ hx)) with e | e
      · have := h2.1 x hx; omega
      · exact e
theorem mem_insN {l : List Int} {n x : Int} : x ∈ insN l n ↔ x = n ∨ x ∈ l := by
  unfold insN
  rw [List.mem_append, List.mem_cons, List.mem_filter, List.mem_filter]
  simp only [decide_eq_true_eq]
  constructor
  · rintro (⟨h, -⟩ | h | ⟨h, -⟩)
    · exact .inr h
    · exact .inl h
    · exact .inr h
  · rintro (h | h)
    · exact .inr (.inl h)
    · rcases Int.lt_trichotomy x n with h2 | h2 | h2
      · exact .inl ⟨h, h2⟩
      · exact .inr (.inl h2)
      · exact .inr (.inr ⟨h, h2⟩)
theorem up_insN {l : List Int} {n : Int} (h : up l) : up (insN l n) := by
  unfold insN up
  rw [List.pairwise_append]
  refine ⟨h.filter _, List.pairwise_cons.2 ⟨fun y hy => ?_, h.filter _⟩, fun x hx y hy => ?_⟩
  · have := (List.mem_filter.1 hy).2; simpa using this
  · have h1 := (List.mem_filter.1 hx).2
    simp only [decide_eq_true_eq] at h1
    rcases List.mem_cons.1 hy with rfl | hy
    · exact h1
    · have h2 := (List.mem_filter.1 hy).2
      simp only [decide_eq_true_eq] at h2
      omega
theorem insN_has {l : List Int} {n : Int} (h : up l) (hn : n ∈ l) : insN l n = l :=
  up_uniq (up_insN h) h fun x => by rw [mem_insN]; exact ⟨fun hx => by rcases hx with rfl | hx; exact hn; exact hx, .inr⟩
theorem insN_end {l : List Int} {n : Int} (h : ∀ y ∈ l, y < n) : insN l n = l ++ [n] := by
  unfold insN
  rw [List.filter_eq_self.2 (fun y hy => by simpa using h y hy), List.filter_eq_nil_iff.2 (fun y hy => by have := h y hy; simp; omega)]
theorem insN_more {l : List Int} {n x : Int} (hx : n < x) : insN (l ++ [x]) n = insN l n ++ [x] := by
  unfold insN
  have h1 : [x].filter (fun y => decide (y < n)) = [] := List.filter_eq_nil_iff.2 (fun y hy => by rw [List.mem_singleton] at hy; subst hy; simp; omega)
  have h2 : [x].filter (fun y => decide (n < y)) = [x] := List.filter_eq_self.2 (fun y hy => by rw [List.mem_singleton] at hy; subst hy; simpa using hx)
  rw [List.filter_append, List.filter_append, h1, h2]
  simp
theorem insN_low {l : List Int} {n x : Int} (h : ∀ y ∈ l, y < n) (hx : n < x) : insN (l ++ [x]) n = l ++ [n] ++ [x] := by
  rw [insN_more hx, insN_end h]
theorem fold_ins : ∀ (l p : List Int), up p → up (l.foldl insN p) ∧ ∀ x, x ∈ l.foldl insN p ↔ x ∈ p ∨ x ∈ l
  | [], p, h => ⟨h, fun x => by simp⟩
  | a :: r, p, h => by
    have ih := fold_ins r (insN p a) (up_insN h)
    refine ⟨ih.1, fun x => ?_⟩
    show x ∈ List.foldl insN (insN p a) r ↔ _
    rw [ih.2 x, mem_insN, List.mem_cons]
    constructor
    · rintro ((h | h) | h)
      · exact .inr (.inl h)
      · exact .inl h
      · exact .inr (.inr h)
    · rintro (h | h | h)
      · exact .inl (.inr h)
      · exact .inl (.inl h)
      · exact .inr h
/-- the numbers of references, as they come -/
def pals (l : List En) : List Int := (l.filter fun x => decide (0 < x.2.2.1)).map fun x => x.2.2.1
theorem usedR_up (l : List En) : up (usedR l) := (fold_ins _ [] List.Pairwise.nil).1
theorem mem_usedR {l : List En} {x : Int} : x ∈ usedR l ↔ x ∈ pals l := by
  have := (fold_ins (pals l) [] List.Pairwise.nil).2 x
  unfold usedR
  rw [show ((l.filter fun x => decide (0 < x.2.2.1)).map fun x => x.2.2.1) = pals l from rfl, this]
  simp
theorem comp_up {zs : List Int} (hs : zs.Pairwise fun a b => a ≤ b) : ∀ m, m ≤ zs.length → up (Lib.compactUpTo zs.toArray m) ∧ (∀ x, x ∈ Lib.compactUpTo zs.toArray m ↔ x ∈ zs.take m) := by
  intro m
  induction m with
  | zero => intro _; exact ⟨List.Pairwise.nil, fun x => by simp [Lib.compactUpTo]⟩
  | succ m ih =>
    intro hm
    obtain ⟨h1, h2⟩ := ih (by omega)
    have hml : m < zs.length := by omega
    have hg : zs.toArray[m]! = zs[m] := by simp [getElem!_pos, hml]
    rw [Lib.compactUpTo_succ, List.take_succ_eq_append_getElem hml, hg]
    have hle : ∀ x ∈ zs.take m, x ≤ zs[m] := fun x hx => by
      obtain ⟨k, hk, rfl⟩ := List.getElem_of_mem hx
      rw [List.length_take] at hk
      rw [List.getElem_take]
      exact (List.pairwise_iff_getElem.1 hs) k m (by omega) hml (by omega)
    cases hK : Lib.keeps zs.toArray m
    · rw [if_neg (by simp), List.append_nil]
      have hm0 : ¬ m = 0 := fun h => by subst h; rw [Lib.keeps_lt_one _ 0 (by omega)] at hK; cases hK
      have hgp : zs.toArray[m - 1]! = zs[m - 1] := by rw [getElem!_pos zs.toArray (m - 1) (by simp; omega)]; simp
      have heq : zs[m] = zs[m - 1] := by
        simp only [Lib.keeps, decide_eq_false_iff_not, not_or, ne_eq, Decidable.not_not] at hK
        rw [hg, hgp] at hK
        exact hK.2
      refine ⟨h1, fun x => ?_⟩
      rw [h2 x, List.mem_append, List.mem_singleton]
      refine ⟨.inl, ?_⟩
      rintro (h | h)
      · exact h
      · rw [h, heq]
        exact List.mem_iff_getElem.2 ⟨m - 1, by rw [List.length_take]; omega, by rw [List.getElem_take]⟩
    · rw [if_pos rfl]
      refine ⟨?_, fun x => by rw [List.mem_append, List.mem_append, h2 x]⟩
      unfold up
      rw [List.pairwise_append]
      refine ⟨h1, by simp, fun x hx y hy => ?_⟩
      rw [List.mem_singleton] at hy
      subst hy
      have hx2 := (h2 x).1 hx
      have h3 := hle x hx2
      by_cases hm0 : m = 0
      · subst hm0; simp at hx2
      · have hgp : zs.toArray[m - 1]! = zs[m - 1] := by rw [getElem!_pos zs.toArray (m - 1) (by simp; omega)]; simp
        have hne : zs[m] ≠ zs[m - 1] := by
          simp only [Lib.keeps, decide_eq_true_eq] at hK
          rw [hg, hgp] at hK
          rcases hK with h | h
          · exact absurd h hm0
          · exact h
        obtain ⟨k, hk, rfl⟩ := List.getElem_of_mem hx2
        rw [List.length_take] at hk
        rw [List.getElem_take] at h3 ⊢
        have h4 : zs[k] ≤ zs[m - 1] := by
          by_cases e : k = m - 1
          · subst e; omega
          · exact (List.pairwise_iff_getElem.1 hs) k (m - 1) (by omega) (by omega) (by omega)
        have h5 := (List.pairwise_iff_getElem.1 hs) (m - 1) m (by omega) hml (by omega)
        omega
theorem compact_used (l : List En) : Lib.compact ((pals l).mergeSort fun x y => decide (x ≤ y)) = usedR l := by
  have hs : ((pals l).mergeSort fun x y => decide (x ≤ y)).Pairwise fun a b => a ≤ b := by
    have := List.pairwise_mergeSort (le := fun x y : Int => decide (x ≤ y)) (fun a b c h1 h2 => by simp at *; omega) (fun a b => by simp; omega) (pals l)
    exact this.imp fun h => by simpa using h
  have h := comp_up hs _ (Nat.le_refl _)
  refine up_uniq h.1 (usedR_up l) fun x => ?_
  rw [mem_usedR]
  have h2 := h.2 x
  rw [List.take_length] at h2
  show x ∈ Lib.compactUpTo _ _ ↔ _
  rw [h2, List.mem_mergeSort]
end Go.Proofs.Ytgjlcmheipmmlaa.Z
