/- Curves: mathematics of tidy curves; what Check asks. -/
import Derived.Test.YtlbnibicehpobaaGreatDoorCvO
set_option linter.unusedVariables false
set_option linter.unusedSimpArgs false
namespace Go.Proofs.YtlbnibicehpobaaGreatDoor.Z
open Go
theorem val_skip {a b d : Int × Int} (h1 : a.1 < b.1) (h2 : b.1 < d.1) (hc : colC a b d = true) (l : Pts) (v : Rat) : valC (a :: d :: l) v = valC (a :: b :: d :: l) v := by
  obtain ⟨j1, j2⟩ := col_join h1 h2 hc v
  have hbd := cast_lt h2
  cases l with
  | nil =>
    show segV a d v = if v ≤ (b.1 : Rat) then segV a b v else segV b d v
    by_cases hv : v ≤ (b.1 : Rat)
    · rw [if_pos hv, j1]
    · rw [if_neg hv, j2]
  | cons r l =>
    show (if v ≤ (d.1 : Rat) then segV a d v else valC (d :: r :: l) v) = if v ≤ (b.1 : Rat) then segV a b v else (if v ≤ (d.1 : Rat) then segV b d v else valC (d :: r :: l) v)
    by_cases hv : v ≤ (b.1 : Rat)
    · rw [if_pos hv, if_pos (by grind), j1]
    · rw [if_neg hv]
      by_cases hd : v ≤ (d.1 : Rat)
      · rw [if_pos hd, if_pos hd, j2]
      · rw [if_neg hd, if_neg hd]
theorem tidy_val (l : Pts) : ∀ {a p b : Int × Int} (_ : ascX (b :: l)) (_ : oneL a p b) (v : Rat), valC (a :: tidyT p (b :: l)) v = valC (a :: b :: l) v := by
  induction l with
  | nil => intro a p b _ _ v; rfl
  | cons d l ih =>
    intro a p b ha ho v
    have h2 := ascX_head ha
    unfold tidyT
    by_cases hc : colC p b d = true
    · rw [if_pos hc, ih (ascX_tail ha) (oneL_step ho h2 hc) v]
      exact val_skip ho.1 h2 ((oneL_col ho h2).trans hc) l v
    · rw [if_neg hc]
      obtain ⟨x, t, e, -⟩ := tidyT_ne ha
      have ih' := ih (ascX_tail ha) (oneL_self h2) v
      rw [e] at ih' ⊢
      show (if v ≤ (b.1 : Rat) then segV a b v else valC (b :: x :: t) v) = if v ≤ (b.1 : Rat) then segV a b v else valC (b :: d :: l) v
      rw [ih']
theorem tidyT_cons (p b d : Int × Int) (l : Pts) : tidyT p (b :: d :: l) = if colC p b d = true then tidyT b (d :: l) else b :: tidyT b (d :: l) := rfl
theorem tidy_tidy (l : Pts) : ∀ {a p b : Int × Int} (_ : ascX (b :: l)) (_ : oneL a p b), tidyT a (tidyT p (b :: l)) = tidyT p (b :: l) := by
  induction l with
  | nil => intro a p b _ _; rfl
  | cons d l ih =>
    intro a p b ha ho
    have h2 := ascX_head ha
    rw [tidyT_cons p]
    by_cases hc : colC p b d = true
    · rw [if_pos hc]
      have := ih (ascX_tail ha) (oneL_step ho h2 hc)
      rw [show tidyT a (tidyT b (d :: l)) = tidyT b (d :: l) from this]
    · rw [if_neg hc]
      obtain ⟨x, t, e, hl, m, m1, m2⟩ := tidyT_ne ha
      have ih' := ih (ascX_tail ha) (oneL_self h2)
      rw [e] at ih' ⊢
      have hx : b.1 < x.1 := by omega
      have hcx : ¬ colC a b x = true := by
        intro h
        obtain ⟨n, n1, n2⟩ := (col_m ho.1 hx).1 h
        have := m_uniq hx m2 n2
        subst this
        exact hc ((oneL_col ho h2).symm.trans ((col_m ho.1 h2).2 ⟨m, n1, m1⟩))
      show (if colC a b x = true then tidyT b (x :: t) else b :: tidyT b (x :: t)) = _
      rw [if_neg hcx, ih']
theorem tidyT_sub (l : Pts) : ∀ (p : Int × Int), (tidyT p l).Sublist l := by
  induction l with
  | nil => intro p; exact List.Sublist.refl _
  | cons b l ih =>
    intro p
    cases l with
    | nil => exact List.Sublist.refl _
    | cons d l =>
      unfold tidyT
      by_cases hc : colC p b d = true
      · rw [if_pos hc]; exact (ih b).cons b
      · rw [if_neg hc]; exact (ih b).cons_cons b
theorem tidyT_last (l : Pts) : ∀ (p : Int × Int), (tidyT p l).getLast? = l.getLast? := by
  induction l with
  | nil => intro p; rfl
  | cons b l ih =>
    intro p
    cases l with
    | nil => rfl
    | cons d l =>
      unfold tidyT
      by_cases hc : colC p b d = true
      · rw [if_pos hc, ih b, List.getLast?_cons_cons]
      · rw [if_neg hc]
        have := ih b
        cases h : tidyT b (d :: l) with
        | nil => rw [h, List.getLast?_cons] at this; cases this
        | cons x t => rw [List.getLast?_cons_cons, ← h, this, List.getLast?_cons_cons]
theorem tidyP_sub (l : Pts) : (tidyP l).Sublist l := by
  cases l with
  | nil => exact List.Sublist.refl _
  | cons a l => exact (tidyT_sub l a).cons_cons a
def prX (l : Pts) : Prop := l.Pairwise fun p q => p.1 < q.1
theorem prX_asc {l : Pts} : prX l ↔ ascX l := by
  unfold prX
  rw [List.pairwise_iff_getElem]
  constructor
  · intro h k hk; exact h k (k + 1) (by omega) hk (by omega)
  · intro h i j hi hj hij; exact ascX_lt h hj hij
def lvP (p : Int × Int) : Prop := (0 ≤ p.1 ∧ p.1 ≤ 65535) ∧ 0 ≤ p.2 ∧ p.2 ≤ 65535
theorem lvP_iff (p : Int × Int) : (lvl p.1 && lvl p.2) = true ↔ lvP p := by unfold lvP; simp [lvl]
theorem cvL_some : ∀ (l : Pts) (x : Int), cvL l (some x) = 0 ↔ (∀ p ∈ l, lvP p) ∧ (∀ p ∈ l, x < p.1) ∧ prX l
  | [], x => by simp [cvL, prX]
  | p :: l, x => by
    unfold cvL
    by_cases hp : lvP p
    · rw [if_neg (by rw [(lvP_iff p).2 hp]; simp)]
      by_cases hx : p.1 ≤ x
      · rw [if_pos (by simpa using hx)]
        refine ⟨fun h => by simp at h, fun h => ?_⟩
        have := h.2.1 p (List.mem_cons_self ..)
        omega
      · rw [if_neg (by simpa using hx), cvL_some l p.1]
        unfold prX
        rw [List.pairwise_cons]
        constructor
        · rintro ⟨h1, h2, h3⟩
          refine ⟨fun q hq => ?_, fun q hq => ?_, h2, h3⟩
          · rcases List.mem_cons.1 hq with rfl | hq
            · exact hp
            · exact h1 q hq
          · rcases List.mem_cons.1 hq with rfl | hq
            · omega
            · have := h2 q hq; omega
        · rintro ⟨h1, h2, h3, h4⟩
          exact ⟨fun q hq => h1 q (List.mem_cons_of_mem _ hq), h3, h4⟩
    · rw [if_pos (by rw [← Bool.not_eq_true, lvP_iff]; exact hp)]
      exact ⟨fun h => by simp at h, fun h => absurd (h.1 p (List.mem_cons_self ..)) hp⟩
theorem cvL_none (l : Pts) : cvL l none = 0 ↔ (∀ p ∈ l, lvP p) ∧ prX l := by
  cases l with
  | nil => simp [cvL, prX]
  | cons p l =>
    unfold cvL
    by_cases hp : lvP p
    · rw [if_neg (by rw [(lvP_iff p).2 hp]; simp), if_neg (by simp), cvL_some l p.1]
      unfold prX
      rw [List.pairwise_cons]
      constructor
      · rintro ⟨h1, h2, h3⟩
        refine ⟨fun q hq => ?_, h2, h3⟩
        rcases List.mem_cons.1 hq with rfl | hq
        · exact hp
        · exact h1 q hq
      · rintro ⟨h1, h3, h4⟩
        exact ⟨fun q hq => h1 q (List.mem_cons_of_mem _ hq), h3, h4⟩
    · rw [if_pos (by rw [← Bool.not_eq_true, lvP_iff]; exact hp)]
      exact ⟨fun h => by simp at h, fun h => absurd (h.1 p (List.mem_cons_self ..)) hp⟩
/-- what a right curve is -/
structure Cv (l : Pts) : Prop where
  two : 2 ≤ l.length
  most : l.length ≤ 16
  lv : ∀ p ∈ l, lvP p
  asc : ascX l
  first : l.head?.map (·.1) = some 0
  last : l.getLast?.map (·.1) = some 65535
theorem cvC_iff (l : Pts) : cvC l = 0 ↔ Cv l := by
  unfold cvC
  by_cases h2 : l.length < 2
  · rw [if_pos h2]; exact ⟨fun h => by simp at h, fun h => by have := h.two; omega⟩
  · rw [if_neg h2]
    by_cases h16 : 16 < l.length
    · rw [if_pos h16]; exact ⟨fun h => by simp at h, fun h => by have := h.most; omega⟩
    · rw [if_neg h16]
      by_cases hl : cvL l none = 0
      · rw [if_neg (by simp [hl])]
        obtain ⟨h1, h3⟩ := (cvL_none l).1 hl
        unfold cvE
        by_cases he : (l.head?.map (·.1)) ≠ some 0 ∨ (l.getLast?.map (·.1)) ≠ some 65535
        · rw [if_pos he]
          refine ⟨fun h => by simp at h, fun h => ?_⟩
          rcases he with he | he
          · exact absurd h.first he
          · exact absurd h.last he
        · rw [if_neg he]
          have e1 := Classical.not_not.1 (fun h => he (.inl h))
          have e2 := Classical.not_not.1 (fun h => he (.inr h))
          exact ⟨fun _ => ⟨by omega, by omega, h1, prX_asc.1 h3, e1, e2⟩, fun _ => rfl⟩
      · rw [if_pos hl]
        exact ⟨fun h => absurd h hl, fun h => absurd ((cvL_none l).2 ⟨h.lv, prX_asc.2 h.asc⟩) hl⟩
theorem Cv.at0 {l : Pts} (h : Cv l) : (l[0]'(by have := h.two; omega)).1 = 0 := by
  have := h.first
  rw [List.head?_eq_getElem?, List.getElem?_eq_getElem (by have := h.two; omega)] at this
  simpa using this
theorem Cv.atL {l : Pts} (h : Cv l) : (l[l.length - 1]'(by have := h.two; omega)).1 = 65535 := by
  have := h.last
  rw [List.getLast?_eq_getElem?, List.getElem?_eq_getElem (by have := h.two; omega)] at this
  simpa using this
theorem Cv.mk' {l : Pts} (h2 : 2 ≤ l.length) (h16 : l.length ≤ 16) (hl : ∀ p ∈ l, lvP p) (ha : ascX l) (h0 : (l[0]'(by omega)).1 = 0) (hL : (l[l.length - 1]'(by omega)).1 = 65535) : Cv l :=
  ⟨h2, h16, hl, ha, by rw [List.head?_eq_getElem?, List.getElem?_eq_getElem (by omega)]; simpa using h0, by rw [List.getLast?_eq_getElem?, List.getElem?_eq_getElem (by omega)]; simpa using hL⟩
theorem tidyP_cv {l : Pts} (h : Cv l) : Cv (tidyP l) := by
  have hs := tidyP_sub l
  refine ⟨?_, ?_, fun p hp => h.lv p (hs.subset hp), prX_asc.1 (List.Pairwise.sublist hs (prX_asc.2 h.asc)), ?_, ?_⟩
  · match l, h with
    | [], h => have := h.two; simp at this
    | [a], h => have := h.two; simp at this
    | a :: b :: l, h =>
      obtain ⟨x, t, e, -⟩ := tidyT_ne h.asc
      show 2 ≤ (a :: tidyT a (b :: l)).length
      rw [e]; simp
  · have := hs.length_le; have := h.most; omega
  · match l, h with
    | [], h => have := h.two; simp at this
    | a :: l, h => exact h.first
  · match l, h with
    | [], h => have := h.two; simp at this
    | [a], h => have := h.two; simp at this
    | a :: b :: l, h =>
      have e := tidyT_last (b :: l) a
      have e2 := h.last
      obtain ⟨x, t, e3, -⟩ := tidyT_ne h.asc
      rw [List.getLast?_cons_cons, ← e, e3] at e2
      show ((a :: tidyT a (b :: l)).getLast?).map (·.1) = _
      rw [e3, List.getLast?_cons_cons]; exact e2
theorem tidyP_val {l : Pts} (h : Cv l) (v : Rat) : valC (tidyP l) v = valC l v := by
  match l, h with
  | [], h => have := h.two; simp at this
  | [a], h => have := h.two; simp at this
  | a :: b :: l, h => exact tidy_val l (ascX_tail h.asc) (oneL_self (ascX_head h.asc)) v
theorem tidyP_tidy {l : Pts} (h : Cv l) : tidyP (tidyP l) = tidyP l := by
  match l, h with
  | [], h => rfl
  | [a], h => rfl
  | a :: b :: l, h =>
    show a :: tidyT a (tidyT a (b :: l)) = a :: tidyT a (b :: l)
    rw [tidy_tidy l (ascX_tail h.asc) (oneL_self (ascX_head h.asc))]
theorem flipP_cv {l : Pts} (h : Cv l) : Cv (flipP l) := by
  refine ⟨by rw [flip_len]; exact h.two, by rw [flip_len]; exact h.most, fun p hp => ?_, flip_asc h.asc, ?_, ?_⟩
  · unfold flipP at hp
    obtain ⟨q, hq, rfl⟩ := List.mem_map.1 hp
    have := h.lv q hq
    unfold lvP at *
    simp only; omega
  · have := h.first
    unfold flipP
    rw [List.head?_map, Option.map_map]; exact this
  · have := h.last
    unfold flipP
    rw [List.getLast?_map, Option.map_map]; exact this
theorem upT_iff (l : Pts) : ∀ k, upT l k = true ↔ ∀ j, j < k → yAt l j < yAt l (j + 1)
  | 0 => by simp [upT]
  | k + 1 => by
    unfold upT
    rw [Bool.and_eq_true, upT_iff l k, decide_eq_true_eq]
    constructor
    · rintro ⟨h1, h2⟩ j hj
      by_cases e : j = k
      · subst e; exact h2
      · exact h1 j (by omega)
    · intro h; exact ⟨fun j hj => h j (by omega), h k (by omega)⟩
theorem dnT_iff (l : Pts) : ∀ k, dnT l k = true ↔ ∀ j, j < k → yAt l (j + 1) < yAt l j
  | 0 => by simp [dnT]
  | k + 1 => by
    unfold dnT
    rw [Bool.and_eq_true, dnT_iff l k, decide_eq_true_eq]
    constructor
    · rintro ⟨h1, h2⟩ j hj
      by_cases e : j = k
      · subst e; exact h2
      · exact h1 j (by omega)
    · intro h; exact ⟨fun j hj => h j (by omega), h k (by omega)⟩
theorem upT_upX {l : Pts} : upT l (l.length - 1) = true ↔ upX l := by
  rw [upT_iff]
  constructor
  · intro h k hk
    have := h k (by omega)
    rwa [yAt_eq (show k < l.length by omega), yAt_eq hk] at this
  · intro h j hj
    rw [yAt_eq (show j < l.length by omega), yAt_eq (show j + 1 < l.length by omega)]
    exact h j (by omega)
theorem dnT_dnX {l : Pts} : dnT l (l.length - 1) = true ↔ dnX l := by
  rw [dnT_iff]
  constructor
  · intro h k hk
    have := h k (by omega)
    rwa [yAt_eq (show k < l.length by omega), yAt_eq hk] at this
  · intro h j hj
    rw [yAt_eq (show j < l.length by omega), yAt_eq (show j + 1 < l.length by omega)]
    exact h j (by omega)
theorem steep_up {l : Pts} : steepC l = 1 ↔ upX l := by
  unfold steepC
  rw [← upT_upX]
  by_cases h : upT l (l.length - 1) = true
  · rw [if_pos h]; simp [h]
  · rw [if_neg h]
    refine ⟨fun e => ?_, fun e => absurd e h⟩
    split at e <;> simp at e
theorem steep_down {l : Pts} (h2 : 2 ≤ l.length) : steepC l = -1 ↔ dnX l := by
  unfold steepC
  by_cases h : upT l (l.length - 1) = true
  · rw [if_pos h]
    refine ⟨fun e => by simp at e, fun e => ?_⟩
    have h1 := upT_upX.1 h 0 (by omega)
    have h3 := e 0 (by omega)
    omega
  · rw [if_neg h, ← dnT_dnX]
    by_cases hd : dnT l (l.length - 1) = true
    · rw [if_pos hd]; simp [hd]
    · rw [if_neg hd]; simp [hd]
theorem up_le {l : Pts} (h : upX l) : ∀ {k : Nat} (hk : k < l.length), 0 < k → (l[0]'(by omega)).2 < l[k].2 := by
  intro k hk h0
  have hs := swap_asc h
  have := ascX_lt hs (j := 0) (k := k) (by rw [swap_len]; exact hk) h0
  rwa [swap_get, swap_get] at this
theorem dn_le {l : Pts} (h : dnX l) : ∀ {k : Nat} (hk : k < l.length), 0 < k → l[k].2 < (l[0]'(by omega)).2 := by
  intro k hk h0
  have hs := flip_up h
  have := up_le hs (k := k) (by rw [flip_len]; exact hk) h0
  simp [flipP] at this
  omega
/-- what Inverse of the program finds -/
def turnP (l : Pts) : Pts := if steepC l < 0 then swapP l.reverse else swapP l
theorem swap_lv {l : Pts} (h : ∀ p ∈ l, lvP p) : ∀ p ∈ swapP l, lvP p := fun p hp => by
  unfold swapP at hp
  obtain ⟨q, hq, rfl⟩ := List.mem_map.1 hp
  have := h q hq
  unfold lvP at *
  simp only; omega
theorem wholeC_eq {l : Pts} (h : 2 ≤ l.length) : wholeC l = true ↔ ((l[0]'(by omega)).2 = 0 ∧ (l[l.length - 1]'(by omega)).2 = 65535) ∨ ((l[0]'(by omega)).2 = 65535 ∧ (l[l.length - 1]'(by omega)).2 = 0) := by
  unfold wholeC
  rw [yAt_eq (show 0 < l.length by omega), yAt_eq (show l.length - 1 < l.length by omega)]
  simp
theorem turn_cv {l : Pts} (h : Cv l) : Cv (turnP l) ↔ (steepC l ≠ 0 ∧ wholeC l = true) := by
  have h2 := h.two
  have h16 := h.most
  unfold turnP
  rw [wholeC_eq h2]
  rcases steepC_is l with hs | hs | hs
  · rw [if_neg (by omega)]
    refine ⟨fun hc => ?_, fun hc => absurd hs hc.1⟩
    have : upX l := fun k hk => by
      have := hc.asc k (by rw [swap_len]; exact hk)
      rwa [swap_get, swap_get] at this
    have := steep_up.2 this
    omega
  · rw [if_neg (by omega)]
    have hu := steep_up.1 hs
    have hlt := up_le hu (k := l.length - 1) (by omega) (by omega)
    constructor
    · intro hc
      have a0 := hc.at0
      have aL := hc.atL
      rw [swap_get] at a0 aL
      simp only [swap_len] at aL
      exact ⟨by omega, .inl ⟨a0, aL⟩⟩
    · rintro ⟨-, hw⟩
      have hw : (l[0]'(by omega)).2 = 0 ∧ (l[l.length - 1]'(by omega)).2 = 65535 := by rcases hw with hw | hw <;> omega
      refine Cv.mk' (by rw [swap_len]; exact h2) (by rw [swap_len]; exact h16) (swap_lv h.lv) (swap_asc hu) ?_ ?_
      · rw [swap_get]; exact hw.1
      · rw [swap_get]; simp only [swap_len]; exact hw.2
  · rw [if_pos (by omega)]
    have hd := (steep_down h2).1 hs
    have hlt := dn_le hd (k := l.length - 1) (by omega) (by omega)
    have hl : (swapP l.reverse).length = l.length := by rw [swap_len, List.length_reverse]
    have e0 : l.length - 1 - 0 = l.length - 1 := by omega
    have eL : l.length - 1 - (l.length - 1) = 0 := by omega
    constructor
    · intro hc
      have a0 := hc.at0
      have aL := hc.atL
      rw [swap_get, rev_get] at a0 aL
      simp only [hl, e0, eL] at a0 aL
      exact ⟨by omega, .inr ⟨aL, a0⟩⟩
    · rintro ⟨-, hw⟩
      have hw : (l[0]'(by omega)).2 = 65535 ∧ (l[l.length - 1]'(by omega)).2 = 0 := by rcases hw with hw | hw <;> omega
      refine Cv.mk' (by rw [hl]; exact h2) (by rw [hl]; exact h16) (swap_lv fun p hp => h.lv p (List.mem_reverse.1 hp)) (rev_asc hd) ?_ ?_
      · rw [swap_get, rev_get]; simp only [e0]; exact hw.2
      · rw [swap_get, rev_get]; simp only [hl, eL]; exact hw.1
theorem invC_turn {l : Pts} (h : Cv l) : invC l = if cvC (turnP l) = 0 then (turnP l, 0) else ([], 16) := by
  have ht := turn_cv h
  rw [← cvC_iff] at ht
  unfold invC
  rw [if_neg (by rw [(cvC_iff l).2 h]; simp)]
  by_cases hc : cvC (turnP l) = 0
  · obtain ⟨h1, h2⟩ := ht.1 hc
    rw [if_pos hc, if_neg (by rw [h2]; simp [h1])]
    unfold turnP
    split <;> rfl
  · rw [if_neg hc]
    by_cases hs : steepC l = 0
    · rw [if_pos (.inl hs)]
    · have : wholeC l = false := by
        cases hw : wholeC l
        · rfl
        · exact absurd (ht.2 ⟨hs, hw⟩) hc
      rw [if_pos (.inr this)]
/-- where the inverse leads -/
theorem turn_back {l : Pts} (h : Cv l) (hs : steepC l ≠ 0) {v : Rat} {k : Nat} (hk : IsSeg l v k) : valC (turnP l) (valC l v) = v := by
  unfold turnP
  rcases steepC_is l with e | e | e
  · exact absurd e hs
  · rw [if_neg (by omega)]; exact valC_swap h.asc (steep_up.1 e) hk
  · rw [if_pos (by omega)]; exact valC_rev h.asc ((steep_down h.two).1 e) hk
theorem swap_swap (l : Pts) : swapP (swapP l) = l := by
  unfold swapP
  rw [List.map_map]
  conv => rhs; rw [← List.map_id l]
  rfl
theorem swap_rev (l : Pts) : swapP l.reverse = (swapP l).reverse := by unfold swapP; rw [List.map_reverse]
theorem turn_steep {l : Pts} (h : Cv l) (hs : steepC l ≠ 0) : steepC (turnP l) = steepC l := by
  have h2 := h.two
  unfold turnP
  rcases steepC_is l with e | e | e
  · exact absurd e hs
  · rw [if_neg (by omega), e]; exact steep_up.2 (swap_up h.asc)
  · rw [if_pos (by omega), e]; exact (steep_down (by rw [swap_len, List.length_reverse]; exact h2)).2 (rev_down h.asc)
theorem turn_turn {l : Pts} (h : Cv l) (hs : steepC l ≠ 0) : turnP (turnP l) = l := by
  have e1 := turn_steep h hs
  show (if steepC (turnP l) < 0 then _ else _) = _
  rw [e1]
  rcases steepC_is l with e | e | e
  · exact absurd e hs
  · rw [if_neg (by omega)]
    unfold turnP
    rw [if_neg (by omega), swap_swap]
  · rw [if_pos (by omega)]
    unfold turnP
    rw [if_pos (by omega), swap_rev, swap_rev, swap_rev, List.reverse_reverse, swap_swap]
/-- each level lies on a segment -/
theorem Cv.seg {l : Pts} (h : Cv l) {v : Rat} (h0 : 0 ≤ v) (h1 : v ≤ 65535) : ∃ k, IsSeg l v k := by
  have h2 := h.two
  have key : ∀ n (hn : n < l.length), (∃ k, IsSeg l v k) ∨ (l[n].1 : Rat) ≤ v := by
    intro n hn
    induction n with
    | zero => right; rw [h.at0]; exact h0
    | succ n ih =>
      rcases ih (by omega) with e | e
      · exact .inl e
      · by_cases hv : v ≤ (l[n + 1].1 : Rat)
        · exact .inl ⟨n, hn, e, hv⟩
        · right; grind
  rcases key (l.length - 1) (by omega) with e | e
  · exact e
  · rw [h.atL] at e
    have e3 : ((65535 : Int) : Rat) = 65535 := rfl
    have : v = ((65535 : Int) : Rat) := by grind
    refine ⟨l.length - 2, by omega, ?_, ?_⟩
    · have hx := cast_lt (h.asc (l.length - 2) (by omega))
      have e4 : l.length - 2 + 1 = l.length - 1 := by omega
      simp only [e4, h.atL] at hx
      grind
    · have e4 : l.length - 2 + 1 = l.length - 1 := by omega
      simp only [e4, h.atL]
      grind
theorem seg_lvl {l : Pts} (h : Cv l) {v : Rat} {k : Nat} (hk : IsSeg l v k) : 0 ≤ valC l v ∧ valC l v ≤ 65535 := by
  obtain ⟨h0, h1, h2⟩ := id hk
  rw [valC_at h.asc hk]
  obtain ⟨b1, b2⟩ := seg_between (h.asc k h0) h1 h2
  obtain ⟨-, p1, p2⟩ := h.lv _ (List.getElem_mem (show k < l.length by omega))
  obtain ⟨-, q1, q2⟩ := h.lv _ (List.getElem_mem h0)
  have c1 : ((0 : Int) : Rat) ≤ ((min l[k].2 l[k + 1].2 : Int) : Rat) := cast_le (by omega)
  have c2 : ((max l[k].2 l[k + 1].2 : Int) : Rat) ≤ ((65535 : Int) : Rat) := cast_le (by omega)
  have e0 : ((0 : Int) : Rat) = 0 := rfl
  have e3 : ((65535 : Int) : Rat) = 65535 := rfl
  constructor <;> grind
end Go.Proofs.YtlbnibicehpobaaGreatDoor.Z
