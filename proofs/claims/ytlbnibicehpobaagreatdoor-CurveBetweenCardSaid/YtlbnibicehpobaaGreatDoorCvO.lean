/- Curves: mathematics of rising, flipped, inverse and tidy curves. -/
import Derived.Test.YtlbnibicehpobaaGreatDoorCvN
import Derived.Test.YtlbnibicehpobaaGreatDoorCvG
set_option linter.unusedVariables false
set_option linter.unusedSimpArgs false
namespace Go.Proofs.YtlbnibicehpobaaGreatDoor.Z
open Go
def upX (l : Pts) : Prop := ∀ k (h : k + 1 < l.length), l[k].2 < l[k + 1].2
def dnX (l : Pts) : Prop := ∀ k (h : k + 1 < l.length), l[k + 1].2 < l[k].2
theorem upX_tail {p : Int × Int} {l : Pts} (h : upX (p :: l)) : upX l := fun k hk => by
  have := h (k + 1) (by simpa using hk)
  simpa using this
theorem upX_head {p q : Int × Int} {l : Pts} (h : upX (p :: q :: l)) : p.2 < q.2 := h 0 (by simp)
theorem valC_up : ∀ {l : Pts} (_ : ascX l) (_ : upX l) (_ : 2 ≤ l.length) {v w : Rat} (_ : v < w), valC l v < valC l w
  | [], _, _, h, _, _, _ => absurd h (by simp)
  | [p], _, _, h, _, _, _ => absurd h (by simp)
  | [p, q], ha, hu, _, v, w, h => seg_lt (ascX_head ha) (upX_head hu) h
  | p :: q :: r :: l, ha, hu, _, v, w, h => by
    have ih := fun {v w : Rat} (h : v < w) => valC_up (l := q :: r :: l) (ascX_tail ha) (upX_tail hu) (by simp) h
    have hq : valC (q :: r :: l) (q.1 : Rat) = q.2 := valC_knot (l := q :: r :: l) (ascX_tail ha) (by simp) (k := 0) (by simp)
    have hs := seg_hi (ascX_head ha)
    unfold valC
    by_cases h1 : v ≤ (q.1 : Rat)
    · rw [if_pos h1]
      have h3 : segV p q v ≤ (q.2 : Rat) := by
        have : v < (q.1 : Rat) ∨ v = (q.1 : Rat) := by grind
        rcases this with e | e
        · have := seg_lt (ascX_head ha) (upX_head hu) e; grind
        · rw [e]; grind
      by_cases h2 : w ≤ (q.1 : Rat)
      · rw [if_pos h2]; exact seg_lt (ascX_head ha) (upX_head hu) h
      · rw [if_neg h2]
        have := ih (show (q.1 : Rat) < w by grind)
        grind
    · rw [if_neg h1, if_neg (by grind)]
      exact ih h
theorem flip_len (l : Pts) : (flipP l).length = l.length := by simp [flipP]
theorem flip_asc {l : Pts} (h : ascX l) : ascX (flipP l) := fun k hk => by
  have hk' : k + 1 < l.length := by rw [flip_len] at hk; exact hk
  have := h k hk'
  simpa [flipP] using this
theorem flip_up {l : Pts} (h : dnX l) : upX (flipP l) := fun k hk => by
  have hk' : k + 1 < l.length := by rw [flip_len] at hk; exact hk
  have := h k hk'
  simp [flipP]; omega
theorem seg_flip (p q : Int × Int) (v : Rat) : segV (p.1, 65535 - p.2) (q.1, 65535 - q.2) v = 65535 - segV p q v := by
  unfold segV
  simp only [Rat.intCast_sub]
  generalize (v - (p.1 : Rat)) / ((q.1 : Rat) - (p.1 : Rat)) = m
  have : ((65535 : Int) : Rat) = 65535 := rfl
  grind
theorem valC_flip : ∀ {l : Pts} (_ : 2 ≤ l.length) (v : Rat), valC (flipP l) v = 65535 - valC l v
  | [], h, _ => absurd h (by simp)
  | [p], h, _ => absurd h (by simp)
  | [p, q], _, v => seg_flip p q v
  | p :: q :: r :: l, _, v => by
    have ih := valC_flip (l := q :: r :: l) (by simp) v
    show valC ((p.1, 65535 - p.2) :: (q.1, 65535 - q.2) :: (r.1, 65535 - r.2) :: flipP l) v = _
    unfold valC
    by_cases h1 : v ≤ (q.1 : Rat)
    · rw [if_pos h1, if_pos h1]; exact seg_flip p q v
    · rw [if_neg h1, if_neg h1]; exact ih
theorem valC_down {l : Pts} (ha : ascX l) (hd : dnX l) (h2 : 2 ≤ l.length) {v w : Rat} (h : v < w) : valC l w < valC l v := by
  have := valC_up (flip_asc ha) (flip_up hd) (by rw [flip_len]; exact h2) h
  rw [valC_flip h2, valC_flip h2] at this
  grind
theorem flipP_flipP (l : Pts) : flipP (flipP l) = l := by
  unfold flipP
  rw [List.map_map]
  conv => rhs; rw [← List.map_id l]
  congr 1
  funext p
  simp only [Function.comp_apply, id_eq]
  ext <;> simp
  omega
/-- the slope of a segment and that of its inverse -/
theorem seg_inv {p q : Int × Int} (h : p.1 < q.1) (hy : p.2 < q.2) (v : Rat) : segV (p.2, p.1) (q.2, q.1) (segV p q v) = v := by
  obtain ⟨m, h1, h2, -⟩ := seg_m h
  obtain ⟨M, h3, h4, -⟩ := seg_m (p := (p.2, p.1)) (q := (q.2, q.1)) hy
  simp only at h3 h4
  have e : M * m = 1 := by
    refine rcancel (seg_ne h) ?_
    rw [Rat.one_mul, Rat.mul_assoc, h1, h3]
  rw [h4, h2]
  have : M * (p.2 + m * (v - p.1) - p.2) = (M * m) * (v - p.1) := by grind
  rw [this, e]; grind
theorem seg_inv' {p q : Int × Int} (h : p.1 < q.1) (hy : q.2 < p.2) (v : Rat) : segV (q.2, q.1) (p.2, p.1) (segV p q v) = v := by
  obtain ⟨m, h1, h2, -⟩ := seg_m h
  obtain ⟨M, h3, h4, -⟩ := seg_m (p := (q.2, q.1)) (q := (p.2, p.1)) hy
  simp only at h3 h4
  have e : M * m = 1 := by
    refine rcancel (seg_ne h) ?_
    rw [Rat.one_mul, Rat.mul_assoc, h1]
    grind
  rw [h4, h2]
  have : M * (p.2 + m * (v - p.1) - q.2) = M * (p.2 - q.2) + (M * m) * (v - p.1) := by grind
  rw [this, e, h3]; grind
theorem swap_len (l : Pts) : (swapP l).length = l.length := by simp [swapP]
theorem swap_get {l : Pts} {k : Nat} (h : k < (swapP l).length) : (swapP l)[k] = ((l[k]'(by rw [swap_len] at h; exact h)).2, (l[k]'(by rw [swap_len] at h; exact h)).1) := by simp [swapP]
theorem swap_asc {l : Pts} (h : upX l) : ascX (swapP l) := fun k hk => by
  have hk' : k + 1 < l.length := by rw [swap_len] at hk; exact hk
  rw [swap_get, swap_get]; exact h k hk'
theorem swap_up {l : Pts} (h : ascX l) : upX (swapP l) := fun k hk => by
  have hk' : k + 1 < l.length := by rw [swap_len] at hk; exact hk
  rw [swap_get, swap_get]; exact h k hk'
theorem rev_get {l : Pts} {k : Nat} (h : k < l.reverse.length) : l.reverse[k] = l[l.length - 1 - k]'(by rw [List.length_reverse] at h; omega) := List.getElem_reverse h
theorem rev_asc {l : Pts} (h : dnX l) : ascX (swapP l.reverse) := fun k hk => by
  have hk' : k + 1 < l.length := by rw [swap_len, List.length_reverse] at hk; exact hk
  rw [swap_get, swap_get, rev_get, rev_get]
  have := h (l.length - 1 - (k + 1)) (by omega)
  have e : l.length - 1 - (k + 1) + 1 = l.length - 1 - k := by omega
  simp only [e] at this
  exact this
theorem rev_down {l : Pts} (h : ascX l) : dnX (swapP l.reverse) := fun k hk => by
  have hk' : k + 1 < l.length := by rw [swap_len, List.length_reverse] at hk; exact hk
  rw [swap_get, swap_get, rev_get, rev_get]
  have := h (l.length - 1 - (k + 1)) (by omega)
  have e : l.length - 1 - (k + 1) + 1 = l.length - 1 - k := by omega
  simp only [e] at this
  exact this
theorem valC_swap {l : Pts} (ha : ascX l) (hu : upX l) {v : Rat} {k : Nat} (hs : IsSeg l v k) : valC (swapP l) (valC l v) = v := by
  obtain ⟨h0, h1, h2⟩ := id hs
  have hx := ha k h0
  have hy := hu k h0
  rw [valC_at ha hs]
  have hb := seg_between hx h1 h2
  rw [Int.min_eq_left (by omega), Int.max_eq_right (by omega)] at hb
  have h0' : k + 1 < (swapP l).length := by rw [swap_len]; exact h0
  have hs' : IsSeg (swapP l) (segV l[k] l[k + 1] v) k := ⟨h0', by rw [swap_get]; exact hb.1, by rw [swap_get]; exact hb.2⟩
  rw [valC_at (swap_asc hu) hs', swap_get, swap_get]
  exact seg_inv hx hy v
theorem valC_rev {l : Pts} (ha : ascX l) (hd : dnX l) {v : Rat} {k : Nat} (hs : IsSeg l v k) : valC (swapP l.reverse) (valC l v) = v := by
  obtain ⟨h0, h1, h2⟩ := id hs
  have hx := ha k h0
  have hy := hd k h0
  rw [valC_at ha hs]
  have hb := seg_between hx h1 h2
  rw [Int.min_eq_right (by omega), Int.max_eq_left (by omega)] at hb
  have h0' : l.length - 2 - k + 1 < (swapP l.reverse).length := by rw [swap_len, List.length_reverse]; omega
  have g1 : (swapP l.reverse)[l.length - 2 - k + 1] = (l[k].2, l[k].1) := by
    rw [swap_get, rev_get]
    have e : l.length - 1 - (l.length - 2 - k + 1) = k := by omega
    simp only [e]
  have g0 : (swapP l.reverse)[l.length - 2 - k]'(by omega) = (l[k + 1].2, l[k + 1].1) := by
    rw [swap_get, rev_get]
    have e : l.length - 1 - (l.length - 2 - k) = k + 1 := by omega
    simp only [e]
  have hs' : IsSeg (swapP l.reverse) (segV l[k] l[k + 1] v) (l.length - 2 - k) := ⟨h0', by rw [g0]; exact hb.1, by rw [g1]; exact hb.2⟩
  rw [valC_at (rev_asc hd) hs', g0, g1]
  exact seg_inv' hx hy v
/-- tidy curves -/
def colC (p b d : Int × Int) : Bool := decide ((b.2 - p.2) * (d.1 - b.1) = (d.2 - b.2) * (b.1 - p.1))
def tidyT : Int × Int → Pts → Pts
  | _, [] => []
  | _, [b] => [b]
  | p, b :: d :: l => if colC p b d = true then tidyT b (d :: l) else b :: tidyT b (d :: l)
def tidyP : Pts → Pts
  | [] => []
  | a :: l => a :: tidyT a l
theorem col_m {p b d : Int × Int} (h1 : p.1 < b.1) (h2 : b.1 < d.1) : colC p b d = true ↔ ∃ m : Rat, m * ((b.1 : Rat) - p.1) = (b.2 : Rat) - p.2 ∧ m * ((d.1 : Rat) - b.1) = (d.2 : Rat) - b.2 := by
  obtain ⟨m, e1, -⟩ := seg_m h1
  obtain ⟨n, e2, -⟩ := seg_m h2
  unfold colC
  rw [decide_eq_true_eq]
  have hc : ((b.2 - p.2) * (d.1 - b.1) = (d.2 - b.2) * (b.1 - p.1)) ↔ ((b.2 : Rat) - p.2) * ((d.1 : Rat) - b.1) = ((d.2 : Rat) - b.2) * ((b.1 : Rat) - p.1) := by
    rw [← Rat.intCast_sub, ← Rat.intCast_sub, ← Rat.intCast_sub, ← Rat.intCast_sub, ← Rat.intCast_mul, ← Rat.intCast_mul, Rat.intCast_inj]
  rw [hc]
  constructor
  · intro e
    refine ⟨m, e1, ?_⟩
    have : m = n := by
      refine rcancel (seg_ne h2) (rcancel (seg_ne h1) ?_)
      rw [e2, Rat.mul_assoc, Rat.mul_comm ((d.1 : Rat) - b.1), ← Rat.mul_assoc, e1, e]
    rw [this, e2]
  · rintro ⟨k, k1, k2⟩
    rw [← k1, ← k2]; grind
theorem m_uniq {p q : Int × Int} (h : p.1 < q.1) {m n : Rat} (e1 : m * ((q.1 : Rat) - p.1) = (q.2 : Rat) - p.2) (e2 : n * ((q.1 : Rat) - p.1) = (q.2 : Rat) - p.2) : m = n := rcancel (seg_ne h) (e1.trans e2.symm)
theorem segV_of {p q : Int × Int} (h : p.1 < q.1) {m : Rat} (e : m * ((q.1 : Rat) - p.1) = (q.2 : Rat) - p.2) (v : Rat) : segV p q v = p.2 + m * (v - p.1) := by
  obtain ⟨n, e1, e2, -⟩ := seg_m h
  rw [e2, m_uniq h e e1]
theorem col_join {p b d : Int × Int} (h1 : p.1 < b.1) (h2 : b.1 < d.1) (h : colC p b d = true) (v : Rat) : segV p d v = segV p b v ∧ segV p d v = segV b d v := by
  obtain ⟨m, e1, e2⟩ := (col_m h1 h2).1 h
  have e3 : m * ((d.1 : Rat) - p.1) = (d.2 : Rat) - p.2 := by grind
  rw [segV_of h1 e1, segV_of h2 e2, segV_of (show p.1 < d.1 by omega) e3]
  exact ⟨rfl, by grind⟩
/-- a and p lie on one line with b -/
def oneL (a p b : Int × Int) : Prop := a.1 < b.1 ∧ p.1 < b.1 ∧ ∃ m : Rat, m * ((b.1 : Rat) - a.1) = (b.2 : Rat) - a.2 ∧ m * ((b.1 : Rat) - p.1) = (b.2 : Rat) - p.2
theorem oneL_self {p b : Int × Int} (h : p.1 < b.1) : oneL p p b := by
  obtain ⟨m, e1, -⟩ := seg_m h
  exact ⟨h, h, m, e1, e1⟩
theorem oneL_col {a p b d : Int × Int} (h : oneL a p b) (hd : b.1 < d.1) : colC a b d = colC p b d := by
  obtain ⟨h1, h2, m, e1, e2⟩ := h
  rw [Bool.eq_iff_iff, col_m h1 hd, col_m h2 hd]
  constructor
  · rintro ⟨n, n1, n2⟩
    have := m_uniq h1 e1 n1
    subst this
    exact ⟨m, e2, n2⟩
  · rintro ⟨n, n1, n2⟩
    have := m_uniq h2 e2 n1
    subst this
    exact ⟨m, e1, n2⟩
theorem oneL_step {a p b d : Int × Int} (h : oneL a p b) (hd : b.1 < d.1) (hc : colC p b d = true) : oneL a b d := by
  have hc' := (oneL_col h hd).trans hc
  obtain ⟨h1, h2, -⟩ := h
  obtain ⟨m, e1, e2⟩ := (col_m h1 hd).1 hc'
  exact ⟨by omega, hd, m, by grind, e2⟩
theorem tidyT_ne {p b : Int × Int} {l : Pts} (ha : ascX (p :: b :: l)) : ∃ x t, tidyT p (b :: l) = x :: t ∧ b.1 ≤ x.1 ∧ ∃ m : Rat, m * ((b.1 : Rat) - p.1) = (b.2 : Rat) - p.2 ∧ m * ((x.1 : Rat) - p.1) = (x.2 : Rat) - p.2 := by
  induction l generalizing p b with
  | nil =>
    obtain ⟨m, e, -⟩ := seg_m (ascX_head ha)
    exact ⟨b, [], rfl, Int.le_refl _, m, e, e⟩
  | cons d l ih =>
    have h1 := ascX_head ha
    have h2 := ascX_head (ascX_tail ha)
    unfold tidyT
    by_cases hc : colC p b d = true
    · rw [if_pos hc]
      obtain ⟨x, t, e, hl, m, m1, m2⟩ := ih (ascX_tail ha)
      obtain ⟨n, n1, n2⟩ := (col_m h1 h2).1 hc
      have := m_uniq h2 m1 n2
      subst this
      exact ⟨x, t, e, by omega, m, n1, by grind⟩
    · rw [if_neg hc]
      obtain ⟨m, e, -⟩ := seg_m h1
      exact ⟨b, _, rfl, Int.le_refl _, m, e, e⟩
end Go.Proofs.YtlbnibicehpobaaGreatDoor.Z
