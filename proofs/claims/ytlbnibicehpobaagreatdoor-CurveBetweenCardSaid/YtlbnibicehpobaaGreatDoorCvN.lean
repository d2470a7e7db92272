/- Curves: mathematics of their values. -/
import Derived.Test.YtlbnibicehpobaaGreatDoorCvC
set_option linter.unusedVariables false
set_option linter.unusedSimpArgs false
namespace Go.Proofs.YtlbnibicehpobaaGreatDoor.Z
open Go
/-- the value on the line through two points -/
def segV (p q : Int × Int) (v : Rat) : Rat := (p.2 : Rat) + ((q.2 : Rat) - p.2) * ((v - p.1) / ((q.1 - p.1 : Int) : Rat))
theorem rcancel {a b c : Rat} (h : c ≠ 0) (e : a * c = b * c) : a = b := by
  have h1 : a * c * c⁻¹ = b * c * c⁻¹ := by rw [e]
  rw [Rat.mul_assoc, Rat.mul_assoc, Rat.mul_inv_cancel _ h, Rat.mul_one, Rat.mul_one] at h1
  exact h1
theorem cast_lt {a b : Int} (h : a < b) : (a : Rat) < (b : Rat) := Rat.intCast_lt_intCast.2 h
theorem cast_le {a b : Int} (h : a ≤ b) : (a : Rat) ≤ (b : Rat) := Rat.intCast_le_intCast.2 h
theorem seg_m {p q : Int × Int} (h : p.1 < q.1) : ∃ m : Rat, m * ((q.1 : Rat) - p.1) = (q.2 : Rat) - p.2 ∧ (∀ v, segV p q v = p.2 + m * (v - p.1)) ∧ (p.2 < q.2 → 0 < m) ∧ (q.2 < p.2 → m < 0) ∧ (p.2 = q.2 → m = 0) := by
  have hW : 0 < ((q.1 - p.1 : Int) : Rat) := Rat.intCast_pos.2 (by omega)
  have hn : ((q.1 - p.1 : Int) : Rat) ≠ 0 := by grind
  have hc := Rat.mul_inv_cancel _ hn
  have hi := Rat.inv_pos.2 hW
  have he : ((q.1 - p.1 : Int) : Rat) = (q.1 : Rat) - p.1 := Rat.intCast_sub _ _
  refine ⟨((q.2 : Rat) - p.2) * (((q.1 - p.1 : Int) : Rat))⁻¹, ?_, fun v => ?_, fun h => ?_, fun h => ?_, fun h => ?_⟩
  · rw [← he]; generalize (((q.1 - p.1 : Int) : Rat))⁻¹ = I at *; grind
  · unfold segV; rw [Rat.div_def]; generalize (((q.1 - p.1 : Int) : Rat))⁻¹ = I at *; grind
  · have := cast_lt h
    exact Rat.mul_pos (by grind) hi
  · have := cast_lt h
    have := Rat.mul_pos (a := (p.2 : Rat) - q.2) (b := (((q.1 - p.1 : Int) : Rat))⁻¹) (by grind) hi
    grind
  · rw [h]; grind
theorem seg_lo {p q : Int × Int} (h : p.1 < q.1) : segV p q p.1 = p.2 := by
  obtain ⟨m, -, h2, -⟩ := seg_m h
  rw [h2]; grind
theorem seg_hi {p q : Int × Int} (h : p.1 < q.1) : segV p q q.1 = q.2 := by
  obtain ⟨m, h1, h2, -⟩ := seg_m h
  rw [h2]; grind
theorem seg_ne {p q : Int × Int} (h : p.1 < q.1) : (q.1 : Rat) - p.1 ≠ 0 := by have := cast_lt h; grind
theorem seg_lt {p q : Int × Int} (h : p.1 < q.1) (hy : p.2 < q.2) {v w : Rat} (hv : v < w) : segV p q v < segV p q w := by
  obtain ⟨m, h1, h2, h3, -⟩ := seg_m h
  rw [h2, h2]
  have := Rat.mul_pos (h3 hy) (show 0 < w - v by grind)
  grind
theorem seg_gt {p q : Int × Int} (h : p.1 < q.1) (hy : q.2 < p.2) {v w : Rat} (hv : v < w) : segV p q w < segV p q v := by
  obtain ⟨m, h1, h2, -, h3, -⟩ := seg_m h
  rw [h2, h2]
  have := Rat.mul_pos (show 0 < -m by have := h3 hy; grind) (show 0 < w - v by grind)
  grind
theorem seg_flat {p q : Int × Int} (h : p.1 < q.1) (hy : p.2 = q.2) (v : Rat) : segV p q v = p.2 := by
  obtain ⟨m, h1, h2, -, -, h3⟩ := seg_m h
  rw [h2, h3 hy]; grind
/-- between its ends a segment stays between their values -/
theorem seg_between {p q : Int × Int} (h : p.1 < q.1) {v : Rat} (h0 : (p.1 : Rat) ≤ v) (h1 : v ≤ q.1) : ((min p.2 q.2 : Int) : Rat) ≤ segV p q v ∧ segV p q v ≤ ((max p.2 q.2 : Int) : Rat) := by
  have l0 := seg_lo h
  have l1 := seg_hi h
  have a0 : (p.1 : Rat) < v ∨ (p.1 : Rat) = v := by grind
  have a1 : v < (q.1 : Rat) ∨ v = (q.1 : Rat) := by grind
  rcases Int.lt_trichotomy p.2 q.2 with hy | hy | hy
  · rw [Int.min_eq_left (by omega), Int.max_eq_right (by omega)]
    constructor
    · rcases a0 with a | a
      · have := seg_lt h hy a; grind
      · rw [← a]; grind
    · rcases a1 with a | a
      · have := seg_lt h hy a; grind
      · rw [a]; grind
  · rw [seg_flat h hy, hy, Int.min_self, Int.max_self]
    exact ⟨Rat.le_refl, Rat.le_refl⟩
  · rw [Int.min_eq_right (by omega), Int.max_eq_left (by omega)]
    constructor
    · rcases a1 with a | a
      · have := seg_gt h hy a; grind
      · rw [a]; grind
    · rcases a0 with a | a
      · have := seg_gt h hy a; grind
      · rw [← a]; grind
/-- the value of a curve -/
def valC : Pts → Rat → Rat
  | p :: q :: [], v => segV p q v
  | p :: q :: r :: l, v => if v ≤ (q.1 : Rat) then segV p q v else valC (q :: r :: l) v
  | _, _ => 0
def ascX (l : Pts) : Prop := ∀ k (h : k + 1 < l.length), l[k].1 < l[k + 1].1
theorem ascX_tail {p : Int × Int} {l : Pts} (h : ascX (p :: l)) : ascX l := fun k hk => by
  have := h (k + 1) (by simpa using hk)
  simpa using this
theorem ascX_head {p q : Int × Int} {l : Pts} (h : ascX (p :: q :: l)) : p.1 < q.1 := h 0 (by simp)
theorem ascX_le {l : Pts} (h : ascX l) : ∀ {j k : Nat} (hk : k < l.length) (hjk : j ≤ k), (l[j]'(by omega)).1 ≤ l[k].1 := by
  intro j k hk hjk
  induction k with
  | zero => have : j = 0 := by omega
            subst this; omega
  | succ k ih =>
    by_cases e : j = k + 1
    · subst e; omega
    · have := ih (by omega) (by omega)
      have := h k hk
      omega
theorem ascX_lt {l : Pts} (h : ascX l) {j k : Nat} (hk : k < l.length) (hjk : j < k) : (l[j]'(by omega)).1 < l[k].1 := by
  have h1 := h j (by omega)
  have h2 := ascX_le h hk (show j + 1 ≤ k by omega)
  omega
/-- v lies on the k-th segment -/
def IsSeg (l : Pts) (v : Rat) (k : Nat) : Prop := ∃ h : k + 1 < l.length, ((l[k]'(by omega)).1 : Rat) ≤ v ∧ v ≤ (l[k + 1].1 : Rat)
theorem valC_at : ∀ {l : Pts} {v : Rat} {k : Nat} (_ : ascX l) (hs : IsSeg l v k), valC l v = segV (l[k]'(by have := hs.1; omega)) (l[k + 1]'hs.1) v
  | [], _, _, _, hs => absurd hs.1 (by simp)
  | [p], _, _, _, hs => absurd hs.1 (by simp)
  | [p, q], v, k, _, hs => by
    have : k = 0 := by have := hs.1; simp at this; omega
    subst this; rfl
  | p :: q :: r :: l, v, 0, _, hs => by
    unfold valC
    obtain ⟨_, _, h2⟩ := hs
    rw [if_pos (by simpa using h2)]; rfl
  | p :: q :: r :: l, v, k + 1, ha, hs => by
    obtain ⟨h0, h1, h2⟩ := id hs
    have ih := valC_at (l := q :: r :: l) (v := v) (k := k) (ascX_tail ha) ⟨by simpa using h0, by simpa using h1, by simpa using h2⟩
    unfold valC
    by_cases hv : v ≤ (q.1 : Rat)
    · rw [if_pos hv]
      have hk : k = 0 := by
        apply Classical.byContradiction
        intro hk
        have := cast_lt (ascX_lt (ascX_tail ha) (j := 0) (k := k) (by simpa using Nat.lt_of_succ_lt h0) (by omega))
        have h1' : (((q :: r :: l)[k]'(by simpa using Nat.lt_of_succ_lt h0)).1 : Rat) ≤ v := by simpa using h1
        simp only [List.getElem_cons_zero] at this
        grind
      subst hk
      have e : v = (q.1 : Rat) := by
        have h1' : (q.1 : Rat) ≤ v := by simpa using h1
        grind
      rw [e, seg_hi (ascX_head ha)]
      show _ = segV q r _
      rw [seg_lo (ascX_head (ascX_tail ha))]
    · rw [if_neg hv, ih]; rfl
theorem valC_knot {l : Pts} (ha : ascX l) (h2 : 2 ≤ l.length) {k : Nat} (hk : k < l.length) : valC l (l[k].1 : Rat) = (l[k].2 : Rat) := by
  cases k with
  | zero =>
    rw [valC_at ha (k := 0) ⟨by omega, Rat.le_refl, Rat.le_of_lt (cast_lt (ha 0 (by omega)))⟩]
    exact seg_lo (ha 0 (by omega))
  | succ k =>
    rw [valC_at ha (k := k) ⟨hk, Rat.le_of_lt (cast_lt (ha k hk)), Rat.le_refl⟩]
    exact seg_hi (ha k hk)
end Go.Proofs.YtlbnibicehpobaaGreatDoor.Z
