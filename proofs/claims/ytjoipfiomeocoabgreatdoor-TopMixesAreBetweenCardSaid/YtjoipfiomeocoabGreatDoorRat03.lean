/- Rational numbers of few digits: what the operations return for them. -/
import Derived.Test.YtjoipfiomeocoabGreatDoorRat02
set_option linter.unusedVariables false
set_option linter.unusedSimpArgs false
namespace Go.Proofs.YtjoipfiomeocoabGreatDoor
open Go.RowKit
open Z

/-- numerator and denominator of up to k digits -/
def Sh (k : Nat) (r : Rat) : Prop := Lib.nDigits r.num.natAbs ≤ k ∧ Lib.nDigits r.den ≤ k
theorem Sh.mono {k k' : Nat} {r : Rat} (h : Sh k r) (hk : k ≤ k') : Sh k' r := ⟨Nat.le_trans h.1 hk, Nat.le_trans h.2 hk⟩
theorem Sh.inR {k : Nat} {r : Rat} (h : Sh k r) (hk : k ≤ 4096) : InR r := ⟨Nat.le_trans h.1 hk, Nat.le_trans h.2 hk⟩
theorem InR.sh {r : Rat} (h : InR r) : Sh 4096 r := h
theorem Sh.divInt {k : Nat} {p q : Int} (hq : q ≠ 0) (hp : Lib.nDigits p.natAbs ≤ k) (hq' : Lib.nDigits q.natAbs ≤ k) : Sh k (Rat.divInt p q) :=
  ⟨Nat.le_trans (nDigits_mono (num_le hq)) hp, Nat.le_trans (nDigits_mono (den_le hq)) hq'⟩
theorem nd_mul {k k' : Nat} {x y : Int} (h : Lib.nDigits x.natAbs ≤ k) (h' : Lib.nDigits y.natAbs ≤ k') (hk : 1 ≤ k) (hk' : 1 ≤ k') : Lib.nDigits (x * y).natAbs ≤ k + k' := by
  have h1 := (nDigits_le_iff _ k hk).1 h
  have h2 := (nDigits_le_iff _ k' hk').1 h'
  refine (nDigits_le_iff _ (k + k') (by omega)).2 ?_
  rw [Int.natAbs_mul, Nat.pow_add]
  exact Nat.mul_lt_mul'' h1 h2
theorem nd_add {k : Nat} {x y : Int} (h : Lib.nDigits x.natAbs ≤ k) (h' : Lib.nDigits y.natAbs ≤ k) (hk : 1 ≤ k) : Lib.nDigits (x + y).natAbs ≤ k + 1 := by
  have h1 := (nDigits_le_iff _ k hk).1 h
  have h2 := (nDigits_le_iff _ k hk).1 h'
  refine (nDigits_le_iff _ (k + 1) (by omega)).2 ?_
  rw [Nat.pow_succ]
  have := Int.natAbs_add_le x y
  omega
theorem nd_sub {k : Nat} {x y : Int} (h : Lib.nDigits x.natAbs ≤ k) (h' : Lib.nDigits y.natAbs ≤ k) (hk : 1 ≤ k) : Lib.nDigits (x - y).natAbs ≤ k + 1 := by
  rw [Int.sub_eq_add_neg]; exact nd_add h (by rwa [Int.natAbs_neg]) hk
theorem Sh.pos {k : Nat} {r : Rat} (h : Sh k r) : 1 ≤ k := Nat.le_trans (Lib.nDigits_pos _) h.2
theorem Sh.d {k : Nat} {r : Rat} (h : Sh k r) : Lib.nDigits (r.den : Int).natAbs ≤ k := by rw [Int.natAbs_natCast]; exact h.2
theorem den_ne (r : Rat) : (r.den : Int) ≠ 0 := by have := r.den_nz; omega
theorem dens_ne (a b : Rat) : (a.den : Int) * b.den ≠ 0 := Int.mul_ne_zero (den_ne a) (den_ne b)
theorem Sh.add {k k' : Nat} {a b : Rat} (ha : Sh k a) (hb : Sh k' b) : Sh (k + k' + 1) (a + b) := by
  rw [add_parts]
  have := ha.pos; have := hb.pos
  refine .divInt (dens_ne a b) (nd_add (nd_mul ha.1 hb.d ha.pos hb.pos) ?_ (by omega)) (Nat.le_succ_of_le (nd_mul ha.d hb.d ha.pos hb.pos))
  rw [Nat.add_comm]; exact nd_mul hb.1 ha.d hb.pos ha.pos
theorem Sh.sub {k k' : Nat} {a b : Rat} (ha : Sh k a) (hb : Sh k' b) : Sh (k + k' + 1) (a - b) := by
  rw [sub_parts]
  have := ha.pos; have := hb.pos
  refine .divInt (dens_ne a b) (nd_sub (nd_mul ha.1 hb.d ha.pos hb.pos) ?_ (by omega)) (Nat.le_succ_of_le (nd_mul ha.d hb.d ha.pos hb.pos))
  rw [Nat.add_comm]; exact nd_mul hb.1 ha.d hb.pos ha.pos
theorem Sh.mul {k k' : Nat} {a b : Rat} (ha : Sh k a) (hb : Sh k' b) : Sh (k + k') (a * b) := by
  rw [mul_parts]
  exact .divInt (dens_ne a b) (nd_mul ha.1 hb.1 ha.pos hb.pos) (nd_mul ha.d hb.d ha.pos hb.pos)
theorem num_ne {b : Rat} (h : b ≠ 0) : b.num ≠ 0 := fun e => h (Rat.num_eq_zero.1 e)
theorem Sh.div {k k' : Nat} {a b : Rat} (ha : Sh k a) (hb : Sh k' b) (h0 : b ≠ 0) : Sh (k + k') (a / b) := by
  rw [div_parts]
  exact .divInt (Int.mul_ne_zero (den_ne a) (num_ne h0)) (nd_mul ha.1 hb.d ha.pos hb.pos) (nd_mul ha.d hb.1 ha.pos hb.pos)
theorem Sh.neg {k : Nat} {a : Rat} (ha : Sh k a) : Sh k (-a) := ⟨by rw [Rat.neg_num, Int.natAbs_neg]; exact ha.1, ha.2⟩
theorem cross_sh {k k' : Nat} {a b : Rat} (ha : Sh k a) (hb : Sh k' b) (hk : k + k' ≤ 4096) : crossL a b = false := by
  unfold crossL
  rw [lg_false.2 (Nat.le_trans (nd_mul ha.1 hb.d ha.pos hb.pos) hk), lg_false.2 (Nat.le_trans (nd_mul hb.1 ha.d hb.pos ha.pos) (by omega))]; rfl
theorem addR_sh {k k' : Nat} {a b : Rat} (ha : Sh k a) (hb : Sh k' b) (hk : k + k' + 1 ≤ 4096) : addR a b = (RT (a + b), 0) := by
  unfold addR
  rw [cross_sh ha hb (by omega), lg_false.2 (Nat.le_trans (nd_add (k := k + k') (nd_mul ha.1 hb.d ha.pos hb.pos) (by rw [Nat.add_comm]; exact nd_mul hb.1 ha.d hb.pos ha.pos) (by have := ha.pos; omega)) hk), lg_false.2 (Nat.le_trans (nd_mul ha.d hb.d ha.pos hb.pos) (by omega))]; rfl
theorem subR_sh {k k' : Nat} {a b : Rat} (ha : Sh k a) (hb : Sh k' b) (hk : k + k' + 1 ≤ 4096) : subR a b = (RT (a - b), 0) := by
  unfold subR
  rw [cross_sh ha hb (by omega), lg_false.2 (Nat.le_trans (nd_sub (k := k + k') (nd_mul ha.1 hb.d ha.pos hb.pos) (by rw [Nat.add_comm]; exact nd_mul hb.1 ha.d hb.pos ha.pos) (by have := ha.pos; omega)) hk), lg_false.2 (Nat.le_trans (nd_mul ha.d hb.d ha.pos hb.pos) (by omega))]; rfl
theorem mulR_sh {k k' : Nat} {a b : Rat} (ha : Sh k a) (hb : Sh k' b) (hk : k + k' ≤ 4096) : mulR a b = (RT (a * b), 0) := by
  unfold mulR
  rw [lg_false.2 (Nat.le_trans (nd_mul ha.1 hb.1 ha.pos hb.pos) hk), lg_false.2 (Nat.le_trans (nd_mul ha.d hb.d ha.pos hb.pos) hk)]; rfl
theorem divR_sh {k k' : Nat} {a b : Rat} (ha : Sh k a) (hb : Sh k' b) (hk : k + k' ≤ 4096) (h0 : b ≠ 0) : divR a b = (RT (a / b), 0) := by
  unfold divR
  rw [if_neg h0, lg_false.2 (Nat.le_trans (nd_mul ha.1 hb.d ha.pos hb.pos) hk), lg_false.2 (Nat.le_trans (nd_mul ha.d hb.1 ha.pos hb.pos) hk)]; rfl
theorem cmp2_sh {k k' : Nat} {a b : Rat} (ha : Sh k a) (hb : Sh k' b) (hk : k + k' ≤ 4096) : cmp2 (RT a) (RT b) = (cmpQ a b, 0) := by
  have := ha.pos; have := hb.pos
  rw [cmp2_ok (ha.inR (by omega)) (hb.inR (by omega)), cross_sh ha hb hk]; rfl
theorem negR_ok {a : Rat} (ha : InR a) : negR (RT a) = (RT (-a), 0) := by unfold negR; rw [if_pos (chkS_RT ha), rv_RT]
theorem floorR_ok {a : Rat} (ha : InR a) : floorR (RT a) = (Tx a.floor, 0) := by unfold floorR; rw [if_pos (chkS_RT ha), rv_RT]
theorem roundR_ok {a : Rat} (ha : InR a) : roundR (RT a) = (Tx (nearest a), 0) := by unfold roundR; rw [if_pos (chkS_RT ha), rv_RT]
theorem floor_abs (a : Rat) : a.floor.natAbs ≤ a.num.natAbs := by
  rw [← floor_parts]; exact fdiv_natAbs_le _ _ (den_ne a)
/-- 0 - a needs no more digits than a -/
theorem neg_sub0 {a : Rat} (ha : InR a) : op2 (Tx 0) (RT a) subR = negR (RT a) := by
  have h0 : InR 0 := ⟨by rw [Rat.zero_num, Lib.nDigits_small (by decide)]; omega, by rw [Rat.zero_den, Lib.nDigits_small (by decide)]; omega⟩
  have e0 : Tx 0 = RT 0 := (RT_int 0).symm
  rw [e0, op2_ok h0 ha, negR_ok ha]
  unfold subR crossL
  have z : lg 0 = false := lg_false.2 h0.1
  rw [Rat.zero_num, Rat.zero_den, Int.zero_mul, Int.zero_sub, z, show ((1 : Nat) : Int) = 1 from rfl, Int.mul_one, Int.one_mul, ha.num, ha.den, lg_mono (x := a.num) (by omega) ha.num, Rat.sub_eq_add_neg, Rat.zero_add]; rfl
theorem nearest_in {a : Rat} (ha : InR a) : lg (nearest a) = false ∧ lg a.floor = false ∧ lg ((a.den : Int) - a.num.fmod a.den) = false ∧ lg (a.num.fmod a.den) = false := by
  have hf := lg_mono (floor_abs a) ha.num
  have hd := den_pos a
  have h0 := Int.fmod_nonneg_of_pos a.num hd
  have h1 := Int.fmod_lt_of_pos a.num hd
  refine ⟨?_, hf, lg_mono (by omega) ha.den, lg_mono (by omega) ha.den⟩
  rw [round_parts]
  split
  · rw [floor_parts]; exact hf
  · rename_i hge
    have h2 : ¬ a.den = 1 := by
      intro e
      have : (a.den : Int) = 1 := by omega
      rw [this] at hge h1 h0; omega
    have hm := Int.mul_fdiv_add_fmod a.num a.den
    by_cases hz : a.num = 0
    · rw [hz, Int.zero_fdiv]
      exact lg_false.2 (by rw [show ((0 : Int) + 1).natAbs = 1 from rfl, Lib.nDigits_small (by decide)]; omega)
    · refine lg_mono ?_ ha.num
      generalize a.num.fdiv a.den = q at *
      generalize a.num.fmod a.den = m at *
      have h3 : (2 : Int) ≤ a.den := by omega
      generalize (a.den : Int) = d at *
      generalize a.num = n at *
      by_cases hq : 0 ≤ q
      · have : 2 * q ≤ d * q := Int.mul_le_mul_of_nonneg_right h3 hq
        omega
      · have h5 : d * (q + 1) ≤ 2 * (q + 1) := Int.mul_le_mul_of_nonpos_right h3 (by omega)
        rw [Int.mul_add, Int.mul_one] at h5
        omega
/-- a right text of up to k bytes is that of a number of up to k digits -/
theorem text_sh {s : ByteArray} {k : Nat} (h : chkS s = 0) (hs : s.size ≤ k) : ∃ r : Rat, s = RT r ∧ Sh k r ∧ rv s = r := by
  rcases chkS_cases s with h1 | ⟨r, rfl, _⟩
  · exact absurd h h1
  · refine ⟨r, rfl, ?_, rv_RT r⟩
    have h2 : (RT r).size = (RT r).data.toList.length := by show (RT r).data.size = _; simp
    rw [h2, data_RT] at hs
    have h3 := itoa_length r.num
    have h4 := itoa_length (r.den : Int)
    rw [Int.natAbs_natCast] at h4
    unfold Sh
    by_cases hd : r.den = 1
    · rw [if_pos hd] at hs
      have := Lib.nDigits_pos r.num.natAbs
      have e1 : Lib.nDigits r.den = 1 := by rw [hd]; exact Lib.nDigits_small (by decide)
      rw [e1]
      split at h3 <;> omega
    · rw [if_neg hd] at hs
      simp only [List.length_append, List.length_cons] at hs
      split at h3 <;> split at h4 <;> omega
theorem RT_size {k : Nat} {r : Rat} (h : Sh k r) : (RT r).size ≤ 2 * k + 2 := by
  have h2 : (RT r).size = (RT r).data.toList.length := by show (RT r).data.size = _; simp
  rw [h2, data_RT]
  have h3 := itoa_length r.num
  have h4 := itoa_length (r.den : Int)
  rw [Int.natAbs_natCast] at h4
  have := h.1; have := h.2
  split
  · split at h3 <;> omega
  · simp only [List.length_append, List.length_cons]
    split at h3 <;> split at h4 <;> omega
theorem RT_len {r : Rat} (h : InR r) : (RT r).size ≤ 900000 := by have := RT_size h.sh; omega
/-- literals -/
theorem RT_rv {s : ByteArray} (h : chkS s = 0) : RT (rv s) = s := by
  rcases chkS_cases s with h1 | ⟨r, rfl, _⟩
  · exact absurd h h1
  · rw [rv_RT]
theorem lit_op {s t u : ByteArray} {f : Rat → Rat → ByteArray × Int} {g : Rat → Rat → Rat} (hf : ∀ a b : Rat, Sh 100 a → Sh 100 b → f a b = (RT (g a b), 0)) (hs : chkS s = 0) (ht : chkS t = 0) (hu : chkS u = 0) (ls : s.size ≤ 100) (lt : t.size ≤ 100)
    (he : g (rv s) (rv t) = rv u) : op2 s t f = (u, 0) := by
  obtain ⟨a, rfl, ha, ea⟩ := text_sh hs ls
  obtain ⟨b, rfl, hb, eb⟩ := text_sh ht lt
  rw [op2_ok (ha.inR (by omega)) (hb.inR (by omega)), hf a b ha hb, ← ea, ← eb, he, RT_rv hu]
theorem lit_addR {s t u : ByteArray} (hs : chkS s = 0) (ht : chkS t = 0) (hu : chkS u = 0) (ls : s.size ≤ 100) (lt : t.size ≤ 100) (he : rv s + rv t = rv u) : op2 s t addR = (u, 0) :=
  lit_op (g := fun a b => a + b) (fun a b ha hb => addR_sh ha hb (by omega)) hs ht hu ls lt he
theorem lit_subR {s t u : ByteArray} (hs : chkS s = 0) (ht : chkS t = 0) (hu : chkS u = 0) (ls : s.size ≤ 100) (lt : t.size ≤ 100) (he : rv s - rv t = rv u) : op2 s t subR = (u, 0) :=
  lit_op (g := fun a b => a - b) (fun a b ha hb => subR_sh ha hb (by omega)) hs ht hu ls lt he
theorem lit_mulR {s t u : ByteArray} (hs : chkS s = 0) (ht : chkS t = 0) (hu : chkS u = 0) (ls : s.size ≤ 100) (lt : t.size ≤ 100) (he : rv s * rv t = rv u) : op2 s t mulR = (u, 0) :=
  lit_op (g := fun a b => a * b) (fun a b ha hb => mulR_sh ha hb (by omega)) hs ht hu ls lt he
theorem lit_divR {s t u : ByteArray} (hs : chkS s = 0) (ht : chkS t = 0) (hu : chkS u = 0) (ls : s.size ≤ 100) (lt : t.size ≤ 100) (h0 : rv t ≠ 0) (he : rv s / rv t = rv u) : op2 s t divR = (u, 0) := by
  obtain ⟨a, rfl, ha, ea⟩ := text_sh hs ls
  obtain ⟨b, rfl, hb, eb⟩ := text_sh ht lt
  rw [op2_ok (ha.inR (by omega)) (hb.inR (by omega)), divR_sh ha hb (by omega) (by rw [← eb]; exact h0), ← ea, ← eb, he, RT_rv hu]
theorem lit_ofR {s t u : ByteArray} {a b : Int} (h : both s t = 0) (ha : ival s.data.toList = a) (hb : ival t.data.toList = b) (h0 : b ≠ 0) (hu : chkS u = 0) (he : Rat.divInt a b = rv u) : ofR s t = (u, 0) := by
  unfold ofR; rw [if_pos h, ha, hb, if_neg h0, he, RT_rv hu]
theorem lit_floorR {s u : ByteArray} (h : chkS s = 0) (hu : formB u.data.toList = true) (he : (rv s).floor = ival u.data.toList) : floorR s = (u, 0) := by
  unfold floorR; rw [if_pos h, he, Tx_ival u hu]
theorem lit_roundR {s u : ByteArray} (h : chkS s = 0) (hu : formB u.data.toList = true) (he : nearest (rv s) = ival u.data.toList) : roundR s = (u, 0) := by
  unfold roundR; rw [if_pos h, he, Tx_ival u hu]
example : op2 ⟨#[49, 47, 54]⟩ ⟨#[49, 47, 51]⟩ addR = (⟨#[49, 47, 50]⟩, 0) := lit_addR (by decide +kernel) (by decide +kernel) (by decide +kernel) (by decide) (by decide) (by decide +kernel)
end Go.Proofs.YtjoipfiomeocoabGreatDoor
