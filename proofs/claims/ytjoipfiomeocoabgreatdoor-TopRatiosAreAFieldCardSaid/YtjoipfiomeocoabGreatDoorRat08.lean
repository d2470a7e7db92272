/- Rational numbers: what the program's own parts return, as plain mathematics. -/
import Derived.Test.YtjoipfiomeocoabGreatDoorRat03
import Derived.Lib.IndexMore
import Derived.Lib.Strings
set_option linter.unusedVariables false
set_option linter.unusedSimpArgs false
namespace Go.Proofs.YtjoipfiomeocoabGreatDoor
open Go.RowKit
open Z

theorem index_slash : ∀ l : List UInt8, Lib.index l [47] = if parted l = true then ((top l).length : Int) else -1
  | [] => rfl
  | c :: r => by
    have ih := index_slash r
    by_cases hc : c = 47
    · subst hc
      unfold Lib.index parted top
      simp [List.isPrefixOf]
    · have h1 : [47].isPrefixOf (c :: r) = false := by
        have : ¬ (47 : UInt8) = c := fun e => hc e.symm
        simp [List.isPrefixOf, this]
      have h2 : parted (c :: r) = parted r := by
        unfold parted
        have : ¬ (47 : UInt8) = c := fun e => hc e.symm
        simp [this]
      have h3 : (top (c :: r)).length = (top r).length + 1 := by
        have : (c != 47) = true := by simpa using hc
        unfold top; rw [List.takeWhile_cons, if_pos this, List.length_cons]
      unfold Lib.index
      rw [h1, ih, h2, h3]
      cases parted r with
      | false => simp
      | true =>
        have : (((top r).length : Int) == -1) = false := by rw [beq_eq_false_iff_ne]; omega
        simp [this]
theorem cut_slash (l : List UInt8) : Lib.cut l [47] = (top l, if parted l = true then bot l else [], parted l) := by
  unfold Lib.cut
  rw [index_slash]
  cases hp : parted l with
  | false =>
    rw [if_neg (by simp), (unparted_top hp).1]; simp
  | true =>
    simp only [if_true]
    rw [if_pos (by omega)]
    have h := parted_split hp
    have h1 : l.take (top l).length = top l := by conv => lhs; rw [h]; rw [List.take_left' (by
      have := congrArg (fun x => (top x).length) h; exact this)]
    have h2 : l.drop ((top l).length + 1) = bot l := by
      have e : ∀ a b : List UInt8, (a ++ 47 :: b).drop (a.length + 1) = b := by
        intro a b
        have := List.drop_left' (l₁ := a ++ [47]) (l₂ := b) (i := a.length + 1) (by simp)
        rwa [List.append_assoc] at this
      have := e (top l) (bot l)
      rw [← h] at this
      exact this
    simp [h1, h2]
/-- the first error of several -/
def firstE : List Int → Int
  | [] => 0
  | e :: r => if e = 0 then firstE r else e
theorem firstE_at : ∀ {l : List Int} {k : Nat} (hk : k < l.length), (∀ j (hj : j < l.length), j < k → l[j] = 0) → l[k] ≠ 0 → firstE l = l[k]
  | e :: r, 0, hk, _, hne => by unfold firstE; rw [if_neg (by simpa using hne)]; rfl
  | e :: r, k + 1, hk, h, hne => by
    have h0 : e = 0 := by have := h 0 (by simp) (by omega); simpa using this
    have ih := firstE_at (l := r) (k := k) (by simpa using hk) (fun j hj hjk => by have := h (j + 1) (by simpa using hj) (by omega); simpa using this) (by simpa using hne)
    unfold firstE
    rw [if_pos h0, ih]; rfl
theorem firstE_all : ∀ {l : List Int}, (∀ j (hj : j < l.length), l[j] = 0) → firstE l = 0
  | [], _ => rfl
  | e :: r, h => by
    have h0 : e = 0 := by have := h 0 (by simp); simpa using this
    unfold firstE
    rw [if_pos h0]
    exact firstE_all fun j hj => by have := h (j + 1) (by simpa using hj); simpa using this
theorem first2 (a b : Int) : firstE [a, b] = if a = 0 then b else a := by
  unfold firstE firstE firstE
  by_cases h : a = 0
  · rw [if_pos h, if_pos h]; split <;> simp_all
  · rw [if_neg h, if_neg h]
theorem first3 (a b c : Int) : firstE [a, b, c] = if a = 0 then (if b = 0 then c else b) else a := by
  rw [show firstE [a, b, c] = if a = 0 then firstE [b, c] else a from rfl, first2]
/-- a sum or a difference of two products, and the product of the denominators -/
def joinN (f : Int → Int → Int) (x y : Int) : ByteArray × Int := opR (longR x).1 (longR y).1 fun a b => longR (f a b)
def joinE (f : Int → Int → Int) (x y d : Int) : Int := firstE [firstE [(longR x).2, (longR y).2], (joinN f x y).2, (longR d).2]
theorem longR_2 (x : Int) : (longR x).2 = if lg x = true then 23 else 0 := by rw [longR_lg]; split <;> rfl
theorem join_big (f : Int → Int → Int) (x y d : Int) (h : lg x = true ∨ lg y = true) : joinE f x y d = 23 := by
  unfold joinE
  rw [first3, first2, longR_2, longR_2]
  cases hx : lg x <;> cases hy : lg y <;> simp_all
theorem join_small (f : Int → Int → Int) (x y d : Int) (hx : lg x = false) (hy : lg y = false) :
    joinN f x y = longR (f x y) ∧ joinE f x y d = (if lg (f x y) = true then 23 else if lg d = true then 23 else 0) := by
  have e1 : joinN f x y = longR (f x y) := by
    unfold joinN
    rw [longR_lg x, longR_lg y, hx, hy]
    simp only [Bool.false_eq_true, if_false]
    unfold opR
    have c1 : chk (Tx x).data.toList = 0 := by rw [chk_Tx, if_neg (by have := lg_false.1 hx; omega)]
    have c2 : chk (Tx y).data.toList = 0 := by rw [chk_Tx, if_neg (by have := lg_false.1 hy; omega)]
    have hb : both (Tx x) (Tx y) = 0 := by unfold both; rw [if_pos c1, c2]
    rw [if_pos hb, data_Tx, data_Tx, ival_itoa, ival_itoa]
  refine ⟨e1, ?_⟩
  unfold joinE
  rw [first3, first2, longR_2, longR_2, e1, longR_2, longR_2, hx, hy]
  cases lg (f x y) <;> simp
/-- .. as it is asked for in sums and differences -/
theorem add_join (a b : Rat) : (joinE (· + ·) (a.num * b.den) (b.num * a.den) ((a.den : Int) * b.den) = 23 ∧ addR a b = (⟨#[]⟩, 23)) ∨
    (joinE (· + ·) (a.num * b.den) (b.num * a.den) ((a.den : Int) * b.den) = 0 ∧ addR a b = (RT (a + b), 0) ∧ (joinN (· + ·) (a.num * b.den) (b.num * a.den)).1 = Tx (a.num * b.den + b.num * a.den) ∧ (longR ((a.den : Int) * b.den)).1 = Tx ((a.den : Int) * b.den) ∧ lg (a.num * b.den + b.num * a.den) = false ∧ lg ((a.den : Int) * b.den) = false) := by
  unfold addR crossL
  cases hx : lg (a.num * b.den)
  · cases hy : lg (b.num * a.den)
    · obtain ⟨e1, e2⟩ := join_small (· + ·) _ _ ((a.den : Int) * b.den) hx hy
      rw [e2, e1]
      simp only [longR_lg]
      cases hz : lg (a.num * b.den + b.num * a.den) <;> cases hd : lg ((a.den : Int) * b.den) <;> simp
    · left; exact ⟨join_big _ _ _ _ (.inr hy), by simp⟩
  · left; exact ⟨join_big _ _ _ _ (.inl hx), by simp⟩
theorem sub_join (a b : Rat) : (joinE (· - ·) (a.num * b.den) (b.num * a.den) ((a.den : Int) * b.den) = 23 ∧ subR a b = (⟨#[]⟩, 23)) ∨
    (joinE (· - ·) (a.num * b.den) (b.num * a.den) ((a.den : Int) * b.den) = 0 ∧ subR a b = (RT (a - b), 0) ∧ (joinN (· - ·) (a.num * b.den) (b.num * a.den)).1 = Tx (a.num * b.den - b.num * a.den) ∧ (longR ((a.den : Int) * b.den)).1 = Tx ((a.den : Int) * b.den) ∧ lg (a.num * b.den - b.num * a.den) = false ∧ lg ((a.den : Int) * b.den) = false) := by
  unfold subR crossL
  cases hx : lg (a.num * b.den)
  · cases hy : lg (b.num * a.den)
    · obtain ⟨e1, e2⟩ := join_small (· - ·) _ _ ((a.den : Int) * b.den) hx hy
      rw [e2, e1]
      simp only [longR_lg]
      cases hz : lg (a.num * b.den - b.num * a.den) <;> cases hd : lg ((a.den : Int) * b.den) <;> simp
    · left; exact ⟨join_big _ _ _ _ (.inr hy), by simp⟩
  · left; exact ⟨join_big _ _ _ _ (.inl hx), by simp⟩
/-- both parts of a product -/
def timesE (x y : Int) : Int := firstE [(longR x).2, (longR y).2]
theorem times_cases (x y : Int) : (timesE x y = 23 ∧ (lg x || lg y) = true) ∨ (timesE x y = 0 ∧ (lg x || lg y) = false ∧ (longR x).1 = Tx x ∧ (longR y).1 = Tx y ∧ lg x = false ∧ lg y = false) := by
  unfold timesE
  rw [first2, longR_2, longR_2, longR_lg, longR_lg]
  cases lg x <;> cases lg y <;> simp
theorem longR_size (x : Int) : (longR x).1.size ≤ 5000 := by
  rw [longR_lg]
  cases h : lg x
  · have := lg_false.1 h
    show (Tx x).size ≤ 5000
    rw [size_Tx, itoa_length]; split <;> omega
  · show 0 ≤ 5000; omega
theorem hasMinus (a : Int) : Lib.hasPrefix (Tx a).data.toList [45] = decide (a < 0) := by
  have h := head_itoa a
  rw [data_Tx]
  unfold Lib.hasPrefix
  cases hl : Lib.itoa a with
  | nil => rw [hl] at h; simp at h; simp; omega
  | cons c r =>
    rw [hl] at h
    simp only [List.head?_cons, Option.some.injEq] at h
    by_cases hc : c = 45
    · have := h.1 hc
      subst hc
      simp [List.isPrefixOf, this]
    · have h2 : ¬ (45 : UInt8) = c := fun e => hc e.symm
      have : ¬ a < 0 := fun e => hc (h.2 e)
      simp [List.isPrefixOf, h2, this]
/-- what the check of a fraction with a slash asks, at the codes of its two parts -/
theorem chk2_parted {l : List UInt8} (hp : parted l = true) : chk2 l =
    if chk (top l) = 3 ∨ chk (bot l) = 3 then 3 else if ival (bot l) ≤ 0 ∨ ival (bot l) = 1 then 3 else if chk (top l) ≠ 0 ∨ chk (bot l) ≠ 0 then 23 else if Nat.gcd (ival (top l)).natAbs (ival (bot l)).natAbs ≠ 1 then 3 else 0 := by
  have c3 : ∀ m : List UInt8, chk m = 3 ↔ formB m = false := by
    intro m; unfold chk
    cases formB m with
    | false => simp
    | true => simp only [if_true]; split <;> simp
  have c0 : ∀ m : List UInt8, formB m = true → (chk m ≠ 0 ↔ 4096 < (body m).length) := by
    intro m hm; unfold chk
    rw [if_pos hm]; split <;> simp_all
  unfold chk2
  by_cases h1 : formB (top l) = false ∨ formB (bot l) = false
  · rw [if_pos h1, if_pos (by rw [c3, c3]; exact h1)]
  · have hn : ¬ (chk (top l) = 3 ∨ chk (bot l) = 3) := by rw [c3, c3]; exact h1
    have f1 : formB (top l) = true := by cases h : formB (top l) <;> simp_all
    have f2 : formB (bot l) = true := by cases h : formB (bot l) <;> simp_all
    have e1 : (chk (top l) ≠ 0 ∨ chk (bot l) ≠ 0) ↔ (4096 < (body (top l)).length ∨ 4096 < (body (bot l)).length) := by rw [c0 _ f1, c0 _ f2]
    rw [if_neg h1, if_neg hn]
    simp only [hp, true_and]
    by_cases h2 : ival (bot l) ≤ 0 ∨ ival (bot l) = 1
    · rw [if_pos h2, if_pos h2]
    · rw [if_neg h2, if_neg h2]
      by_cases h3 : 4096 < (body (top l)).length ∨ 4096 < (body (bot l)).length
      · rw [if_pos h3, if_pos (e1.2 h3)]
      · rw [if_neg h3, if_neg (fun h => h3 (e1.1 h))]
theorem chk2_unparted {l : List UInt8} (hp : parted l = false) : chk2 l = chk l := by
  unfold chk2 chk
  rw [(unparted_top hp).1, (unparted_top hp).2, hp]
  have : formB [49] = true := by decide
  rw [this]
  cases formB l with
  | false => simp
  | true =>
    have : (body [49]).length = 1 := by decide
    rw [this]
    simp
end Go.Proofs.YtjoipfiomeocoabGreatDoor
