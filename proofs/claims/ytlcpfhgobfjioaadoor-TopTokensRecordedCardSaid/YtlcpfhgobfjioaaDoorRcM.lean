/- Plain mathematics of records: the groups of an int, texts, sums, records, lists of records. No program. -/
import Derived.RowKit
set_option linter.unusedVariables false
set_option linter.unusedSimpArgs false
namespace Go.Proofs.YtlcpfhgobfjioaaDoor.Rc
open Go

def bs (l : List UInt8) : ByteArray := ⟨l.toArray⟩
theorem data_bs (l : List UInt8) : (bs l).data.toList = l := by simp [bs]
/-- a byte -/
def by8 (n : Nat) : UInt8 := UInt8.ofNat n
theorem by8_toNat {n : Nat} (h : n < 256) : (by8 n).toNat = n := by unfold by8; rw [UInt8.toNat_ofNat']; omega
theorem by8_back (c : UInt8) : by8 c.toNat = c := UInt8.ofNat_toNat

/-- an int as a number without a sign -/
def zz (n : Int) : Nat := if n < 0 then 2 * (-(n + 1)).toNat + 1 else 2 * n.toNat
def unz (z : Nat) : Int := if z % 2 = 1 then -((z / 2 : Nat) : Int) - 1 else ((z / 2 : Nat) : Int)
theorem unz_zz (n : Int) : unz (zz n) = n := by
  unfold zz unz
  by_cases h : n < 0
  · rw [if_pos h, if_pos (by omega)]; omega
  · rw [if_neg h, if_neg (by omega)]; omega
theorem zz_lt {n : Int} (h1 : -9223372036854775808 ≤ n) (h2 : n < 9223372036854775808) : zz n < 18446744073709551616 := by
  unfold zz; split <;> omega

/-- the groups of a number -/
def gr (z : Nat) : List UInt8 := if h : z < 128 then [by8 z] else by8 (z % 128 + 128) :: gr (z / 128)
termination_by z
decreasing_by omega
theorem gr_small {z : Nat} (h : z < 128) : gr z = [by8 z] := by rw [gr, dif_pos h]
theorem gr_big {z : Nat} (h : ¬ z < 128) : gr z = by8 (z % 128 + 128) :: gr (z / 128) := by rw [gr, dif_neg h]
theorem gr_pos (z : Nat) : 1 ≤ (gr z).length := by
  by_cases h : z < 128
  · rw [gr_small h]; simp
  · rw [gr_big h]; simp
theorem gr_len (k : Nat) : ∀ (z : Nat), z < 128 * 128 ^ k → (gr z).length ≤ k + 1 := by
  induction k with
  | zero => intro z h; rw [gr_small (by omega)]; simp
  | succ k ih =>
    intro z h
    by_cases hz : z < 128
    · rw [gr_small hz]; simp
    · rw [gr_big hz, List.length_cons]
      have := ih (z / 128) (by rw [Nat.pow_succ] at h; omega)
      omega
theorem gr_len10 {z : Nat} (h : z < 18446744073709551616) : (gr z).length ≤ 10 := gr_len 9 z (by omega)

/-- the number whose groups begin a text: the number, how many groups, the number of the error; i groups and the number z so far -/
def rd (i z : Nat) : List UInt8 → Nat × Nat × Int
  | [] => (0, 0, 20)
  | c :: l =>
    if (i = 9 ∧ 1 < c.toNat) ∨ (0 < i ∧ c.toNat = 0) then (0, 0, 3)
    else if c.toNat < 128 then (z + c.toNat * 2 ^ (7 * i), i + 1, 0)
    else rd (i + 1) (z + (c.toNat - 128) * 2 ^ (7 * i)) l
theorem rd_gr (t : List UInt8) : ∀ (y i z : Nat), i ≤ 9 → y < 2 ^ (64 - 7 * i) → (0 < i → 0 < y) → rd i z (gr y ++ t) = (z + y * 2 ^ (7 * i), i + (gr y).length, 0) := by
  intro y
  induction y using Nat.strongRecOn with
  | _ y ih =>
    intro i z hi hy h0
    have h9 : i = 9 → y ≤ 1 := by rintro rfl; simp at hy; omega
    by_cases h : y < 128
    · rw [gr_small h, List.cons_append, List.nil_append, rd, by8_toNat (by omega), if_neg (by omega), if_pos h]; rfl
    · have h9' : i ≠ 9 := fun e => by have := h9 e; omega
      have hp : y / 128 < 2 ^ (64 - 7 * (i + 1)) := by
        have e : 2 ^ (64 - 7 * i) = 2 ^ (64 - 7 * (i + 1)) * 128 := by
          rw [show (128 : Nat) = 2 ^ 7 from rfl, ← Nat.pow_add]; congr 1; omega
        rw [e] at hy
        exact Nat.div_lt_of_lt_mul (by rwa [Nat.mul_comm] at hy)
      rw [gr_big h, List.cons_append, rd, by8_toNat (by omega), if_neg (by omega), if_neg (by omega), ih (y / 128) (by omega) (i + 1) _ (by omega) hp (fun _ => by omega)]
      have e2 : 2 ^ (7 * (i + 1)) = 128 * 2 ^ (7 * i) := by rw [show 7 * (i + 1) = 7 + 7 * i by omega, Nat.pow_add]
      have e3 : z + (y % 128 + 128 - 128) * 2 ^ (7 * i) + y / 128 * 2 ^ (7 * (i + 1)) = z + y * 2 ^ (7 * i) := by
        rw [e2, Nat.add_sub_cancel, Nat.add_assoc, ← Nat.mul_assoc, ← Nat.add_mul]
        congr 2; omega
      rw [e3, List.length_cons, show i + 1 + (gr (y / 128)).length = i + ((gr (y / 128)).length + 1) by omega]
theorem rd_torn (i z : Nat) : rd i z [] = (0, 0, 20) := rfl

/-- the int at an offset: the int, the offset behind it, the number of the error -/
def getI (l : List UInt8) (at_ : Int) : Int × Int × Int :=
  if at_ < 0 ∨ (l.length : Int) < at_ then (0, 0, 2)
  else let r := rd 0 0 (l.drop at_.toNat)
    if r.2.2 = 0 then (unz r.1, at_ + r.2.1, 0) else (0, 0, r.2.2)
def int8 (n : Int) : List UInt8 := gr (zz n)
theorem getI_at (p t : List UInt8) (n : Int) (h1 : -9223372036854775808 ≤ n) (h2 : n < 9223372036854775808) :
    getI (p ++ (int8 n ++ t)) p.length = (n, ((p.length + (int8 n).length : Nat) : Int), 0) := by
  unfold getI int8
  rw [if_neg (by simp; omega)]
  have h := rd_gr t (zz n) 0 0 (by omega) (by have := zz_lt h1 h2; simp; omega) (fun h => absurd h (by omega))
  simp only [Int.toNat_natCast, List.drop_left', h, if_true, Nat.mul_zero, Nat.pow_zero, Nat.mul_one, Nat.zero_add, unz_zz]
  simp
theorem getI_end (l : List UInt8) : getI l l.length = (0, 0, 20) := by
  unfold getI
  rw [if_neg (by omega)]
  simp [rd]
theorem int8_len {n : Int} (h1 : -9223372036854775808 ≤ n) (h2 : n < 9223372036854775808) : (int8 n).length ≤ 10 := gr_len10 (zz_lt h1 h2)
theorem int8_pos (n : Int) : 1 ≤ (int8 n).length := gr_pos _

/-- the bytes of a text -/
def txt (t : List UInt8) : List UInt8 := int8 t.length ++ t
/-- the text at an offset -/
def getT (l : List UInt8) (at_ : Int) : List UInt8 × Int × Int :=
  let g := getI l at_
  if g.2.2 ≠ 0 then ([], 0, g.2.2)
  else if g.1 < 0 ∨ 65535 < g.1 then ([], 0, 3)
  else if (l.length : Int) - g.2.1 < g.1 then ([], 0, 20)
  else ((l.drop g.2.1.toNat).take g.1.toNat, g.2.1 + g.1, 0)
theorem getT_at (p t q : List UInt8) (h : t.length ≤ 65535) : getT (p ++ (txt t ++ q)) p.length = (t, ((p.length + (txt t).length : Nat) : Int), 0) := by
  unfold getT txt
  have e : p ++ (int8 t.length ++ t ++ q) = p ++ (int8 t.length ++ (t ++ q)) := by simp
  rw [e, getI_at p (t ++ q) t.length (by omega) (by omega)]
  simp only [ne_eq, not_true_eq_false, if_false]
  rw [if_neg (by omega), if_neg (by simp; omega)]
  have e2 : p ++ (int8 ↑t.length ++ (t ++ q)) = (p ++ int8 ↑t.length) ++ (t ++ q) := by simp
  simp only [Prod.mk.injEq, Int.toNat_natCast, and_true]
  refine ⟨?_, by simp; omega⟩
  rw [e2, List.drop_left' (by simp)]
  simp

/-- the two sums -/
def sP (l : List UInt8) : Nat × Nat := l.foldl (fun p c => ((p.1 + c.toNat) % 255, (p.2 + (p.1 + c.toNat) % 255) % 255)) (0, 0)
def sm (l : List UInt8) : Nat := 256 * (sP l).2 + (sP l).1
theorem sP_snoc (l : List UInt8) (c : UInt8) : sP (l ++ [c]) = (((sP l).1 + c.toNat) % 255, ((sP l).2 + ((sP l).1 + c.toNat) % 255) % 255) := by unfold sP; simp
theorem sP_lt (l : List UInt8) : (sP l).1 < 255 ∧ (sP l).2 < 255 := by
  rcases List.eq_nil_or_concat l with rfl | ⟨t, c, rfl⟩
  · exact ⟨by decide, by decide⟩
  · rw [List.concat_eq_append, sP_snoc]; exact ⟨Nat.mod_lt _ (by decide), Nat.mod_lt _ (by decide)⟩
theorem sm_lt (l : List UInt8) : sm l < 65536 := by have := sP_lt l; unfold sm; omega
theorem snocInd {P : List UInt8 → Prop} (h0 : P []) (h1 : ∀ l c, P l → P (l ++ [c])) (l : List UInt8) : P l := by
  have : ∀ n (l : List UInt8), l.length = n → P l := by
    intro n
    induction n with
    | zero => intro l h; rw [List.length_eq_zero_iff.1 h]; exact h0
    | succ n ih =>
      intro l h
      rcases List.eq_nil_or_concat l with rfl | ⟨t, c, rfl⟩
      · simp at h
      · rw [List.concat_eq_append] at h ⊢; exact h1 t c (ih t (by simp at h; omega))
  exact this _ l rfl
theorem sP_append (s t : List UInt8) : (sP (s ++ t)).1 = ((sP s).1 + (sP t).1) % 255 ∧ (sP (s ++ t)).2 = ((sP s).2 + (sP t).2 + t.length * (sP s).1) % 255 := by
  refine snocInd (P := fun t => (sP (s ++ t)).1 = ((sP s).1 + (sP t).1) % 255 ∧ (sP (s ++ t)).2 = ((sP s).2 + (sP t).2 + t.length * (sP s).1) % 255) ?_ (fun t c ih => ?_) t
  · have := sP_lt s; simp [sP] at this ⊢; omega
  · rw [← List.append_assoc, sP_snoc, sP_snoc, ih.1, ih.2, List.length_append]
    have e : (t.length + [c].length) * (sP s).1 = t.length * (sP s).1 + (sP s).1 := by simp [Nat.add_mul]
    rw [e]
    generalize t.length * (sP s).1 = m
    constructor
    · simp only []; omega
    · simp only []; omega

/-- two bytes of a number -/
def two (n : Nat) : List UInt8 := [by8 (n / 256), by8 (n % 256)]
abbrev E := Int × ByteArray
/-- the bytes of a record ahead of its sum -/
def hd (k : Nat) (d : List UInt8) : List UInt8 := by8 k :: (two d.length ++ d)
def pk (k : Nat) (d : List UInt8) : List UInt8 := hd k d ++ two (sm (hd k d))
def pkE (x : E) : List UInt8 := pk x.1.toNat x.2.data.toList
/-- the number of the error of a record -/
def chkE (x : E) : Int := if x.1 < 0 ∨ 255 < x.1 then 2 else if 65535 < x.2.size then 13 else 0
theorem hd_len (k : Nat) (d : List UInt8) : (hd k d).length = 3 + d.length := by simp [hd, two]; omega
theorem pk_len (k : Nat) (d : List UInt8) : (pk k d).length = 5 + d.length := by simp [pk, hd_len, two]; omega
theorem sz (b : ByteArray) : b.data.toList.length = b.size := by simp

/-- the byte at a place, as a number -/
def bt (l : List UInt8) (i : Nat) : Nat := (l.getD i 0).toNat
/-- the record that begins a text -/
def nx (l : List UInt8) : E × Nat × Int :=
  if l.length < 5 then ((0, .empty), 0, 20)
  else let n := 256 * bt l 1 + bt l 2
    if l.length < 5 + n then ((0, .empty), 0, 20)
    else if 256 * bt l (3 + n) + bt l (4 + n) ≠ sm (l.take (3 + n)) then ((0, .empty), 0, 17)
    else (((bt l 0 : Nat), bs ((l.take (3 + n)).drop 3)), 5 + n, 0)
/-- the record at an offset -/
def nxAt (l : List UInt8) (at_ : Int) : E × Int × Int :=
  if at_ < 0 ∨ (l.length : Int) < at_ then ((0, .empty), 0, 2)
  else let r := nx (l.drop at_.toNat)
    if r.2.2 = 0 then (r.1, at_ + r.2.1, 0) else ((0, .empty), 0, r.2.2)
theorem bt_append (a b : List UInt8) {i : Nat} (h : i < a.length) : bt (a ++ b) i = bt a i := by unfold bt; rw [List.getD_eq_getElem?_getD, List.getElem?_append_left h, ← List.getD_eq_getElem?_getD]
theorem bt_right (a b : List UInt8) {i : Nat} (h : a.length ≤ i) : bt (a ++ b) i = bt b (i - a.length) := by unfold bt; rw [List.getD_eq_getElem?_getD, List.getElem?_append_right h, ← List.getD_eq_getElem?_getD]
theorem two_bt {n : Nat} (h : n < 65536) : 256 * bt (two n) 0 + bt (two n) 1 = n := by
  unfold bt two; simp only [List.getD_cons_zero, List.getD_cons_succ, by8_toNat (show n / 256 < 256 by omega), by8_toNat (show n % 256 < 256 by omega)]; omega
theorem hd_bt (k : Nat) (d : List UInt8) (hk : k < 256) (h : d.length ≤ 65535) : bt (hd k d) 0 = k ∧ 256 * bt (hd k d) 1 + bt (hd k d) 2 = d.length := by
  have h2 := two_bt (n := d.length) (by omega)
  unfold two at h2
  refine ⟨by unfold bt hd; simp [by8_toNat hk], ?_⟩
  rw [← h2]
  simp [bt, hd, two]
/-- a record that begins with the bytes of its head, which has length n -/
theorem nx_pk (k : Nat) (d t : List UInt8) (hk : k < 256) (h : d.length ≤ 65535) : nx (pk k d ++ t) = (((k : Int), bs d), 5 + d.length, 0) := by
  have hl := hd_len k d
  have hp := pk_len k d
  obtain ⟨b0, b1⟩ := hd_bt k d hk h
  have hs := sm_lt (hd k d)
  have g : ∀ i, i < 3 + d.length → bt (pk k d ++ t) i = bt (hd k d) i := fun i hi => by rw [bt_append _ _ (by omega)]; unfold pk; rw [bt_append _ _ (by omega)]
  have g3 : bt (pk k d ++ t) (3 + d.length) = bt (two (sm (hd k d))) 0 := by
    rw [bt_append _ _ (by omega)]; unfold pk; rw [bt_right _ _ (by omega), hl, Nat.sub_self]
  have g4 : bt (pk k d ++ t) (4 + d.length) = bt (two (sm (hd k d))) 1 := by
    rw [bt_append _ _ (by omega)]; unfold pk; rw [bt_right _ _ (by omega), hl, show 4 + d.length - (3 + d.length) = 1 by omega]
  have tk : (pk k d ++ t).take (3 + d.length) = hd k d := by unfold pk; rw [List.append_assoc, List.take_left' hl]
  unfold nx
  simp only [g 0 (by omega), g 1 (by omega), g 2 (by omega), b0, b1, List.length_append, hp, g3, g4, tk, two_bt hs]
  rw [if_neg (by omega), if_neg (by omega), if_neg (by simp)]
  simp [hd, two]
/-- no beginning of a record is one -/
theorem nx_torn (k : Nat) (d t : List UInt8) (h : d.length ≤ 65535) {m : Nat} (hm : m < 5 + d.length) (hk : k < 256) : nx ((pk k d ++ t).take m) = ((0, .empty), 0, 20) := by
  have hl := hd_len k d
  have hp := pk_len k d
  obtain ⟨b0, b1⟩ := hd_bt k d hk h
  unfold nx
  have hlen : ((pk k d ++ t).take m).length = m := by simp [hp]; omega
  rw [hlen]
  by_cases h5 : m < 5
  · rw [if_pos h5]
  · have g : ∀ i, i < 3 → bt ((pk k d ++ t).take m) i = bt (hd k d) i := fun i hi => by
      unfold bt
      rw [List.getD_eq_getElem?_getD, List.getElem?_take_of_lt (by omega), List.getElem?_append_left (by omega)]
      unfold pk
      rw [List.getElem?_append_left (by omega), ← List.getD_eq_getElem?_getD]
    rw [if_neg h5]
    simp only [g 1 (by omega), g 2 (by omega), b1]
    rw [if_pos hm]
end Go.Proofs.YtlcpfhgobfjioaaDoor.Rc
