/- Law 14: mathematics of fans and groups. No program. -/
import Derived.Lib.Hide
set_option linter.unusedVariables false
set_option linter.unusedSimpArgs false
namespace Go.Proofs.Ytmcngnnbfmjajaa.Z
open Go
/-- a level at a part of the way -/
def btw (a b p q : Int) : Int := if q = 0 then a else (2 * (a * q + (b - a) * p) + q) / (2 * q)
def okF (a b n : Int) : Bool := decide (0 ≤ a) && (decide (a ≤ 65535) && (decide (0 ≤ b) && (decide (b ≤ 65535) && (decide (0 ≤ n) && decide (n ≤ 256)))))
def fanL (a b : Int) (n : Nat) : List Int := (List.range n).map fun i : Nat => btw a b i ((n : Int) - 1)
def parE (n : Int) : Int := if n % 2 = 0 then 1 else 0
def disC (n i : Int) : Int := max (2 * i - (n - 1)) (n - 1 - 2 * i) - parE n
def cenL (a b : Int) (n : Nat) : List Int := (List.range n).map fun i : Nat => btw a b (disC n i) ((n : Int) - 1 - parE n)
theorem fanL_len (a b : Int) (n : Nat) : (fanL a b n).length = n := by simp [fanL]
theorem cenL_len (a b : Int) (n : Nat) : (cenL a b n).length = n := by simp [cenL]
theorem fanL_get (a b : Int) {n i : Nat} (h : i < (fanL a b n).length) : (fanL a b n)[i] = btw a b i ((n : Int) - 1) := by simp [fanL]
theorem cenL_get (a b : Int) {n i : Nat} (h : i < (cenL a b n).length) : (cenL a b n)[i] = btw a b (disC n i) ((n : Int) - 1 - parE n) := by simp [cenL]
theorem btw_bounds {a b p q : Int} (ha : 0 ≤ a) (ha2 : a ≤ 65535) (hb : 0 ≤ b) (hb2 : b ≤ 65535) (hp : 0 ≤ p) (hpq : p ≤ q) : 0 ≤ btw a b p q ∧ btw a b p q ≤ 65535 := by
  unfold btw
  split
  · exact ⟨ha, ha2⟩
  · have hq : 0 < q := by omega
    have e : a * q + (b - a) * p = a * (q - p) + b * p := by rw [Int.sub_mul, Int.mul_sub]; omega
    rw [e]
    have h1 : 0 ≤ a * (q - p) := Int.mul_nonneg ha (by omega)
    have h2 : 0 ≤ b * p := Int.mul_nonneg hb hp
    have h3 : a * (q - p) ≤ 65535 * (q - p) := Int.mul_le_mul_of_nonneg_right ha2 (by omega)
    have h4 : b * p ≤ 65535 * p := Int.mul_le_mul_of_nonneg_right hb2 hp
    refine ⟨Int.ediv_nonneg (by omega) (by omega), ?_⟩
    have : (2 * (a * (q - p) + b * p) + q) / (2 * q) < 65536 := Int.ediv_lt_of_lt_mul (by omega) (by omega)
    omega
theorem btw_zero (a b q : Int) (hq : 0 ≤ q) : btw a b 0 q = a := by
  unfold btw
  split
  · rfl
  · rw [Int.mul_zero, Int.add_zero, show 2 * (a * q) + q = q + a * (2 * q) by rw [Int.mul_left_comm]; omega, Int.add_mul_ediv_right _ _ (by omega), Int.ediv_eq_zero_of_lt hq (by omega)]
    omega
theorem btw_full (a b q : Int) (hq : 0 < q) : btw a b q q = b := by
  unfold btw
  rw [if_neg (by omega), show 2 * (a * q + (b - a) * q) + q = q + b * (2 * q) by rw [Int.sub_mul, Int.mul_left_comm]; omega, Int.add_mul_ediv_right _ _ (by omega), Int.ediv_eq_zero_of_lt (by omega) (by omega)]
  omega
theorem btw_back (a b p q : Int) (hq : q ≠ 0) : btw a b p q = btw b a (q - p) q := by
  unfold btw
  rw [if_neg hq, if_neg hq]
  congr 2
  rw [Int.sub_mul, Int.sub_mul, Int.mul_sub, Int.mul_sub]
  omega
/-- a step of a fan is the quotient, rounded down or up -/
theorem btw_step (a b p r q : Int) (hq : 0 < q) : (b - a) * r < q * (btw a b (p + r) q - btw a b p q + 1) ∧ q * (btw a b (p + r) q - btw a b p q - 1) < (b - a) * r := by
  unfold btw
  rw [if_neg (by omega), if_neg (by omega)]
  have e : (b - a) * (p + r) = (b - a) * p + (b - a) * r := Int.mul_add _ _ _
  rw [e]
  generalize (b - a) * p = x
  generalize (b - a) * r = d
  generalize a * q = y
  have h1 := Int.mul_ediv_self_le (x := 2 * (y + x) + q) (k := 2 * q) (by omega)
  have h2 := Int.lt_mul_ediv_self_add (x := 2 * (y + x) + q) (k := 2 * q) (by omega)
  have h3 := Int.mul_ediv_self_le (x := 2 * (y + (x + d)) + q) (k := 2 * q) (by omega)
  have h4 := Int.lt_mul_ediv_self_add (x := 2 * (y + (x + d)) + q) (k := 2 * q) (by omega)
  generalize (2 * (y + x) + q) / (2 * q) = u at *
  generalize (2 * (y + (x + d)) + q) / (2 * q) = v at *
  have f1 : q * (v - u + 1) = q * v - q * u + q := by rw [Int.mul_add, Int.mul_sub]; omega
  have f2 : q * (v - u - 1) = q * v - q * u - q := by rw [Int.mul_sub, Int.mul_sub]; omega
  rw [f1, f2]
  rw [Int.mul_assoc] at h1 h2 h3 h4
  generalize q * u = s at *
  generalize q * v = t at *
  omega
theorem btw_mono {a b p p' q : Int} (hq : 0 < q) (hp : p ≤ p') : (a ≤ b → btw a b p q ≤ btw a b p' q) ∧ (b ≤ a → btw a b p' q ≤ btw a b p q) := by
  unfold btw
  rw [if_neg (by omega), if_neg (by omega)]
  constructor
  · intro h
    have := Int.mul_le_mul_of_nonneg_left hp (show 0 ≤ b - a by omega)
    exact Int.ediv_le_ediv (by omega) (by omega)
  · intro h
    have := Int.mul_le_mul_of_nonneg_left hp (show 0 ≤ a - b by omega)
    have e1 : (b - a) * p = -((a - b) * p) := by rw [← Int.neg_mul]; congr 1; omega
    have e2 : (b - a) * p' = -((a - b) * p') := by rw [← Int.neg_mul]; congr 1; omega
    exact Int.ediv_le_ediv (by omega) (by rw [e1, e2]; omega)
theorem okF_iff {a b n : Int} : okF a b n = true ↔ 0 ≤ a ∧ a ≤ 65535 ∧ 0 ≤ b ∧ b ≤ 65535 ∧ 0 ≤ n ∧ n ≤ 256 := by simp [okF]
theorem fan_step (a b : Int) (n : Nat) (i : Nat) : (fanL a b n).take i = (List.range (min i n)).map fun i : Nat => btw a b i ((n : Int) - 1) := by
  unfold fanL
  rw [← List.map_take, List.take_range]
/-- the distance of a member of a fan from the centre -/
theorem disC_bounds {n i : Int} (h0 : 0 ≤ i) (h1 : i < n) : 0 ≤ disC n i ∧ disC n i ≤ n - 1 - parE n := by
  unfold disC parE
  split <;> omega
theorem disC_sym {n i : Int} : disC n (n - 1 - i) = disC n i := by
  unfold disC
  rw [show 2 * (n - 1 - i) - (n - 1) = n - 1 - 2 * i by omega, show n - 1 - 2 * (n - 1 - i) = 2 * i - (n - 1) by omega, Int.max_comm]
theorem disC_mid {n : Int} : disC n (n / 2) = 0 := by
  unfold disC parE
  split <;> omega
theorem disC_up {n i : Int} (h : n / 2 < i) : disC n (i - 1) ≤ disC n i := by
  unfold disC
  omega
theorem disC_ends {n : Int} (h : 1 ≤ n) : disC n 0 = n - 1 - parE n := by
  unfold disC
  omega

/-- groups: their numbers and channels -/
abbrev Gp := Int × List Int
def chF : List Int → List Int → Int
  | _, [] => 0
  | d, c :: r => if 1 ≤ c ∧ c ≤ 999 then (if d.contains c = true then 7 else chF (d ++ [c]) r) else 2
def gpR (g : Gp) : Int := if 1 ≤ g.1 ∧ g.1 ≤ 1048576 then (if 256 < g.2.length then 5 else chF [] g.2) else 2
def notUp (p : Option Int) (n : Int) : Bool := match p with | none => false | some x => decide (n ≤ x)
def tbF (p : Option Int) : List Gp → Int
  | [] => 0
  | g :: r => if gpR g = 0 then (if notUp p g.1 = true then 9 else tbF (some g.1) r) else gpR g
def tbR (l : List Gp) : Int := if 32 < l.length then 5 else tbF none l
theorem chF_step {l : List Int} {k : Nat} (h : k < l.length) : chF (l.take k) (l.drop k) = if 1 ≤ l[k] ∧ l[k] ≤ 999 then (if (l.take k).contains l[k] = true then 7 else chF (l.take (k + 1)) (l.drop (k + 1))) else 2 := by
  rw [List.drop_eq_getElem_cons h]
  simp only [chF, List.take_succ_eq_append_getElem h]
def prevN (l : List Gp) (k : Nat) : Option Int := if k = 0 then none else (l[k - 1]?).map (·.1)
theorem tbF_step {l : List Gp} {k : Nat} (h : k < l.length) : tbF (prevN l k) (l.drop k) = if gpR l[k] = 0 then (if notUp (prevN l k) l[k].1 = true then 9 else tbF (prevN l (k + 1)) (l.drop (k + 1))) else gpR l[k] := by
  rw [List.drop_eq_getElem_cons h]
  have : prevN l (k + 1) = some l[k].1 := by unfold prevN; rw [if_neg (by omega)]; simp [List.getElem?_eq_getElem h]
  rw [this]
  simp only [tbF]
theorem chF_zero : ∀ (r d : List Int), chF d r = 0 ↔ (∀ c ∈ r, 1 ≤ c ∧ c ≤ 999) ∧ r.Nodup ∧ ∀ c ∈ r, c ∉ d
  | [], d => by simp [chF]
  | a :: r, d => by
    unfold chF
    have ih := chF_zero r (d ++ [a])
    split
    · rename_i h
      split
      · rename_i h2
        have : a ∈ d := by simpa using h2
        exact ⟨fun h3 => by omega, fun h3 => absurd this (h3.2.2 a (by simp))⟩
      · rename_i h2
        have h4 : a ∉ d := by simpa using h2
        rw [ih, List.nodup_cons]
        constructor
        · rintro ⟨h5, h6, h7⟩
          refine ⟨?_, ⟨?_, h6⟩, ?_⟩
          · intro x hx; rcases List.mem_cons.1 hx with rfl | hx
            · exact h
            · exact h5 x hx
          · intro hx; exact h7 a hx (by simp)
          · intro x hx; rcases List.mem_cons.1 hx with rfl | hx
            · exact h4
            · intro hd; exact h7 x hx (by simp [hd])
        · rintro ⟨h5, ⟨h6, h7⟩, h8⟩
          refine ⟨fun x hx => h5 x (by simp [hx]), h7, ?_⟩
          intro x hx hd
          rcases List.mem_append.1 hd with hd | hd
          · exact h8 x (by simp [hx]) hd
          · simp only [List.mem_singleton] at hd; subst hd; exact h6 hx
    · rename_i h
      exact ⟨fun h3 => by omega, fun h3 => absurd (h3.1 a (by simp)) h⟩
theorem gpR_zero {g : Gp} : gpR g = 0 ↔ (1 ≤ g.1 ∧ g.1 ≤ 1048576) ∧ g.2.length ≤ 256 ∧ (∀ c ∈ g.2, 1 ≤ c ∧ c ≤ 999) ∧ g.2.Nodup := by
  unfold gpR
  split
  · rename_i h
    split
    · rename_i h2
      exact ⟨fun h3 => by omega, fun h3 => by omega⟩
    · rename_i h2
      rw [chF_zero]
      exact ⟨fun ⟨a, b, _⟩ => ⟨h, by omega, a, b⟩, fun ⟨_, _, a, b⟩ => ⟨a, b, by simp⟩⟩
  · rename_i h
    exact ⟨fun h3 => by omega, fun h3 => absurd h3.1 h⟩
end Go.Proofs.Ytmcngnnbfmjajaa.Z
