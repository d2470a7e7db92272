/- T3: sets of channels are an algebra: mathematics. -/
import Derived.Test.YtjideokeokmbaaaGreatDoorTpF
set_option linter.unusedVariables false
set_option linter.unusedSimpArgs false
namespace Go.Proofs.YtjideokeokmbaaaGreatDoor.Z
open Go
abbrev RL := List (Int × Int)
def orR (A B : RL) : RL := (combR (fun x y => x || y) A B).1
def anR (A B : RL) : RL := (combR (fun x y => x && y) A B).1
def leR (A B : RL) : RL := (combR (fun x y => x && !y) A B).1
theorem comb_chk {rem : Bool → Bool → Bool} {A B : RL} (hA : checkR A = 0) (hB : checkR B = 0) : checkR (combR rem A B).1 = 0 ∧ (combR rem A B).2 = 0 := by
  rw [combR_ok hA hB]
  have h := (setS_spec _ (combG_zero rem (inR A) (inR B)) 1000 (Nat.le_refl _)).1
  generalize setS (combG rem (inR A) (inR B) (chans [(1, 999)])) 1000 = X at *
  exact ⟨h, rfl⟩
theorem comb_any {rem : Bool → Bool → Bool} {A B : RL} (hA : checkR A = 0) (hB : checkR B = 0) {k : Nat} (h1 : 1 ≤ k) (h2 : k ≤ 999) : (combR rem A B).1.any (hasR k) = rem (A.any (hasR k)) (B.any (hasR k)) := by
  rw [combR_ok hA hB]
  have h := (setS_spec _ (combG_zero rem (inR A) (inR B)) 1000 (Nat.le_refl _)).2.1 k
  rw [decide_eq_true (by omega), Bool.true_and, combG_all, if_pos ⟨h1, h2⟩, inR_eq, inR_eq] at h
  generalize setS (combG rem (inR A) (inR B) (chans [(1, 999)])) 1000 = X at *
  exact h
theorem set_ext {R S : RL} (hR : checkR R = 0) (hS : checkR S = 0) (h : ∀ k : Nat, 1 ≤ k → k ≤ 999 → R.any (hasR k) = S.any (hasR k)) : R = S := by
  have h0 : (fun k : Nat => decide (1 ≤ k) && R.any (hasR k)) 0 = false := by simp
  rw [← setS_of (g := fun k : Nat => decide (1 ≤ k) && R.any (hasR k)) hR h0 (fun k h1 _ => by simp [h1]), setS_of (g := fun k : Nat => decide (1 ≤ k) && R.any (hasR k)) hS h0 (fun k h1 h2 => by simp [h1]; exact h k h1 h2)]
section
variable {A B C : RL} (hA : checkR A = 0) (hB : checkR B = 0) (hC : checkR C = 0)
include hA hB
theorem ck_or : checkR (orR A B) = 0 := (comb_chk hA hB).1
theorem ck_an : checkR (anR A B) = 0 := (comb_chk hA hB).1
theorem ck_le : checkR (leR A B) = 0 := (comb_chk hA hB).1
theorem al1 : orR A B = orR B A := set_ext (ck_or hA hB) (ck_or hB hA) fun k h1 h2 => by
  unfold orR; rw [comb_any hA hB h1 h2, comb_any hB hA h1 h2, Bool.or_comm]
theorem al2 : anR A B = anR B A := set_ext (ck_an hA hB) (ck_an hB hA) fun k h1 h2 => by
  unfold anR; rw [comb_any hA hB h1 h2, comb_any hB hA h1 h2, Bool.and_comm]
theorem al9 : orR (leR A B) (anR A B) = A := set_ext (ck_or (ck_le hA hB) (ck_an hA hB)) hA fun k h1 h2 => by
  have e1 := comb_any (rem := fun x y => x && !y) hA hB h1 h2
  have e2 := comb_any (rem := fun x y => x && y) hA hB h1 h2
  have e3 := comb_any (rem := fun x y => x || y) (ck_le hA hB) (ck_an hA hB) h1 h2
  unfold orR
  rw [e3]
  unfold leR anR
  rw [e1, e2]
  cases A.any (hasR k) <;> cases B.any (hasR k) <;> rfl
theorem al10 : anR (leR A B) B = [] := set_ext (ck_an (ck_le hA hB) hB) rfl fun k h1 h2 => by
  have e1 := comb_any (rem := fun x y => x && !y) hA hB h1 h2
  have e3 := comb_any (rem := fun x y => x && y) (ck_le hA hB) hB h1 h2
  unfold anR
  rw [e3]
  unfold leR
  rw [e1]
  cases A.any (hasR k) <;> cases B.any (hasR k) <;> rfl
include hC
theorem al3 : orR (orR A B) C = orR A (orR B C) := set_ext (ck_or (ck_or hA hB) hC) (ck_or hA (ck_or hB hC)) fun k h1 h2 => by
  have e1 := comb_any (rem := fun x y => x || y) hA hB h1 h2
  have e2 := comb_any (rem := fun x y => x || y) hB hC h1 h2
  have e3 := comb_any (rem := fun x y => x || y) (ck_or hA hB) hC h1 h2
  have e4 := comb_any (rem := fun x y => x || y) hA (ck_or hB hC) h1 h2
  unfold orR at *
  rw [e3, e4, e1, e2]
  cases A.any (hasR k) <;> cases B.any (hasR k) <;> cases C.any (hasR k) <;> rfl
theorem al4 : anR (anR A B) C = anR A (anR B C) := set_ext (ck_an (ck_an hA hB) hC) (ck_an hA (ck_an hB hC)) fun k h1 h2 => by
  have e1 := comb_any (rem := fun x y => x && y) hA hB h1 h2
  have e2 := comb_any (rem := fun x y => x && y) hB hC h1 h2
  have e3 := comb_any (rem := fun x y => x && y) (ck_an hA hB) hC h1 h2
  have e4 := comb_any (rem := fun x y => x && y) hA (ck_an hB hC) h1 h2
  unfold anR at *
  rw [e3, e4, e1, e2]
  cases A.any (hasR k) <;> cases B.any (hasR k) <;> cases C.any (hasR k) <;> rfl
theorem al5 : anR A (orR B C) = orR (anR A B) (anR A C) := set_ext (ck_an hA (ck_or hB hC)) (ck_or (ck_an hA hB) (ck_an hA hC)) fun k h1 h2 => by
  have e1 := comb_any (rem := fun x y => x || y) hB hC h1 h2
  have e2 := comb_any (rem := fun x y => x && y) hA hB h1 h2
  have e3 := comb_any (rem := fun x y => x && y) hA hC h1 h2
  have e4 := comb_any (rem := fun x y => x && y) hA (ck_or hB hC) h1 h2
  have e5 := comb_any (rem := fun x y => x || y) (ck_an hA hB) (ck_an hA hC) h1 h2
  unfold anR orR at *
  rw [e4, e5, e1, e2, e3]
  cases A.any (hasR k) <;> cases B.any (hasR k) <;> cases C.any (hasR k) <;> rfl
theorem al6 : orR A (anR B C) = anR (orR A B) (orR A C) := set_ext (ck_or hA (ck_an hB hC)) (ck_an (ck_or hA hB) (ck_or hA hC)) fun k h1 h2 => by
  have e1 := comb_any (rem := fun x y => x && y) hB hC h1 h2
  have e2 := comb_any (rem := fun x y => x || y) hA hB h1 h2
  have e3 := comb_any (rem := fun x y => x || y) hA hC h1 h2
  have e4 := comb_any (rem := fun x y => x || y) hA (ck_an hB hC) h1 h2
  have e5 := comb_any (rem := fun x y => x && y) (ck_or hA hB) (ck_or hA hC) h1 h2
  unfold anR orR at *
  rw [e4, e5, e1, e2, e3]
  cases A.any (hasR k) <;> cases B.any (hasR k) <;> cases C.any (hasR k) <;> rfl
theorem al7 : leR (orR A B) C = orR (leR A C) (leR B C) := set_ext (ck_le (ck_or hA hB) hC) (ck_or (ck_le hA hC) (ck_le hB hC)) fun k h1 h2 => by
  have e1 := comb_any (rem := fun x y => x || y) hA hB h1 h2
  have e2 := comb_any (rem := fun x y => x && !y) hA hC h1 h2
  have e3 := comb_any (rem := fun x y => x && !y) hB hC h1 h2
  have e4 := comb_any (rem := fun x y => x && !y) (ck_or hA hB) hC h1 h2
  have e5 := comb_any (rem := fun x y => x || y) (ck_le hA hC) (ck_le hB hC) h1 h2
  unfold leR orR at *
  rw [e4, e5, e1, e2, e3]
  cases A.any (hasR k) <;> cases B.any (hasR k) <;> cases C.any (hasR k) <;> rfl
theorem al8 : leR A (orR B C) = anR (leR A B) (leR A C) := set_ext (ck_le hA (ck_or hB hC)) (ck_an (ck_le hA hB) (ck_le hA hC)) fun k h1 h2 => by
  have e1 := comb_any (rem := fun x y => x || y) hB hC h1 h2
  have e2 := comb_any (rem := fun x y => x && !y) hA hB h1 h2
  have e3 := comb_any (rem := fun x y => x && !y) hA hC h1 h2
  have e4 := comb_any (rem := fun x y => x && !y) hA (ck_or hB hC) h1 h2
  have e5 := comb_any (rem := fun x y => x && y) (ck_le hA hB) (ck_le hA hC) h1 h2
  unfold leR orR anR at *
  rw [e4, e5, e1, e2, e3]
  cases A.any (hasR k) <;> cases B.any (hasR k) <;> cases C.any (hasR k) <;> rfl
end
theorem ch_count {R : RL} (h : checkR R = 0) : (chans R).length = (List.range 1000).countP fun k : Nat => decide (1 ≤ k) && R.any (hasR k) := by
  rw [List.countP_eq_length_filter]
  have hn : (chans R).Nodup := (chans_sorted R none h).imp fun h => by omega
  have hm : (((List.range 1000).filter fun k : Nat => decide (1 ≤ k) && R.any (hasR k)).map fun k : Nat => (k : Int)).Nodup := by
    rw [List.Nodup, List.pairwise_map]
    exact (List.nodup_range.filter _).imp fun h => by omega
  have hp := (List.perm_ext_iff_of_nodup hn hm).2 fun x => by
    rw [chans_any, List.mem_map]
    constructor
    · intro hx
      have hb : 1 ≤ x ∧ x ≤ 999 := by
        obtain ⟨r, hr, h1, h2⟩ := (any_iff R x).1 hx
        have := (isRg_iff r).1 (checkL_each h r hr)
        omega
      refine ⟨x.toNat, List.mem_filter.2 ⟨List.mem_range.2 (by omega), ?_⟩, by omega⟩
      rw [show ((x.toNat : Nat) : Int) = x by omega, hx]
      simp; omega
    · rintro ⟨k, hk, rfl⟩
      have := (List.mem_filter.1 hk).2
      simp only [Bool.and_eq_true] at this
      exact this.2
  rw [hp.length_eq, List.length_map]
theorem count_two (p q : Nat → Bool) : ∀ l : List Nat, l.countP p + l.countP q = l.countP (fun k => p k || q k) + l.countP (fun k => p k && q k)
  | [] => rfl
  | a :: l => by
    have ih := count_two p q l
    simp only [List.countP_cons]
    cases p a <;> cases q a <;> simp <;> omega
theorem count_sum {A B : RL} (hA : checkR A = 0) (hB : checkR B = 0) : (chans A).length + (chans B).length = (chans (orR A B)).length + (chans (anR A B)).length := by
  rw [ch_count hA, ch_count hB, ch_count (ck_or hA hB), ch_count (ck_an hA hB), count_two]
  have hm : ∀ k ∈ List.range 1000, k < 1000 := fun k hk => List.mem_range.1 hk
  generalize List.range 1000 = L at *
  have e1 : L.countP (fun k : Nat => (decide (1 ≤ k) && A.any (hasR k)) || (decide (1 ≤ k) && B.any (hasR k))) = L.countP fun k : Nat => decide (1 ≤ k) && (orR A B).any (hasR k) := by
    refine List.countP_congr fun k hk => ?_
    have hk := hm k hk
    by_cases h1 : 1 ≤ k
    · have := comb_any (rem := fun x y => x || y) hA hB h1 (by omega)
      unfold orR
      rw [this]; simp [h1]
    · simp [h1]
  have e2 : L.countP (fun k : Nat => (decide (1 ≤ k) && A.any (hasR k)) && (decide (1 ≤ k) && B.any (hasR k))) = L.countP fun k : Nat => decide (1 ≤ k) && (anR A B).any (hasR k) := by
    refine List.countP_congr fun k hk => ?_
    have hk := hm k hk
    by_cases h1 : 1 ≤ k
    · have := comb_any (rem := fun x y => x && y) hA hB h1 (by omega)
      unfold anR
      rw [this]; simp [h1]
    · simp [h1]
  rw [e1, e2]
end Go.Proofs.YtjideokeokmbaaaGreatDoor.Z
