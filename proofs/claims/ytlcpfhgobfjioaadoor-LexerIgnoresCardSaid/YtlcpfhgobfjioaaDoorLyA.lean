/- Law 7: the reference's Join. -/
import Derived.Test.YtlcpfhgobfjioaaDoorLxZ
import Derived.Lib.Join
set_option linter.unusedVariables false
set_option linter.unusedSimpArgs false
namespace Go.Proofs.YtlcpfhgobfjioaaDoor
open Go.RowKit Go.Shelf
open Z
/-- the end of a list of tokens is its last one alone -/
def Ends (L : List Tk) : Prop := 0 < L.length ∧ ∀ j (h : j < L.length), (L[j].1 = 3 ↔ j + 1 = L.length)
/-- the first error of some tokens -/
def errF : List Tk → Int
  | [] => 0
  | t :: r => if chkR t.1 t.2.1 ≠ 0 then chkR t.1 t.2.1 else errF r
/-- the texts of the first tokens, joined -/
def jt (L : List Tk) (j : Nat) : List UInt8 := Lib.join ((L.take j).map fun t => t.2.1) [32]
open Classical in
noncomputable def joinR (L : List Tk) : List UInt8 × Int :=
  if ¬ Ends L then ([], 12)
  else if errF (L.take (L.length - 1)) ≠ 0 then ([], errF (L.take (L.length - 1)))
  else if (L.getLast?.map fun t => t.2.1) ≠ some [] then ([], 3)
  else if 4097 < sumT (L.take (L.length - 1)) + (L.length - 1) then ([], 13)
  else (jt L (L.length - 1), 0)
theorem joinTail_snoc (r : List (List UInt8)) (x sep : List UInt8) : Lib.joinTail sep (r ++ [x]) = Lib.joinTail sep r ++ (sep ++ x) := by unfold Lib.joinTail; simp
theorem jt_zero (L : List Tk) : jt L 0 = [] := by unfold jt; simp [Lib.join_nil]
theorem jt_succ {L : List Tk} {j : Nat} (h : j < L.length) : jt L (j + 1) = (if 0 < j then jt L j ++ [32] else jt L j) ++ L[j].2.1 := by
  unfold jt
  rw [List.take_succ_eq_append_getElem h, List.map_append]
  simp only [List.map_cons, List.map_nil]
  cases hx : (L.take j).map fun t => t.2.1 with
  | nil =>
    have hj : j = 0 := by
      have := congrArg List.length hx
      simp at this
      rcases this with h1 | h1
      · exact h1
      · rw [h1] at h; simp at h
    subst hj
    simp [Lib.join_one, Lib.join_nil]
  | cons y r =>
    have hj : 0 < j := by
      rcases Nat.eq_zero_or_pos j with e | e
      · subst e; simp at hx
      · exact e
    rw [if_pos hj, List.cons_append, Lib.join_cons, Lib.join_cons, joinTail_snoc]
    simp
theorem jt_len {L : List Tk} : ∀ j, j ≤ L.length → (jt L j).length ≤ sumT (L.take j) + j
  | 0, _ => by rw [jt_zero]; simp
  | j + 1, h => by
    have := jt_len (L := L) j (by omega)
    rw [jt_succ (by omega), sumT_snoc (by omega)]
    split <;> simp <;> omega
theorem errF_drop {L : List Tk} {j : Nat} (h : j + 1 < L.length) : errF ((L.take (L.length - 1)).drop j) = if chkR L[j].1 L[j].2.1 ≠ 0 then chkR L[j].1 L[j].2.1 else errF ((L.take (L.length - 1)).drop (j + 1)) := by
  rw [List.drop_eq_getElem_cons (i := j) (by simp; omega)]
  simp only [List.getElem_take]
  rfl
theorem joinR_no {L : List Tk} (h : ¬ Ends L) : joinR L = ([], 12) := by unfold joinR; rw [if_pos h]
theorem joinR_yes {L : List Tk} (h : Ends L) : joinR L = if errF (L.take (L.length - 1)) ≠ 0 then ([], errF (L.take (L.length - 1)))
  else if (L.getLast?.map fun t => t.2.1) ≠ some [] then ([], 3)
  else if 4097 < sumT (L.take (L.length - 1)) + (L.length - 1) then ([], 13)
  else (jt L (L.length - 1), 0) := by unfold joinR; rw [if_neg (by simpa using h)]
end Go.Proofs.YtlcpfhgobfjioaaDoor
