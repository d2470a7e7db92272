/- Law 7: LexerJoins. -/
import Derived.Test.YtlcpfhgobfjioaaDoorLyD
set_option linter.unusedVariables false
set_option linter.unusedSimpArgs false
namespace Go.Proofs.YtlcpfhgobfjioaaDoor
open Go.RowKit Go.Shelf
open Z
theorem sumT_mem {L : List Tk} {t : Tk} (h : t ∈ L) : t.2.1.length ≤ sumT L := by
  induction L with
  | nil => cases h
  | cons x L ih =>
    have e : sumT (x :: L) = x.2.1.length + sumT L := by unfold sumT; simp
    rcases List.mem_cons.1 h with rfl | h
    · omega
    · have := ih h; omega
theorem few_facts {L : List Tk} (h : fewR L = true) : L.length ≤ 400 ∧ sumT L ≤ 6000 ∧ ∀ j (h : j < L.length), L[j].2.1.length ≤ 6000 := by
  unfold fewR at h
  simp only [Bool.and_eq_true, decide_eq_true_eq] at h
  exact ⟨h.1, h.2, fun j hj => by have := sumT_mem (List.getElem_mem hj); omega⟩
end Go.Proofs.YtlcpfhgobfjioaaDoor
