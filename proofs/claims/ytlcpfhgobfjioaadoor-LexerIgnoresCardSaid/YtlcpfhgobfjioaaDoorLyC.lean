/- Law 7: the program's Join. -/
import Derived.Test.YtlcpfhgobfjioaaDoorLyB
import Derived.WideShapes
set_option linter.unusedVariables false
set_option linter.unusedSimpArgs false
namespace Go.Proofs.YtlcpfhgobfjioaaDoor
open Go.RowKit Go.Shelf
open Z
def svJ (l : List ByteArray) : List Value := l.map Value.string
/-- a list of texts of one's own -/
def OwnJ (B : Nat) (w : World) (v : Value) (l : List ByteArray) : Prop := w.ownsRow B 9 1 v l.length (svJ l)
theorem OwnJ.gr {B : Nat} {w w' : World} {v : Value} {l : List ByteArray} (h : OwnJ B w v l) (hg : Gr w w') : OwnJ B w' v l := by
  refine ⟨h.1, ?_⟩
  rcases h.2 with h2 | ⟨g, cap, cur, h1, hb, h3, h4⟩
  · exact .inl h2
  · exact .inr ⟨g, cap, cur, h1, hb, (hg.block g (Array.getElem?_eq_some_iff.1 h3).1).trans h3, h4⟩
theorem OwnJ.at {B g n cap : Nat} {w : World} {l : List ByteArray} (h : OwnJ B w (.slice (some ⟨g, 0, none⟩) n cap) l) (k : Nat) (hk : k < l.length) : w.cell? ⟨g, k, none⟩ = some (.string l[k]) ∧ w.frozen? ⟨g, k, none⟩ = false := by
  have hn : n = l.length := by
    rcases h.2 with ⟨h', _⟩ | ⟨g', cap', cur, h', -⟩
    · cases h'
    · simpa using (congrArg (fun v : Value => match v with | .slice _ n _ => n | _ => 0) h')
  subst hn
  refine ⟨?_, World.ownsRow.frozenAt h k⟩
  rw [World.ownsRow.cellAt h k (by omega)]
  simp [svJ, hk]
theorem OwnJ.set {B g n cap : Nat} {w : World} {l : List ByteArray} (h : OwnJ B w (.slice (some ⟨g, 0, none⟩) n cap) l) (k : Nat) (s : ByteArray) : OwnJ B (w.setCell ⟨g, k, none⟩ (.string s)) (.slice (some ⟨g, 0, none⟩) n cap) (l.set k s) := by
  have hn : n = l.length := by
    rcases h.2 with ⟨h', _⟩ | ⟨g', cap', cur, h', -⟩
    · cases h'
    · simpa using (congrArg (fun v : Value => match v with | .slice _ n _ => n | _ => 0) h')
  subst hn
  have := (World.ownsRow.stored h k (.string s)).1
  unfold OwnJ
  rw [List.length_set]
  have e : svJ (l.set k s) = (svJ l).set k (.string s) := by simp [svJ, List.map_set]
  rw [e]; exact this
theorem Tryd.infoStrJ : (Tryd.prog.info? 9).map (fun i => (i.zero, i.size, i.bytes)) = some (some (.string ⟨#[]⟩), 1, 16) := by kernel_rfl
/-- the texts of the first tokens, and nothing behind them -/
def tksK (L : List Tk) (k : Nat) : List ByteArray := (L.take k).map (fun t => str t.2.1) ++ List.replicate (L.length - k) ⟨#[]⟩
theorem tksK_len (L : List Tk) {k : Nat} (h : k ≤ L.length) : (tksK L k).length = L.length := by unfold tksK; simp; omega
theorem tksK_next {L : List Tk} {k : Nat} (h : k < L.length) : tksK L (k + 1) = (tksK L k).set k (str L[k].2.1) := by
  unfold tksK
  have e : L.length - k = (L.length - (k + 1)) + 1 := by omega
  rw [List.take_succ_eq_append_getElem h, List.map_append, e, List.replicate_succ, List.set_append_right _ _ (by rw [List.length_map, List.length_take]; omega)]
  simp [Nat.min_eq_left (Nat.le_of_lt h)]
theorem tksK_at {L : List Tk} {j : Nat} (h : j < L.length) : (tksK L L.length)[j]? = some (str L[j].2.1) := by
  unfold tksK
  simp [h]
theorem isTok_end {l : List UInt8} : isTok l 3 = true ↔ l = [] := by
  rw [isTok_iff]
  constructor
  · rintro ⟨-, h1, -, h4, -⟩
    cases l with
    | nil => rfl
    | cons c t =>
      rw [kindR_cons] at h1
      repeat' split at h1
      all_goals simp at h1
  · rintro rfl
    exact ⟨rfl, rfl, rfl, rfl, by decide⟩
theorem errF_skip {L : List Tk} : ∀ k, k + 1 ≤ L.length → (∀ j (h : j < L.length), j < k → chkR L[j].1 L[j].2.1 = 0) → errF (L.take (L.length - 1)) = errF ((L.take (L.length - 1)).drop k)
  | 0, _, _ => rfl
  | k + 1, hk, h => by
    rw [errF_skip k (by omega) (fun j hj hl => h j hj (by omega)), errF_drop (by omega), if_neg (by simpa using h k (by omega) (by omega))]
theorem jt_len_eq {L : List Tk} : ∀ j, j ≤ L.length → (jt L j).length + (if 0 < j then 1 else 0) = sumT (L.take j) + j
  | 0, _ => by rw [jt_zero]; simp [sumT]
  | j + 1, h => by
    have := jt_len_eq (L := L) j (by omega)
    have e1 : (if 0 < j + 1 then 1 else 0) = 1 := if_pos (by omega)
    rw [e1, jt_succ (by omega), sumT_snoc (by omega)]
    by_cases hj : 0 < j
    · rw [if_pos hj] at this ⊢; simp; omega
    · rw [if_neg hj] at this ⊢; simp; omega
/-- what the program's Join answers where a token is wrong, or none -/
theorem join_err {L : List Tk} (hE : Ends L) {k : Nat} (hk : k < L.length) (h : ∀ j (h : j < L.length), j < k → chkR L[j].1 L[j].2.1 = 0) (he : chkR L[k].1 L[k].2.1 ≠ 0) : joinR L = ([], chkR L[k].1 L[k].2.1) := by
  rw [joinR_yes hE]
  have hs := errF_skip k (by omega) h
  by_cases hl : k + 1 = L.length
  · rw [List.drop_of_length_le (by rw [List.length_take]; omega)] at hs
    rw [if_neg (by rw [hs]; simp [errF])]
    have h3 : L[k].1 = 3 := (hE.2 k hk).2 hl
    have hlast : L.getLast? = some L[k] := by rw [List.getLast?_eq_getElem?, ← hl, Nat.add_sub_cancel, List.getElem?_eq_getElem hk]
    rw [h3] at he ⊢
    have hT : ¬ isTok L[k].2.1 3 = true := fun ht => he (by unfold chkR; rw [if_neg (by decide), if_pos ht])
    have e3 : chkR 3 L[k].2.1 = 3 := by unfold chkR; rw [if_neg (by decide), if_neg hT]
    rw [e3, if_pos]
    rw [hlast]
    simp only [Option.map_some, ne_eq, Option.some.injEq]
    exact fun e => hT (isTok_end.2 e)
  · rw [errF_drop (by omega), if_pos he] at hs
    rw [hs, if_pos he]
theorem join_ok {L : List Tk} (hE : Ends L) (h : ∀ j (h : j < L.length), chkR L[j].1 L[j].2.1 = 0) : joinR L = if 4096 < (jt L (L.length - 1)).length then ([], 13) else (jt L (L.length - 1), 0) := by
  have hp := hE.1
  rw [joinR_yes hE]
  have hs := errF_skip (L.length - 1) (by omega) (fun j hj _ => h j hj)
  rw [List.drop_of_length_le (by rw [List.length_take]; omega)] at hs
  rw [if_neg (by rw [hs]; simp [errF])]
  have hk : L.length - 1 < L.length := by omega
  have h3 : L[L.length - 1].1 = 3 := (hE.2 _ hk).2 (by omega)
  have hlast : L.getLast? = some L[L.length - 1] := by rw [List.getLast?_eq_getElem?, List.getElem?_eq_getElem hk]
  have hc := h _ hk
  rw [h3] at hc
  unfold chkR at hc
  rw [if_neg (by decide)] at hc
  have ht : L[L.length - 1].2.1 = [] := by
    by_cases ht : isTok L[L.length - 1].2.1 3 = true
    · exact isTok_end.1 ht
    · rw [if_neg ht] at hc; exact absurd hc (by decide)
  rw [if_neg (by rw [hlast]; simp [ht])]
  have hj := jt_len_eq (L := L) (L.length - 1) (by omega)
  by_cases h4 : 4097 < sumT (L.take (L.length - 1)) + (L.length - 1)
  · rw [if_pos h4, if_pos]
    split at hj <;> omega
  · rw [if_neg h4, if_neg]
    split at hj
    · omega
    · rename_i h0
      rw [show L.length - 1 = 0 by omega, jt_zero]; simp
end Go.Proofs.YtlcpfhgobfjioaaDoor
