/- LyAC: LyA, LyB, LyC, joined. -/
import Derived.Test.YtlcpfhgobfjioaaDoorLxXZ
import Derived.Lib.Join
import Derived.WideShapes
set_option linter.unusedVariables false
set_option linter.unusedSimpArgs false

/- Law 7: the reference's Join. -/
namespace Go.Proofs.YtlcpfhgobfjioaaDoor
open Go.RowKit Go.Shelf
open Z
/-- the end of a list of tokens is its last one alone -/
def Ends (L : List Tk) : Prop := 0 < L.length ∧ ∀ j (h : j < L.length), (L[j].1 = 3 ↔ j + 1 = L.length)
/-- the first error of some tokens -/
def errF : List Tk → Int
  | [] => 0
  | t :: r => if chkR t.1 t.2.1 ≠ 0 then chkR t.1 t.2.1 else errF r
/-- the texts of the first tokens, joined -/
def jt (L : List Tk) (j : Nat) : List UInt8 := Lib.join ((L.take j).map fun t => t.2.1) [32]
open Classical in
noncomputable def joinR (L : List Tk) : List UInt8 × Int :=
  if ¬ Ends L then ([], 12)
  else if errF (L.take (L.length - 1)) ≠ 0 then ([], errF (L.take (L.length - 1)))
  else if (L.getLast?.map fun t => t.2.1) ≠ some [] then ([], 3)
  else if 4097 < sumT (L.take (L.length - 1)) + (L.length - 1) then ([], 13)
  else (jt L (L.length - 1), 0)
theorem joinTail_snoc (r : List (List UInt8)) (x sep : List UInt8) : Lib.joinTail sep (r ++ [x]) = Lib.joinTail sep r ++ (sep ++ x) := by unfold Lib.joinTail; simp
theorem jt_zero (L : List Tk) : jt L 0 = [] := by unfold jt; simp [Lib.join_nil]
theorem jt_succ {L : List Tk} {j : Nat} (h : j < L.length) : jt L (j + 1) = (if 0 < j then jt L j ++ [32] else jt L j) ++ L[j].2.1 := by
  unfold jt
  rw [List.take_succ_eq_append_getElem h, List.map_append]
  simp only [List.map_cons, List.map_nil]
  cases hx : (L.take j).map fun t => t.2.1 with
  | nil =>
    have hj : j = 0 := by
      have := congrArg List.length hx
      simp at this
      rcases this with h1 | h1
      · exact h1
      · rw [h1] at h; simp at h
    subst hj
    simp [Lib.join_one, Lib.join_nil]
  | cons y r =>
    have hj : 0 < j := by
      rcases Nat.eq_zero_or_pos j with e | e
      · subst e; simp at hx
      · exact e
    rw [if_pos hj, List.cons_append, Lib.join_cons, Lib.join_cons, joinTail_snoc]
    simp
theorem jt_len {L : List Tk} : ∀ j, j ≤ L.length → (jt L j).length ≤ sumT (L.take j) + j
  | 0, _ => by rw [jt_zero]; simp
  | j + 1, h => by
    have := jt_len (L := L) j (by omega)
    rw [jt_succ (by omega), sumT_snoc (by omega)]
    split <;> simp <;> omega
theorem errF_drop {L : List Tk} {j : Nat} (h : j + 1 < L.length) : errF ((L.take (L.length - 1)).drop j) = if chkR L[j].1 L[j].2.1 ≠ 0 then chkR L[j].1 L[j].2.1 else errF ((L.take (L.length - 1)).drop (j + 1)) := by
  rw [List.drop_eq_getElem_cons (i := j) (by simp; omega)]
  simp only [List.getElem_take]
  rfl
theorem joinR_no {L : List Tk} (h : ¬ Ends L) : joinR L = ([], 12) := by unfold joinR; rw [if_pos h]
theorem joinR_yes {L : List Tk} (h : Ends L) : joinR L = if errF (L.take (L.length - 1)) ≠ 0 then ([], errF (L.take (L.length - 1)))
  else if (L.getLast?.map fun t => t.2.1) ≠ some [] then ([], 3)
  else if 4097 < sumT (L.take (L.length - 1)) + (L.length - 1) then ([], 13)
  else (jt L (L.length - 1), 0) := by unfold joinR; rw [if_neg (by simpa using h)]
end Go.Proofs.YtlcpfhgobfjioaaDoor

/- Law 7: where the first end stands (slices.IndexFunc with isEnd). -/
namespace Go.Proofs.YtlcpfhgobfjioaaDoor
open Go.RowKit Go.Shelf
open Z
/-- the place of the first end, or -1 -/
def endI (L : List Tk) : Int := if L.all (fun t => t.1 != 3) then -1 else (L.findIdx (fun t => t.1 == 3) : Nat)
theorem endI_at {L : List Tk} {k : Nat} (hk : k < L.length) (h3 : L[k].1 = 3) (h : ∀ j (hj : j < L.length), j < k → L[j].1 ≠ 3) : endI L = k := by
  unfold endI
  rw [if_neg, (List.findIdx_eq hk).2 ⟨by simpa using h3, fun j hj => by simpa using h j (by omega) hj⟩]
  intro hall
  have := List.all_eq_true.1 hall _ (List.getElem_mem hk)
  rw [h3] at this
  exact absurd this (by decide)
theorem endI_none {L : List Tk} (h : ∀ j (hj : j < L.length), L[j].1 ≠ 3) : endI L = -1 := by
  unfold endI
  rw [if_pos]
  rw [List.all_eq_true]
  intro x hx
  obtain ⟨j, hj, rfl⟩ := List.getElem_of_mem hx
  simpa using h j hj
theorem endI_ends {L : List Tk} : (0 < L.length ∧ endI L = ((L.length - 1 : Nat) : Int)) ↔ Ends L := by
  constructor
  · rintro ⟨hp, he⟩
    by_cases hall : ∀ j (hj : j < L.length), L[j].1 ≠ 3
    · rw [endI_none hall] at he; omega
    · have hx : ∃ x ∈ L, (x.1 == 3) = true := by
        apply Classical.byContradiction
        intro hno
        exact hall fun j hj e => hno ⟨L[j], List.getElem_mem hj, by simpa using e⟩
      have hlt := List.findIdx_lt_length_of_exists hx
      have hat := List.findIdx_getElem (w := hlt)
      have hne : endI L = (L.findIdx (fun t => t.1 == 3) : Nat) := by
        unfold endI
        rw [if_neg]
        intro hall2
        obtain ⟨x, hx1, hx2⟩ := hx
        have := List.all_eq_true.1 hall2 x hx1
        have h3 : x.1 = 3 := by simpa using hx2
        rw [h3] at this
        exact absurd this (by decide)
      rw [hne] at he
      have hi : L.findIdx (fun t => t.1 == 3) = L.length - 1 := by omega
      refine ⟨hp, fun j hj => ⟨fun h3 => ?_, fun hl => ?_⟩⟩
      · by_cases hj2 : j < L.findIdx (fun t => t.1 == 3)
        · have := List.not_of_lt_findIdx hj2
          exact absurd h3 (by simpa using this)
        · omega
      · have hj2 : j = L.findIdx (fun t => t.1 == 3) := by omega
        subst hj2
        simpa using hat
  · rintro ⟨hp, h⟩
    exact ⟨hp, endI_at (by omega) ((h (L.length - 1) (by omega)).2 (by omega)) fun j hj hl e => by have := (h j hj).1 e; omega⟩
set_option maxRecDepth 100000 in
set_option maxHeartbeats 2000000 in
theorem sl_IndexEnd {a : Option Addr} {L : List Tk} {c : Nat} (w : World) (hL : TksAt w a L) (hl : L.length ≤ 1000000000000) :
    Calls Tryd.prog 31 #[.slice a L.length c, .func (.func 32) #[] #[]] w fun e w' => e = .returned (.int .i64 (endI L)) ∧ Gr w w' := by
  have HL := Lib.hid hL
  obtain ⟨V, hV⟩ : ∃ V, endI L = V := ⟨_, rfl⟩
  have HV := Lib.hid hV
  rw [hV]
  obtain ⟨n, hn⟩ : ∃ n, L.length = n := ⟨_, rfl⟩
  have HN := Lib.hid hn
  rw [hn] at hl ⊢
  clear hL hn hV
  go_enter Tryd.func31, Tryd.ntmps31
  go_wp2
  go_loopw [8] (fun i wr => ∃ k : Nat, i = .int .i64 k ∧ k ≤ n ∧ Hid (Gr w wr) ∧ Hid (∀ j (hj : j < L.length), j < k → L[j].1 ≠ 3)) (fun i _ => n - (intOf i).toNat)
  case atStart => exact ⟨0, rfl, by omega, Lib.hid (Gr.refl _), Lib.hid fun j hj h => absurd h (by omega)⟩
  case round =>
    obtain ⟨k, rfl, hk, HG, HF⟩ := hrel
    by_cases hlt : k < n
    · have k1 : k < L.length := by rw [HN.out]; exact hlt
      obtain ⟨p, o, rfl, c0, c1, c2⟩ := (HL.out.gr HG.out).at k1
      have HYES : Hid (L[k].1 = 3 → V = k) := Lib.hid fun h => by rw [← HV.out]; exact endI_at k1 h HF.out
      have HNO : Hid (L[k].1 ≠ 3 → ∀ j (hj : j < L.length), j < k + 1 → L[j].1 ≠ 3) := Lib.hid fun h j hj hl => by
        by_cases e : j = k
        · subst e; exact h
        · exact HF.out j hj (by omega)
      generalize L[k] = x at *
      obtain ⟨kd, tx, ta⟩ := x
      simp only at c0 c1 c2 HYES HNO
      have C := Lib.hid (fun w => lx_isEnd kd (str tx) ta w)
      by_cases h3 : kd = 3
      · have z : (kd == 3) = true := by simp [h3]
        have hv := HYES.out h3
        rw [z] at C
        have HVK := Lib.hid hv
        clear HYES HNO HF h3 hv z
        go_wp2_with fail
        refine (C.out _).mono ?_; rintro e w1 ⟨rfl, hg1⟩
        have HG1 := Lib.hid (Gr.trans HG.out hg1); clear hg1 c0 c1 c2
        go_wp2
        go_ret
        exact ⟨by rw [HVK.out]; rfl, HG1.out⟩
      · have z : (kd == 3) = false := by rw [beq_eq_false_iff_ne]; exact h3
        have HF2 := Lib.hid (HNO.out h3)
        rw [z] at C
        clear HYES HNO HF h3 z
        go_wp2_with fail
        refine (C.out _).mono ?_; rintro e w1 ⟨rfl, hg1⟩
        have HG1 := Lib.hid (Gr.trans HG.out hg1); clear hg1 c0 c1 c2
        go_wp2
        go_roundw
        case rel => exact ⟨k + 1, by go_num, by omega, HG1, HF2⟩
        case measure => simp [intOf]; omega
    · have HVN : Hid (V = -1) := Lib.hid (by rw [← HV.out]; exact endI_none fun j hj => HF.out j hj (by rw [HN.out] at hj; omega))
      clear HF
      go_wp2
      go_ret
      exact ⟨by rw [HVN.out]; rfl, HG.out⟩
end Go.Proofs.YtlcpfhgobfjioaaDoor

/- Law 7: the program's Join. -/
namespace Go.Proofs.YtlcpfhgobfjioaaDoor
open Go.RowKit Go.Shelf
open Z
def svJ (l : List ByteArray) : List Value := l.map Value.string
/-- a list of texts of one's own -/
def OwnJ (B : Nat) (w : World) (v : Value) (l : List ByteArray) : Prop := w.ownsRow B 9 1 v l.length (svJ l)
theorem OwnJ.gr {B : Nat} {w w' : World} {v : Value} {l : List ByteArray} (h : OwnJ B w v l) (hg : Gr w w') : OwnJ B w' v l := by
  refine ⟨h.1, ?_⟩
  rcases h.2 with h2 | ⟨g, cap, cur, h1, hb, h3, h4⟩
  · exact .inl h2
  · exact .inr ⟨g, cap, cur, h1, hb, (hg.block g (Array.getElem?_eq_some_iff.1 h3).1).trans h3, h4⟩
theorem OwnJ.at {B g n cap : Nat} {w : World} {l : List ByteArray} (h : OwnJ B w (.slice (some ⟨g, 0, none⟩) n cap) l) (k : Nat) (hk : k < l.length) : w.cell? ⟨g, k, none⟩ = some (.string l[k]) ∧ w.frozen? ⟨g, k, none⟩ = false := by
  have hn : n = l.length := by
    rcases h.2 with ⟨h', _⟩ | ⟨g', cap', cur, h', -⟩
    · cases h'
    · simpa using (congrArg (fun v : Value => match v with | .slice _ n _ => n | _ => 0) h')
  subst hn
  refine ⟨?_, World.ownsRow.frozenAt h k⟩
  rw [World.ownsRow.cellAt h k (by omega)]
  simp [svJ, hk]
theorem OwnJ.set {B g n cap : Nat} {w : World} {l : List ByteArray} (h : OwnJ B w (.slice (some ⟨g, 0, none⟩) n cap) l) (k : Nat) (s : ByteArray) : OwnJ B (w.setCell ⟨g, k, none⟩ (.string s)) (.slice (some ⟨g, 0, none⟩) n cap) (l.set k s) := by
  have hn : n = l.length := by
    rcases h.2 with ⟨h', _⟩ | ⟨g', cap', cur, h', -⟩
    · cases h'
    · simpa using (congrArg (fun v : Value => match v with | .slice _ n _ => n | _ => 0) h')
  subst hn
  have := (World.ownsRow.stored h k (.string s)).1
  unfold OwnJ
  rw [List.length_set]
  have e : svJ (l.set k s) = (svJ l).set k (.string s) := by simp [svJ, List.map_set]
  rw [e]; exact this
theorem Tryd.infoStrJ : (Tryd.prog.info? 9).map (fun i => (i.zero, i.size, i.bytes)) = some (some (.string ⟨#[]⟩), 1, 16) := by kernel_rfl
/-- the texts of the first tokens, and nothing behind them -/
def tksK (L : List Tk) (k : Nat) : List ByteArray := (L.take k).map (fun t => str t.2.1) ++ List.replicate (L.length - k) ⟨#[]⟩
theorem tksK_len (L : List Tk) {k : Nat} (h : k ≤ L.length) : (tksK L k).length = L.length := by unfold tksK; simp; omega
theorem tksK_next {L : List Tk} {k : Nat} (h : k < L.length) : tksK L (k + 1) = (tksK L k).set k (str L[k].2.1) := by
  unfold tksK
  have e : L.length - k = (L.length - (k + 1)) + 1 := by omega
  rw [List.take_succ_eq_append_getElem h, List.map_append, e, List.replicate_succ, List.set_append_right _ _ (by rw [List.length_map, List.length_take]; omega)]
  simp [Nat.min_eq_left (Nat.le_of_lt h)]
theorem tksK_at {L : List Tk} {j : Nat} (h : j < L.length) : (tksK L L.length)[j]? = some (str L[j].2.1) := by
  unfold tksK
  simp [h]
theorem isTok_end {l : List UInt8} : isTok l 3 = true ↔ l = [] := by
  rw [isTok_iff]
  constructor
  · rintro ⟨-, h1, -, h4, -⟩
    cases l with
    | nil => rfl
    | cons c t =>
      rw [kindR_cons] at h1
      repeat' split at h1
      all_goals simp at h1
  · rintro rfl
    exact ⟨rfl, rfl, rfl, rfl, by decide⟩
theorem errF_skip {L : List Tk} : ∀ k, k + 1 ≤ L.length → (∀ j (h : j < L.length), j < k → chkR L[j].1 L[j].2.1 = 0) → errF (L.take (L.length - 1)) = errF ((L.take (L.length - 1)).drop k)
  | 0, _, _ => rfl
  | k + 1, hk, h => by
    rw [errF_skip k (by omega) (fun j hj hl => h j hj (by omega)), errF_drop (by omega), if_neg (by simpa using h k (by omega) (by omega))]
theorem jt_len_eq {L : List Tk} : ∀ j, j ≤ L.length → (jt L j).length + (if 0 < j then 1 else 0) = sumT (L.take j) + j
  | 0, _ => by rw [jt_zero]; simp [sumT]
  | j + 1, h => by
    have := jt_len_eq (L := L) j (by omega)
    have e1 : (if 0 < j + 1 then 1 else 0) = 1 := if_pos (by omega)
    rw [e1, jt_succ (by omega), sumT_snoc (by omega)]
    by_cases hj : 0 < j
    · rw [if_pos hj] at this ⊢; simp; omega
    · rw [if_neg hj] at this ⊢; simp; omega
/-- what the program's Join answers where a token is wrong, or none -/
theorem join_err {L : List Tk} (hE : Ends L) {k : Nat} (hk : k < L.length) (h : ∀ j (h : j < L.length), j < k → chkR L[j].1 L[j].2.1 = 0) (he : chkR L[k].1 L[k].2.1 ≠ 0) : joinR L = ([], chkR L[k].1 L[k].2.1) := by
  rw [joinR_yes hE]
  have hs := errF_skip k (by omega) h
  by_cases hl : k + 1 = L.length
  · rw [List.drop_of_length_le (by rw [List.length_take]; omega)] at hs
    rw [if_neg (by rw [hs]; simp [errF])]
    have h3 : L[k].1 = 3 := (hE.2 k hk).2 hl
    have hlast : L.getLast? = some L[k] := by rw [List.getLast?_eq_getElem?, ← hl, Nat.add_sub_cancel, List.getElem?_eq_getElem hk]
    rw [h3] at he ⊢
    have hT : ¬ isTok L[k].2.1 3 = true := fun ht => he (by unfold chkR; rw [if_neg (by decide), if_pos ht])
    have e3 : chkR 3 L[k].2.1 = 3 := by unfold chkR; rw [if_neg (by decide), if_neg hT]
    rw [e3, if_pos]
    rw [hlast]
    simp only [Option.map_some, ne_eq, Option.some.injEq]
    exact fun e => hT (isTok_end.2 e)
  · rw [errF_drop (by omega), if_pos he] at hs
    rw [hs, if_pos he]
theorem join_ok {L : List Tk} (hE : Ends L) (h : ∀ j (h : j < L.length), chkR L[j].1 L[j].2.1 = 0) : joinR L = if 4096 < (jt L (L.length - 1)).length then ([], 13) else (jt L (L.length - 1), 0) := by
  have hp := hE.1
  rw [joinR_yes hE]
  have hs := errF_skip (L.length - 1) (by omega) (fun j hj _ => h j hj)
  rw [List.drop_of_length_le (by rw [List.length_take]; omega)] at hs
  rw [if_neg (by rw [hs]; simp [errF])]
  have hk : L.length - 1 < L.length := by omega
  have h3 : L[L.length - 1].1 = 3 := (hE.2 _ hk).2 (by omega)
  have hlast : L.getLast? = some L[L.length - 1] := by rw [List.getLast?_eq_getElem?, List.getElem?_eq_getElem hk]
  have hc := h _ hk
  rw [h3] at hc
  unfold chkR at hc
  rw [if_neg (by decide)] at hc
  have ht : L[L.length - 1].2.1 = [] := by
    by_cases ht : isTok L[L.length - 1].2.1 3 = true
    · exact isTok_end.1 ht
    · rw [if_neg ht] at hc; exact absurd hc (by decide)
  rw [if_neg (by rw [hlast]; simp [ht])]
  have hj := jt_len_eq (L := L) (L.length - 1) (by omega)
  by_cases h4 : 4097 < sumT (L.take (L.length - 1)) + (L.length - 1)
  · rw [if_pos h4, if_pos]
    split at hj <;> omega
  · rw [if_neg h4, if_neg]
    split at hj
    · omega
    · rename_i h0
      rw [show L.length - 1 = 0 by omega, jt_zero]; simp
end Go.Proofs.YtlcpfhgobfjioaaDoor
