/- LyEG: LyE, LyF, LyG, joined. -/
import Derived.Test.YtlcpfhgobfjioaaDoorLyD
import Derived.Lib.SliceRun
set_option linter.unusedVariables false
set_option linter.unusedSimpArgs false

/- Law 7: LexerJoins. -/
namespace Go.Proofs.YtlcpfhgobfjioaaDoor
open Go.RowKit Go.Shelf
open Z
theorem sumT_mem {L : List Tk} {t : Tk} (h : t ∈ L) : t.2.1.length ≤ sumT L := by
  induction L with
  | nil => cases h
  | cons x L ih =>
    have e : sumT (x :: L) = x.2.1.length + sumT L := by unfold sumT; simp
    rcases List.mem_cons.1 h with rfl | h
    · omega
    · have := ih h; omega
end Go.Proofs.YtlcpfhgobfjioaaDoor

/- Law 7: mathematics of LexerReturns: what Scan makes of what Join returns. -/
namespace Go.Proofs.YtlcpfhgobfjioaaDoor
open Go.RowKit Go.Shelf
open Z
/-- nothing, or something that begins with a blank -/
def Blk (rest : List UInt8) : Prop := rest = [] ∨ ∃ r, rest = 32 :: r
theorem drop_app (pre tx rest : List UInt8) {j : Nat} (hj : j ≤ tx.length) : (pre ++ (tx ++ rest)).drop (pre.length + j) = tx.drop j ++ rest := by
  rw [List.drop_append, List.drop_of_length_le (by omega), List.nil_append, Nat.add_sub_cancel_left, List.drop_append, show j - tx.length = 0 by omega, List.drop_zero]
theorem get_app (pre tx rest : List UInt8) {j : Nat} (hj : j < tx.length) : (pre ++ (tx ++ rest))[pre.length + j]? = tx[j]? := by
  rw [List.getElem?_append_right (by omega), Nat.add_sub_cancel_left, List.getElem?_append_left hj]
theorem get_end {c : UInt8} (pre tx : List UInt8) {rest : List UInt8} (hb : Blk rest) (hc : c ≠ 32) : (pre ++ (tx ++ rest))[pre.length + tx.length]? ≠ some c := by
  rw [List.getElem?_append_right (by omega), Nat.add_sub_cancel_left, List.getElem?_append_right (by omega), Nat.sub_self]
  rcases hb with rfl | ⟨r, rfl⟩
  · simp
  · simp only [List.getElem?_cons_zero, ne_eq, Option.some.injEq]
    exact fun e => hc e.symm
theorem run_app {p : UInt8 → Bool} (pre tx rest : List UInt8) {j : Nat} (hj : j ≤ tx.length) (h : runK p tx j < tx.length ∨ rest.takeWhile p = []) : runK p (pre ++ (tx ++ rest)) (pre.length + j) = pre.length + runK p tx j := by
  unfold runK at h ⊢
  rw [drop_app pre tx rest hj, List.takeWhile_append]
  split
  · rename_i e
    rcases h with h | h
    · rw [e, List.length_drop] at h; omega
    · rw [h, List.append_nil, e]; omega
  · omega
theorem blk_take {p : UInt8 → Bool} {rest : List UInt8} (hb : Blk rest) (hp : p 32 = false) : rest.takeWhile p = [] := by
  rcases hb with rfl | ⟨r, rfl⟩
  · rfl
  · rw [List.takeWhile_cons, if_neg (by rw [hp]; decide)]
theorem dec_app (pre tx : List UInt8) {rest : List UInt8} {j : Nat} (hj : j ≤ tx.length) (hb : Blk rest) : decK (pre ++ (tx ++ rest)) (pre.length + j) = pre.length + decK tx j := by
  unfold decK
  by_cases hl : j < tx.length
  · rw [get_app pre tx rest hl, show pre.length + j + 1 = pre.length + (j + 1) by omega, run_app (j := j + 1) pre tx rest hl (.inr (blk_take hb (by decide)))]
    by_cases h : tx[j]? = some 46 ∧ runK isD tx (j + 1) ≠ j + 1
    · rw [if_pos h, if_pos ⟨h.1, by have := h.2; omega⟩]
    · rw [if_neg h, if_neg (fun e => h ⟨e.1, by have := e.2; omega⟩)]
  · have : j = tx.length := by omega
    subst this
    rw [if_neg (fun e => get_end pre tx hb (by decide) e.1), if_neg (fun e => by rw [List.getElem?_eq_none (by omega)] at e; cases e.1)]
/-- a token that stands between others -/
theorem kind_app (pre tx : List UInt8) {rest : List UInt8} (hb : Blk rest) (h0 : tx ≠ []) (he : (kindR tx 0).2.1 = 0) :
    kindR (pre ++ (tx ++ rest)) pre.length = ((kindR tx 0).1, 0, pre.length + (kindR tx 0).2.2) := by
  have hp : 0 < tx.length := List.length_pos_iff.2 h0
  have hg := get_app pre tx rest hp
  have e1 : pre.length + 1 = pre.length + (0 + 1) := by omega
  rw [Nat.add_zero, List.getElem?_eq_getElem hp] at hg
  unfold kindR at he ⊢
  rw [List.getElem?_eq_getElem hp] at he ⊢
  rw [hg]
  simp only at he ⊢
  by_cases h1 : letP tx[0] = true
  · rw [if_pos h1, if_pos h1, e1, run_app (j := 0 + 1) pre tx rest hp (.inr (blk_take hb (by decide)))]
  · rw [if_neg h1] at he ⊢
    rw [if_neg h1]
    by_cases h2 : tx[0] = 34
    · rw [if_pos h2] at he ⊢
      rw [if_pos h2]
      by_cases h3 : tx[runK plainP tx (0 + 1)]? = some 34
      · have hr : runK plainP tx (0 + 1) < tx.length := by
          by_cases hh : runK plainP tx (0 + 1) < tx.length
          · exact hh
          · rw [List.getElem?_eq_none (by omega)] at h3; cases h3
        rw [e1, run_app (j := 0 + 1) pre tx rest hp (.inl hr), get_app pre tx rest hr, if_pos h3, if_pos h3]
        simp only [Prod.mk.injEq, true_and]; omega
      · rw [if_neg h3] at he; cases he
    · rw [if_neg h2] at he ⊢
      rw [if_neg h2]
      by_cases h3 : isD tx[0] = true
      · have hr := (runK_le (p := isD) (l := tx) (k := 0 + 1) hp).2
        rw [if_pos h3, if_pos h3, e1, run_app (j := 0 + 1) pre tx rest hp (.inr (blk_take hb (by decide))), dec_app pre tx hr hb]
      · rw [if_neg h3] at he ⊢
        rw [if_neg h3]
        by_cases h4 : signP tx[0] = true
        · rw [if_pos h4, if_pos h4]
        · rw [if_neg h4] at he; cases he
theorem tok_skip {l : List UInt8} {k m : Nat} (h : skipB l k = skipB l m) : tokR l k = tokR l m := by unfold tokR; rw [h]
theorem tok_app (pre tx : List UInt8) {rest : List UInt8} {kd : Int} (hb : Blk rest) (ht : isTok tx kd = true) (h3 : kd ≠ 3) :
    tokR (pre ++ (tx ++ rest)) pre.length = ((kd, tx, (pre.length : Int)), 0, pre.length + tx.length) := by
  obtain ⟨f0, f1, f2, f4, f5⟩ := isTok_iff.1 ht
  have h0 : tx ≠ [] := by
    rintro rfl
    rw [kindR_nil] at f1
    exact h3 f1.symm
  have hp : 0 < tx.length := List.length_pos_iff.2 h0
  have hs : skipB (pre ++ (tx ++ rest)) pre.length = pre.length := skipB_stop fun hk e => by
    have hg := get_app pre tx rest hp
    rw [Nat.add_zero, List.getElem?_eq_getElem hk, List.getElem?_eq_getElem hp, Option.some.injEq, e] at hg
    have := skipB_blank hp hg.symm
    have h1 := (skipB_le (l := tx) (k := 0 + 1) hp).1
    omega
  have hk := kind_app pre tx hb h0 f2
  unfold tokR
  rw [hs, hk, if_neg (by simp)]
  simp only [f1, f4]
  have hc : cutL (pre ++ (tx ++ rest)) pre.length (pre.length + tx.length) = tx := by
    unfold cutL
    have := drop_app pre tx rest (Nat.zero_le _)
    rw [Nat.add_zero] at this
    rw [this, Nat.add_sub_cancel_left, List.drop_zero, List.take_left]
  rw [hc, f5]
theorem tok_end (l : List UInt8) : tokR l l.length = ((3, [], (l.length : Int)), 0, l.length) := by
  have hs : skipB l l.length = l.length := skipB_stop fun hk => absurd hk (by omega)
  have hk : kindR l l.length = (3, 0, l.length) := by unfold kindR; rw [List.getElem?_eq_none (by omega)]
  unfold tokR
  rw [hs, hk, if_neg (by simp)]
  simp [cutL, txtK]
theorem jt_ext {L : List Tk} {i : Nat} (hi : 0 < i) : ∀ m, i ≤ m → m ≤ L.length → ∃ rest, jt L m = jt L i ++ rest ∧ Blk rest := by
  intro m hm
  induction m with
  | zero => omega
  | succ m ih =>
    intro hl
    by_cases e : i = m + 1
    · subst e; exact ⟨[], by simp, .inl rfl⟩
    · obtain ⟨r, hr, hb⟩ := ih (by omega) (by omega)
      rw [jt_succ (by omega), if_pos (by omega), hr]
      refine ⟨r ++ [32] ++ L[m].2.1, by simp, ?_⟩
      rcases hb with rfl | ⟨q, rfl⟩
      · exact .inr ⟨L[m].2.1, by simp⟩
      · exact .inr ⟨q ++ [32] ++ L[m].2.1, by simp⟩
theorem chk_tok {kd : Int} {l : List UInt8} (h : chkR kd l = 0) : isTok l kd = true := by
  unfold chkR at h
  split at h
  · cases h
  · split at h
    · assumption
    · cases h
/-- the tokens that stand in what Join returns -/
theorem jt_tok {L : List Tk} (hE : Ends L) (h : ∀ j (h : j < L.length), chkR L[j].1 L[j].2.1 = 0) : ∀ j (hj : j < L.length), kAt (jt L (L.length - 1)) j = (jt L j).length ∧
    (tokR (jt L (L.length - 1)) (kAt (jt L (L.length - 1)) j)).2.1 = 0 ∧ (tokR (jt L (L.length - 1)) (kAt (jt L (L.length - 1)) j)).1.1 = L[j].1 ∧ (tokR (jt L (L.length - 1)) (kAt (jt L (L.length - 1)) j)).1.2.1 = L[j].2.1 := by
  have key : ∀ j (hj : j < L.length), kAt (jt L (L.length - 1)) j = (jt L j).length → (tokR (jt L (L.length - 1)) (kAt (jt L (L.length - 1)) j)).2.1 = 0 ∧ (tokR (jt L (L.length - 1)) (kAt (jt L (L.length - 1)) j)).1.1 = L[j].1 ∧ (tokR (jt L (L.length - 1)) (kAt (jt L (L.length - 1)) j)).1.2.1 = L[j].2.1 ∧ (j + 1 < L.length → (tokR (jt L (L.length - 1)) (kAt (jt L (L.length - 1)) j)).2.2 = (jt L (j + 1)).length) := by
    intro j hj hk
    have ht := chk_tok (h j hj)
    rw [hk]
    by_cases hl : j + 1 = L.length
    · have h3 := (hE.2 j hj).2 hl
      rw [show L.length - 1 = j by omega, tok_end]
      rw [h3] at ht ⊢
      exact ⟨rfl, rfl, (isTok_end.1 ht).symm, fun h => absurd h (by omega)⟩
    · have h3 : L[j].1 ≠ 3 := fun e => hl ((hE.2 j hj).1 e)
      obtain ⟨rest, hr, hb⟩ := jt_ext (L := L) (i := j + 1) (by omega) (L.length - 1) (by omega) (by omega)
      have hs := jt_succ hj
      by_cases h0 : 0 < j
      · rw [if_pos h0] at hs
        have e : jt L (L.length - 1) = (jt L j ++ [32]) ++ (L[j].2.1 ++ rest) := by rw [hr, hs, List.append_assoc]
        have T := tok_app (jt L j ++ [32]) L[j].2.1 hb ht h3
        rw [← e] at T
        have hsk : skipB (jt L (L.length - 1)) (jt L j).length = skipB (jt L (L.length - 1)) ((jt L j).length + 1) := skipB_blank (by rw [e]; simp) (by simp [e])
        rw [tok_skip hsk]
        rw [List.length_append, List.length_singleton] at T
        rw [T, hs]
        exact ⟨rfl, rfl, rfl, fun _ => by simp; omega⟩
      · rw [if_neg h0] at hs
        have e : jt L (L.length - 1) = jt L j ++ (L[j].2.1 ++ rest) := by rw [hr, hs, List.append_assoc]
        have T := tok_app (jt L j) L[j].2.1 hb ht h3
        rw [← e] at T
        rw [T, hs]
        exact ⟨rfl, rfl, rfl, fun _ => by simp⟩
  intro j
  induction j with
  | zero =>
    intro hj
    have e : kAt (jt L (L.length - 1)) 0 = (jt L 0).length := by rw [jt_zero]; rfl
    obtain ⟨a, b, c, -⟩ := key 0 hj e
    exact ⟨e, a, b, c⟩
  | succ j ih =>
    intro hj
    obtain ⟨e, -⟩ := ih (by omega)
    obtain ⟨-, -, -, d⟩ := key j (by omega) e
    have e2 : kAt (jt L (L.length - 1)) (j + 1) = (jt L (j + 1)).length := d hj
    obtain ⟨a, b, c, -⟩ := key (j + 1) hj e2
    exact ⟨e2, a, b, c⟩
theorem scanF_n {l : List UInt8} {n : Nat} (h0 : ∀ j, j < n → (tokR l (kAt l j)).2.1 = 0) (h3 : ∀ j, j < n → ((tokR l (kAt l j)).1.1 = 3 ↔ j + 1 = n)) : ∀ f out, out.length < n → out.length ≤ 256 → out.length + f = 257 → (scanF l f out (kAt l out.length)).2.2 = if n ≤ 256 then 0 else 5 := by
  intro f
  induction f with
  | zero => intro out hn h2 hf; omega
  | succ f ih =>
    intro out hn h2 hf
    unfold scanF
    rw [if_neg (by simp [h0 _ hn])]
    by_cases h256 : out.length = 256
    · rw [if_pos h256, if_neg (by omega)]
    · rw [if_neg h256]
      by_cases hk : (tokR l (kAt l out.length)).1.1 = 3
      · have := (h3 _ hn).1 hk
        rw [if_pos hk, if_pos (by omega)]
      · have : out.length + 1 ≠ n := fun e => hk ((h3 _ hn).2 e)
        rw [if_neg hk]
        have e : (tokR l (kAt l out.length)).2.2 = kAt l (out ++ [(tokR l (kAt l out.length)).1]).length := by simp [kAt]
        rw [e]
        exact ih _ (by simp; omega) (by simp; omega) (by simp; omega)
theorem errF_zero : ∀ {l : List Tk}, errF l = 0 → ∀ j (h : j < l.length), chkR l[j].1 l[j].2.1 = 0
  | [], _, j, h => absurd h (by simp)
  | t :: r, e, j, h => by
    unfold errF at e
    by_cases ht : chkR t.1 t.2.1 ≠ 0
    · rw [if_pos ht] at e; exact absurd e ht
    · rw [if_neg ht] at e
      cases j with
      | zero => simpa using ht
      | succ j => exact errF_zero e j (by simpa using h)
theorem join_parts {L : List Tk} (h : (joinR L).2 = 0) : Ends L ∧ (∀ j (h : j < L.length), chkR L[j].1 L[j].2.1 = 0) ∧ (joinR L).1 = jt L (L.length - 1) ∧ (jt L (L.length - 1)).length ≤ 4096 := by
  by_cases hE : Ends L
  · have hp := hE.1
    rw [joinR_yes hE] at h ⊢
    by_cases h1 : errF (L.take (L.length - 1)) ≠ 0
    · rw [if_pos h1] at h; exact absurd h h1
    · rw [if_neg h1] at h ⊢
      by_cases h2 : (L.getLast?.map fun t => t.2.1) ≠ some []
      · rw [if_pos h2] at h; cases h
      · rw [if_neg h2] at h ⊢
        by_cases h4 : 4097 < sumT (L.take (L.length - 1)) + (L.length - 1)
        · rw [if_pos h4] at h; cases h
        · rw [if_neg h4]
          refine ⟨hE, fun j hj => ?_, rfl, ?_⟩
          · by_cases hl : j + 1 = L.length
            · have h3 := (hE.2 j hj).2 hl
              have hlast : L.getLast? = some L[j] := by rw [List.getLast?_eq_getElem?, ← hl, Nat.add_sub_cancel, List.getElem?_eq_getElem hj]
              rw [hlast] at h2
              simp only [Option.map_some, ne_eq, Option.some.injEq, Decidable.not_not] at h2
              rw [h3, h2]
              unfold chkR
              rw [if_neg (by decide), if_pos (isTok_end.2 rfl)]
            · have := errF_zero (by simpa using h1) j (by rw [List.length_take]; omega)
              simpa using this
          · have hj := jt_len_eq (L := L) (L.length - 1) (by omega)
            split at hj
            · omega
            · rename_i h0
              rw [show L.length - 1 = 0 by omega, jt_zero]; simp
  · rw [joinR_no hE] at h; cases h
/-- the tokens that Scan finds in what Join returns are the same ones, or too many -/
theorem join_scan {L : List Tk} (h : (joinR L).2 = 0) : (scanR (joinR L).1).2.2 = (if L.length ≤ 256 then 0 else 5) ∧
    (L.length ≤ 256 → (scanR (joinR L).1).1.length = L.length ∧ ∀ j (h1 : j < (scanR (joinR L).1).1.length) (h2 : j < L.length), (scanR (joinR L).1).1[j].1 = L[j].1 ∧ (scanR (joinR L).1).1[j].2.1 = L[j].2.1) := by
  obtain ⟨hE, hc, e, hl⟩ := join_parts h
  rw [e]
  have T := jt_tok hE hc
  generalize jt L (L.length - 1) = l at *
  have hz : (scanR l).2.2 = if L.length ≤ 256 then 0 else 5 := by
    unfold scanR
    rw [if_neg (by omega)]
    refine scanF_n (n := L.length) (fun j hj => (T j hj).2.1) (fun j hj => ?_) 257 [] hE.1 (by simp) rfl
    rw [(T j hj).2.2.1]; exact hE.2 j hj
  refine ⟨hz, fun h256 => ?_⟩
  rw [if_pos h256] at hz
  have K := scan_toks hz
  generalize (scanR l).1 = M at *
  have hMn : M.length = L.length := by
    have h1 := K.pos
    by_cases ha : M.length < L.length
    · have := (hE.2 (M.length - 1) (by omega)).1 (by rw [← (T _ (by omega)).2.2.1]; exact K.last)
      omega
    · by_cases hb : L.length < M.length
      · have h2 := hE.1
        have := K.mid (L.length - 1) (by omega)
        rw [(T _ (by omega)).2.2.1] at this
        exact absurd ((hE.2 _ (by omega)).2 (by omega)) this
      · omega
  refine ⟨hMn, fun j h1 h2 => ?_⟩
  rw [K.tok j h1]
  exact (T j h2).2.2
end Go.Proofs.YtlcpfhgobfjioaaDoor

/- Law 7: slices.Clone of tokens; bare. -/
namespace Go.Proofs.YtlcpfhgobfjioaaDoor
open Go.RowKit Go.Shelf
open Z
/-- tokens in a row that may be written -/
def HTk (w : World) (g : Nat) (d : List Tk) : Prop := ∀ j (h : j < d.length), (w.cell? ⟨g, j * 3, none⟩ = some (.int .i64 d[j].1) ∧ w.cell? ⟨g, j * 3 + 1, none⟩ = some (.string (str d[j].2.1)) ∧ w.cell? ⟨g, j * 3 + 2, none⟩ = some (.int .i64 d[j].2.2)) ∧ w.frozen? ⟨g, j * 3 + 2, none⟩ = false
theorem HTk.set {w : World} {g : Nat} {d : List Tk} (h : HTk w g d) {i : Nat} (hi : i < d.length) (y : Int) : HTk (w.setCell ⟨g, i * 3 + 2, none⟩ (.int .i64 y)) g (d.set i (d[i].1, d[i].2.1, y)) := fun j hj => by
  rw [List.length_set] at hj
  obtain ⟨⟨h0, h1, h2⟩, f1⟩ := h j hj
  have other : ∀ (a : Nat), a ≠ i * 3 + 2 → (w.setCell ⟨g, i * 3 + 2, none⟩ (.int .i64 y)).cell? ⟨g, a, none⟩ = w.cell? ⟨g, a, none⟩ := fun a hn => World.cell?_setCell_other _ _ _ _ (by simp only [ne_eq, Addr.mk.injEq]; omega)
  refine ⟨?_, by rw [World.frozen?_setCell]; exact f1⟩
  by_cases e : i = j
  · subst e
    rw [List.getElem_set_self]
    exact ⟨(other _ (by omega)).trans h0, (other _ (by omega)).trans h1, World.cell?_setCell_same _ _ _ h2⟩
  · rw [List.getElem_set_ne e]
    exact ⟨(other _ (by omega)).trans h0, (other _ (by omega)).trans h1, (other _ (by omega)).trans h2⟩
theorem HTk.of {B : Nat} {w : World} {v : Value} {l : List Tk} (h : OwnTk B w v l) (hne : l ≠ []) : ∃ g cap, v = .slice (some ⟨g, 0, none⟩) l.length cap ∧ B ≤ g ∧ HTk w g l := by
  rcases id h.2 with ⟨-, h0⟩ | ⟨g, cap, cur, rfl, hb, hg, _⟩
  · exact absurd (List.eq_nil_of_length_eq_zero h0) hne
  · refine ⟨g, cap, rfl, hb, fun j hj => ?_⟩
    obtain ⟨h0, h1, h2⟩ := tv_get l j hj
    have c : ∀ j u, (tv l)[j]? = some u → w.cell? ⟨g, j, none⟩ = some u := fun j u hj => by
      have := World.ownsRow.cells h (g := g) rfl j u hj
      rwa [WideShapes.add_plain, Nat.zero_add] at this
    exact ⟨⟨c _ _ h0, c _ _ h1, c _ _ h2⟩, by simp [World.frozen?, hg]⟩
/-- tokens without their offsets -/
def bareL (L : List Tk) : List Tk := L.map fun t => (t.1, t.2.1, 0)
theorem bareL_len (L : List Tk) : (bareL L).length = L.length := by unfold bareL; simp
/-- the offsets of the first ones are gone -/
def Bared (L d : List Tk) (j : Nat) : Prop := d.length = L.length ∧ ∀ k (h : k < d.length) (h2 : k < L.length), d[k].1 = L[k].1 ∧ d[k].2.1 = L[k].2.1 ∧ (k < j → d[k].2.2 = 0)
theorem Bared.next {L d : List Tk} {j : Nat} (h : Bared L d j) (hj : j < d.length) : Bared L (d.set j (d[j].1, d[j].2.1, 0)) (j + 1) := by
  refine ⟨by rw [List.length_set]; exact h.1, fun k hk h2 => ?_⟩
  rw [List.length_set] at hk
  obtain ⟨a, b, c⟩ := h.2 k hk h2
  by_cases e : j = k
  · subst e
    rw [List.getElem_set_self]
    exact ⟨a, b, fun _ => rfl⟩
  · rw [List.getElem_set_ne e]
    exact ⟨a, b, fun hl => c (by omega)⟩
theorem Bared.done {L d : List Tk} {j : Nat} (h : Bared L d j) (hj : L.length ≤ j) : d = bareL L := by
  apply List.ext_getElem
  · rw [bareL_len]; exact h.1
  · intro k h1 h2
    rw [bareL_len] at h2
    obtain ⟨a, b, c⟩ := h.2 k h1 h2
    simp only [bareL, List.getElem_map]
    exact Prod.ext a (Prod.ext b (c (by omega)))
end Go.Proofs.YtlcpfhgobfjioaaDoor
