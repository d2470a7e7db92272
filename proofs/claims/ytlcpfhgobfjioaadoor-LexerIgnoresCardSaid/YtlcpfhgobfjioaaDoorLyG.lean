/- Law 7: slices.Clone of tokens; bare. -/
import Derived.Test.YtlcpfhgobfjioaaDoorLyF
import Derived.Lib.SliceRun
set_option linter.unusedVariables false
set_option linter.unusedSimpArgs false
namespace Go.Proofs.YtlcpfhgobfjioaaDoor
open Go.RowKit Go.Shelf
open Z
/-- tokens in a row that may be written -/
def HTk (w : World) (g : Nat) (d : List Tk) : Prop := ∀ j (h : j < d.length), (w.cell? ⟨g, j * 3, none⟩ = some (.int .i64 d[j].1) ∧ w.cell? ⟨g, j * 3 + 1, none⟩ = some (.string (str d[j].2.1)) ∧ w.cell? ⟨g, j * 3 + 2, none⟩ = some (.int .i64 d[j].2.2)) ∧ w.frozen? ⟨g, j * 3 + 2, none⟩ = false
theorem HTk.set {w : World} {g : Nat} {d : List Tk} (h : HTk w g d) {i : Nat} (hi : i < d.length) (y : Int) : HTk (w.setCell ⟨g, i * 3 + 2, none⟩ (.int .i64 y)) g (d.set i (d[i].1, d[i].2.1, y)) := fun j hj => by
  rw [List.length_set] at hj
  obtain ⟨⟨h0, h1, h2⟩, f1⟩ := h j hj
  have other : ∀ (a : Nat), a ≠ i * 3 + 2 → (w.setCell ⟨g, i * 3 + 2, none⟩ (.int .i64 y)).cell? ⟨g, a, none⟩ = w.cell? ⟨g, a, none⟩ := fun a hn => World.cell?_setCell_other _ _ _ _ (by simp only [ne_eq, Addr.mk.injEq]; omega)
  refine ⟨?_, by rw [World.frozen?_setCell]; exact f1⟩
  by_cases e : i = j
  · subst e
    rw [List.getElem_set_self]
    exact ⟨(other _ (by omega)).trans h0, (other _ (by omega)).trans h1, World.cell?_setCell_same _ _ _ h2⟩
  · rw [List.getElem_set_ne e]
    exact ⟨(other _ (by omega)).trans h0, (other _ (by omega)).trans h1, (other _ (by omega)).trans h2⟩
theorem HTk.tks {w : World} {g : Nat} {d : List Tk} (h : HTk w g d) : TksAt w (some ⟨g, 0, none⟩) d := .inr ⟨g, 0, rfl, fun j hj => by rw [Nat.zero_add]; exact (h j hj).1⟩
theorem HTk.of {B : Nat} {w : World} {v : Value} {l : List Tk} (h : OwnTk B w v l) (hne : l ≠ []) : ∃ g cap, v = .slice (some ⟨g, 0, none⟩) l.length cap ∧ B ≤ g ∧ HTk w g l := by
  rcases id h.2 with ⟨-, h0⟩ | ⟨g, cap, cur, rfl, hb, hg, _⟩
  · exact absurd (List.eq_nil_of_length_eq_zero h0) hne
  · refine ⟨g, cap, rfl, hb, fun j hj => ?_⟩
    obtain ⟨h0, h1, h2⟩ := tv_get l j hj
    have c : ∀ j u, (tv l)[j]? = some u → w.cell? ⟨g, j, none⟩ = some u := fun j u hj => by
      have := World.ownsRow.cells h (g := g) rfl j u hj
      rwa [WideShapes.add_plain, Nat.zero_add] at this
    exact ⟨⟨c _ _ h0, c _ _ h1, c _ _ h2⟩, by simp [World.frozen?, hg]⟩
set_option maxHeartbeats 2000000 in
set_option maxRecDepth 100000 in
theorem tk_Clone (aa : Option Addr) (ca : Nat) (l : List Tk) (w : World) (hr : TksAt w aa l) (hl : l.length ≤ 400) :
    Calls Tryd.prog 36 #[.slice aa l.length ca] w fun e w' => ∃ v', e = .returned v' ∧ OwnTk w.heap.size w' v' l ∧ Gr w w' := by
  obtain ⟨i0, hi, hz0, hz1, hz2⟩ := info_parts Tryd.infoTok
  have q22 : ∀ (w : World) (a : Option Addr) (n c n' c' : Nat), (binOp .eql 22 (.slice a n c) (.slice none n' c')).run Tryd.prog w = .ok (.bool a.isNone) w := fun w a n c n' c' => Lib.run_eql_slice_nil w _ _ a n c n' c' Tryd.underlying22
  have HR := Lib.hid hr; clear hr
  cases aa with
  | none =>
    have hx : l = [] := by
      rcases HR.out with ⟨-, h⟩ | ⟨b, off, ha, -⟩
      · exact h
      · cases ha
    subst hx
    go_enter Tryd.func36, Tryd.ntmps36
    go_wp2
    go_ret
    exact ⟨_, rfl, OwnTk.nil _ _, Gr.refl _⟩
  | some ad =>
    go_enter Tryd.func36, Tryd.ntmps36
    go_wp2_with (at_builtin; refine wpList_append_own _ rfl _ _ 22 rfl w.heap.size 32 i0 (.agg #[.int .i64 0, .string ⟨#[]⟩, .int .i64 0]) 3 32 Tryd.underlying22 hi hz0 hz1 hz2 rfl (by decide) _ _ _ rfl (World.ownsRow_made w #[] 0 (Nat.le_refl _) (Nat.zero_le _) rfl) ad l.length ca (tv l) rfl ?qc1 ?qc2 ?qc3 ?qc4 ?qc5 ?qc6 ?_)
    case qc1 => rw [tv_len]
    case qc2 =>
      intro j u hj
      have hjn : j < l.length * 3 := by
        have := (List.getElem?_eq_some_iff.1 hj).1
        rwa [tv_len] at this
      obtain ⟨b, o, e, c0, c1, c2⟩ := HR.out.at (j := j / 3) (by omega)
      simp only [Option.some.injEq] at e
      subst e
      rw [Addr.add_lit]
      refine Lib.cell?_alloc_some _ ?_
      obtain ⟨g0, g1, g2⟩ := tv_get l (j / 3) (by omega)
      rcases (show j = j / 3 * 3 ∨ j = j / 3 * 3 + 1 ∨ j = j / 3 * 3 + 2 by omega) with h | h | h
      · rw [h, g0] at hj; cases hj; rw [show o + j = o + j / 3 * 3 by omega]; simpa using c0
      · rw [h, g1] at hj; cases hj; rw [show o + j = o + j / 3 * 3 + 1 by omega]; exact c1
      · rw [h, g2] at hj; cases hj; rw [show o + j = o + j / 3 * 3 + 2 by omega]; exact c2
    case qc3 =>
      intro u hu
      obtain ⟨x, _, hx⟩ := List.mem_flatMap.1 hu
      simp only [List.mem_cons, List.not_mem_nil, or_false] at hx
      rcases hx with rfl | rfl | rfl <;> rfl
    case qc4 => unfold maxLen; omega
    case qc5 => omega
    case qc6 => simp
    intro v' w1 hown hgrow hnil
    have HO : Hid (OwnTk w.heap.size w1 v' l) := by
      show World.ownsRow _ _ _ _ _ _ _
      simpa using hown
    have HG : Hid (Gr w w1) := ((Below.refl _ w).alloc (Nat.le_refl _) _).grown hgrow (by simp) (by intro k hk; simp [Value.ownBlock] at hk; omega)
    clear hown hgrow hnil
    go_wp2
    go_ret
    exact ⟨v', rfl, HO.out, HG.out⟩
/-- tokens without their offsets -/
def bareL (L : List Tk) : List Tk := L.map fun t => (t.1, t.2.1, 0)
theorem bareL_len (L : List Tk) : (bareL L).length = L.length := by unfold bareL; simp
/-- the offsets of the first ones are gone -/
def Bared (L d : List Tk) (j : Nat) : Prop := d.length = L.length ∧ ∀ k (h : k < d.length) (h2 : k < L.length), d[k].1 = L[k].1 ∧ d[k].2.1 = L[k].2.1 ∧ (k < j → d[k].2.2 = 0)
theorem Bared.next {L d : List Tk} {j : Nat} (h : Bared L d j) (hj : j < d.length) : Bared L (d.set j (d[j].1, d[j].2.1, 0)) (j + 1) := by
  refine ⟨by rw [List.length_set]; exact h.1, fun k hk h2 => ?_⟩
  rw [List.length_set] at hk
  obtain ⟨a, b, c⟩ := h.2 k hk h2
  by_cases e : j = k
  · subst e
    rw [List.getElem_set_self]
    exact ⟨a, b, fun _ => rfl⟩
  · rw [List.getElem_set_ne e]
    exact ⟨a, b, fun hl => c (by omega)⟩
theorem Bared.done {L d : List Tk} {j : Nat} (h : Bared L d j) (hj : L.length ≤ j) : d = bareL L := by
  apply List.ext_getElem
  · rw [bareL_len]; exact h.1
  · intro k h1 h2
    rw [bareL_len] at h2
    obtain ⟨a, b, c⟩ := h.2 k h1 h2
    simp only [bareL, List.getElem_map]
    exact Prod.ext a (Prod.ext b (c (by omega)))
set_option maxHeartbeats 2000000 in
set_option maxRecDepth 100000 in
theorem l7_bare (aa : Option Addr) (ca : Nat) (L : List Tk) (w : World) (hr : TksAt w aa L) (hl : L.length ≤ 400) :
    Calls Tryd.prog 13 #[.slice aa L.length ca] w fun e w' => ∃ a' c', e = .returned (.slice a' L.length c') ∧ TksAt w' a' (bareL L) ∧ Gr w w' := by
  have C := Lib.hid (tk_Clone aa ca L w hr hl)
  clear hr
  obtain ⟨n, hn⟩ : ∃ n, L.length = n := ⟨_, rfl⟩
  have HN := Lib.hid hn
  rw [hn] at hl C ⊢
  go_enter Tryd.func13, Tryd.ntmps13
  go_wp2_with fail
  refine C.out.mono ?_; rintro e w1 ⟨v, rfl, ho, hg⟩
  have HG := Lib.hid hg
  clear hg C
  by_cases h0 : L = []
  · subst h0
    obtain ⟨a, cap, rfl, hts, -⟩ := ho.shape
    have HTS := Lib.hid hts
    have hz : n = 0 := hn.symm
    subst hz
    clear hn HN ho hts
    simp only [List.length_nil]
    go_wp2
    go_loopw [9] (fun i wr => i = .int .i64 0 ∧ Hid (wr = w1)) (fun i _ => 0)
    case atStart => exact ⟨rfl, Lib.hid rfl⟩
    case round =>
      obtain ⟨rfl, HW⟩ := hrel
      go_wp2
      go_ret
      have := HW.out
      subst this
      exact ⟨_, _, rfl, HTS.out, HG.out⟩
  · obtain ⟨g, cap, rfl, hb, ht⟩ := HTk.of ho h0
    have HB := Lib.hid hb
    have HT := Lib.hid ht
    rw [hn]
    clear ho ht hb hn h0
    go_wp2
    go_loopw [9] (fun i wr => ∃ (j : Nat) (d : List Tk), i = .int .i64 j ∧ j ≤ n ∧ Hid (Bared L d j) ∧ Hid (HTk wr g d) ∧ Hid (Gr w wr)) (fun i _ => n - (intOf i).toNat)
    case atStart => exact ⟨0, L, rfl, Nat.zero_le _, Lib.hid ⟨rfl, fun k _ _ => ⟨rfl, rfl, fun h => absurd h (by omega)⟩⟩, HT, HG⟩
    case round =>
      obtain ⟨j, d, rfl, hj, HD, HTT, HG2⟩ := hrel
      by_cases hlt : j < n
      · have j1 : j < d.length := by rw [HD.out.1, HN.out]; exact hlt
        obtain ⟨⟨c0, c1, c2⟩, f2⟩ := HTT.out j j1
        have HD2 := Lib.hid (HD.out.next j1)
        have HT2 := Lib.hid (HTT.out.set j1 0)
        have HG3 : Hid (Gr w (wr.setCell ⟨g, j * 3 + 2, none⟩ (.int .i64 0))) := Below.setCell HG2.out (show _ ≤ g from HB.out) _
        generalize d[j] = x at *
        obtain ⟨kd, tx, ta⟩ := x
        simp only at c0 c1 c2 HD2 HT2
        generalize d.set j (kd, tx, 0) = d2 at *
        generalize str tx = ts at *
        clear j1
        go_wp2
        go_roundw
        case rel => exact ⟨j + 1, d2, by go_num, by omega, HD2, HT2, HG3⟩
        case measure => simp [intOf]; omega
      · have hd := HD.out.done (by rw [HN.out]; omega)
        subst hd
        clear HD
        go_wp2
        go_ret
        exact ⟨_, _, rfl, HTT.out.tks, HG2.out⟩
end Go.Proofs.YtlcpfhgobfjioaaDoor
