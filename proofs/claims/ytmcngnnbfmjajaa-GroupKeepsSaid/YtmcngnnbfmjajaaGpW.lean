/- Law 14: copyOfAll and Find of the program. -/
import Derived.Test.YtmcngnnbfmjajaaGpV
import Derived.Test.YtmcngnnbfmjajaaGpS
set_option linter.unusedVariables false
set_option linter.unusedSimpArgs false
namespace Go.Proofs.Ytmcngnnbfmjajaa.Z
open Go
def findG (l : List Gp) (n : Int) : Gp := (l.find? fun g => decide (g.1 = n)).getD (0, [])
theorem findG_at {l : List Gp} {n : Int} {i : Nat} (ha : asc l) (hi : i < l.length) (e : l[i].1 = n) : findG l n = l[i] := by
  unfold findG
  cases h : l.find? (fun g => decide (g.1 = n)) with
  | none => exact absurd (List.find?_eq_none.1 h l[i] (List.getElem_mem hi)) (by simpa using e)
  | some x =>
    have h1 := List.find?_some h
    have h2 := List.mem_of_find?_eq_some h
    obtain ⟨k, hk, rfl⟩ := List.getElem_of_mem h2
    have := asc_inj ha hk hi (by simp at h1; omega)
    subst this; rfl
def findR (l : List Gp) (n : Int) : Gp × Int := if tbR l = 0 then (if hasN l n = true then (findG l n, 0) else ((0, []), 6)) else ((0, []), tbR l)
end Go.Proofs.Ytmcngnnbfmjajaa.Z
namespace Go.Proofs.Ytmcngnnbfmjajaa
open Go.RowKit
open Z
theorem OwnI.typed {B : Nat} {w w' : World} {v : Value} {l : List Int} (h : OwnI B w v l) (hk : ∀ (p : Nat) (cur : Array Value) (fz : Nat × Nat), w.heap[p]? = some (Obj.cells cur 3 fz) → w'.heap[p]? = w.heap[p]?) : OwnI B w' v l := by
  refine ⟨h.1, ?_⟩
  rcases h.2 with h2 | ⟨g, cap, cur, h1, hb, h3, h4⟩
  · exact .inl h2
  · exact .inr ⟨g, cap, cur, h1, hb, (hk g cur _ h3).trans h3, h4⟩
/-- clones of the groups -/
def CL (B : Nat) (w : World) (M : List GV) (l : List Gp) : Prop := M.length = l.length ∧ ∀ k (h : k < M.length) (h' : k < l.length), M[k].1 = l[k].1 ∧ OwnI B w (gsl M[k]) l[k].2
theorem CL.gr {B : Nat} {w w' : World} {M : List GV} {l : List Gp} (h : CL B w M l) (hg : Gr w w') : CL B w' M l := ⟨h.1, fun k h1 h2 => ⟨(h.2 k h1 h2).1, (h.2 k h1 h2).2.gr hg⟩⟩
theorem CL.typed {B : Nat} {w w' : World} {M : List GV} {l : List Gp} (h : CL B w M l) (hk : ∀ (p : Nat) (cur : Array Value) (fz : Nat × Nat), w.heap[p]? = some (Obj.cells cur 3 fz) → w'.heap[p]? = w.heap[p]?) : CL B w' M l := ⟨h.1, fun k h1 h2 => ⟨(h.2 k h1 h2).1, (h.2 k h1 h2).2.typed hk⟩⟩
theorem CL.nil (B : Nat) (w : World) : CL B w [] [] := ⟨rfl, fun k h => absurd h (by simp)⟩
theorem CL.snoc {B : Nat} {w : World} {M : List GV} {l : List Gp} {m : GV} {g : Gp} (h : CL B w M l) (h1 : m.1 = g.1) (h2 : OwnI B w (gsl m) g.2) : CL B w (M ++ [m]) (l ++ [g]) := ⟨by simp [h.1], fun k hk hk' => by
  by_cases e : k < M.length
  · have e' : k < l.length := by rw [← h.1]; exact e
    simp only [List.getElem_append_left e, List.getElem_append_left e']
    exact h.2 k e e'
  · have e1 : k = M.length := by simp at hk; omega
    have e2 : k = l.length := by rw [← h.1]; exact e1
    have f1 : (M ++ [m])[k]'hk = m := by rw [List.getElem_append_right (by omega)]; simp [e1]
    have f2 : (l ++ [g])[k]'hk' = g := by rw [List.getElem_append_right (by omega)]; simp [e2]
    rw [f1, f2]
    exact ⟨h1, h2⟩⟩
theorem CL.ch {B : Nat} {w : World} {M : List GV} {l : List Gp} (h : CL B w M l) : ChL w M l := ⟨h.1, fun k h1 h2 => by
  obtain ⟨e1, ho⟩ := h.2 k h1 h2
  obtain ⟨a, cap, e, hr, hc, hm⟩ := ho.shape
  simp only [gsl, Value.slice.injEq] at e
  obtain ⟨e2, e3, e4⟩ := e
  exact ⟨e1, e3, by rw [e2]; exact hr, by rw [e4]; exact hc, by rw [e4]; exact hm⟩⟩
set_option maxRecDepth 100000 in
set_option maxHeartbeats 4000000 in
theorem gp_copyOfAll {a : Option Addr} {l : List Gp} {cap : Nat} (w : World) (hr : RdG w a l) (hlen : l.length ≤ 1000) (hall : ∀ g ∈ l, g.2.length ≤ 1000000) :
    Calls Try.prog 48 #[.slice a l.length cap] w fun e w' => (∃ v M, e = .returned v ∧ OwnV w.heap.size w' v M ∧ ChL w' M l) ∧ Gr w w' := by
  obtain ⟨i0, hi, hz0, hz1, hz2⟩ := info_parts Try.infoGr
  have HR := Lib.hid hr
  have HCO : Hid (∀ k (hk : k < l.length) W v, GpV W v l[k] → Calls Try.prog 44 #[v] W fun e w' => (∃ u, e = .returned (.agg #[.int .i64 l[k].1, u]) ∧ OwnI W.heap.size w' u l[k].2) ∧ Gr W w') := Lib.hid fun k hk W v hv => gp_copyOf _ W hv (hall _ (List.getElem_mem hk))
  obtain ⟨n, hn⟩ : ∃ n, n = l.length := ⟨_, rfl⟩
  have HN := Lib.hid hn
  rw [← hn] at hlen ⊢
  clear hr hn hall
  go_enter Try.func48, Try.ntmps48
  go_wp2
  go_loopw [3, 8] (fun v i wr => ∃ (k : Nat) (M : List GV), i = .int .i64 k ∧ k ≤ n ∧ Hid (OwnV w.heap.size wr v M) ∧ Hid (CL w.heap.size wr M (l.take k)) ∧ Hid (Gr w wr)) (fun _ i _ => n - (intOf i).toNat)
  case atStart => exact ⟨0, [], rfl, Nat.zero_le _, Lib.hid (OwnV.nil _ _), Lib.hid (CL.nil _ _), Lib.hid (Gr.refl _)⟩
  case round =>
    obtain ⟨k, M, rfl, hk, HO, HC, HG⟩ := hrel
    by_cases hlt : k < n
    · have hkl : k < l.length := by rw [← HN.out]; exact hlt
      obtain ⟨b, o, c, cp, rfl, hc0, hc1, hv⟩ := (HR.out.gr HG.out).gpv hkl
      have HML : Hid (M.length = k) := Lib.hid (by rw [HC.out.1, List.length_take]; omega)
      have HTK := Lib.hid (show l.take (k + 1) = l.take k ++ [l[k]] from List.take_succ_eq_append_getElem hkl)
      have HX := Lib.hid (HCO.out k hkl)
      generalize l[k] = g at *
      obtain ⟨x, L⟩ := g
      simp only at hc0 hc1 hv HX HTK
      obtain ⟨w1, hw1⟩ : ∃ w1, w1 = wr.alloc (.cells #[.int .i64 x, .slice c L.length cp] 25) := ⟨_, rfl⟩
      have hg1 : Gr wr w1 := by rw [hw1]; exact (Gr.refl wr).alloc _
      have HX1 := Lib.hid (HX.out w1 _ (hv.gr hg1))
      have HO1 := Lib.hid (HO.out.gr hg1)
      have HC1 := Lib.hid (HC.out.gr hg1)
      have HG1 := Lib.hid (HG.out.trans hg1)
      generalize L.length = m at *
      have HW1 := Lib.hid hw1
      clear hv hg1 hw1 HO HC HG HX
      go_wp2_with fail
      rw [← HW1.out]
      clear HW1
      refine HX1.out.mono ?_; rintro e w2 ⟨⟨u, rfl, ho⟩, hg2⟩
      obtain ⟨ua, uc, hu, -⟩ := ho.shape
      subst hu
      generalize L.length = m2 at *
      have hno := ownI_low ho HG1.out.size
      obtain ⟨w3, hw3⟩ : ∃ w3, w3 = w2.alloc (.cells #[.int .i64 x, .slice ua m2 uc] 25) := ⟨_, rfl⟩
      have hg3 : Gr w2 w3 := by rw [hw3]; exact (Gr.refl w2).alloc _
      obtain ⟨hd0, hd1⟩ := show w3.cell? ⟨w2.heap.size, 0, none⟩ = some (.int .i64 x) ∧ w3.cell? ⟨w2.heap.size, 1, none⟩ = some (.slice ua m2 uc) by rw [hw3]; exact box2 _ _ _ _
      have HY := Lib.hid (show RdGV w3 (some ⟨w2.heap.size, 0, none⟩) [(x, ua, m2, uc)] from fun j hj => by
        have : j = 0 := by simp at hj; omega
        subst this
        exact ⟨w2.heap.size, 0, rfl, by simpa using hd0, by simpa [gsl] using hd1⟩)
      have hg23 := hg2.trans hg3
      have HO3 := Lib.hid (HO1.out.gr hg23)
      have HC3 := Lib.hid ((HC1.out.gr hg23).snoc (m := (x, ua, m2, uc)) (g := (x, L)) rfl (hno.gr hg3))
      have HG3 := Lib.hid (HG1.out.trans hg23)
      have HW3 := Lib.hid hw3
      have hML := HML.out
      clear ho hno hg2 hg3 hg23 hw3 hd0 hd1 HX1 HO1 HC1 HG1
      go_wp2_with (at_builtin; rw [← HW3.out]; refine join_g hi hz0 hz1 hz2 rfl _ _ rfl _ M rfl HO3.out HG3.out.size (some ⟨w2.heap.size, 0, none⟩) [(x, ua, m2, uc)] 1 rfl HY.out (Or.inr ⟨_, _, rfl⟩) (by simp; omega) ?_; rintro v5 w5 HO5 hb5 ht5; have HC5 := Lib.hid (HC3.out.typed ht5); have HG5 := Lib.hid (Below.trans HG3.out hb5); clear hb5 ht5)
      go_roundw
      case rel => exact ⟨k + 1, _, by go_num, by omega, HO5, Lib.hid (by rw [HTK.out]; exact HC5.out), HG5⟩
      case measure => simp [intOf]; omega
    · have hkn : k = l.length := by rw [← HN.out]; omega
      have HCe := Lib.hid (show ChL wr M l by have := HC.out; rw [hkn, List.take_length] at this; exact this.ch)
      clear hkn HC
      go_wp2
      go_ret
      exact ⟨⟨_, M, rfl, HO.out, HCe.out⟩, HG.out⟩
set_option maxRecDepth 100000 in
set_option maxHeartbeats 2000000 in
theorem gp_FindR {a : Option Addr} {l : List Gp} {cap : Nat} (n : Int) (w : World) (hr : RdG w a l) (hlen : l.length ≤ 1000000000) :
    Calls Try.prog 19 #[.slice a l.length cap, .int .i64 n] w fun e w' => (∃ u, e = .returned (.tuple #[u, .int .i64 (findR l n).2]) ∧ GpV w' u (findR l n).1) ∧ Gr w w' := by
  obtain ⟨w1, hw1⟩ : ∃ w1, w1 = w.alloc (.cells #[.int .i64 0, .slice none 0 0] 25) := ⟨_, rfl⟩
  have hg1 : Gr w w1 := by rw [hw1]; exact (Gr.refl w).alloc _
  have H6 := Lib.hid (show GB w1 w.heap.size _ _ by rw [hw1]; exact heap_alloc_last w _)
  obtain ⟨p, hp⟩ : ∃ p, p = w.heap.size := ⟨_, rfl⟩
  rw [← hp] at H6
  have HP := Lib.hid hp
  have HW1 := Lib.hid hw1
  have HG1 := Lib.hid hg1
  have HR := Lib.hid (hr.gr hg1)
  clear hp hw1 hg1 hr
  unfold findR
  by_cases ht : tbR l = 0
  · rw [if_pos ht]
    obtain ⟨h32, hall, ha⟩ := tbR_zero.1 ht
    have HI := Lib.hid (gp_indexOf (cap := cap) n w1 HR.out hlen ht)
    cases hh : hasN l n
    · rw [if_neg (by simp)]
      rw [hh] at HI
      simp only [Bool.false_eq_true, if_false] at HI ⊢
      clear ht hall ha hh h32
      generalize l.length = m at *
      go_enter Try.func19, Try.ntmps19
      go_wp2_with fail
      rw [← HW1.out, ← HP.out]
      refine HI.out.mono ?_; rintro e w2 ⟨⟨i, rfl, -⟩, hg⟩
      have HG2 := Lib.hid (HG1.out.trans hg)
      have H62 := Lib.hid (show GB w2 p _ _ from (hg.block _ (cellLt (cell_of_row _ _ 0 _ _ _ H6.out))).trans H6.out)
      clear hg HI
      go_wp2_with (refine wpl_storeG rfl rfl rfl rfl rfl rfl H62.out ?_)
      refine bodyPost_ret (v := .tuple #[.agg #[.int .i64 0, .slice none 0 0], .int .i64 6]) ?_ rfl ⟨⟨_, rfl, GpV.zero _⟩, HG2.out.row (by have := HP.out; omega) _⟩
      rw [results_cell_tmp rfl]
      simp [asAddr, Result.andThen]
      rw [run_loadG (H62.out.row _ _)]
    · rw [if_pos rfl]
      rw [hh] at HI
      simp only [if_true] at HI ⊢
      have HH : Hid (∀ i, LoAt l i n → ∃ hi : i < l.length, findG l n = l[i]) := Lib.hid fun i hlo => by
        obtain ⟨hi, e⟩ := (hlo.has ha).1 hh
        exact ⟨hi, findG_at ha hi e⟩
      have HAL := Lib.hid hall
      clear ht hall ha hh
      generalize findG l n = F at *
      obtain ⟨m, hm⟩ : ∃ m, m = l.length := ⟨_, rfl⟩
      have HM := Lib.hid hm
      rw [← hm] at HI h32 ⊢
      clear hm
      go_enter Try.func19, Try.ntmps19
      go_wp2_with fail
      rw [← HW1.out, ← HP.out]
      refine HI.out.mono ?_; rintro e w2 ⟨⟨i, rfl, hlo⟩, hg⟩
      obtain ⟨hil, hF⟩ := HH.out i hlo
      have HG2 := Lib.hid (HG1.out.trans hg)
      have H62 := Lib.hid (show GB w2 p _ _ from (hg.block _ (cellLt (cell_of_row _ _ 0 _ _ _ H6.out))).trans H6.out)
      obtain ⟨b, o, c, cp, rfl, hc0, hc1, hv⟩ := (HR.out.gr hg).gpv hil
      have HX := Lib.hid (gp_copyOf _ w2 hv (by have := (gpR_zero.1 (HAL.out _ (List.getElem_mem hil))).2.1; omega))
      have him : i < m := by rw [HM.out]; exact hil
      rw [← hF] at HX hc0 hc1
      obtain ⟨x, L⟩ := F
      simp only at HX hc0 hc1
      generalize L.length = ml at *
      clear hg HI hlo hF hv
      go_wp2_with fail
      refine HX.out.mono ?_; rintro e w3 ⟨⟨u, rfl, ho⟩, hg⟩
      have HG3 := Lib.hid (HG2.out.trans hg)
      have H63 := Lib.hid (show GB w3 p _ _ from (hg.block _ (cellLt (cell_of_row _ _ 0 _ _ _ H62.out))).trans H62.out)
      have HLT := Lib.hid (show p < w2.heap.size from cellLt (cell_of_row _ _ 0 _ _ _ H62.out))
      have HO := Lib.hid ho
      clear ho hg
      go_wp2_with (refine wpl_storeG rfl rfl rfl rfl rfl HO.out.one H63.out ?_)
      have ho := HO.out.row (g := p) HLT.out #[.int .i64 x, u]
      refine bodyPost_ret (v := .tuple #[.agg #[.int .i64 x, u], .int .i64 0]) ?_ rfl ⟨⟨_, rfl, ?_⟩, HG3.out.row (by have := HP.out; omega) _⟩
      · rw [results_cell_tmp rfl]
        simp [asAddr, Result.andThen]
        rw [run_loadG (H63.out.row _ _)]
      · obtain ⟨a2, cap2, hu2, hr2, hc3, hc4⟩ := ho.shape
        exact ⟨a2, cap2, by rw [hu2], hr2, hc3, hc4⟩
  · rw [if_neg ht]
    have HI := Lib.hid (gp_indexOf_err (cap := cap) n w1 HR.out hlen ht)
    have hz : (tbR l == 0) = false := by simp [ht]
    clear ht HR
    generalize tbR l = E at *
    generalize l.length = m at *
    go_enter Try.func19, Try.ntmps19
    go_wp2_with fail
    rw [← HW1.out, ← HP.out]
    refine HI.out.mono ?_; rintro e w2 ⟨rfl, hg⟩
    have HG2 := Lib.hid (HG1.out.trans hg)
    have H62 := Lib.hid (show GB w2 p _ _ from (hg.block _ (cellLt (cell_of_row _ _ 0 _ _ _ H6.out))).trans H6.out)
    clear hg HI
    go_wp2_with (refine wpl_storeG rfl rfl rfl rfl rfl rfl H62.out ?_)
    refine bodyPost_ret (v := .tuple #[.agg #[.int .i64 0, .slice none 0 0], .int .i64 E]) ?_ rfl ⟨⟨_, rfl, GpV.zero _⟩, HG2.out.row (by have := HP.out; omega) _⟩
    rw [results_cell_tmp rfl]
    simp [asAddr, Result.andThen]
    rw [run_loadG (H62.out.row _ _)]
end Go.Proofs.Ytmcngnnbfmjajaa
