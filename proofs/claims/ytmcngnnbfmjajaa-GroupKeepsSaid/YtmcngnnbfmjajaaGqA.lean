/- Law 14: Put and Drop of the program. -/
import Derived.Test.YtmcngnnbfmjajaaGpW
set_option linter.unusedVariables false
set_option linter.unusedSimpArgs false
namespace Go.Proofs.Ytmcngnnbfmjajaa.Z
open Go
def putR (l : List Gp) (g : Gp) : List Gp × Int := if tbR l = 0 then (if gpR g = 0 then (if 32 < (putL l g).length then ([], 5) else (putL l g, 0)) else ([], gpR g)) else ([], tbR l)
def dropR (l : List Gp) (n : Int) : List Gp × Int := if tbR l = 0 then (if hasN l n = true then (dropL l n, 0) else ([], 6)) else ([], tbR l)
end Go.Proofs.Ytmcngnnbfmjajaa.Z
namespace Go.Proofs.Ytmcngnnbfmjajaa
open Go.RowKit
open Z
/-- where a slice may lie -/
def SlOk (a : Option Addr) (cap : Nat) : Prop := (a = none ∧ cap = 0) ∨ ∃ b o, a = some ⟨b, o, none⟩
/-- a table that a call returns -/
def TbV (w : World) (v : Value) (l : List Gp) : Prop := ∃ a cap, v = .slice a l.length cap ∧ RdG w a l ∧ l.length ≤ cap ∧ cap ≤ maxLen ∧ SlOk a cap
theorem TbV.gr {w w' : World} {v : Value} {l : List Gp} (h : TbV w v l) (hg : Gr w w') : TbV w' v l := by
  obtain ⟨a, cap, h1, h2, h3⟩ := h
  exact ⟨a, cap, h1, h2.gr hg, h3⟩
theorem TbV.nil (w : World) : TbV w (.slice none 0 0) [] := ⟨none, 0, rfl, RdG.nil _ _, by simp, by unfold maxLen; omega, .inl ⟨rfl, rfl⟩⟩
theorem OwnV.tb {B : Nat} {w : World} {v : Value} {M : List GV} {l : List Gp} (h : OwnV B w v M) (hc : ChL w M l) : TbV w v l := by
  obtain ⟨a, cap, e, hr, h1, h2, h3⟩ := h.shape
  exact ⟨a, cap, by rw [e, hc.1], hr.join hc, by rw [← hc.1]; exact h1, h2, h3⟩
/-- a slice's end -/
def endA (a : Option Addr) (cap k : Nat) : Option Addr := if cap = k then a else a.map fun p => p.add (k * 2)
theorem endA_rd {w : World} {a : Option Addr} {M : List GV} {cap k : Nat} (h : RdGV w a M) (hcap : M.length ≤ cap) (hk : k ≤ M.length) : RdGV w (endA a cap k) (M.drop k) := fun j hj => by
  rw [List.length_drop] at hj
  obtain ⟨b, o, e, h1, h2⟩ := h (k + j) (by omega)
  subst e
  refine ⟨b, o + k * 2, ?_, ?_, ?_⟩
  · unfold endA
    rw [if_neg (by omega), Option.map_some, WideShapes.add_plain]
  · rw [List.getElem_drop, show o + k * 2 + j * 2 = o + (k + j) * 2 by omega]; exact h1
  · rw [List.getElem_drop, show o + k * 2 + j * 2 + 1 = o + (k + j) * 2 + 1 by omega]; exact h2
theorem endA_ok {a : Option Addr} {cap k : Nat} (h : SlOk a cap) : SlOk (endA a cap k) (cap - k) := by
  unfold endA
  rcases h with ⟨rfl, rfl⟩ | ⟨b, o, rfl⟩
  · exact .inl ⟨by split <;> rfl, by omega⟩
  · refine .inr ?_
    split
    · exact ⟨b, o, rfl⟩
    · exact ⟨b, o + k * 2, by rw [Option.map_some, WideShapes.add_plain]⟩
theorem RdGV.take {w : World} {a : Option Addr} {M : List GV} (h : RdGV w a M) (k : Nat) : RdGV w a (M.take k) := fun j hj => by
  rw [List.length_take] at hj
  obtain ⟨b, o, h0, h1, h2⟩ := h j (by omega)
  exact ⟨b, o, h0, by rw [List.getElem_take]; exact h1, by rw [List.getElem_take]; exact h2⟩
theorem box3 (w : World) (p q r : Value) (t : TypeId) : (w.alloc (.cells #[p, q, r] t)).cell? ⟨w.heap.size, 0, none⟩ = some p ∧ (w.alloc (.cells #[p, q, r] t)).cell? ⟨w.heap.size, 1, none⟩ = some q ∧ (w.alloc (.cells #[p, q, r] t)).cell? ⟨w.heap.size, 2, none⟩ = some r := by
  have h := heap_alloc_last w (.cells #[p, q, r] t)
  exact ⟨by rw [cell_of_row _ _ _ _ _ _ h]; rfl, by rw [cell_of_row _ _ _ _ _ _ h]; rfl, by rw [cell_of_row _ _ _ _ _ _ h]; rfl⟩
set_option maxRecDepth 100000 in
set_option maxHeartbeats 4000000 in
theorem gp_Put0 {a : Option Addr} {l : List Gp} {cap : Nat} {v : Value} (g : Gp) (w : World) (hr : RdG w a l) (hcap : l.length ≤ cap) (hcm : cap ≤ maxLen) (hok : SlOk a cap) (hv : GpV w v g) (ht : tbR l = 0) (hg : gpR g = 0) :
    Calls Try.prog 21 #[.slice a l.length cap, v] w fun e w' => (∃ u, e = .returned (.tuple #[u, .int .i64 (if 32 < (putL l g).length then 5 else 0)]) ∧ TbV w' u (if 32 < (putL l g).length then [] else putL l g)) ∧ Gr w w' := by
  obtain ⟨h32, hall, ha⟩ := tbR_zero.1 ht
  have hg2 := (gpR_zero.1 hg).2.1
  obtain ⟨c, cp, rfl, rc, lc, mc⟩ := hv
  obtain ⟨x, L⟩ := g
  simp only at rc lc hg2 ⊢
  obtain ⟨w1, hw1⟩ : ∃ w1, w1 = w.alloc (.cells #[.int .i64 x, .slice c L.length cp] 25) := ⟨_, rfl⟩
  have hg1 : Gr w w1 := by rw [hw1]; exact (Gr.refl w).alloc _
  obtain ⟨hb0, hb1⟩ := show w1.cell? ⟨w.heap.size, 0, none⟩ = some (.int .i64 x) ∧ w1.cell? ⟨w.heap.size, 1, none⟩ = some (.slice c L.length cp) by rw [hw1]; exact box2 _ _ _ _
  have HG1 := Lib.hid hg1
  have HR := Lib.hid (hr.gr hg1)
  have HC := Lib.hid (rc.gr hg1)
  have HT := gp_Table (cap := cap) w1 HR.out (by omega)
  rw [ht] at HT
  have HT := Lib.hid HT
  have HCK : Hid (∀ W, Gr w1 W → Calls Try.prog 15 #[.agg #[.int .i64 x, .slice c L.length cp]] W fun e w' => e = .returned (.int .i64 0) ∧ Gr W w') := Lib.hid fun W hW => by
    have := gp_Check (x, L) W ⟨c, cp, rfl, HC.out.gr hW, lc, mc⟩
    rwa [hg] at this
  have HPL := Lib.hid (fun W (hW : Gr w1 W) => gp_place (cap := cap) x W (HR.out.gr hW) ha (by omega))
  obtain ⟨M, hM, hCh⟩ := HR.out.split
  have HM := Lib.hid hM
  have HCh := Lib.hid hCh
  have HMl := Lib.hid hCh.1
  have HLO : Hid (∀ i, LoAt l i x → i ≤ l.length ∧ (hasN l x = true → i < l.length) ∧ l.take i ++ ([(x, L)] ++ l.drop (if hasN l x = true then i + 1 else i)) = putL l (x, L) ∧ (putL l (x, L)).length ≤ 33) := Lib.hid fun i h => ⟨h.1, fun hh => ((h.has ha).1 hh).1, h.put (g := (x, L)) ha, by rw [putL_len ha h]; split <;> omega⟩
  have HAL : Hid (∀ y ∈ putL l (x, L), y.2.length ≤ 1000000) := Lib.hid fun y hy => by
    rcases mem_putL.1 hy with rfl | ⟨h1, -⟩
    · show L.length ≤ _; omega
    · have := (gpR_zero.1 (hall y h1)).2.1; omega
  obtain ⟨E, hE⟩ : ∃ E : Int, (if 32 < (putL l (x, L)).length then 5 else 0) = E := ⟨_, rfl⟩
  obtain ⟨R, hR⟩ : ∃ R : List Gp, (if 32 < (putL l (x, L)).length then [] else putL l (x, L)) = R := ⟨_, rfl⟩
  rw [hE, hR]
  have HE := Lib.hid hE
  have HRR := Lib.hid hR
  clear hE hR
  generalize hP : putL l (x, L) = P at *
  generalize hH : hasN l x = H at *
  obtain ⟨n, hn⟩ : ∃ n, n = l.length := ⟨_, rfl⟩
  obtain ⟨m, hm⟩ : ∃ m, m = L.length := ⟨_, rfl⟩
  have HN := Lib.hid hn
  have HMM := Lib.hid hm
  rw [← hn] at hcap h32 HT HPL HMl HLO ⊢
  rw [← hm] at hw1 hb1 lc HCK ⊢
  have HGV := Lib.hid (show ChAt w1 (x, c, m, cp) (x, L) from ⟨rfl, hm, HC.out, by rw [← hm]; exact lc, mc⟩)
  unfold maxLen at hcm mc
  clear hn hm hr rc hg1 hall ha hg2 hM hCh HC HR hg ht hP hH
  obtain ⟨p3, hp3⟩ : ∃ p3, p3 = w.heap.size := ⟨_, rfl⟩
  rw [← hp3] at hb0 hb1
  have HW1 := Lib.hid hw1
  have HP3 := Lib.hid hp3
  clear hw1 hp3
  go_enter Try.func21, Try.ntmps21
  go_wp2_with fail
  rw [← HW1.out, ← HP3.out]
  refine HT.out.mono ?_; rintro e w2 ⟨rfl, hg2⟩
  have hb0 := gr_cell hg2 hb0
  have hb1 := gr_cell hg2 hb1
  have HG2 := Lib.hid hg2
  have HCK2 := Lib.hid (HCK.out w2 hg2)
  clear hg2 HT HCK
  go_wp2_with fail
  refine HCK2.out.mono ?_; rintro e w3 ⟨rfl, hg3⟩
  have hb0 := gr_cell hg3 hb0
  have hb1 := gr_cell hg3 hb1
  have HG3 := Lib.hid (HG2.out.trans hg3)
  have HPL3 := Lib.hid (HPL.out w3 HG3.out)
  clear hg3 HCK2 HPL HG2
  go_wp2_with fail
  refine HPL3.out.mono ?_; rintro e w4 ⟨⟨i, rfl, hlo⟩, hg4⟩
  have hb0 := gr_cell hg4 hb0
  have hb1 := gr_cell hg4 hb1
  have HG4 := Lib.hid (HG3.out.trans hg4)
  obtain ⟨hil, hiH, hput, hpl⟩ := HLO.out i hlo
  have HPUT := Lib.hid hput
  have HM4 := Lib.hid (HM.out.gr HG4.out)
  have HC4 := Lib.hid (HCh.out.gr HG4.out)
  have HV4 := Lib.hid (HGV.out.gr HG4.out)
  have HPL33 := Lib.hid hpl
  have hpl2 := hpl
  clear hg4 HPL3 HLO hlo hput HG3 HM HCh HGV
  cases H
  · have hbe : i ≤ n := hil
    clear hiH
    have HPU2 := Lib.hid (show l.take i ++ ([(x, L)] ++ l.drop (i)) = P from HPUT.out)
    clear HPUT
    go_wp2_with fail
    have hS0 : (fun w' : World => Gr w4 w') w4.drew := (Gr.refl _).drew
    refine wp_region_held (S := fun w' : World => Gr w4 w') (by kernel_rfl) ?_
    change wpAnyH _ _ _ _ _ _ _ _ w4.drew
    refine wpAnyH_take (i := 0) (v := .slice a n cap) rfl (by kernel_rfl) (by kernel_rfl) (by kernel_rfl) (fun _ _ _ h => h) (Or.inl ⟨by rfl, ?_⟩) hS0 ?_
    · intro w hSw; go_simp
    try simp only [Act.put, List.getElem_toArray, List.getElem_cons_succ, List.getElem_cons_zero, List.setIfInBounds_toArray, List.set_cons_zero, List.set_cons_succ]
    refine wpAnyH_take (i := 1) (v := .int .i64 i) rfl (by kernel_rfl) (by kernel_rfl) (by kernel_rfl) (fun _ _ _ h => h) (Or.inl ⟨by rfl, ?_⟩) hS0 ?_
    · intro w hSw; go_simp
    try simp only [Act.put, List.getElem_toArray, List.getElem_cons_succ, List.getElem_cons_zero, List.setIfInBounds_toArray, List.set_cons_zero, List.set_cons_succ]
    refine wpAnyH_take (i := 2) (v := .slice a i cap) rfl (by kernel_rfl) (by kernel_rfl) (by kernel_rfl) (fun _ _ _ h => h) (Or.inl ⟨by rfl, ?_⟩) hS0 ?_
    · intro w hSw; go_simp; intro hh; omega
    try simp only [Act.put, List.getElem_toArray, List.getElem_cons_succ, List.getElem_cons_zero, List.setIfInBounds_toArray, List.set_cons_zero, List.set_cons_succ]
    refine wpAnyH_take (i := 3) (v := (.agg #[.int .i64 x, .slice c m cp])) rfl (by kernel_rfl) (by kernel_rfl) (by kernel_rfl) (fun _ _ _ h => h) (Or.inl ⟨by rfl, ?_⟩) hS0 ?_
    · intro w hSw; exact exec_loadG _ rfl rfl (gr_cell hSw hb0) (gr_cell hSw hb1)
    try simp only [Act.put, List.getElem_toArray, List.getElem_cons_succ, List.getElem_cons_zero, List.setIfInBounds_toArray, List.set_cons_zero, List.set_cons_succ]
    refine wpAnyH_take (i := 5) (v := .slice a n cap) rfl (by kernel_rfl) (by kernel_rfl) (by kernel_rfl) (fun _ _ _ h => h) (Or.inl ⟨by rfl, ?_⟩) hS0 ?_
    · intro w hSw; go_simp
    try simp only [Act.put, List.getElem_toArray, List.getElem_cons_succ, List.getElem_cons_zero, List.setIfInBounds_toArray, List.set_cons_zero, List.set_cons_succ]
    refine wpAnyH_take (i := 6) (v := .int .i64 (i : Int)) rfl (by kernel_rfl) (by kernel_rfl) (by kernel_rfl) (fun _ _ _ h => h) (Or.inl ⟨by rfl, ?_⟩) hS0 ?_
    · intro w hSw; go_simp
    try simp only [Act.put, List.getElem_toArray, List.getElem_cons_succ, List.getElem_cons_zero, List.setIfInBounds_toArray, List.set_cons_zero, List.set_cons_succ]
    refine wpAnyH_take (i := 7) (v := .slice (endA a cap (i)) (n - (i)) (cap - (i))) rfl (by kernel_rfl) (by kernel_rfl) (by kernel_rfl) (fun _ _ _ h => h) (Or.inl ⟨by rfl, ?_⟩) hS0 ?_
    · intro w hSw; go_simp; first | rfl | (rw [if_pos (by omega)]; rfl)
    try simp only [Act.put, List.getElem_toArray, List.getElem_cons_succ, List.getElem_cons_zero, List.setIfInBounds_toArray, List.set_cons_zero, List.set_cons_succ]
    refine wpAnyH_ready (rs := [4]) (by kernel_rfl) (by simp) (AllReadyH.cons rfl (fun K' hK' => ?_) AllReadyH.nil)
    go_simp
    obtain ⟨W5, hW5⟩ : ∃ W5, W5 = (w4.alloc (.cells #[.int .i64 x, .slice c m cp] 25)).drew := ⟨_, rfl⟩
    have hg5 : Gr w4 W5 := by rw [hW5]; exact ((Gr.refl w4).alloc _).drew
    obtain ⟨hk0, hk1⟩ := show W5.cell? ⟨w4.heap.size, 0, none⟩ = some (.int .i64 x) ∧ W5.cell? ⟨w4.heap.size, 1, none⟩ = some (.slice c m cp) by rw [hW5]; exact box2 w4 _ _ _
    have HSZ5 := Lib.hid (show w4.heap.size + 1 = W5.heap.size by rw [hW5]; exact (World.size_alloc _ _).symm)
    try rw [← hW5]
    have HW5 := Lib.hid hW5
    clear hW5
    refine hK'.out _ _ hg5 (fun hS1 => ?_)
    clear hK' K' hS0
    try simp only [Act.put, List.getElem_toArray, List.getElem_cons_succ, List.getElem_cons_zero, List.setIfInBounds_toArray, List.set_cons_zero, List.set_cons_succ]
    refine wpAnyH_ready (rs := [8]) (by kernel_rfl) (by simp) (AllReadyH.cons rfl (fun K' hK' => ?_) AllReadyH.nil)
    go_simp
    obtain ⟨W6, hW6⟩ : ∃ W6, W6 = W5.alloc (.cells #[.slice a i cap, .slice (some ⟨w4.heap.size, 0, none⟩) 1 1, .slice (endA a cap (i)) (n - (i)) (cap - (i))] 22) := ⟨_, rfl⟩
    have hg6 : Gr W5 W6 := by rw [hW6]; exact (Gr.refl W5).alloc _
    obtain ⟨hl0, hl1, hl2⟩ := show W6.cell? ⟨W5.heap.size, 0, none⟩ = some (.slice a i cap) ∧ W6.cell? ⟨W5.heap.size, 1, none⟩ = some (.slice (some ⟨w4.heap.size, 0, none⟩) 1 1) ∧ W6.cell? ⟨W5.heap.size, 2, none⟩ = some (.slice (endA a cap (i)) (n - (i)) (cap - (i))) by rw [hW6]; exact box3 W5 _ _ _ _
    try rw [← hW6]
    have HW6 := Lib.hid hW6
    clear hW6
    have hMl := HMl.out
    have HPA := Lib.hid (show PartsAt W6 W5.heap.size [M.take i, [(x, c, m, cp)], M.drop (i)] from fun k hk => by
      have h3 : k = 0 ∨ k = 1 ∨ k = 2 := by simp at hk; omega
      rcases h3 with rfl | rfl | rfl
      · refine ⟨a, cap, ?_, (HM4.out.take i).gr (hg5.trans hg6), hok⟩
        show _ = some (Value.slice a (M.take i).length cap)
        rw [List.length_take, hMl, Nat.min_eq_left hil]; exact hl0
      · refine ⟨some ⟨w4.heap.size, 0, none⟩, 1, hl1, fun j hj => ?_, .inr ⟨_, _, rfl⟩⟩
        have : j = 0 := by simp at hj; omega
        subst this
        exact ⟨w4.heap.size, 0, rfl, gr_cell hg6 (by simpa using hk0), gr_cell hg6 (by simpa [gsl] using hk1)⟩
      · refine ⟨endA a cap (i), cap - (i), ?_, (endA_rd HM4.out (by rw [hMl]; exact hcap) (by rw [hMl]; exact hbe)).gr (hg5.trans hg6), endA_ok hok⟩
        show _ = some (Value.slice _ (M.drop (i)).length _)
        rw [List.length_drop, hMl]; exact hl2)
    have HCC := Lib.hid (sl_Concat W5.heap.size [M.take i, [(x, c, m, cp)], M.drop (i)] 3 W6 HPA.out (by simp) (by simp [hMl]; omega))
    have HCH := Lib.hid (show ChL W6 [M.take i, [(x, c, m, cp)], M.drop (i)].flatten P by
      have h1 := ((HC4.out.take i).app ((ChL.one HV4.out).app (HC4.out.drop (i)))).gr (hg5.trans hg6)
      rw [HPU2.out] at h1
      simpa using h1)
    have HG46 := Lib.hid (hg5.trans hg6)
    generalize [M.take i, [(x, c, m, cp)], M.drop (i)].flatten = F at *
    clear HPA hl0 hl1 hl2 hk0 hk1 hg5 hg6 HPU2 HM4 HC4 HV4 hMl
    refine hK'.out _ _ HG46.out (fun hS2 => ?_)
    clear hK' K' hS1
    try simp only [Act.put, List.getElem_toArray, List.getElem_cons_succ, List.getElem_cons_zero, List.setIfInBounds_toArray, List.set_cons_zero, List.set_cons_succ]
    refine wpAnyH_ready (rs := [9]) (by kernel_rfl) (by simp) (AllReadyH.cons rfl (fun K' hK' => ?_) AllReadyH.nil)
    go_simp
    try rw [HSZ5.out]
    refine HCC.out.mono ?_; rintro e W7 ⟨u, rfl, ho, hg7⟩
    refine hK'.out _ _ (hS2.trans hg7) (fun hS3 => ?_)
    clear hK' K'
    try simp only [Act.put, List.getElem_toArray, List.getElem_cons_succ, List.getElem_cons_zero, List.setIfInBounds_toArray, List.set_cons_zero, List.set_cons_succ]
    refine wpAnyH_take (i := 10) (v := u) rfl (by kernel_rfl) (by kernel_rfl) (by kernel_rfl) (fun _ _ _ h => h) (Or.inl ⟨by rfl, ?_⟩) hS3 ?_
    · intro w hSw; go_simp
    try simp only [Act.put, List.getElem_toArray, List.getElem_cons_succ, List.getElem_cons_zero, List.setIfInBounds_toArray, List.set_cons_zero, List.set_cons_succ]
    refine wpAnyH_done (by kernel_rfl) ?_ _
    obtain ⟨ua, uc, rfl, hur, hu1, hu2, hu3⟩ := ho.tb (HCH.out.gr hg7)
    have HG7 := Lib.hid (HG4.out.trans hS3)
    have HCA := Lib.hid (gp_copyOfAll (cap := uc) W7 hur (by omega) HAL.out)
    clear hS2 hS3 ho hg7 HCC HCH hur hu1 hu2 hu3 HG4 HG46
    by_cases h33 : 32 < P.length
    · have he : E = 5 := by rw [← HE.out, if_pos h33]
      have hr : R = [] := by rw [← HRR.out, if_pos h33]
      subst he
      subst hr
      generalize P.length = pn at *
      clear HPL33 HE HRR
      go_wp2
      go_ret2
      exact ⟨⟨.slice none 0 0, rfl, TbV.nil _⟩, HG1.out.trans HG7.out⟩
    · have he : E = 0 := by rw [← HE.out, if_neg h33]
      have hr : R = P := by rw [← HRR.out, if_neg h33]
      subst he
      subst hr
      generalize R.length = pn at *
      clear HPL33 HE HRR
      go_wp2_with fail
      refine HCA.out.mono ?_; rintro e W8 ⟨⟨v8, M8, rfl, ho8, hc8⟩, hg8⟩
      have HT8 := Lib.hid (ho8.tb hc8)
      have HG8 := Lib.hid (HG1.out.trans (HG7.out.trans hg8))
      clear ho8 hc8 hg8 HCA HG7
      go_wp2
      go_ret2
      exact ⟨⟨v8, rfl, HT8.out⟩, HG8.out⟩
  · have hin : i < n := hiH rfl
    have hbe : i + 1 ≤ n := hin
    clear hiH
    have HPU2 := Lib.hid (show l.take i ++ ([(x, L)] ++ l.drop (i + 1)) = P from HPUT.out)
    clear HPUT
    go_wp2_with fail
    have hS0 : (fun w' : World => Gr w4 w') w4.drew := (Gr.refl _).drew
    refine wp_region_held (S := fun w' : World => Gr w4 w') (by kernel_rfl) ?_
    change wpAnyH _ _ _ _ _ _ _ _ w4.drew
    refine wpAnyH_take (i := 0) (v := .slice a n cap) rfl (by kernel_rfl) (by kernel_rfl) (by kernel_rfl) (fun _ _ _ h => h) (Or.inl ⟨by rfl, ?_⟩) hS0 ?_
    · intro w hSw; go_simp
    try simp only [Act.put, List.getElem_toArray, List.getElem_cons_succ, List.getElem_cons_zero, List.setIfInBounds_toArray, List.set_cons_zero, List.set_cons_succ]
    refine wpAnyH_take (i := 1) (v := .int .i64 i) rfl (by kernel_rfl) (by kernel_rfl) (by kernel_rfl) (fun _ _ _ h => h) (Or.inl ⟨by rfl, ?_⟩) hS0 ?_
    · intro w hSw; go_simp
    try simp only [Act.put, List.getElem_toArray, List.getElem_cons_succ, List.getElem_cons_zero, List.setIfInBounds_toArray, List.set_cons_zero, List.set_cons_succ]
    refine wpAnyH_take (i := 2) (v := .slice a i cap) rfl (by kernel_rfl) (by kernel_rfl) (by kernel_rfl) (fun _ _ _ h => h) (Or.inl ⟨by rfl, ?_⟩) hS0 ?_
    · intro w hSw; go_simp; intro hh; omega
    try simp only [Act.put, List.getElem_toArray, List.getElem_cons_succ, List.getElem_cons_zero, List.setIfInBounds_toArray, List.set_cons_zero, List.set_cons_succ]
    refine wpAnyH_take (i := 3) (v := (.agg #[.int .i64 x, .slice c m cp])) rfl (by kernel_rfl) (by kernel_rfl) (by kernel_rfl) (fun _ _ _ h => h) (Or.inl ⟨by rfl, ?_⟩) hS0 ?_
    · intro w hSw; exact exec_loadG _ rfl rfl (gr_cell hSw hb0) (gr_cell hSw hb1)
    try simp only [Act.put, List.getElem_toArray, List.getElem_cons_succ, List.getElem_cons_zero, List.setIfInBounds_toArray, List.set_cons_zero, List.set_cons_succ]
    refine wpAnyH_take (i := 5) (v := .slice a n cap) rfl (by kernel_rfl) (by kernel_rfl) (by kernel_rfl) (fun _ _ _ h => h) (Or.inl ⟨by rfl, ?_⟩) hS0 ?_
    · intro w hSw; go_simp
    try simp only [Act.put, List.getElem_toArray, List.getElem_cons_succ, List.getElem_cons_zero, List.setIfInBounds_toArray, List.set_cons_zero, List.set_cons_succ]
    refine wpAnyH_take (i := 6) (v := .int .i64 ((i + 1 : Nat) : Int)) rfl (by kernel_rfl) (by kernel_rfl) (by kernel_rfl) (fun _ _ _ h => h) (Or.inl ⟨by rfl, ?_⟩) hS0 ?_
    · intro w hSw; go_simp
    try simp only [Act.put, List.getElem_toArray, List.getElem_cons_succ, List.getElem_cons_zero, List.setIfInBounds_toArray, List.set_cons_zero, List.set_cons_succ]
    refine wpAnyH_take (i := 7) (v := .slice (endA a cap (i + 1)) (n - (i + 1)) (cap - (i + 1))) rfl (by kernel_rfl) (by kernel_rfl) (by kernel_rfl) (fun _ _ _ h => h) (Or.inl ⟨by rfl, ?_⟩) hS0 ?_
    · intro w hSw; go_simp; first | rfl | (rw [if_pos (by omega)]; rfl)
    try simp only [Act.put, List.getElem_toArray, List.getElem_cons_succ, List.getElem_cons_zero, List.setIfInBounds_toArray, List.set_cons_zero, List.set_cons_succ]
    refine wpAnyH_ready (rs := [4]) (by kernel_rfl) (by simp) (AllReadyH.cons rfl (fun K' hK' => ?_) AllReadyH.nil)
    go_simp
    obtain ⟨W5, hW5⟩ : ∃ W5, W5 = (w4.alloc (.cells #[.int .i64 x, .slice c m cp] 25)).drew := ⟨_, rfl⟩
    have hg5 : Gr w4 W5 := by rw [hW5]; exact ((Gr.refl w4).alloc _).drew
    obtain ⟨hk0, hk1⟩ := show W5.cell? ⟨w4.heap.size, 0, none⟩ = some (.int .i64 x) ∧ W5.cell? ⟨w4.heap.size, 1, none⟩ = some (.slice c m cp) by rw [hW5]; exact box2 w4 _ _ _
    have HSZ5 := Lib.hid (show w4.heap.size + 1 = W5.heap.size by rw [hW5]; exact (World.size_alloc _ _).symm)
    try rw [← hW5]
    have HW5 := Lib.hid hW5
    clear hW5
    refine hK'.out _ _ hg5 (fun hS1 => ?_)
    clear hK' K' hS0
    try simp only [Act.put, List.getElem_toArray, List.getElem_cons_succ, List.getElem_cons_zero, List.setIfInBounds_toArray, List.set_cons_zero, List.set_cons_succ]
    refine wpAnyH_ready (rs := [8]) (by kernel_rfl) (by simp) (AllReadyH.cons rfl (fun K' hK' => ?_) AllReadyH.nil)
    go_simp
    obtain ⟨W6, hW6⟩ : ∃ W6, W6 = W5.alloc (.cells #[.slice a i cap, .slice (some ⟨w4.heap.size, 0, none⟩) 1 1, .slice (endA a cap (i + 1)) (n - (i + 1)) (cap - (i + 1))] 22) := ⟨_, rfl⟩
    have hg6 : Gr W5 W6 := by rw [hW6]; exact (Gr.refl W5).alloc _
    obtain ⟨hl0, hl1, hl2⟩ := show W6.cell? ⟨W5.heap.size, 0, none⟩ = some (.slice a i cap) ∧ W6.cell? ⟨W5.heap.size, 1, none⟩ = some (.slice (some ⟨w4.heap.size, 0, none⟩) 1 1) ∧ W6.cell? ⟨W5.heap.size, 2, none⟩ = some (.slice (endA a cap (i + 1)) (n - (i + 1)) (cap - (i + 1))) by rw [hW6]; exact box3 W5 _ _ _ _
    try rw [← hW6]
    have HW6 := Lib.hid hW6
    clear hW6
    have hMl := HMl.out
    have HPA := Lib.hid (show PartsAt W6 W5.heap.size [M.take i, [(x, c, m, cp)], M.drop (i + 1)] from fun k hk => by
      have h3 : k = 0 ∨ k = 1 ∨ k = 2 := by simp at hk; omega
      rcases h3 with rfl | rfl | rfl
      · refine ⟨a, cap, ?_, (HM4.out.take i).gr (hg5.trans hg6), hok⟩
        show _ = some (Value.slice a (M.take i).length cap)
        rw [List.length_take, hMl, Nat.min_eq_left hil]; exact hl0
      · refine ⟨some ⟨w4.heap.size, 0, none⟩, 1, hl1, fun j hj => ?_, .inr ⟨_, _, rfl⟩⟩
        have : j = 0 := by simp at hj; omega
        subst this
        exact ⟨w4.heap.size, 0, rfl, gr_cell hg6 (by simpa using hk0), gr_cell hg6 (by simpa [gsl] using hk1)⟩
      · refine ⟨endA a cap (i + 1), cap - (i + 1), ?_, (endA_rd HM4.out (by rw [hMl]; exact hcap) (by rw [hMl]; exact hbe)).gr (hg5.trans hg6), endA_ok hok⟩
        show _ = some (Value.slice _ (M.drop (i + 1)).length _)
        rw [List.length_drop, hMl]; exact hl2)
    have HCC := Lib.hid (sl_Concat W5.heap.size [M.take i, [(x, c, m, cp)], M.drop (i + 1)] 3 W6 HPA.out (by simp) (by simp [hMl]; omega))
    have HCH := Lib.hid (show ChL W6 [M.take i, [(x, c, m, cp)], M.drop (i + 1)].flatten P by
      have h1 := ((HC4.out.take i).app ((ChL.one HV4.out).app (HC4.out.drop (i + 1)))).gr (hg5.trans hg6)
      rw [HPU2.out] at h1
      simpa using h1)
    have HG46 := Lib.hid (hg5.trans hg6)
    generalize [M.take i, [(x, c, m, cp)], M.drop (i + 1)].flatten = F at *
    clear HPA hl0 hl1 hl2 hk0 hk1 hg5 hg6 HPU2 HM4 HC4 HV4 hMl
    refine hK'.out _ _ HG46.out (fun hS2 => ?_)
    clear hK' K' hS1
    try simp only [Act.put, List.getElem_toArray, List.getElem_cons_succ, List.getElem_cons_zero, List.setIfInBounds_toArray, List.set_cons_zero, List.set_cons_succ]
    refine wpAnyH_ready (rs := [9]) (by kernel_rfl) (by simp) (AllReadyH.cons rfl (fun K' hK' => ?_) AllReadyH.nil)
    go_simp
    try rw [HSZ5.out]
    refine HCC.out.mono ?_; rintro e W7 ⟨u, rfl, ho, hg7⟩
    refine hK'.out _ _ (hS2.trans hg7) (fun hS3 => ?_)
    clear hK' K'
    try simp only [Act.put, List.getElem_toArray, List.getElem_cons_succ, List.getElem_cons_zero, List.setIfInBounds_toArray, List.set_cons_zero, List.set_cons_succ]
    refine wpAnyH_take (i := 10) (v := u) rfl (by kernel_rfl) (by kernel_rfl) (by kernel_rfl) (fun _ _ _ h => h) (Or.inl ⟨by rfl, ?_⟩) hS3 ?_
    · intro w hSw; go_simp
    try simp only [Act.put, List.getElem_toArray, List.getElem_cons_succ, List.getElem_cons_zero, List.setIfInBounds_toArray, List.set_cons_zero, List.set_cons_succ]
    refine wpAnyH_done (by kernel_rfl) ?_ _
    obtain ⟨ua, uc, rfl, hur, hu1, hu2, hu3⟩ := ho.tb (HCH.out.gr hg7)
    have HG7 := Lib.hid (HG4.out.trans hS3)
    have HCA := Lib.hid (gp_copyOfAll (cap := uc) W7 hur (by omega) HAL.out)
    clear hS2 hS3 ho hg7 HCC HCH hur hu1 hu2 hu3 HG4 HG46
    by_cases h33 : 32 < P.length
    · have he : E = 5 := by rw [← HE.out, if_pos h33]
      have hr : R = [] := by rw [← HRR.out, if_pos h33]
      subst he
      subst hr
      generalize P.length = pn at *
      clear HPL33 HE HRR
      go_wp2
      go_ret2
      exact ⟨⟨.slice none 0 0, rfl, TbV.nil _⟩, HG1.out.trans HG7.out⟩
    · have he : E = 0 := by rw [← HE.out, if_neg h33]
      have hr : R = P := by rw [← HRR.out, if_neg h33]
      subst he
      subst hr
      generalize R.length = pn at *
      clear HPL33 HE HRR
      go_wp2_with fail
      refine HCA.out.mono ?_; rintro e W8 ⟨⟨v8, M8, rfl, ho8, hc8⟩, hg8⟩
      have HT8 := Lib.hid (ho8.tb hc8)
      have HG8 := Lib.hid (HG1.out.trans (HG7.out.trans hg8))
      clear ho8 hc8 hg8 HCA HG7
      go_wp2
      go_ret2
      exact ⟨⟨v8, rfl, HT8.out⟩, HG8.out⟩
end Go.Proofs.Ytmcngnnbfmjajaa
