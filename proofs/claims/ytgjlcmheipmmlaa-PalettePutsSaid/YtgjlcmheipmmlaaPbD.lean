/- Law 15: Put of the program. -/
import Derived.Test.YtgjlcmheipmmlaaPbA
set_option linter.unusedVariables false
set_option linter.unusedSimpArgs false
namespace Go.Proofs.Ytgjlcmheipmmlaa
open Go.RowKit
open Z
theorem Blk.rd1 {α : Type} {S : Sh α} {w : World} {g : Nat} {x : α} (h : Blk S w g x) : Rd S w (some ⟨g, 0, none⟩) [x] := fun k hk => by
  have hk0 : k = 0 := by simp at hk; omega
  subst hk0
  refine ⟨g, 0, rfl, fun j v hj => ?_⟩
  have := h.cell (k := j) hj
  simpa using this
/-- a slice's end -/
def endA (a : Option Addr) (cap k : Nat) : Option Addr := if cap = k then a else a.map fun p => p.add (k * 2)
theorem endA_rd {w : World} {a : Option Addr} {M : List PV} {cap k : Nat} (h : Rd shG w a M) (hcap : M.length ≤ cap) (hk : k ≤ M.length) : Rd shG w (endA a cap k) (M.drop k) := fun j hj => by
  rw [List.length_drop] at hj
  obtain ⟨b, o, e, hc⟩ := h (k + j) (by omega)
  subst e
  refine ⟨b, o + k * 2, ?_, fun i v hi => ?_⟩
  · unfold endA
    rw [if_neg (by omega), Option.map_some, WideShapes.add_plain]
  · rw [List.getElem_drop] at hi
    have := hc i v hi
    rw [show shG.sz = 2 from rfl] at this ⊢
    rw [show o + k * 2 + j * 2 + i = o + (k + j) * 2 + i by omega]; exact this
theorem endA_ok {a : Option Addr} {cap k : Nat} (h : SlOk a cap) : SlOk (endA a cap k) (cap - k) := by
  unfold endA
  rcases h with ⟨rfl, rfl⟩ | ⟨ad, rfl⟩
  · exact .inl ⟨by split <;> rfl, by omega⟩
  · refine .inr ?_
    split
    · exact ⟨ad, rfl⟩
    · exact ⟨_, rfl⟩
theorem box3 (w : World) (p q r : Value) (t : TypeId) : (w.alloc (.cells #[p, q, r] t)).cell? ⟨w.heap.size, 0, none⟩ = some p ∧ (w.alloc (.cells #[p, q, r] t)).cell? ⟨w.heap.size, 1, none⟩ = some q ∧ (w.alloc (.cells #[p, q, r] t)).cell? ⟨w.heap.size, 2, none⟩ = some r := by
  have h := heap_alloc_last w (.cells #[p, q, r] t)
  exact ⟨by rw [cell_of_row _ _ _ _ _ _ h]; rfl, by rw [cell_of_row _ _ _ _ _ _ h]; rfl, by rw [cell_of_row _ _ _ _ _ _ h]; rfl⟩
/-- how Put ends -/
def putE (l : List Pl) (g : Pl) : Int := if or2 (palR l) (palR [g]) = 0 then (if 32 < (putL l g).length then 5 else 0) else or2 (palR l) (palR [g])
def putV (l : List Pl) (g : Pl) : List Pl := if or2 (palR l) (palR [g]) = 0 then (if 32 < (putL l g).length then [] else putL l g) else []
set_option maxRecDepth 100000 in
set_option maxHeartbeats 8000000 in
theorem pl_Put {a : Option Addr} {l : List Pl} {cap : Nat} {x : Int} {L : List Hu} {c : Option Addr} {cp : Nat} (w : World) (hr : RdP w a l) (hlen : l.length ≤ 9223372036854775807) (hin : ∀ g ∈ l, g.2.length ≤ 9223372036854775807) (hcap : l.length ≤ cap) (hcm : cap ≤ maxLen) (hok : SlOk a cap) (hx : ChAt w (x, c, L.length, cp) (x, L)) :
    Calls Try.prog 21 #[.slice a l.length cap, .agg #[.int .i64 x, .slice c L.length cp]] w fun e w' => (∃ u, e = .returned (.tuple #[u, .int .i64 (putE l (x, L))]) ∧ OwnP w.heap.size w' u (putV l (x, L))) ∧ Gr w w' := by
  obtain ⟨w1, hw1⟩ : ∃ w1, w1 = w.alloc (.cells #[.int .i64 x, .slice c L.length cp] 39) := ⟨_, rfl⟩
  obtain ⟨p3, hp3⟩ : ∃ p3, p3 = w.heap.size := ⟨_, rfl⟩
  have hg1 : Gr w w1 := by rw [hw1]; exact (Gr.refl w).alloc _
  have HB := Lib.hid (show Blk shG w1 p3 (x, c, L.length, cp) by rw [hw1, hp3]; exact Blk.new shG w (x, c, L.length, cp))
  have hb0 : w1.cell? ⟨p3, 0, none⟩ = some (.int .i64 x) := HB.out.cell (k := 0) rfl
  have hb1 : w1.cell? ⟨p3, 1, none⟩ = some (.slice c L.length cp) := HB.out.cell (k := 1) rfl
  have HG1 := Lib.hid hg1
  have HR1 := Lib.hid (hr.gr hg1)
  have HV := Lib.hid (hx.gr hg1)
  have HLL := Lib.hid (show L.length ≤ 9223372036854775807 by have h1 := hx.2.2.2.1; have h2 := hx.2.2.2.2.1; unfold maxLen at h2; simp only at h1 h2; omega)
  have HC1 := Lib.hid (fun W (hW : Gr w1 W) => pl_Check (cap := cap) W (HR1.out.gr hW) hlen hin)
  have HC2 := Lib.hid (show ∀ q W, Gr w1 W → Blk shG W q (x, c, L.length, cp) → Calls Try.prog 17 #[.slice (some ⟨q, 0, none⟩) 1 1] W fun e w' => e = .returned (.int .i64 (palR [(x, L)])) ∧ Gr W w' from fun q W hW hB =>
    pl_Check (l := [(x, L)]) (cap := 1) W ⟨_, hB.rd1, ChL.one (HV.out.gr hW)⟩ (by show 1 ≤ _; omega) (fun g hg => by rcases List.mem_singleton.1 hg with rfl; exact HLL.out))
  have HOR := Lib.hid (fun W => or2E_fresh (palR l) (palR [(x, L)]) W)
  have HASC : Hid (or2 (palR l) (palR [(x, L)]) = 0 → palR l = 0 ∧ palR [(x, L)] = 0) := Lib.hid (fun h => by unfold or2 at h; split at h <;> simp_all)
  have HPE := Lib.hid (show putE l (x, L) = if or2 (palR l) (palR [(x, L)]) = 0 then (if 32 < (putL l (x, L)).length then 5 else 0) else or2 (palR l) (palR [(x, L)]) from rfl)
  have HPV := Lib.hid (show putV l (x, L) = if or2 (palR l) (palR [(x, L)]) = 0 then (if 32 < (putL l (x, L)).length then [] else putL l (x, L)) else [] from rfl)
  have HPL := Lib.hid (fun (h0 : palR l = 0) W (hW : Gr w1 W) => pl_place (cap := cap) x W (HR1.out.gr hW) (palR_zero.1 h0).2.2 (by have := (palR_zero.1 h0).1; omega))
  have HLO : Hid (palR l = 0 → ∀ i, LoAt l i x → i ≤ l.length ∧ (hasN l x = true → i < l.length) ∧ l.take i ++ ([(x, L)] ++ l.drop (if hasN l x = true then i + 1 else i)) = putL l (x, L) ∧ (putL l (x, L)).length ≤ 33 ∧ l.length ≤ 32) := Lib.hid fun h0 i h => by
    have ha := (palR_zero.1 h0).2.2
    have h32 := (palR_zero.1 h0).1
    exact ⟨h.1, fun hh => ((h.has ha).1 hh).1, h.put (g := (x, L)) ha, by rw [putL_len (g := (x, L)) ha h]; split <;> omega, h32⟩
  have HAL : Hid (palR l = 0 → palR [(x, L)] = 0 → ∀ y ∈ putL l (x, L), y.2.length ≤ 900000) := Lib.hid fun h0 h1 y hy => by
    rcases mem_putL.1 hy with rfl | ⟨h2, -⟩
    · have := (huR_zero.1 ((palR_zero.1 h1).2.1 (x, L) (by simp)).2).1; show L.length ≤ _; simp only at this; omega
    · have := (huR_zero.1 ((palR_zero.1 h0).2.1 y h2).2).1; omega
  have HHID := Lib.hid (show hasN l x = hasN l x from rfl)
  obtain ⟨M, hM, hCh⟩ := HR1.out
  have HM := Lib.hid hM
  have HCh := Lib.hid hCh
  have HMl := Lib.hid hCh.1
  generalize putE l (x, L) = PE at *
  generalize putV l (x, L) = PVv at *
  generalize hP : putL l (x, L) = P at *
  generalize hH : hasN l x = H at *
  generalize hE1 : palR l = E1 at *
  generalize hE2 : palR [(x, L)] = E2 at *
  obtain ⟨E, hE⟩ : ∃ E, or2 E1 E2 = E := ⟨_, rfl⟩
  rw [hE] at HOR HASC HPE HPV
  obtain ⟨n, hn⟩ : ∃ n, l.length = n := ⟨_, rfl⟩
  obtain ⟨m, hm⟩ : ∃ m, L.length = m := ⟨_, rfl⟩
  rw [hn] at hcap HC1 HPL HMl HLO ⊢
  rw [hm] at hw1 hb1 HC2 HV ⊢
  unfold maxLen at hcm
  have HW1 := Lib.hid hw1
  have HP3 := Lib.hid hp3
  clear hr hlen hin hx hg1 hM hCh hP hH hE1 hE2 hE hn hm HHID HLL HR1 HB hw1 hp3
  go_enter Try.func21, Try.ntmps21
  go_wp2_with fail
  rw [← HW1.out, ← HP3.out]
  go_wp2_with fail
  refine region_cut (R := fun A a' w' => ∃ (q q2 : Nat), a' = ((((((((A.put (some 11) (.slice a n cap)).put (some 12) (.int .i64 E1)).put (some 13) (.agg #[.int .i64 x, .slice c m cp])).put (some 14) (.slice (some ⟨q, 0, none⟩) 1 1)).put (some 15) (.int .i64 E2)).put (some 16) (.slice (some ⟨q2, 0, none⟩) 2 2)).put (some 17) (.int .i64 E)).put (some 6) (.int .i64 E)) ∧ Gr w1 w') ?_ ?_
  · have hS0 : (fun w' : World => Gr w1 w') w1.drew := (Gr.refl _).drew
    refine wp_region_held (S := fun w' : World => Gr w1 w') (by kernel_rfl) ?_
    change wpAnyH _ _ _ _ _ _ _ _ w1.drew
    refine wpAnyH_take (i := 0) (v := .slice a n cap) rfl (by kernel_rfl) (by kernel_rfl) (by kernel_rfl) (fun _ _ _ h => h) (Or.inl ⟨by rfl, ?_⟩) hS0 ?_
    · intro w hSw; go_simp
    try simp only [Act.put, List.getElem_toArray, List.getElem_cons_succ, List.getElem_cons_zero, List.setIfInBounds_toArray, List.set_cons_zero, List.set_cons_succ]
    refine wpAnyH_take (i := 2) (v := .agg #[.int .i64 x, .slice c m cp]) rfl (by kernel_rfl) (by kernel_rfl) (by kernel_rfl) (fun _ _ _ h => h) (Or.inl ⟨by rfl, ?_⟩) hS0 ?_
    · intro w hSw; have s0 := gr_cell hSw hb0; have s1 := gr_cell hSw hb1; go_simp
    try simp only [Act.put, List.getElem_toArray, List.getElem_cons_succ, List.getElem_cons_zero, List.setIfInBounds_toArray, List.set_cons_zero, List.set_cons_succ]
    refine wpAnyH_ready (rs := [1, 3]) (by kernel_rfl) (by simp) (AllReadyH.cons rfl (fun K' hK' => ?_) (AllReadyH.cons rfl (fun K' hK' => ?_) AllReadyH.nil))
    · go_simp
      refine (HC1.out _ hS0).mono ?_; rintro e w5 ⟨rfl, hgw5⟩
      refine hK'.out _ _ (hS0.trans hgw5) (fun hS1 => ?_)
      clear hK' K'
      try simp only [Act.put, List.getElem_toArray, List.getElem_cons_succ, List.getElem_cons_zero, List.setIfInBounds_toArray, List.set_cons_zero, List.set_cons_succ]
      refine wpAnyH_ready (rs := [3]) (by kernel_rfl) (by simp) (AllReadyH.cons rfl (fun K' hK' => ?_) AllReadyH.nil)
      go_simp
      refine hK'.out _ _ (hS1.alloc _) (fun hS2 => ?_)
      clear hK' K'
      try simp only [Act.put, List.getElem_toArray, List.getElem_cons_succ, List.getElem_cons_zero, List.setIfInBounds_toArray, List.set_cons_zero, List.set_cons_succ]
      have hbq := Blk.new shG w5 (x, c, m, cp)
      refine wpAnyH_ready (rs := [4]) (by kernel_rfl) (by simp) (AllReadyH.cons rfl (fun K' hK' => ?_) AllReadyH.nil)
      go_simp
      refine (HC2.out _ _ hS2 hbq).mono ?_; rintro e w6 ⟨rfl, hgw6⟩
      refine hK'.out _ _ (hS2.trans hgw6) (fun hS3 => ?_)
      clear hK' K'
      try simp only [Act.put, List.getElem_toArray, List.getElem_cons_succ, List.getElem_cons_zero, List.setIfInBounds_toArray, List.set_cons_zero, List.set_cons_succ]
      refine wpAnyH_ready (rs := [5]) (by kernel_rfl) (by simp) (AllReadyH.cons rfl (fun K' hK' => ?_) AllReadyH.nil)
      go_simp
      refine hK'.out _ _ (hS3.alloc _) (fun hT1 => ?_)
      clear hK' K'
      try simp only [Act.put, List.getElem_toArray, List.getElem_cons_succ, List.getElem_cons_zero, List.setIfInBounds_toArray, List.set_cons_zero, List.set_cons_succ]
      refine wpAnyH_ready (rs := [6]) (by kernel_rfl) (by simp) (AllReadyH.cons rfl (fun K' hK' => ?_) AllReadyH.nil)
      go_simp
      refine (HOR.out _).mono ?_; rintro e w9 ⟨rfl, rfl⟩
      refine hK'.out _ _ (hT1) (fun hT2 => ?_)
      clear hK' K'
      try simp only [Act.put, List.getElem_toArray, List.getElem_cons_succ, List.getElem_cons_zero, List.setIfInBounds_toArray, List.set_cons_zero, List.set_cons_succ]
      refine wpAnyH_take (i := 7) (v := .int .i64 E) rfl (by kernel_rfl) (by kernel_rfl) (by kernel_rfl) (fun _ _ _ h => h) (Or.inl ⟨by rfl, ?_⟩) hT2 ?_
      · intro w hSw; go_simp
      try simp only [Act.put, List.getElem_toArray, List.getElem_cons_succ, List.getElem_cons_zero, List.setIfInBounds_toArray, List.set_cons_zero, List.set_cons_succ]
      refine wpAnyH_done (by kernel_rfl) ?_ _
      exact ⟨_, _, rfl, hT2⟩
    · go_simp
      refine hK'.out _ _ (hS0.alloc _) (fun hS1 => ?_)
      clear hK' K'
      try simp only [Act.put, List.getElem_toArray, List.getElem_cons_succ, List.getElem_cons_zero, List.setIfInBounds_toArray, List.set_cons_zero, List.set_cons_succ]
      have hbq := Blk.new shG w1.drew (x, c, m, cp)
      refine wpAnyH_ready (rs := [1]) (by kernel_rfl) (by simp) (AllReadyH.cons rfl (fun K' hK' => ?_) AllReadyH.nil)
      go_simp
      refine (HC1.out _ hS1).mono ?_; rintro e w5 ⟨rfl, hgw5⟩
      refine hK'.out _ _ (hS1.trans hgw5) (fun hS2 => ?_)
      clear hK' K'
      try simp only [Act.put, List.getElem_toArray, List.getElem_cons_succ, List.getElem_cons_zero, List.setIfInBounds_toArray, List.set_cons_zero, List.set_cons_succ]
      refine wpAnyH_ready (rs := [4]) (by kernel_rfl) (by simp) (AllReadyH.cons rfl (fun K' hK' => ?_) AllReadyH.nil)
      go_simp
      refine (HC2.out _ _ hS2 (hbq.gr hgw5)).mono ?_; rintro e w6 ⟨rfl, hgw6⟩
      refine hK'.out _ _ (hS2.trans hgw6) (fun hS3 => ?_)
      clear hK' K'
      try simp only [Act.put, List.getElem_toArray, List.getElem_cons_succ, List.getElem_cons_zero, List.setIfInBounds_toArray, List.set_cons_zero, List.set_cons_succ]
      refine wpAnyH_ready (rs := [5]) (by kernel_rfl) (by simp) (AllReadyH.cons rfl (fun K' hK' => ?_) AllReadyH.nil)
      go_simp
      refine hK'.out _ _ (hS3.alloc _) (fun hT1 => ?_)
      clear hK' K'
      try simp only [Act.put, List.getElem_toArray, List.getElem_cons_succ, List.getElem_cons_zero, List.setIfInBounds_toArray, List.set_cons_zero, List.set_cons_succ]
      refine wpAnyH_ready (rs := [6]) (by kernel_rfl) (by simp) (AllReadyH.cons rfl (fun K' hK' => ?_) AllReadyH.nil)
      go_simp
      refine (HOR.out _).mono ?_; rintro e w9 ⟨rfl, rfl⟩
      refine hK'.out _ _ (hT1) (fun hT2 => ?_)
      clear hK' K'
      try simp only [Act.put, List.getElem_toArray, List.getElem_cons_succ, List.getElem_cons_zero, List.setIfInBounds_toArray, List.set_cons_zero, List.set_cons_succ]
      refine wpAnyH_take (i := 7) (v := .int .i64 E) rfl (by kernel_rfl) (by kernel_rfl) (by kernel_rfl) (fun _ _ _ h => h) (Or.inl ⟨by rfl, ?_⟩) hT2 ?_
      · intro w hSw; go_simp
      try simp only [Act.put, List.getElem_toArray, List.getElem_cons_succ, List.getElem_cons_zero, List.setIfInBounds_toArray, List.set_cons_zero, List.set_cons_succ]
      refine wpAnyH_done (by kernel_rfl) ?_ _
      exact ⟨_, _, rfl, hT2⟩
  · rintro a5 w5 ⟨q, q2, rfl, hg5⟩
    have HG5 := Lib.hid (HG1.out.trans hg5)
    have HG15 := Lib.hid hg5
    have hb0 := gr_cell hg5 hb0
    have hb1 := gr_cell hg5 hb1
    clear hg5 HC1 HC2 HOR
    by_cases h0 : E = 0
    · obtain ⟨hz1, hz2⟩ := HASC.out h0
      rw [if_pos h0] at HPE HPV
      subst h0
      subst hz1
      subst hz2
      have HPL5 := Lib.hid (HPL.out rfl w5 HG15.out)
      have HLO2 := Lib.hid (HLO.out rfl)
      have HAL2 := Lib.hid (HAL.out rfl rfl)
      clear HPL HASC HLO HAL
      go_wp2_with fail
      refine HPL5.out.mono ?_; rintro e w4 ⟨⟨i, rfl, hlo⟩, hg4⟩
      have hb0 := gr_cell hg4 hb0
      have hb1 := gr_cell hg4 hb1
      have HG4 := Lib.hid (HG5.out.trans hg4)
      have HG14 := Lib.hid (HG15.out.trans hg4)
      obtain ⟨hil, hiH, hput, hpl, hn32⟩ := HLO2.out i hlo
      have HPUT := Lib.hid hput
      have HM4 := Lib.hid (HM.out.gr HG14.out)
      have HC4 := Lib.hid (HCh.out.gr HG14.out)
      have HV4 := Lib.hid (HV.out.gr HG14.out)
      have HPL33 := Lib.hid hpl
      clear hg4 HPL5 HLO2 hlo hput HG5 HM HCh HV HG15 HG14 hpl
      cases H
      · have hbe : i ≤ n := hil
        clear hiH
        have HPU2 := Lib.hid (show l.take i ++ ([(x, L)] ++ l.drop (i)) = P from HPUT.out)
        clear HPUT
        go_wp2_with fail
        have hS0 : (fun w' : World => Gr w4 w') w4.drew := (Gr.refl _).drew
        refine wp_region_held (S := fun w' : World => Gr w4 w') (by kernel_rfl) ?_
        change wpAnyH _ _ _ _ _ _ _ _ w4.drew
        refine wpAnyH_take (i := 0) (v := .slice a n cap) rfl (by kernel_rfl) (by kernel_rfl) (by kernel_rfl) (fun _ _ _ h => h) (Or.inl ⟨by rfl, ?_⟩) hS0 ?_
        · intro w hSw; go_simp
        try simp only [Act.put, List.getElem_toArray, List.getElem_cons_succ, List.getElem_cons_zero, List.setIfInBounds_toArray, List.set_cons_zero, List.set_cons_succ]
        refine wpAnyH_take (i := 1) (v := .int .i64 i) rfl (by kernel_rfl) (by kernel_rfl) (by kernel_rfl) (fun _ _ _ h => h) (Or.inl ⟨by rfl, ?_⟩) hS0 ?_
        · intro w hSw; go_simp
        try simp only [Act.put, List.getElem_toArray, List.getElem_cons_succ, List.getElem_cons_zero, List.setIfInBounds_toArray, List.set_cons_zero, List.set_cons_succ]
        refine wpAnyH_take (i := 2) (v := .slice a i cap) rfl (by kernel_rfl) (by kernel_rfl) (by kernel_rfl) (fun _ _ _ h => h) (Or.inl ⟨by rfl, ?_⟩) hS0 ?_
        · intro w hSw; go_simp; intro hh; omega
        try simp only [Act.put, List.getElem_toArray, List.getElem_cons_succ, List.getElem_cons_zero, List.setIfInBounds_toArray, List.set_cons_zero, List.set_cons_succ]
        refine wpAnyH_take (i := 3) (v := .agg #[.int .i64 x, .slice c m cp]) rfl (by kernel_rfl) (by kernel_rfl) (by kernel_rfl) (fun _ _ _ h => h) (Or.inl ⟨by rfl, ?_⟩) hS0 ?_
        · intro w hSw; have s0 := gr_cell hSw hb0; have s1 := gr_cell hSw hb1; go_simp
        try simp only [Act.put, List.getElem_toArray, List.getElem_cons_succ, List.getElem_cons_zero, List.setIfInBounds_toArray, List.set_cons_zero, List.set_cons_succ]
        refine wpAnyH_take (i := 5) (v := .slice a n cap) rfl (by kernel_rfl) (by kernel_rfl) (by kernel_rfl) (fun _ _ _ h => h) (Or.inl ⟨by rfl, ?_⟩) hS0 ?_
        · intro w hSw; go_simp
        try simp only [Act.put, List.getElem_toArray, List.getElem_cons_succ, List.getElem_cons_zero, List.setIfInBounds_toArray, List.set_cons_zero, List.set_cons_succ]
        refine wpAnyH_take (i := 6) (v := .int .i64 (i : Int)) rfl (by kernel_rfl) (by kernel_rfl) (by kernel_rfl) (fun _ _ _ h => h) (Or.inl ⟨by rfl, ?_⟩) hS0 ?_
        · intro w hSw; go_simp
        try simp only [Act.put, List.getElem_toArray, List.getElem_cons_succ, List.getElem_cons_zero, List.setIfInBounds_toArray, List.set_cons_zero, List.set_cons_succ]
        refine wpAnyH_take (i := 7) (v := .slice (endA a cap (i)) (n - (i)) (cap - (i))) rfl (by kernel_rfl) (by kernel_rfl) (by kernel_rfl) (fun _ _ _ h => h) (Or.inl ⟨by rfl, ?_⟩) hS0 ?_
        · intro w hSw; go_simp; first | rfl | (rw [if_pos (by omega)]; rfl)
        try simp only [Act.put, List.getElem_toArray, List.getElem_cons_succ, List.getElem_cons_zero, List.setIfInBounds_toArray, List.set_cons_zero, List.set_cons_succ]
        refine wpAnyH_ready (rs := [4]) (by kernel_rfl) (by simp) (AllReadyH.cons rfl (fun K' hK' => ?_) AllReadyH.nil)
        go_simp
        obtain ⟨W5, hW5⟩ : ∃ W5, W5 = (w4.alloc (.cells #[.int .i64 x, .slice c m cp] 39)).drew := ⟨_, rfl⟩
        have hg5 : Gr w4 W5 := by rw [hW5]; exact ((Gr.refl w4).alloc _).drew
        have HBQ := Lib.hid (show Blk shG W5 w4.heap.size (x, c, m, cp) by rw [hW5]; exact Blk.new shG w4 (x, c, m, cp))
        have HSZ5 := Lib.hid (show w4.heap.size + 1 = W5.heap.size by rw [hW5]; exact (World.size_alloc _ _).symm)
        try rw [← hW5]
        have HW5 := Lib.hid hW5
        clear hW5
        refine hK'.out _ _ hg5 (fun hS1 => ?_)
        clear hK' K' hS0
        try simp only [Act.put, List.getElem_toArray, List.getElem_cons_succ, List.getElem_cons_zero, List.setIfInBounds_toArray, List.set_cons_zero, List.set_cons_succ]
        refine wpAnyH_ready (rs := [8]) (by kernel_rfl) (by simp) (AllReadyH.cons rfl (fun K' hK' => ?_) AllReadyH.nil)
        go_simp
        obtain ⟨W6, hW6⟩ : ∃ W6, W6 = W5.alloc (.cells #[.slice a i cap, .slice (some ⟨w4.heap.size, 0, none⟩) 1 1, .slice (endA a cap (i)) (n - (i)) (cap - (i))] 25) := ⟨_, rfl⟩
        have hg6 : Gr W5 W6 := by rw [hW6]; exact (Gr.refl W5).alloc _
        obtain ⟨hl0, hl1, hl2⟩ := show W6.cell? ⟨W5.heap.size, 0, none⟩ = some (.slice a i cap) ∧ W6.cell? ⟨W5.heap.size, 1, none⟩ = some (.slice (some ⟨w4.heap.size, 0, none⟩) 1 1) ∧ W6.cell? ⟨W5.heap.size, 2, none⟩ = some (.slice (endA a cap (i)) (n - (i)) (cap - (i))) by rw [hW6]; exact box3 W5 _ _ _ _
        try rw [← hW6]
        have HW6 := Lib.hid hW6
        clear hW6
        have hMl := HMl.out
        have HPA := Lib.hid (show PartsAt W6 W5.heap.size [M.take i, [(x, c, m, cp)], M.drop (i)] from fun k hk => by
          have h3 : k = 0 ∨ k = 1 ∨ k = 2 := by simp at hk; omega
          rcases h3 with rfl | rfl | rfl
          · refine ⟨a, cap, ?_, (HM4.out.take i).gr (hg5.trans hg6), hok⟩
            show _ = some (Value.slice a (M.take i).length cap)
            rw [List.length_take, hMl, Nat.min_eq_left hil]; exact hl0
          · exact ⟨some ⟨w4.heap.size, 0, none⟩, 1, hl1, (HBQ.out.gr hg6).rd1, .inr ⟨_, rfl⟩⟩
          · refine ⟨endA a cap (i), cap - (i), ?_, (endA_rd HM4.out (by rw [hMl]; exact hcap) (by rw [hMl]; exact hbe)).gr (hg5.trans hg6), endA_ok hok⟩
            show _ = some (Value.slice _ (M.drop (i)).length _)
            rw [List.length_drop, hMl]; exact hl2)
        have HCC := Lib.hid (sl_Concat W5.heap.size [M.take i, [(x, c, m, cp)], M.drop (i)] 3 W6 HPA.out (by simp) (by simp [hMl]; omega))
        have HCH := Lib.hid (show ChL W6 [M.take i, [(x, c, m, cp)], M.drop (i)].flatten P by
          have h1 := ((HC4.out.take i).append ((ChL.one HV4.out).append (HC4.out.drop (i)))).gr (hg5.trans hg6)
          rw [HPU2.out] at h1
          simpa using h1)
        have HG46 := Lib.hid (hg5.trans hg6)
        generalize [M.take i, [(x, c, m, cp)], M.drop (i)].flatten = F at *
        clear HPA hl0 hl1 hl2 hg5 hg6 HPU2 HM4 HC4 HV4 hMl HBQ
        refine hK'.out _ _ HG46.out (fun hS2 => ?_)
        clear hK' K' hS1
        try simp only [Act.put, List.getElem_toArray, List.getElem_cons_succ, List.getElem_cons_zero, List.setIfInBounds_toArray, List.set_cons_zero, List.set_cons_succ]
        refine wpAnyH_ready (rs := [9]) (by kernel_rfl) (by simp) (AllReadyH.cons rfl (fun K' hK' => ?_) AllReadyH.nil)
        go_simp
        try rw [HSZ5.out]
        refine HCC.out.mono ?_; rintro e W7 ⟨u, rfl, ho, hg7⟩
        refine hK'.out _ _ (hS2.trans hg7) (fun hS3 => ?_)
        clear hK' K'
        try simp only [Act.put, List.getElem_toArray, List.getElem_cons_succ, List.getElem_cons_zero, List.setIfInBounds_toArray, List.set_cons_zero, List.set_cons_succ]
        refine wpAnyH_take (i := 10) (v := u) rfl (by kernel_rfl) (by kernel_rfl) (by kernel_rfl) (fun _ _ _ h => h) (Or.inl ⟨by rfl, ?_⟩) hS3 ?_
        · intro w hSw; go_simp
        try simp only [Act.put, List.getElem_toArray, List.getElem_cons_succ, List.getElem_cons_zero, List.setIfInBounds_toArray, List.set_cons_zero, List.set_cons_succ]
        refine wpAnyH_done (by kernel_rfl) ?_ _
        have hc7 := HCH.out.gr hg7
        obtain ⟨ua, uc, rfl, hur, hu1, hu2, hu3⟩ := ho.shape
        rw [hc7.1]
        have HG7 := Lib.hid (HG4.out.trans hS3)
        have hpl33 := HPL33.out
        have HCA := Lib.hid (pl_copyOf (cap := uc) W7 hur hc7 hu3 (by omega) HAL2.out)
        clear hS2 hS3 ho hg7 HCC HCH hur hu1 hu2 hu3 HG4 HG46 hc7
        by_cases h33 : 32 < P.length
        · rw [if_pos h33] at HPE HPV
          have hpe := HPE.out
          have hpv := HPV.out
          clear HPE HPV
          subst hpe
          subst hpv
          generalize P.length = pn at *
          clear HPL33
          go_wp2
          go_ret2
          exact ⟨⟨.slice none 0 0, rfl, OwnP.nil _ _⟩, HG7.out⟩
        · rw [if_neg h33] at HPE HPV
          have hpe := HPE.out
          have hpv := HPV.out
          clear HPE HPV
          subst hpe
          subst hpv
          obtain ⟨pn, hpn⟩ : ∃ pn, PVv.length = pn := ⟨_, rfl⟩
          rw [hpn] at HCA h33 hpl33 ⊢
          clear HPL33 hpn
          go_wp2_with fail
          refine HCA.out.mono ?_; rintro e W8 ⟨⟨v8, M8, rfl, ho8, hc8⟩, hg8⟩
          have HT8 := Lib.hid (show OwnP w.heap.size W8 v8 PVv from ⟨M8, ho8.low HG7.out.size, hc8⟩)
          have HG8 := Lib.hid (HG7.out.trans hg8)
          clear ho8 hc8 hg8 HCA HG7
          go_wp2
          go_ret2
          exact ⟨⟨v8, rfl, HT8.out⟩, HG8.out⟩
      · have hin : i < n := hiH rfl
        have hbe : i + 1 ≤ n := hin
        clear hiH
        have HPU2 := Lib.hid (show l.take i ++ ([(x, L)] ++ l.drop (i + 1)) = P from HPUT.out)
        clear HPUT
        go_wp2_with fail
        have hS0 : (fun w' : World => Gr w4 w') w4.drew := (Gr.refl _).drew
        refine wp_region_held (S := fun w' : World => Gr w4 w') (by kernel_rfl) ?_
        change wpAnyH _ _ _ _ _ _ _ _ w4.drew
        refine wpAnyH_take (i := 0) (v := .slice a n cap) rfl (by kernel_rfl) (by kernel_rfl) (by kernel_rfl) (fun _ _ _ h => h) (Or.inl ⟨by rfl, ?_⟩) hS0 ?_
        · intro w hSw; go_simp
        try simp only [Act.put, List.getElem_toArray, List.getElem_cons_succ, List.getElem_cons_zero, List.setIfInBounds_toArray, List.set_cons_zero, List.set_cons_succ]
        refine wpAnyH_take (i := 1) (v := .int .i64 i) rfl (by kernel_rfl) (by kernel_rfl) (by kernel_rfl) (fun _ _ _ h => h) (Or.inl ⟨by rfl, ?_⟩) hS0 ?_
        · intro w hSw; go_simp
        try simp only [Act.put, List.getElem_toArray, List.getElem_cons_succ, List.getElem_cons_zero, List.setIfInBounds_toArray, List.set_cons_zero, List.set_cons_succ]
        refine wpAnyH_take (i := 2) (v := .slice a i cap) rfl (by kernel_rfl) (by kernel_rfl) (by kernel_rfl) (fun _ _ _ h => h) (Or.inl ⟨by rfl, ?_⟩) hS0 ?_
        · intro w hSw; go_simp; intro hh; omega
        try simp only [Act.put, List.getElem_toArray, List.getElem_cons_succ, List.getElem_cons_zero, List.setIfInBounds_toArray, List.set_cons_zero, List.set_cons_succ]
        refine wpAnyH_take (i := 3) (v := .agg #[.int .i64 x, .slice c m cp]) rfl (by kernel_rfl) (by kernel_rfl) (by kernel_rfl) (fun _ _ _ h => h) (Or.inl ⟨by rfl, ?_⟩) hS0 ?_
        · intro w hSw; have s0 := gr_cell hSw hb0; have s1 := gr_cell hSw hb1; go_simp
        try simp only [Act.put, List.getElem_toArray, List.getElem_cons_succ, List.getElem_cons_zero, List.setIfInBounds_toArray, List.set_cons_zero, List.set_cons_succ]
        refine wpAnyH_take (i := 5) (v := .slice a n cap) rfl (by kernel_rfl) (by kernel_rfl) (by kernel_rfl) (fun _ _ _ h => h) (Or.inl ⟨by rfl, ?_⟩) hS0 ?_
        · intro w hSw; go_simp
        try simp only [Act.put, List.getElem_toArray, List.getElem_cons_succ, List.getElem_cons_zero, List.setIfInBounds_toArray, List.set_cons_zero, List.set_cons_succ]
        refine wpAnyH_take (i := 6) (v := .int .i64 ((i + 1 : Nat) : Int)) rfl (by kernel_rfl) (by kernel_rfl) (by kernel_rfl) (fun _ _ _ h => h) (Or.inl ⟨by rfl, ?_⟩) hS0 ?_
        · intro w hSw; go_simp
        try simp only [Act.put, List.getElem_toArray, List.getElem_cons_succ, List.getElem_cons_zero, List.setIfInBounds_toArray, List.set_cons_zero, List.set_cons_succ]
        refine wpAnyH_take (i := 7) (v := .slice (endA a cap (i + 1)) (n - (i + 1)) (cap - (i + 1))) rfl (by kernel_rfl) (by kernel_rfl) (by kernel_rfl) (fun _ _ _ h => h) (Or.inl ⟨by rfl, ?_⟩) hS0 ?_
        · intro w hSw; go_simp; first | rfl | (rw [if_pos (by omega)]; rfl)
        try simp only [Act.put, List.getElem_toArray, List.getElem_cons_succ, List.getElem_cons_zero, List.setIfInBounds_toArray, List.set_cons_zero, List.set_cons_succ]
        refine wpAnyH_ready (rs := [4]) (by kernel_rfl) (by simp) (AllReadyH.cons rfl (fun K' hK' => ?_) AllReadyH.nil)
        go_simp
        obtain ⟨W5, hW5⟩ : ∃ W5, W5 = (w4.alloc (.cells #[.int .i64 x, .slice c m cp] 39)).drew := ⟨_, rfl⟩
        have hg5 : Gr w4 W5 := by rw [hW5]; exact ((Gr.refl w4).alloc _).drew
        have HBQ := Lib.hid (show Blk shG W5 w4.heap.size (x, c, m, cp) by rw [hW5]; exact Blk.new shG w4 (x, c, m, cp))
        have HSZ5 := Lib.hid (show w4.heap.size + 1 = W5.heap.size by rw [hW5]; exact (World.size_alloc _ _).symm)
        try rw [← hW5]
        have HW5 := Lib.hid hW5
        clear hW5
        refine hK'.out _ _ hg5 (fun hS1 => ?_)
        clear hK' K' hS0
        try simp only [Act.put, List.getElem_toArray, List.getElem_cons_succ, List.getElem_cons_zero, List.setIfInBounds_toArray, List.set_cons_zero, List.set_cons_succ]
        refine wpAnyH_ready (rs := [8]) (by kernel_rfl) (by simp) (AllReadyH.cons rfl (fun K' hK' => ?_) AllReadyH.nil)
        go_simp
        obtain ⟨W6, hW6⟩ : ∃ W6, W6 = W5.alloc (.cells #[.slice a i cap, .slice (some ⟨w4.heap.size, 0, none⟩) 1 1, .slice (endA a cap (i + 1)) (n - (i + 1)) (cap - (i + 1))] 25) := ⟨_, rfl⟩
        have hg6 : Gr W5 W6 := by rw [hW6]; exact (Gr.refl W5).alloc _
        obtain ⟨hl0, hl1, hl2⟩ := show W6.cell? ⟨W5.heap.size, 0, none⟩ = some (.slice a i cap) ∧ W6.cell? ⟨W5.heap.size, 1, none⟩ = some (.slice (some ⟨w4.heap.size, 0, none⟩) 1 1) ∧ W6.cell? ⟨W5.heap.size, 2, none⟩ = some (.slice (endA a cap (i + 1)) (n - (i + 1)) (cap - (i + 1))) by rw [hW6]; exact box3 W5 _ _ _ _
        try rw [← hW6]
        have HW6 := Lib.hid hW6
        clear hW6
        have hMl := HMl.out
        have HPA := Lib.hid (show PartsAt W6 W5.heap.size [M.take i, [(x, c, m, cp)], M.drop (i + 1)] from fun k hk => by
          have h3 : k = 0 ∨ k = 1 ∨ k = 2 := by simp at hk; omega
          rcases h3 with rfl | rfl | rfl
          · refine ⟨a, cap, ?_, (HM4.out.take i).gr (hg5.trans hg6), hok⟩
            show _ = some (Value.slice a (M.take i).length cap)
            rw [List.length_take, hMl, Nat.min_eq_left hil]; exact hl0
          · exact ⟨some ⟨w4.heap.size, 0, none⟩, 1, hl1, (HBQ.out.gr hg6).rd1, .inr ⟨_, rfl⟩⟩
          · refine ⟨endA a cap (i + 1), cap - (i + 1), ?_, (endA_rd HM4.out (by rw [hMl]; exact hcap) (by rw [hMl]; exact hbe)).gr (hg5.trans hg6), endA_ok hok⟩
            show _ = some (Value.slice _ (M.drop (i + 1)).length _)
            rw [List.length_drop, hMl]; exact hl2)
        have HCC := Lib.hid (sl_Concat W5.heap.size [M.take i, [(x, c, m, cp)], M.drop (i + 1)] 3 W6 HPA.out (by simp) (by simp [hMl]; omega))
        have HCH := Lib.hid (show ChL W6 [M.take i, [(x, c, m, cp)], M.drop (i + 1)].flatten P by
          have h1 := ((HC4.out.take i).append ((ChL.one HV4.out).append (HC4.out.drop (i + 1)))).gr (hg5.trans hg6)
          rw [HPU2.out] at h1
          simpa using h1)
        have HG46 := Lib.hid (hg5.trans hg6)
        generalize [M.take i, [(x, c, m, cp)], M.drop (i + 1)].flatten = F at *
        clear HPA hl0 hl1 hl2 hg5 hg6 HPU2 HM4 HC4 HV4 hMl HBQ
        refine hK'.out _ _ HG46.out (fun hS2 => ?_)
        clear hK' K' hS1
        try simp only [Act.put, List.getElem_toArray, List.getElem_cons_succ, List.getElem_cons_zero, List.setIfInBounds_toArray, List.set_cons_zero, List.set_cons_succ]
        refine wpAnyH_ready (rs := [9]) (by kernel_rfl) (by simp) (AllReadyH.cons rfl (fun K' hK' => ?_) AllReadyH.nil)
        go_simp
        try rw [HSZ5.out]
        refine HCC.out.mono ?_; rintro e W7 ⟨u, rfl, ho, hg7⟩
        refine hK'.out _ _ (hS2.trans hg7) (fun hS3 => ?_)
        clear hK' K'
        try simp only [Act.put, List.getElem_toArray, List.getElem_cons_succ, List.getElem_cons_zero, List.setIfInBounds_toArray, List.set_cons_zero, List.set_cons_succ]
        refine wpAnyH_take (i := 10) (v := u) rfl (by kernel_rfl) (by kernel_rfl) (by kernel_rfl) (fun _ _ _ h => h) (Or.inl ⟨by rfl, ?_⟩) hS3 ?_
        · intro w hSw; go_simp
        try simp only [Act.put, List.getElem_toArray, List.getElem_cons_succ, List.getElem_cons_zero, List.setIfInBounds_toArray, List.set_cons_zero, List.set_cons_succ]
        refine wpAnyH_done (by kernel_rfl) ?_ _
        have hc7 := HCH.out.gr hg7
        obtain ⟨ua, uc, rfl, hur, hu1, hu2, hu3⟩ := ho.shape
        rw [hc7.1]
        have HG7 := Lib.hid (HG4.out.trans hS3)
        have hpl33 := HPL33.out
        have HCA := Lib.hid (pl_copyOf (cap := uc) W7 hur hc7 hu3 (by omega) HAL2.out)
        clear hS2 hS3 ho hg7 HCC HCH hur hu1 hu2 hu3 HG4 HG46 hc7
        by_cases h33 : 32 < P.length
        · rw [if_pos h33] at HPE HPV
          have hpe := HPE.out
          have hpv := HPV.out
          clear HPE HPV
          subst hpe
          subst hpv
          generalize P.length = pn at *
          clear HPL33
          go_wp2
          go_ret2
          exact ⟨⟨.slice none 0 0, rfl, OwnP.nil _ _⟩, HG7.out⟩
        · rw [if_neg h33] at HPE HPV
          have hpe := HPE.out
          have hpv := HPV.out
          clear HPE HPV
          subst hpe
          subst hpv
          obtain ⟨pn, hpn⟩ : ∃ pn, PVv.length = pn := ⟨_, rfl⟩
          rw [hpn] at HCA h33 hpl33 ⊢
          clear HPL33 hpn
          go_wp2_with fail
          refine HCA.out.mono ?_; rintro e W8 ⟨⟨v8, M8, rfl, ho8, hc8⟩, hg8⟩
          have HT8 := Lib.hid (show OwnP w.heap.size W8 v8 PVv from ⟨M8, ho8.low HG7.out.size, hc8⟩)
          have HG8 := Lib.hid (HG7.out.trans hg8)
          clear ho8 hc8 hg8 HCA HG7
          go_wp2
          go_ret2
          exact ⟨⟨v8, rfl, HT8.out⟩, HG8.out⟩
    · rw [if_neg h0] at HPE HPV
      have hz : (E == 0) = false := by simp [h0]
      have hpe := HPE.out
      have hpv := HPV.out
      clear HPE HPV h0
      subst hpe
      subst hpv
      clear HPL HLO HAL HASC
      go_wp2
      go_ret2
      exact ⟨⟨_, rfl, OwnP.nil _ _⟩, HG5.out⟩
end Go.Proofs.Ytgjlcmheipmmlaa
