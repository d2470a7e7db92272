/- Law 14: Put and Drop of the program, at all arguments. -/
import Derived.Test.YtmcngnnbfmjajaaGqA
set_option linter.unusedVariables false
set_option linter.unusedSimpArgs false
namespace Go.Proofs.Ytmcngnnbfmjajaa
open Go.RowKit
open Z
set_option maxRecDepth 100000 in
set_option maxHeartbeats 2000000 in
theorem gp_PutR {a : Option Addr} {l : List Gp} {cap : Nat} {v : Value} (g : Gp) (w : World) (hr : RdG w a l) (hlen : l.length ≤ 1000000000) (hcap : l.length ≤ cap) (hcm : cap ≤ maxLen) (hok : SlOk a cap) (hv : GpV w v g) :
    Calls Try.prog 21 #[.slice a l.length cap, v] w fun e w' => (∃ u, e = .returned (.tuple #[u, .int .i64 (putR l g).2]) ∧ TbV w' u (putR l g).1) ∧ Gr w w' := by
  unfold putR
  by_cases ht : tbR l = 0
  · rw [if_pos ht]
    by_cases hg : gpR g = 0
    · rw [if_pos hg]
      have h := gp_Put0 g w hr hcap hcm hok hv ht hg
      split
      · rename_i h33
        rw [if_pos h33, if_pos h33] at h; exact h
      · rename_i h33
        rw [if_neg h33, if_neg h33] at h; exact h
    · rw [if_neg hg]
      have HT := gp_Table (cap := cap) _ (hr.gr ((Gr.refl w).alloc (.cells #[.int .i64 g.1, .slice none 0 0] 25))) hlen
      obtain ⟨c, cp, rfl, rc, lc, mc⟩ := hv
      obtain ⟨x, L⟩ := g
      simp only at rc lc ⊢
      obtain ⟨w1, hw1⟩ : ∃ w1, w1 = w.alloc (.cells #[.int .i64 x, .slice c L.length cp] 25) := ⟨_, rfl⟩
      have hg1 : Gr w w1 := by rw [hw1]; exact (Gr.refl w).alloc _
      obtain ⟨hb0, hb1⟩ := show w1.cell? ⟨w.heap.size, 0, none⟩ = some (.int .i64 x) ∧ w1.cell? ⟨w.heap.size, 1, none⟩ = some (.slice c L.length cp) by rw [hw1]; exact box2 _ _ _ _
      have HT := gp_Table (cap := cap) w1 (hr.gr hg1) hlen
      rw [ht] at HT
      have HT := Lib.hid HT
      have HCK := Lib.hid (fun W (hW : Gr w1 W) => gp_Check (x, L) W ⟨c, cp, rfl, rc.gr (hg1.trans hW), lc, mc⟩)
      have HG1 := Lib.hid hg1
      have hz : (gpR (x, L) == 0) = false := by simp [hg]
      clear rc hr hg1 hg ht
      generalize gpR (x, L) = E at *
      generalize L.length = m at *
      generalize l.length = n at *
      obtain ⟨p3, hp3⟩ : ∃ p3, p3 = w.heap.size := ⟨_, rfl⟩
      rw [← hp3] at hb0 hb1
      have HW1 := Lib.hid hw1
      have HP3 := Lib.hid hp3
      clear hw1 hp3
      go_enter Try.func21, Try.ntmps21
      go_wp2_with fail
      rw [← HW1.out, ← HP3.out]
      refine HT.out.mono ?_; rintro e w2 ⟨rfl, hg2⟩
      have hb0 := gr_cell hg2 hb0
      have hb1 := gr_cell hg2 hb1
      have HG2 := Lib.hid (HG1.out.trans hg2)
      have HCK2 := Lib.hid (HCK.out w2 hg2)
      clear hg2 HT HCK
      go_wp2_with fail
      refine HCK2.out.mono ?_; rintro e w3 ⟨rfl, hg3⟩
      have HG3 := Lib.hid (HG2.out.trans hg3)
      clear hg3 HCK2
      go_wp2
      go_ret2
      exact ⟨⟨.slice none 0 0, rfl, TbV.nil _⟩, HG3.out⟩
  · rw [if_neg ht]
    obtain ⟨c, cp, rfl, rc, lc, mc⟩ := hv
    obtain ⟨x, L⟩ := g
    simp only at rc lc ⊢
    have HT := Lib.hid (gp_Table (cap := cap) _ (hr.gr ((Gr.refl w).alloc (.cells #[.int .i64 x, .slice c L.length cp] 25))) hlen)
    have HG1 := Lib.hid ((Gr.refl w).alloc (.cells #[.int .i64 x, .slice c L.length cp] 25))
    have hz : (tbR l == 0) = false := by simp [ht]
    clear rc hr ht
    generalize tbR l = E at *
    generalize L.length = m at *
    generalize l.length = n at *
    go_enter Try.func21, Try.ntmps21
    go_wp2_with fail
    refine HT.out.mono ?_; rintro e w2 ⟨rfl, hg2⟩
    have HG2 := Lib.hid (HG1.out.trans hg2)
    clear hg2 HT
    go_wp2
    go_ret2
    exact ⟨⟨.slice none 0 0, rfl, TbV.nil _⟩, HG2.out⟩
set_option maxRecDepth 100000 in
set_option maxHeartbeats 4000000 in
theorem gp_DropR {a : Option Addr} {l : List Gp} {cap : Nat} (x : Int) (w : World) (hr : RdG w a l) (hlen : l.length ≤ 1000000000) (hcap : l.length ≤ cap) (hcm : cap ≤ maxLen) (hok : SlOk a cap) :
    Calls Try.prog 23 #[.slice a l.length cap, .int .i64 x] w fun e w' => (∃ u, e = .returned (.tuple #[u, .int .i64 (dropR l x).2]) ∧ TbV w' u (dropR l x).1) ∧ Gr w w' := by
  unfold dropR
  by_cases ht : tbR l = 0
  · rw [if_pos ht]
    obtain ⟨h32, hall, ha⟩ := tbR_zero.1 ht
    have HI := Lib.hid (gp_indexOf (cap := cap) x w hr hlen ht)
    cases hh : hasN l x
    · rw [if_neg (by simp)]
      rw [hh] at HI
      simp only [Bool.false_eq_true, if_false] at HI ⊢
      clear hr ht hall ha hh h32
      generalize l.length = n at *
      go_enter Try.func23, Try.ntmps23
      go_wp2_with fail
      refine HI.out.mono ?_; rintro e w2 ⟨⟨i, rfl, -⟩, hg⟩
      have HG2 := Lib.hid hg
      clear hg HI
      go_wp2
      go_ret2
      exact ⟨⟨.slice none 0 0, rfl, TbV.nil _⟩, HG2.out⟩
    · rw [if_pos rfl]
      rw [hh] at HI
      simp only [if_true] at HI ⊢
      obtain ⟨M, hM, hCh⟩ := hr.split
      have HM := Lib.hid hM
      have HCh := Lib.hid hCh
      have HMl := Lib.hid hCh.1
      have HLO : Hid (∀ i, LoAt l i x → i < l.length ∧ l.take i ++ l.drop (i + 1) = dropL l x) := Lib.hid fun i h => ⟨((h.has ha).1 hh).1, h.drp ha hh⟩
      have HAL : Hid (∀ y ∈ dropL l x, y.2.length ≤ 1000000) := Lib.hid fun y hy => by
        have := (gpR_zero.1 (hall y (List.mem_filter.1 hy).1)).2.1; omega
      have HDL : Hid ((dropL l x).length ≤ 32) := Lib.hid (Nat.le_trans dropL_len h32)
      generalize dropL l x = P at *
      obtain ⟨n, hn⟩ : ∃ n, n = l.length := ⟨_, rfl⟩
      rw [← hn] at hcap h32 HI HMl HLO ⊢
      unfold maxLen at hcm
      clear hn hr ht hall ha hh hM hCh
      go_enter Try.func23, Try.ntmps23
      go_wp2_with fail
      refine HI.out.mono ?_; rintro e w4 ⟨⟨i, rfl, hlo⟩, hg⟩
      obtain ⟨hin, hput⟩ := HLO.out i hlo
      have HPU2 := Lib.hid hput
      have HG4 := Lib.hid hg
      have HM4 := Lib.hid (HM.out.gr hg)
      have HC4 := Lib.hid (HCh.out.gr hg)
      clear hg HI hlo hput HLO HM HCh
      have hbe : i + 1 ≤ n := hin
      go_wp2_with fail
      have hS0 : (fun w' : World => Gr w4 w') w4.drew := (Gr.refl _).drew
      refine wp_region_held (S := fun w' : World => Gr w4 w') (by kernel_rfl) ?_
      change wpAnyH _ _ _ _ _ _ _ _ w4.drew
      refine wpAnyH_take (i := 0) (v := .slice a n cap) rfl (by kernel_rfl) (by kernel_rfl) (by kernel_rfl) (fun _ _ _ h => h) (Or.inl ⟨by rfl, ?_⟩) hS0 ?_
      · intro w hSw; go_simp
      try simp only [Act.put, List.getElem_toArray, List.getElem_cons_succ, List.getElem_cons_zero, List.setIfInBounds_toArray, List.set_cons_zero, List.set_cons_succ]
      refine wpAnyH_take (i := 1) (v := .int .i64 i) rfl (by kernel_rfl) (by kernel_rfl) (by kernel_rfl) (fun _ _ _ h => h) (Or.inl ⟨by rfl, ?_⟩) hS0 ?_
      · intro w hSw; go_simp
      try simp only [Act.put, List.getElem_toArray, List.getElem_cons_succ, List.getElem_cons_zero, List.setIfInBounds_toArray, List.set_cons_zero, List.set_cons_succ]
      refine wpAnyH_take (i := 2) (v := .slice a i cap) rfl (by kernel_rfl) (by kernel_rfl) (by kernel_rfl) (fun _ _ _ h => h) (Or.inl ⟨by rfl, ?_⟩) hS0 ?_
      · intro w hSw; go_simp; intro hh; omega
      try simp only [Act.put, List.getElem_toArray, List.getElem_cons_succ, List.getElem_cons_zero, List.setIfInBounds_toArray, List.set_cons_zero, List.set_cons_succ]
      refine wpAnyH_take (i := 3) (v := .slice a n cap) rfl (by kernel_rfl) (by kernel_rfl) (by kernel_rfl) (fun _ _ _ h => h) (Or.inl ⟨by rfl, ?_⟩) hS0 ?_
      · intro w hSw; go_simp
      try simp only [Act.put, List.getElem_toArray, List.getElem_cons_succ, List.getElem_cons_zero, List.setIfInBounds_toArray, List.set_cons_zero, List.set_cons_succ]
      refine wpAnyH_take (i := 4) (v := .int .i64 i) rfl (by kernel_rfl) (by kernel_rfl) (by kernel_rfl) (fun _ _ _ h => h) (Or.inl ⟨by rfl, ?_⟩) hS0 ?_
      · intro w hSw; go_simp
      try simp only [Act.put, List.getElem_toArray, List.getElem_cons_succ, List.getElem_cons_zero, List.setIfInBounds_toArray, List.set_cons_zero, List.set_cons_succ]
      refine wpAnyH_take (i := 5) (v := .int .i64 ((i + 1 : Nat) : Int)) rfl (by kernel_rfl) (by kernel_rfl) (by kernel_rfl) (fun _ _ _ h => h) (Or.inl ⟨by rfl, ?_⟩) hS0 ?_
      · intro w hSw; go_simp; exact IntWalk.i64_in _ (by omega)
      try simp only [Act.put, List.getElem_toArray, List.getElem_cons_succ, List.getElem_cons_zero, List.setIfInBounds_toArray, List.set_cons_zero, List.set_cons_succ]
      refine wpAnyH_take (i := 6) (v := .slice (endA a cap (i + 1)) (n - (i + 1)) (cap - (i + 1))) rfl (by kernel_rfl) (by kernel_rfl) (by kernel_rfl) (fun _ _ _ h => h) (Or.inl ⟨by rfl, ?_⟩) hS0 ?_
      · intro w hSw; go_simp; first | rfl | (rw [if_pos (by omega)]; rfl)
      try simp only [Act.put, List.getElem_toArray, List.getElem_cons_succ, List.getElem_cons_zero, List.setIfInBounds_toArray, List.set_cons_zero, List.set_cons_succ]
      refine wpAnyH_ready (rs := [7]) (by kernel_rfl) (by simp) (AllReadyH.cons rfl (fun K' hK' => ?_) AllReadyH.nil)
      go_simp
      obtain ⟨W6, hW6⟩ : ∃ W6, W6 = (w4.alloc (.cells #[.slice a i cap, .slice (endA a cap (i + 1)) (n - (i + 1)) (cap - (i + 1))] 22)).drew := ⟨_, rfl⟩
      have hg6 : Gr w4 W6 := by rw [hW6]; exact ((Gr.refl w4).alloc _).drew
      obtain ⟨hl0, hl1⟩ := show W6.cell? ⟨w4.heap.size, 0, none⟩ = some (.slice a i cap) ∧ W6.cell? ⟨w4.heap.size, 1, none⟩ = some (.slice (endA a cap (i + 1)) (n - (i + 1)) (cap - (i + 1))) by rw [hW6]; exact box2 w4 _ _ _
      try rw [← hW6]
      have HW6 := Lib.hid hW6
      clear hW6
      have hMl := HMl.out
      have HPA := Lib.hid (show PartsAt W6 w4.heap.size [M.take i, M.drop (i + 1)] from fun k hk => by
        have h3 : k = 0 ∨ k = 1 := by simp at hk; omega
        rcases h3 with rfl | rfl
        · refine ⟨a, cap, ?_, (HM4.out.take i).gr hg6, hok⟩
          show _ = some (Value.slice a (M.take i).length cap)
          rw [List.length_take, hMl, Nat.min_eq_left (by omega)]; exact hl0
        · refine ⟨endA a cap (i + 1), cap - (i + 1), ?_, (endA_rd HM4.out (by rw [hMl]; exact hcap) (by rw [hMl]; exact hbe)).gr hg6, endA_ok hok⟩
          show _ = some (Value.slice _ (M.drop (i + 1)).length _)
          rw [List.length_drop, hMl]; exact hl1)
      have HCC := Lib.hid (sl_Concat w4.heap.size [M.take i, M.drop (i + 1)] 2 W6 HPA.out (by simp) (by simp [hMl]; omega))
      have HCH := Lib.hid (show ChL W6 [M.take i, M.drop (i + 1)].flatten P by
        have h1 := ((HC4.out.take i).app (HC4.out.drop (i + 1))).gr hg6
        rw [HPU2.out] at h1
        simpa using h1)
      generalize [M.take i, M.drop (i + 1)].flatten = F at *
      have HG46 := Lib.hid hg6
      clear HPA hl0 hl1 hg6 HPU2 HM4 HC4 hMl
      refine hK'.out _ _ HG46.out (fun hS2 => ?_)
      clear hK' K' hS0
      try simp only [Act.put, List.getElem_toArray, List.getElem_cons_succ, List.getElem_cons_zero, List.setIfInBounds_toArray, List.set_cons_zero, List.set_cons_succ]
      refine wpAnyH_ready (rs := [8]) (by kernel_rfl) (by simp) (AllReadyH.cons rfl (fun K' hK' => ?_) AllReadyH.nil)
      go_simp
      refine HCC.out.mono ?_; rintro e W7 ⟨u, rfl, ho, hg7⟩
      refine hK'.out _ _ (hS2.trans hg7) (fun hS3 => ?_)
      clear hK' K'
      try simp only [Act.put, List.getElem_toArray, List.getElem_cons_succ, List.getElem_cons_zero, List.setIfInBounds_toArray, List.set_cons_zero, List.set_cons_succ]
      obtain ⟨ua, uc, rfl, hur, hu1, hu2, hu3⟩ := ho.tb (HCH.out.gr hg7)
      have HCA := Lib.hid (gp_copyOfAll (cap := uc) W7 hur (by have := HDL.out; omega) HAL.out)
      generalize P.length = pn at *
      refine wpAnyH_ready (rs := [9]) (by kernel_rfl) (by simp) (AllReadyH.cons rfl (fun K' hK' => ?_) AllReadyH.nil)
      go_simp
      refine HCA.out.mono ?_; rintro e W8 ⟨⟨v8, M8, rfl, ho8, hc8⟩, hg8⟩
      have HT8 := Lib.hid (ho8.tb hc8)
      refine hK'.out _ _ (hS3.trans hg8) (fun hS4 => ?_)
      clear hK' K'
      try simp only [Act.put, List.getElem_toArray, List.getElem_cons_succ, List.getElem_cons_zero, List.setIfInBounds_toArray, List.set_cons_zero, List.set_cons_succ]
      refine wpAnyH_take (i := 10) (v := v8) rfl (by kernel_rfl) (by kernel_rfl) (by kernel_rfl) (fun _ _ _ h => h) (Or.inl ⟨by rfl, ?_⟩) hS4 ?_
      · intro w hSw; go_simp
      try simp only [Act.put, List.getElem_toArray, List.getElem_cons_succ, List.getElem_cons_zero, List.setIfInBounds_toArray, List.set_cons_zero, List.set_cons_succ]
      refine wpAnyH_take (i := 11) (v := .int .i64 0) rfl (by kernel_rfl) (by kernel_rfl) (by kernel_rfl) (fun _ _ _ h => h) (Or.inl ⟨by rfl, ?_⟩) hS4 ?_
      · intro w hSw; go_simp
      try simp only [Act.put, List.getElem_toArray, List.getElem_cons_succ, List.getElem_cons_zero, List.setIfInBounds_toArray, List.set_cons_zero, List.set_cons_succ]
      refine wpAnyH_done (by kernel_rfl) ?_ _
      have HG8 := Lib.hid (HG4.out.trans hS4)
      clear hS2 hS3 hS4 ho hg7 hg8 HCC HCH hur hu1 hu2 hu3 HG4 HG46 ho8 hc8 HCA
      go_wp2
      go_ret2
      exact ⟨⟨v8, rfl, HT8.out⟩, HG8.out⟩
  · rw [if_neg ht]
    have HI := Lib.hid (gp_indexOf_err (cap := cap) x w hr hlen ht)
    have hz : (tbR l == 0) = false := by simp [ht]
    clear hr ht
    generalize tbR l = E at *
    generalize l.length = n at *
    go_enter Try.func23, Try.ntmps23
    go_wp2_with fail
    refine HI.out.mono ?_; rintro e w2 ⟨rfl, hg⟩
    have HG2 := Lib.hid hg
    clear hg HI
    go_wp2
    go_ret2
    exact ⟨⟨.slice none 0 0, rfl, TbV.nil _⟩, HG2.out⟩
end Go.Proofs.Ytmcngnnbfmjajaa
