/- Law 14: Mirror, of both sides. -/
import Derived.Test.YtmcngnnbfmjajaaGpQ
set_option linter.unusedVariables false
set_option linter.unusedSimpArgs false
namespace Go.Proofs.Ytmcngnnbfmjajaa
open Go.RowKit Go.Sort
open Z
set_option maxRecDepth 100000 in
set_option maxHeartbeats 2000000 in
theorem gp_Mirror {v : Value} (g : Gp) (w : World) (hv : GpV w v g) (hg : gpR g = 0) :
    Calls Try.prog 31 #[v] w fun e w' => (∃ u, e = .returned (.tuple #[u, .int .i64 0]) ∧ GpV w' u (g.1, g.2.reverse)) ∧ Gr w w' := by
  have HCK := Lib.hid (fun (W : World) (hW : Gr w W) => gp_Check g W (hv.gr hW))
  rw [hg] at HCK
  have hl256 := (gpR_zero.1 hg).2.1
  have HCO := Lib.hid (fun (W : World) (hW : Gr w W) => gp_copyOf g W (hv.gr hW) (by omega))
  obtain ⟨a, cap, rfl, ra, la, ma⟩ := hv
  obtain ⟨x, l⟩ := g
  simp only at ra la hl256 HCK HCO ⊢
  clear hg
  obtain ⟨w1, hw1⟩ : ∃ w1, w1 = w.alloc (.cells #[.int .i64 x, .slice a l.length cap] 25) := ⟨_, rfl⟩
  obtain ⟨w2, hw2⟩ : ∃ w2, w2 = w1.alloc (.cells #[.int .i64 0, .slice none 0 0] 25) := ⟨_, rfl⟩
  have hG1 : Gr w w1 := by rw [hw1]; exact (Gr.refl w).alloc _
  have hG2 : Gr w1 w2 := by rw [hw2]; exact (Gr.refl w1).alloc _
  have hB := show w1.cell? ⟨w.heap.size, 0, none⟩ = some (.int .i64 x) ∧ w1.cell? ⟨w.heap.size, 1, none⟩ = some (.slice a l.length cap) by rw [hw1]; exact box2 _ _ _ _
  have HC6 := Lib.hid (show GB w2 (w.heap.size + 1) (.int .i64 0) (.slice none 0 0) by rw [hw2, show w.heap.size + 1 = w1.heap.size by rw [hw1, World.size_alloc]]; exact heap_alloc_last w1 _)
  have HCK2 := Lib.hid (HCK.out w2 (hG1.trans hG2))
  have HG := Lib.hid (hG1.trans hG2)
  have hb0 := gr_cell hG2 hB.1
  have hb1 := gr_cell hG2 hB.2
  clear ra hG1 hG2 hB HCK
  obtain ⟨n, hn⟩ : ∃ n, n = l.length := ⟨_, rfl⟩
  rw [← hn] at la hl256 HCK2 HCO hb1 hw1 ⊢
  have HN := Lib.hid hn
  clear hn
  obtain ⟨p3, hp3⟩ : ∃ p3, p3 = w.heap.size := ⟨_, rfl⟩
  rw [← hp3] at hb0 hb1 HC6
  go_enter Try.func31, Try.ntmps31
  go_wp2_with fail
  rw [← hw1, ← hw2]
  clear hw1 hw2
  refine HCK2.out.mono ?_; rintro e w3 ⟨rfl, hg3⟩
  have HG3 := Lib.hid (HG.out.trans hg3)
  have HCO3 := Lib.hid (HCO.out w3 HG3.out)
  have hb0 := gr_cell hg3 hb0
  have hb1 := gr_cell hg3 hb1
  have HC63 := Lib.hid (show GB w3 (p3 + 1) _ _ from (hg3.block _ (cellLt (cell_of_row _ _ 0 _ _ _ HC6.out))).trans HC6.out)
  clear hg3 HG HCK2 HC6 HCO
  rw [← hp3]
  have HP3 := Lib.hid hp3
  clear hp3
  go_wp2_with fail
  refine HCO3.out.mono ?_; rintro e w4 ⟨⟨u, rfl, ho⟩, hg4⟩
  have HG4 := Lib.hid (HG3.out.trans hg4)
  have HC64 := Lib.hid (show GB w4 (p3 + 1) _ _ from (hg4.block _ (cellLt (cell_of_row _ _ 0 _ _ _ HC63.out))).trans HC63.out)
  have HLT := Lib.hid (show p3 + 1 < w3.heap.size from cellLt (cell_of_row _ _ 0 _ _ _ HC63.out))
  have HL34 := Lib.hid hg4.size
  obtain ⟨ua, uc, hu, -⟩ := ho.shape
  subst hu
  obtain ⟨w5, hw5⟩ : ∃ w5, w5 = w4.alloc (.cells #[.int .i64 x, .slice ua l.length uc] 25) := ⟨_, rfl⟩
  have hg5 : Gr w4 w5 := by rw [hw5]; exact (Gr.refl w4).alloc _
  obtain ⟨q, hq⟩ : ∃ q, q = w4.heap.size := ⟨_, rfl⟩
  have HQ5 := Lib.hid (show GB w5 q (.int .i64 x) (.slice ua l.length uc) by rw [hw5, hq]; exact heap_alloc_last w4 _)
  have HO5 := Lib.hid (ho.gr hg5)
  have HG5 := Lib.hid (HG4.out.trans hg5)
  have HC65 := Lib.hid (show GB w5 (p3 + 1) _ _ from (hg5.block _ (cellLt (cell_of_row _ _ 0 _ _ _ HC64.out))).trans HC64.out)
  have HRV := Lib.hid (sl_Reverse w5 HO5.out (by have := HN.out; omega))
  have HOB : Hid (∀ k, (Value.slice ua l.length uc).ownBlock = some k → w3.heap.size ≤ k ∧ k < q) := Lib.hid fun k hk => by rw [hq]; exact World.ownsRow.lt ho k hk
  generalize hm : l.length = m at *
  clear ho hg4 hg5 HG3 HCO3 HC63 HG4 HC64 hb0 hb1 HO5 hm
  have h50 : w5.cell? ⟨q, 0, none⟩ = some (.int .i64 x) := cell_of_row _ _ 0 _ _ _ HQ5.out
  have h51 : w5.cell? ⟨q, 1, none⟩ = some (.slice ua m uc) := cell_of_row _ _ 1 _ _ _ HQ5.out
  have HW5 := Lib.hid hw5
  have HQ := Lib.hid hq
  clear hw5 hq
  go_wp2_with fail
  rw [← HW5.out]
  try rw [← HQ.out]
  refine HRV.out.mono ?_; rintro e w6 ⟨rfl, ho6, hgr6⟩
  have hne6 : ∀ k, k < w5.heap.size → k ≤ p3 + 1 ∨ k = q → w6.heap[k]? = w5.heap[k]? := fun k hk h => hgr6.block k hk (fun e => by
    have := HOB.out k e.symm
    have := HLT.out
    rcases h with h | h <;> omega)
  have HQ6 := Lib.hid (show GB w6 q _ _ from (hne6 q (cellLt h50) (Or.inr rfl)).trans HQ5.out)
  have HC66 := Lib.hid (show GB w6 (p3 + 1) _ _ from (hne6 _ (cellLt (cell_of_row _ _ 0 _ _ _ HC65.out)) (Or.inl (Nat.le_refl _))).trans HC65.out)
  have HG6 : Hid (Gr w w6) := Lib.hid (Below.grown HG5.out hgr6 HG5.out.size (fun k hk => by
    have := HOB.out k hk
    have := HLT.out
    have := HP3.out
    omega))
  have HO6 := Lib.hid ho6
  have h60 : w6.cell? ⟨q, 0, none⟩ = some (.int .i64 x) := cell_of_row _ _ 0 _ _ _ HQ6.out
  have h61 : w6.cell? ⟨q, 1, none⟩ = some (.slice ua m uc) := cell_of_row _ _ 1 _ _ _ HQ6.out
  clear ho6 hgr6 hne6 HRV h50 h51
  go_wp2_with (refine wpl_storeG rfl rfl rfl rfl rfl rfl HC66.out ?_)
  have ho := HO6.out.row (g := p3 + 1) HLT.out #[.int .i64 x, .slice ua m uc]
  refine bodyPost_ret (v := .tuple #[.agg #[.int .i64 x, .slice ua m uc], .int .i64 0]) ?_ rfl ⟨⟨_, rfl, ?_⟩, ?_⟩
  · rw [results_cell_tmp rfl]
    simp [asAddr, Result.andThen]
    rw [run_loadG (HC66.out.row _ _)]
  · obtain ⟨a2, cap2, hu2, hr2, hc3, hc4⟩ := ho.shape
    exact ⟨a2, cap2, by rw [hu2], hr2, hc3, hc4⟩
  · exact HG6.out.row (by have := HP3.out; omega) _
set_option maxRecDepth 100000 in
set_option maxHeartbeats 2000000 in
theorem gp_Mirror_err {v : Value} (g : Gp) (w : World) (hv : GpV w v g) (hg : ¬ gpR g = 0) :
    Calls Try.prog 31 #[v] w fun e w' => e = .returned (.tuple #[.agg #[.int .i64 0, .slice none 0 0], .int .i64 (gpR g)]) ∧ Gr w w' := by
  have HCK := Lib.hid (fun (W : World) (hW : Gr w W) => gp_Check g W (hv.gr hW))
  have hz : (gpR g == 0) = false := by simp [hg]
  generalize gpR g = E at *
  obtain ⟨a, cap, rfl, ra, la, ma⟩ := hv
  obtain ⟨x, l⟩ := g
  simp only at ra la HCK ⊢
  clear hg ra la
  generalize l.length = n at *
  obtain ⟨w1, hw1⟩ : ∃ w1, w1 = w.alloc (.cells #[.int .i64 x, .slice a n cap] 25) := ⟨_, rfl⟩
  obtain ⟨w2, hw2⟩ : ∃ w2, w2 = w1.alloc (.cells #[.int .i64 0, .slice none 0 0] 25) := ⟨_, rfl⟩
  have hG1 : Gr w w1 := by rw [hw1]; exact (Gr.refl w).alloc _
  have hG2 : Gr w1 w2 := by rw [hw2]; exact (Gr.refl w1).alloc _
  have H6 := Lib.hid (show GB w2 (w.heap.size + 1) (.int .i64 0) (.slice none 0 0) by rw [hw2, show w.heap.size + 1 = w1.heap.size by rw [hw1, World.size_alloc]]; exact heap_alloc_last w1 _)
  have HCK2 := Lib.hid (HCK.out w2 (hG1.trans hG2))
  have HG := Lib.hid (hG1.trans hG2)
  clear HCK
  go_enter Try.func31, Try.ntmps31
  go_wp2_with fail
  rw [← hw1, ← hw2]
  clear hw1 hw2 hG1 hG2
  refine HCK2.out.mono ?_; rintro e w3 ⟨rfl, hg3⟩
  have HG3 := Lib.hid (HG.out.trans hg3)
  have H63 := Lib.hid (show GB w3 _ _ _ from (hg3.block _ (cellLt (cell_of_row _ _ 0 _ _ _ H6.out))).trans H6.out)
  clear hg3 HCK2 H6 HG
  go_wp2_with (refine wpl_storeG rfl rfl rfl rfl rfl rfl H63.out ?_)
  refine bodyPost_ret (v := .tuple #[.agg #[.int .i64 0, .slice none 0 0], .int .i64 E]) ?_ rfl ⟨rfl, HG3.out.row (by omega) _⟩
  rw [results_cell_tmp rfl]
  simp [asAddr, Result.andThen]
  rw [run_loadG (H63.out.row _ _)]
set_option maxRecDepth 100000 in
set_option maxHeartbeats 2000000 in
theorem r14_Mirror_err {v : Value} (g : Gp) (w : World) (hv : GpV w v g) (hg : ¬ gpR g = 0) :
    Calls Try.prog 32 #[v] w fun e w' => e = .returned (.tuple #[.agg #[.int .i64 0, .slice none 0 0], .int .i64 (gpR g)]) ∧ Gr w w' := by
  have HCK := Lib.hid (fun (W : World) (hW : Gr w W) => r14_Check g W (hv.gr hW))
  have hz : (gpR g == 0) = false := by simp [hg]
  generalize gpR g = E at *
  obtain ⟨a, cap, rfl, ra, la, ma⟩ := hv
  obtain ⟨x, l⟩ := g
  simp only at ra la HCK ⊢
  clear hg ra la
  generalize l.length = n at *
  obtain ⟨w1, hw1⟩ : ∃ w1, w1 = w.alloc (.cells #[.int .i64 x, .slice a n cap] 25) := ⟨_, rfl⟩
  obtain ⟨w2, hw2⟩ : ∃ w2, w2 = w1.alloc (.cells #[.int .i64 0, .slice none 0 0] 25) := ⟨_, rfl⟩
  have hG1 : Gr w w1 := by rw [hw1]; exact (Gr.refl w).alloc _
  have hG2 : Gr w1 w2 := by rw [hw2]; exact (Gr.refl w1).alloc _
  have H6 := Lib.hid (show GB w2 (w.heap.size + 1) (.int .i64 0) (.slice none 0 0) by rw [hw2, show w.heap.size + 1 = w1.heap.size by rw [hw1, World.size_alloc]]; exact heap_alloc_last w1 _)
  have HCK2 := Lib.hid (HCK.out w2 (hG1.trans hG2))
  have HG := Lib.hid (hG1.trans hG2)
  clear HCK
  go_enter Try.func32, Try.ntmps32
  go_wp2_with fail
  rw [← hw1, ← hw2]
  clear hw1 hw2 hG1 hG2
  refine HCK2.out.mono ?_; rintro e w3 ⟨rfl, hg3⟩
  have HG3 := Lib.hid (HG.out.trans hg3)
  have H63 := Lib.hid (show GB w3 _ _ _ from (hg3.block _ (cellLt (cell_of_row _ _ 0 _ _ _ H6.out))).trans H6.out)
  clear hg3 HCK2 H6 HG
  go_wp2_with (refine wpl_storeG rfl rfl rfl rfl rfl rfl H63.out ?_)
  refine bodyPost_ret (v := .tuple #[.agg #[.int .i64 0, .slice none 0 0], .int .i64 E]) ?_ rfl ⟨rfl, HG3.out.row (by omega) _⟩
  rw [results_cell_tmp rfl]
  simp [asAddr, Result.andThen]
  rw [run_loadG (H63.out.row _ _)]
set_option maxRecDepth 100000 in
set_option maxHeartbeats 2000000 in
theorem r14_Mirror {v : Value} (g : Gp) (w : World) (hv : GpV w v g) (hg : gpR g = 0) :
    Calls Try.prog 32 #[v] w fun e w' => (∃ u, e = .returned (.tuple #[u, .int .i64 0]) ∧ GpV w' u (g.1, g.2.reverse)) ∧ Gr w w' := by
  obtain ⟨i0, hi, hz0, hz1, hz2⟩ := info_parts Try.infoI
  have HCK := Lib.hid (fun (W : World) (hW : Gr w W) => r14_Check g W (hv.gr hW))
  rw [hg] at HCK
  obtain ⟨a, cap, rfl, ra, la, ma⟩ := hv
  unfold maxLen at ma
  have hl256 := (gpR_zero.1 hg).2.1
  obtain ⟨x, l⟩ := g
  simp only at ra la hl256 HCK ⊢
  clear hg
  obtain ⟨n, hn⟩ : ∃ n, n = l.length := ⟨_, rfl⟩
  have HN := Lib.hid hn
  rw [← hn] at la hl256 HCK ⊢
  clear hn
  obtain ⟨E, hE⟩ : ∃ E, l.reverse = E := ⟨_, rfl⟩
  rw [hE]
  have HE := Lib.hid hE
  clear hE
  obtain ⟨w1, hw1⟩ : ∃ w1, w1 = w.alloc (.cells #[.int .i64 x, .slice a n cap] 25) := ⟨_, rfl⟩
  obtain ⟨w2, hw2⟩ : ∃ w2, w2 = w1.alloc (.cells #[.int .i64 0, .slice none 0 0] 25) := ⟨_, rfl⟩
  have hG1 : Gr w w1 := by rw [hw1]; exact (Gr.refl w).alloc _
  have hG2 : Gr w1 w2 := by rw [hw2]; exact (Gr.refl w1).alloc _
  have hB := show w1.cell? ⟨w.heap.size, 0, none⟩ = some (.int .i64 x) ∧ w1.cell? ⟨w.heap.size, 1, none⟩ = some (.slice a n cap) by rw [hw1]; exact box2 _ _ _ _
  have HC6 := Lib.hid (show w2.heap[w.heap.size + 1]? = some (.cells #[.int .i64 0, .slice none 0 0] 25 (0, 0)) by rw [hw2, show w.heap.size + 1 = w1.heap.size by rw [hw1, World.size_alloc]]; exact heap_alloc_last w1 _)
  have HS1 := Lib.hid (show w.heap.size + 1 = w1.heap.size by rw [hw1, World.size_alloc])
  have HCK2 := Lib.hid (HCK.out w2 (hG1.trans hG2))
  have HR := Lib.hid (ra.gr (hG1.trans hG2))
  have HG := Lib.hid (hG1.trans hG2)
  have HG1 := Lib.hid hG1
  have hb0 := gr_cell hG2 hB.1
  have hb1 := gr_cell hG2 hB.2
  clear ra hG1 hG2 hB HCK
  obtain ⟨p3, hp3⟩ : ∃ p3, p3 = w.heap.size := ⟨_, rfl⟩
  rw [← hp3] at hb0 hb1 HC6 HS1
  go_enter Try.func32, Try.ntmps32
  go_wp2_with fail
  rw [← hw1, ← hw2]
  clear hw1 hw2
  refine HCK2.out.mono ?_; rintro e w3 ⟨rfl, hg3⟩
  have HG3 := Lib.hid (HG.out.trans hg3)
  have HG23 := Lib.hid hg3
  have hb0 := gr_cell hg3 hb0
  have hb1 := gr_cell hg3 hb1
  have HR3 := Lib.hid (HR.out.gr hg3)
  have HC63 := Lib.hid ((hg3.block _ (cellLt (cell_of_row _ _ 0 _ _ _ HC6.out))).trans HC6.out)
  clear hg3 HR HG HCK2 HC6
  rw [← hp3]
  have HP3 := Lib.hid hp3
  clear hp3
  obtain ⟨q, hq⟩ : ∃ q, q = w3.heap.size := ⟨_, rfl⟩
  obtain ⟨w4, hw4⟩ : ∃ w4, w4 = w3.alloc (.cells #[.int .i64 x, .slice none 0 0] 25) := ⟨_, rfl⟩
  have HS4 := Lib.hid (show SA w3 w4 q x (.slice none 0 0) (.slice none 0 0) [] by
    rw [hw4, hq]
    exact ⟨heap_alloc_last w3 _, OwnI.nil _ _, (Gr.refl _).alloc _, Nat.le_refl _⟩)
  have hb14 := gr_cell HS4.out.gr hb1
  rw [hw4] at hb14
  go_wp2_with fail
  rw [← hw4, ← hq]
  clear hb14
  have HQ := Lib.hid hq
  clear hw4 hq
  go_loopw [6] (fun i wr => ∃ (z : Int) (m : Nat) (v : Value) (xs : List Int), i = .int .i64 z ∧ z = (m : Int) - 1 ∧ m ≤ n ∧ Hid (SA w3 wr q x v v xs) ∧ Hid (xs ++ (l.take m).reverse = E)) (fun i _ => (intOf i + 1).toNat)
  case atStart => exact ⟨(n : Int) - 1, n, _, [], by go_num, rfl, Nat.le_refl _, HS4, Lib.hid (by rw [HN.out, List.take_length]; exact HE.out)⟩
  case round =>
    obtain ⟨z, m, v, xs, rfl, hz, hm, HS, HX⟩ := hrel
    have hb0r := gr_cell HS.out.gr hb0
    have hb1r := gr_cell HS.out.gr hb1
    by_cases hlt : 0 < m
    · obtain ⟨j, rfl⟩ : ∃ j, m = j + 1 := ⟨m - 1, by omega⟩
      obtain rfl : z = (j : Int) := by omega
      have hj : j < n := by omega
      have hjl : j < l.length := by rw [← HN.out]; exact hj
      obtain ⟨b, o, rfl, hc⟩ := HR3.out j hjl
      have HX2 := Lib.hid (show xs ++ (l[j] :: (l.take j).reverse) = E by have := HX.out; rwa [List.take_succ_eq_append_getElem hjl, List.reverse_append] at this)
      have hxl : xs.length ≤ 300 := by
        have h1 := congrArg List.length HX.out
        have h2 := congrArg List.length HE.out
        rw [List.length_append] at h1
        rw [List.length_reverse] at h2
        have := HN.out
        omega
      generalize l[j] = c at *
      clear hz hlt hm
      go_wp2_with fail
      clear HX hb0r hb1r
      have hS0 : (fun w' : World => Gr w3 w') wr.drew := HS.out.gr.drew
      have HD := Lib.hid (HS.out.gr' ((Gr.refl _).drew))
      clear HS
      refine wp_region_held (S := fun w' : World => Gr w3 w') (by kernel_rfl) ?_
      change wpAnyH _ _ _ _ _ _ _ _ wr.drew
      refine wpAnyH_take (i := 0) (v := .pointer (some ⟨q, 1, none⟩)) rfl (by kernel_rfl) (by kernel_rfl) (by kernel_rfl) (fun _ _ _ h => h) (Or.inl ⟨by rfl, ?_⟩) hS0 ?_
      · intro w hSw; go_simp
      try simp only [Act.put, List.getElem_toArray, List.getElem_cons_succ, List.getElem_cons_zero, List.setIfInBounds_toArray, List.set_cons_zero, List.set_cons_succ]
      refine wpAnyH_take (i := 2) (v := .pointer (some ⟨p3, 1, none⟩)) rfl (by kernel_rfl) (by kernel_rfl) (by kernel_rfl) (fun _ _ _ h => h) (Or.inl ⟨by rfl, ?_⟩) hS0 ?_
      · intro w hSw; go_simp
      try simp only [Act.put, List.getElem_toArray, List.getElem_cons_succ, List.getElem_cons_zero, List.setIfInBounds_toArray, List.set_cons_zero, List.set_cons_succ]
      refine wpAnyH_take (i := 3) (v := .slice (some ⟨b, o, none⟩) n cap) rfl (by kernel_rfl) (by kernel_rfl) (by kernel_rfl) (fun _ _ _ h => h) (Or.inl ⟨by rfl, ?_⟩) hS0 ?_
      · intro w hSw; have s1 := gr_cell hSw hb1; go_simp
      try simp only [Act.put, List.getElem_toArray, List.getElem_cons_succ, List.getElem_cons_zero, List.setIfInBounds_toArray, List.set_cons_zero, List.set_cons_succ]
      refine wpAnyH_take (i := 4) (v := .int .i64 j) rfl (by kernel_rfl) (by kernel_rfl) (by kernel_rfl) (fun _ _ _ h => h) (Or.inl ⟨by rfl, ?_⟩) hS0 ?_
      · intro w hSw; go_simp
      try simp only [Act.put, List.getElem_toArray, List.getElem_cons_succ, List.getElem_cons_zero, List.setIfInBounds_toArray, List.set_cons_zero, List.set_cons_succ]
      refine wpAnyH_take (i := 5) (v := .pointer (some ⟨b, o + j, none⟩)) rfl (by kernel_rfl) (by kernel_rfl) (by kernel_rfl) (fun _ _ _ h => h) (Or.inl ⟨by rfl, ?_⟩) hS0 ?_
      · intro w hSw; go_simp
      try simp only [Act.put, List.getElem_toArray, List.getElem_cons_succ, List.getElem_cons_zero, List.setIfInBounds_toArray, List.set_cons_zero, List.set_cons_succ]
      refine wpAnyH_take (i := 6) (v := .int .i64 c) rfl (by kernel_rfl) (by kernel_rfl) (by kernel_rfl) (fun _ _ _ h => h) (Or.inl ⟨by rfl, ?_⟩) hS0 ?_
      · intro w hSw; have s1 := gr_cell hSw hc; go_simp
      try simp only [Act.put, List.getElem_toArray, List.getElem_cons_succ, List.getElem_cons_zero, List.setIfInBounds_toArray, List.set_cons_zero, List.set_cons_succ]
      refine wpAnyH_ready (rs := [1, 7]) (by kernel_rfl) (by simp) (AllReadyH.cons rfl (fun K' hK' => ?_) (AllReadyH.cons rfl (fun K' hK' => ?_) AllReadyH.nil))
      · have s1 := HD.out.c1
        go_simp
        refine hK'.out _ _ HD.out.gr (fun hSa => ?_)
        clear hK' K' s1
        try simp only [Act.put, List.getElem_toArray, List.getElem_cons_succ, List.getElem_cons_zero, List.setIfInBounds_toArray, List.set_cons_zero, List.set_cons_succ]
        refine wpAnyH_ready (rs := [7]) (by kernel_rfl) (by simp) (AllReadyH.cons rfl (fun K' hK' => ?_) AllReadyH.nil)
        go_simp
        have HD2 := Lib.hid (HD.out.gr' ((Gr.refl _).alloc (.cells #[.int .i64 c] 3)))
        refine hK'.out _ _ HD2.out.gr (fun hSb => ?_)
        clear hK' K'
        try simp only [Act.put, List.getElem_toArray, List.getElem_cons_succ, List.getElem_cons_zero, List.setIfInBounds_toArray, List.set_cons_zero, List.set_cons_succ]
        try simp only [Act.put, List.getElem_toArray, List.getElem_cons_succ, List.getElem_cons_zero, List.setIfInBounds_toArray, List.set_cons_zero, List.set_cons_succ]
        refine wpAnyH_ready (rs := [8]) (by kernel_rfl) (by simp) (AllReadyH.cons rfl (fun K' hK' => ?_) AllReadyH.nil)
        rw [if_pos (by rfl)]
        refine push_w hi hz0 hz1 hz2 _ _ rfl v xs rfl HD.out.own HD.out.lt c wr.heap.size rfl rfl (by omega) ?_
        intro v5 w5 ho5 hb5
        obtain ⟨a5, cap5, hv5, -⟩ := ho5.shape
        generalize (xs ++ [c]).length = m5 at hv5
        subst hv5
        have HD3 := Lib.hid (HD.out.push ho5 hb5)
        clear ho5 hb5
        refine hK'.out _ _ HD3.out.gr (fun hSc => ?_)
        clear hK' K'
        try simp only [Act.put, List.getElem_toArray, List.getElem_cons_succ, List.getElem_cons_zero, List.setIfInBounds_toArray, List.set_cons_zero, List.set_cons_succ]
        refine wpAnyH_take (i := 9) (v := .pointer (some ⟨q, 1, none⟩)) rfl (by kernel_rfl) (by kernel_rfl) (by kernel_rfl) (fun _ _ _ h => h) (Or.inl ⟨by rfl, ?_⟩) hSc ?_
        · intro w hSw; go_simp
        try simp only [Act.put, List.getElem_toArray, List.getElem_cons_succ, List.getElem_cons_zero, List.setIfInBounds_toArray, List.set_cons_zero, List.set_cons_succ]
        refine wpAnyH_ready (rs := [10]) (by kernel_rfl) (by simp) (AllReadyH.cons rfl (fun K' hK' => ?_) AllReadyH.nil)
        have s2 := HD3.out.c1
        have s3 := HD3.out.frz
        go_simp
        have HD4 := Lib.hid HD3.out.set
        refine hK'.out _ _ HD4.out.gr (fun hSd => wpAnyH_done (by kernel_rfl) ?_ _)
        clear hK' K' s2 s3
        go_wp2
        go_roundw
        case rel => exact ⟨(j : Int) - 1, j, _, xs ++ [c], by go_num, rfl, by omega, HD4, Lib.hid (by rw [List.append_assoc]; exact HX2.out)⟩
        case measure => simp [intOf]
      · go_simp
        have HD2 := Lib.hid (HD.out.gr' ((Gr.refl _).alloc (.cells #[.int .i64 c] 3)))
        refine hK'.out _ _ HD2.out.gr (fun hSb => ?_)
        clear hK' K'
        try simp only [Act.put, List.getElem_toArray, List.getElem_cons_succ, List.getElem_cons_zero, List.setIfInBounds_toArray, List.set_cons_zero, List.set_cons_succ]
        refine wpAnyH_ready (rs := [1]) (by kernel_rfl) (by simp) (AllReadyH.cons rfl (fun K' hK' => ?_) AllReadyH.nil)
        have s1 := HD.out.c1; have s2 := HD2.out.c1; have s4 := HD.out.lt; have s5 : (wr.alloc (.cells #[.int .i64 c] 3)).cell? ⟨q, 1, none⟩ = some v := HD2.out.c1
        go_simp
        refine hK'.out _ _ HD2.out.gr (fun hSb2 => ?_)
        clear hK' K' s1 s2 s4 s5
        try simp only [Act.put, List.getElem_toArray, List.getElem_cons_succ, List.getElem_cons_zero, List.setIfInBounds_toArray, List.set_cons_zero, List.set_cons_succ]
        try simp only [Act.put, List.getElem_toArray, List.getElem_cons_succ, List.getElem_cons_zero, List.setIfInBounds_toArray, List.set_cons_zero, List.set_cons_succ]
        refine wpAnyH_ready (rs := [8]) (by kernel_rfl) (by simp) (AllReadyH.cons rfl (fun K' hK' => ?_) AllReadyH.nil)
        rw [if_pos (by rfl)]
        refine push_w hi hz0 hz1 hz2 _ _ rfl v xs rfl HD.out.own HD.out.lt c wr.heap.size rfl rfl (by omega) ?_
        intro v5 w5 ho5 hb5
        obtain ⟨a5, cap5, hv5, -⟩ := ho5.shape
        generalize (xs ++ [c]).length = m5 at hv5
        subst hv5
        have HD3 := Lib.hid (HD.out.push ho5 hb5)
        clear ho5 hb5
        refine hK'.out _ _ HD3.out.gr (fun hSc => ?_)
        clear hK' K'
        try simp only [Act.put, List.getElem_toArray, List.getElem_cons_succ, List.getElem_cons_zero, List.setIfInBounds_toArray, List.set_cons_zero, List.set_cons_succ]
        refine wpAnyH_take (i := 9) (v := .pointer (some ⟨q, 1, none⟩)) rfl (by kernel_rfl) (by kernel_rfl) (by kernel_rfl) (fun _ _ _ h => h) (Or.inl ⟨by rfl, ?_⟩) hSc ?_
        · intro w hSw; go_simp
        try simp only [Act.put, List.getElem_toArray, List.getElem_cons_succ, List.getElem_cons_zero, List.setIfInBounds_toArray, List.set_cons_zero, List.set_cons_succ]
        refine wpAnyH_ready (rs := [10]) (by kernel_rfl) (by simp) (AllReadyH.cons rfl (fun K' hK' => ?_) AllReadyH.nil)
        have s2 := HD3.out.c1
        have s3 := HD3.out.frz
        go_simp
        have HD4 := Lib.hid HD3.out.set
        refine hK'.out _ _ HD4.out.gr (fun hSd => wpAnyH_done (by kernel_rfl) ?_ _)
        clear hK' K' s2 s3
        go_wp2
        go_roundw
        case rel => exact ⟨(j : Int) - 1, j, _, xs ++ [c], by go_num, rfl, by omega, HD4, Lib.hid (by rw [List.append_assoc]; exact HX2.out)⟩
        case measure => simp [intOf]
    · have HXe := Lib.hid (show xs = E by have h := HX.out; rw [show m = 0 by omega, List.take_zero, List.reverse_nil, List.append_nil] at h; exact h)
      have hz1 : z = -1 := by omega
      subst hz1
      clear hz hlt
      have hc0 := HS.out.c0
      have hc1 := HS.out.c1
      have H6 := Lib.hid (show GB wr (p3 + 1) _ _ from (HS.out.gr.block _ (cellLt (cell_of_row _ _ 0 _ _ _ HC63.out))).trans HC63.out)
      go_wp2_with (refine wpl_storeG rfl rfl rfl rfl rfl HS.out.own.one H6.out ?_)
      have hlt6 := cellLt (cell_of_row _ _ 0 _ _ _ HC63.out)
      have hx := HXe.out
      subst hx
      obtain ⟨a', cap', hu, -, hc1', hc2'⟩ := HS.out.own.shape
      have ho := HS.out.own.row (g := p3 + 1) (by have := HQ.out; omega) #[.int .i64 x, v]
      refine bodyPost_ret (v := .tuple #[.agg #[.int .i64 x, v], .int .i64 0]) ?_ rfl ⟨⟨_, rfl, ?_⟩, ?_⟩
      · rw [results_cell_tmp rfl]
        simp [asAddr, Result.andThen]
        rw [run_loadG (H6.out.row _ _)]
      · obtain ⟨a2, cap2, hu2, hr2, hc3, hc4⟩ := ho.shape
        exact ⟨a2, cap2, by rw [hu2], hr2, hc3, hc4⟩
      · exact (HG3.out.trans HS.out.gr).row (by have := HP3.out; omega) _
end Go.Proofs.Ytmcngnnbfmjajaa
