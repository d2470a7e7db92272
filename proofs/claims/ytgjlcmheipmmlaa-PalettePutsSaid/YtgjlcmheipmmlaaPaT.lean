/- Law 15: the examples of the chapter. -/
import Derived.Test.YtgjlcmheipmmlaaPaS
set_option linter.unusedVariables false
set_option linter.unusedSimpArgs false
namespace Go.Proofs.Ytgjlcmheipmmlaa
open Go.RowKit
open Z
def redL : List Pl := [(4, [(0, 3, 100), (7, 3, 900)])]
def entL : List En := [(3, 3, 4, 0), (3, 4, 4, 0), (7, 3, 0, 5)]
theorem red_ok : palR redL = 0 := by decide
theorem red_v1 : levV redL (3, 3, 4, 0) 8 = 100 ∧ levE redL (3, 3, 4, 0) 8 = 0 := by decide
theorem red_v2 : levV redL (7, 3, 4, 0) 8 = 900 ∧ levE redL (7, 3, 4, 0) 8 = 0 := by decide
theorem red_v3 : levV redL (3, 4, 4, 0) 8 = 8 ∧ levE redL (3, 4, 4, 0) 8 = 0 := by decide
theorem red_v4 : levV redL (3, 3, 5, 0) 8 = 8 ∧ levE redL (3, 3, 5, 0) 8 = 0 := by decide
theorem ent_ok : entR entL = 0 := by decide
theorem both_ok : bothR redL entL = 0 := by decide
theorem ent_used : usedL entL = [4] := by decide
theorem ent_flat : flatL redL entL = [(3, 3, 0, 100), (3, 4, -1, 0), (7, 3, 0, 5)] := by decide
theorem ent_miss : missL redL entL = [(3, 4)] := by decide
set_option maxRecDepth 100000 in
set_option maxHeartbeats 1000000 in
theorem l15_Red (w : World) : Calls Try.prog 43 #[] w fun e w' => (∃ q, e = .returned (.slice (some ⟨q, 0, none⟩) 1 1) ∧ RdP w' (some ⟨q, 0, none⟩) redL) ∧ Gr w w' := by
  have h1 := Rd.new shH w [(0, 3, 100), (7, 3, 900)]
  have hs : (w.alloc (.cells (shH.all [(0, 3, 100), (7, 3, 900)]).toArray shH.t)).heap.size = w.heap.size + 1 := World.size_alloc _ _
  have h2 := Rd.new shG (w.alloc (.cells (shH.all [(0, 3, 100), (7, 3, 900)]).toArray shH.t)) [((4 : Int), some ⟨w.heap.size, 0, none⟩, 2, 2)]
  rw [hs] at h2
  have hg : Gr w ((w.alloc (.cells (shH.all [(0, 3, 100), (7, 3, 900)]).toArray shH.t)).alloc (.cells (shG.all [((4 : Int), some ⟨w.heap.size, 0, none⟩, 2, 2)]).toArray shG.t)) := ((Gr.refl w).alloc _).alloc _
  have HRP : Hid (RdP ((w.alloc (.cells (shH.all [(0, 3, 100), (7, 3, 900)]).toArray shH.t)).alloc (.cells (shG.all [((4 : Int), some ⟨w.heap.size, 0, none⟩, 2, 2)]).toArray shG.t)) (some ⟨w.heap.size + 1, 0, none⟩) redL) := Lib.hid ⟨_, h2, ChL.one ⟨rfl, rfl, h1.gr ((Gr.refl _).alloc _), by show 2 ≤ 2; decide, by show 2 ≤ maxLen; decide, .inr ⟨_, rfl⟩⟩⟩
  have HG := Lib.hid hg
  clear h1 h2 hs hg
  go_enter Try.func43, Try.ntmps43
  go_wp2
  go_ret
  exact ⟨⟨_, rfl, HRP.out⟩, HG.out⟩
set_option maxRecDepth 100000 in
set_option maxHeartbeats 1000000 in
theorem l15_red (c : Int) (w : World) : Calls Try.prog 44 #[.int .i64 c] w fun e w' => e = .returned (.agg #[.int .i64 c, .int .i64 3]) ∧ Gr w w' := by
  have HG1 := Lib.hid ((Gr.refl w).alloc (.cells #[.int .i64 c, .int .i64 3] 55))
  have k0 := fresh w [.int .i64 c, .int .i64 3] 55 (k := 0) rfl
  have k1 := fresh w [.int .i64 c, .int .i64 3] 55 (k := 1) rfl
  have K0 := Lib.hid k0
  have K1 := Lib.hid k1
  clear k0 k1
  go_enter Try.func44, Try.ntmps44
  go_wp2
  refine bodyPost_ret (v := .agg #[.int .i64 c, .int .i64 3]) ?_ rfl ⟨rfl, HG1.out⟩
  have k0 := K0.out
  have k1 := K1.out
  simp [results, Try.results44, go_sem, k0, k1]
set_option maxRecDepth 100000 in
set_option maxHeartbeats 8000000 in
theorem l15_awake (w : World) : Calls Try.prog 12 #[] w fun e w' => e = .returned (.bool true) ∧ Gr w w' := by
  have HRD := Lib.hid (fun W => l15_Red W)
  have HOF := Lib.hid (fun v W => r15_Of v W)
  have HRE := Lib.hid (fun c W => l15_red c W)
  go_enter Try.func12, Try.ntmps12
  go_wp2_with fail
  refine (HRD.out _).mono ?_; rintro e w1 ⟨⟨q, rfl, hrp⟩, hg1⟩
  have HG1 := Lib.hid hg1
  have HV1 := Lib.hid (show ∀ W, Gr w1 W → Calls Try.prog 26 #[.slice (some ⟨q, 0, none⟩) 1 1, .agg #[.int .i64 4, .int .i64 0], .agg #[.int .i64 3, .int .i64 3], .int .i64 8] W fun e w' => e = .returned (.tuple #[.int .i64 100, .int .i64 0]) ∧ Gr W w' from fun W hW => by
    have := pl_Level (l := redL) (cap := 1) (3, 3, 4, 0) 8 W (hrp.gr hW) (by decide) (by decide)
    rw [red_v1.1, red_v1.2] at this
    exact this)
  have HV2 := Lib.hid (show ∀ W, Gr w1 W → Calls Try.prog 26 #[.slice (some ⟨q, 0, none⟩) 1 1, .agg #[.int .i64 4, .int .i64 0], .agg #[.int .i64 7, .int .i64 3], .int .i64 8] W fun e w' => e = .returned (.tuple #[.int .i64 900, .int .i64 0]) ∧ Gr W w' from fun W hW => by
    have := pl_Level (l := redL) (cap := 1) (7, 3, 4, 0) 8 W (hrp.gr hW) (by decide) (by decide)
    rw [red_v2.1, red_v2.2] at this
    exact this)
  have HV3 := Lib.hid (show ∀ W, Gr w1 W → Calls Try.prog 26 #[.slice (some ⟨q, 0, none⟩) 1 1, .agg #[.int .i64 4, .int .i64 0], .agg #[.int .i64 3, .int .i64 4], .int .i64 8] W fun e w' => e = .returned (.tuple #[.int .i64 8, .int .i64 0]) ∧ Gr W w' from fun W hW => by
    have := pl_Level (l := redL) (cap := 1) (3, 4, 4, 0) 8 W (hrp.gr hW) (by decide) (by decide)
    rw [red_v3.1, red_v3.2] at this
    exact this)
  have HV4 := Lib.hid (show ∀ W, Gr w1 W → Calls Try.prog 26 #[.slice (some ⟨q, 0, none⟩) 1 1, .agg #[.int .i64 5, .int .i64 0], .agg #[.int .i64 3, .int .i64 3], .int .i64 8] W fun e w' => e = .returned (.tuple #[.int .i64 8, .int .i64 0]) ∧ Gr W w' from fun W hW => by
    have := pl_Level (l := redL) (cap := 1) (3, 3, 5, 0) 8 W (hrp.gr hW) (by decide) (by decide)
    rw [red_v4.1, red_v4.2] at this
    exact this)
  have HRP := Lib.hid hrp
  clear hrp hg1 HRD
  go_wp2_with fail
  have HGR := Lib.hid ((Gr.refl w1).alloc (.cells #[.int .i64 3, .int .i64 4] 55))
  obtain ⟨w2, hw2⟩ : ∃ w2, w2 = w1.alloc (.cells #[.int .i64 3, .int .i64 4] 55) := ⟨_, rfl⟩
  obtain ⟨g, hg⟩ : ∃ g, g = w1.heap.size := ⟨_, rfl⟩
  have hb : Blk shR w2 g (3, 4) := by rw [hw2, hg]; exact Blk.new shR w1 (3, 4)
  rw [← hw2] at HGR
  rw [← hw2, ← hg]
  have HB := Lib.hid hb
  clear hw2 hg hb
  refine (HOF.out 4 _).mono ?_; rintro e w3 ⟨rfl, hg3⟩
  go_wp2_with fail
  refine (HRE.out 3 _).mono ?_; rintro e w4 ⟨rfl, hg4⟩
  have HG4 := Lib.hid (HGR.out.trans (hg3.trans hg4))
  have HB4 := Lib.hid (HB.out.gr (hg3.trans hg4))
  clear hg3 hg4 HGR HB
  go_wp2_with fail
  refine (HV1.out _ HG4.out).mono ?_; rintro e w5 ⟨rfl, hg5⟩
  go_wp2_with fail
  refine (HOF.out 4 _).mono ?_; rintro e w6 ⟨rfl, hg6⟩
  go_wp2_with fail
  refine (HRE.out 7 _).mono ?_; rintro e w7 ⟨rfl, hg7⟩
  have HG7 := Lib.hid (HG4.out.trans (hg5.trans (hg6.trans hg7)))
  have HB7 := Lib.hid (HB4.out.gr (hg5.trans (hg6.trans hg7)))
  clear hg5 hg6 hg7 HG4 HB4 HV1
  go_wp2_with fail
  refine (HV2.out _ HG7.out).mono ?_; rintro e w8 ⟨rfl, hg8⟩
  have HG8 := Lib.hid (HG7.out.trans hg8)
  have HB8 := Lib.hid (HB7.out.gr hg8)
  have k0 := HB8.out.cell (k := 0) rfl
  have k1 := HB8.out.cell (k := 1) rfl
  clear hg8 HG7 HB7 HV2
  go_wp2_with fail
  have hS0 : (fun w' : World => Gr w8 w') w8.drew := (Gr.refl _).drew
  refine wp_region_held (S := fun w' : World => Gr w8 w') (by kernel_rfl) ?_
  change wpAnyH _ _ _ _ _ _ _ _ w8.drew
  refine wpAnyH_take (i := 0) (v := .slice (some ⟨q, 0, none⟩) 1 1) rfl (by kernel_rfl) (by kernel_rfl) (by kernel_rfl) (fun _ _ _ h => h) (Or.inl ⟨by rfl, ?_⟩) hS0 ?_
  · intro w hSw; go_simp
  try simp only [Act.put, List.getElem_toArray, List.getElem_cons_succ, List.getElem_cons_zero, List.setIfInBounds_toArray, List.set_cons_zero, List.set_cons_succ]
  refine wpAnyH_take (i := 2) (v := .agg #[.int .i64 3, .int .i64 4]) rfl (by kernel_rfl) (by kernel_rfl) (by kernel_rfl) (fun _ _ _ h => h) (Or.inl ⟨by rfl, ?_⟩) hS0 ?_
  · intro w hSw; have s0 := gr_cell hSw k0; have s1 := gr_cell hSw k1; go_simp
  try simp only [Act.put, List.getElem_toArray, List.getElem_cons_succ, List.getElem_cons_zero, List.setIfInBounds_toArray, List.set_cons_zero, List.set_cons_succ]
  refine wpAnyH_ready (rs := [1]) (by kernel_rfl) (by simp) (AllReadyH.cons rfl (fun K' hK' => ?_) AllReadyH.nil)
  go_simp
  refine (HOF.out 4 _).mono ?_; rintro e w9 ⟨rfl, hg9⟩
  refine hK'.out _ _ (hS0.trans hg9) (fun hS1 => ?_)
  clear hK' K'
  try simp only [Act.put, List.getElem_toArray, List.getElem_cons_succ, List.getElem_cons_zero, List.setIfInBounds_toArray, List.set_cons_zero, List.set_cons_succ]
  refine wpAnyH_ready (rs := [3]) (by kernel_rfl) (by simp) (AllReadyH.cons rfl (fun K' hK' => ?_) AllReadyH.nil)
  go_simp
  refine (HV3.out _ (HG8.out.trans hS1)).mono ?_; rintro e w10 ⟨rfl, hg10⟩
  refine hK'.out _ _ (hS1.trans hg10) (fun hS2 => ?_)
  clear hK' K'
  try simp only [Act.put, List.getElem_toArray, List.getElem_cons_succ, List.getElem_cons_zero, List.setIfInBounds_toArray, List.set_cons_zero, List.set_cons_succ]
  refine wpAnyH_take (i := 4) (v := .tuple #[.int .i64 8, .int .i64 0]) rfl (by kernel_rfl) (by kernel_rfl) (by kernel_rfl) (fun _ _ _ h => h) (Or.inl ⟨by rfl, ?_⟩) hS2 ?_
  · intro w hSw; go_simp
  try simp only [Act.put, List.getElem_toArray, List.getElem_cons_succ, List.getElem_cons_zero, List.setIfInBounds_toArray, List.set_cons_zero, List.set_cons_succ]
  refine wpAnyH_take (i := 5) (v := .int .i64 8) rfl (by kernel_rfl) (by kernel_rfl) (by kernel_rfl) (fun _ _ _ h => h) (Or.inl ⟨by rfl, ?_⟩) hS2 ?_
  · intro w hSw; go_simp
  try simp only [Act.put, List.getElem_toArray, List.getElem_cons_succ, List.getElem_cons_zero, List.setIfInBounds_toArray, List.set_cons_zero, List.set_cons_succ]
  refine wpAnyH_take (i := 6) (v := .int .i64 0) rfl (by kernel_rfl) (by kernel_rfl) (by kernel_rfl) (fun _ _ _ h => h) (Or.inl ⟨by rfl, ?_⟩) hS2 ?_
  · intro w hSw; go_simp
  try simp only [Act.put, List.getElem_toArray, List.getElem_cons_succ, List.getElem_cons_zero, List.setIfInBounds_toArray, List.set_cons_zero, List.set_cons_succ]
  refine wpAnyH_take (i := 7) (v := .int .i64 8) rfl (by kernel_rfl) (by kernel_rfl) (by kernel_rfl) (fun _ _ _ h => h) (Or.inl ⟨by rfl, ?_⟩) hS2 ?_
  · intro w hSw; go_simp
  try simp only [Act.put, List.getElem_toArray, List.getElem_cons_succ, List.getElem_cons_zero, List.setIfInBounds_toArray, List.set_cons_zero, List.set_cons_succ]
  refine wpAnyH_take (i := 8) (v := .int .i64 0) rfl (by kernel_rfl) (by kernel_rfl) (by kernel_rfl) (fun _ _ _ h => h) (Or.inl ⟨by rfl, ?_⟩) hS2 ?_
  · intro w hSw; go_simp
  try simp only [Act.put, List.getElem_toArray, List.getElem_cons_succ, List.getElem_cons_zero, List.setIfInBounds_toArray, List.set_cons_zero, List.set_cons_succ]
  refine wpAnyH_done (by kernel_rfl) ?_ _
  have HG10 := Lib.hid (HG8.out.trans hS2)
  have HB10 := Lib.hid (HB8.out.gr hS2)
  clear hg9 hg10 hS0 hS2 HG8 HB8 HV3 k0 k1
  go_wp2_with fail
  refine (HOF.out 5 _).mono ?_; rintro e w11 ⟨rfl, hg11⟩
  go_wp2_with fail
  refine (HRE.out 3 _).mono ?_; rintro e w12 ⟨rfl, hg12⟩
  have HG12 := Lib.hid (HG10.out.trans (hg11.trans hg12))
  have HB12 := Lib.hid (HB10.out.gr (hg11.trans hg12))
  clear hg11 hg12 HG10 HB10
  go_wp2_with fail
  refine (HV4.out _ HG12.out).mono ?_; rintro e w13 ⟨rfl, hg13⟩
  have HG13 := Lib.hid (HG12.out.trans hg13)
  have HB13 := Lib.hid (HB12.out.gr hg13)
  have k0 := HB13.out.cell (k := 0) rfl
  have k1 := HB13.out.cell (k := 1) rfl
  clear hg13 HG12 HB12 HV4
  go_wp2_with fail
  have hS0 : (fun w' : World => Gr w13 w') w13.drew := (Gr.refl _).drew
  refine wp_region_held (S := fun w' : World => Gr w13 w') (by kernel_rfl) ?_
  change wpAnyH _ _ _ _ _ _ _ _ w13.drew
  refine wpAnyH_take (i := 0) (v := .func (.func 44) #[] #[]) rfl (by kernel_rfl) (by kernel_rfl) (by kernel_rfl) (fun _ _ _ h => h) (Or.inl ⟨by rfl, ?_⟩) hS0 ?_
  · intro w hSw; go_simp
  try simp only [Act.put, List.getElem_toArray, List.getElem_cons_succ, List.getElem_cons_zero, List.setIfInBounds_toArray, List.set_cons_zero, List.set_cons_succ]
  refine wpAnyH_take (i := 4) (v := .agg #[.int .i64 3, .int .i64 4]) rfl (by kernel_rfl) (by kernel_rfl) (by kernel_rfl) (fun _ _ _ h => h) (Or.inl ⟨by rfl, ?_⟩) hS0 ?_
  · intro w hSw; have s0 := gr_cell hSw k0; have s1 := gr_cell hSw k1; go_simp
  try simp only [Act.put, List.getElem_toArray, List.getElem_cons_succ, List.getElem_cons_zero, List.setIfInBounds_toArray, List.set_cons_zero, List.set_cons_succ]
  refine wpAnyH_take (i := 7) (v := .func (.func 44) #[] #[]) rfl (by kernel_rfl) (by kernel_rfl) (by kernel_rfl) (fun _ _ _ h => h) (Or.inl ⟨by rfl, ?_⟩) hS0 ?_
  · intro w hSw; go_simp
  try simp only [Act.put, List.getElem_toArray, List.getElem_cons_succ, List.getElem_cons_zero, List.setIfInBounds_toArray, List.set_cons_zero, List.set_cons_succ]
  refine wpAnyH_ready (rs := [1]) (by kernel_rfl) (by simp) (AllReadyH.cons rfl (fun K' hK' => ?_) AllReadyH.nil)
  go_simp
  refine (HRE.out 3 _).mono ?_; rintro e w14 ⟨rfl, hg14⟩
  refine hK'.out _ _ (hS0.trans hg14) (fun hS1 => ?_)
  clear hK' K'
  try simp only [Act.put, List.getElem_toArray, List.getElem_cons_succ, List.getElem_cons_zero, List.setIfInBounds_toArray, List.set_cons_zero, List.set_cons_succ]
  refine wpAnyH_ready (rs := [2]) (by kernel_rfl) (by simp) (AllReadyH.cons rfl (fun K' hK' => ?_) AllReadyH.nil)
  go_simp
  refine (HOF.out 4 _).mono ?_; rintro e w15 ⟨rfl, hg15⟩
  refine hK'.out _ _ (hS1.trans hg15) (fun hS2 => ?_)
  clear hK' K'
  try simp only [Act.put, List.getElem_toArray, List.getElem_cons_succ, List.getElem_cons_zero, List.setIfInBounds_toArray, List.set_cons_zero, List.set_cons_succ]
  refine wpAnyH_take (i := 3) (v := .agg #[.int .i64 3, .int .i64 3, .int .i64 4, .int .i64 0]) rfl (by kernel_rfl) (by kernel_rfl) (by kernel_rfl) (fun _ _ _ h => h) (Or.inl ⟨by rfl, ?_⟩) hS2 ?_
  · intro w hSw; go_simp
  try simp only [Act.put, List.getElem_toArray, List.getElem_cons_succ, List.getElem_cons_zero, List.setIfInBounds_toArray, List.set_cons_zero, List.set_cons_succ]
  refine wpAnyH_ready (rs := [5]) (by kernel_rfl) (by simp) (AllReadyH.cons rfl (fun K' hK' => ?_) AllReadyH.nil)
  go_simp
  refine (HOF.out 4 _).mono ?_; rintro e w16 ⟨rfl, hg16⟩
  refine hK'.out _ _ (hS2.trans hg16) (fun hS3 => ?_)
  clear hK' K'
  try simp only [Act.put, List.getElem_toArray, List.getElem_cons_succ, List.getElem_cons_zero, List.setIfInBounds_toArray, List.set_cons_zero, List.set_cons_succ]
  refine wpAnyH_take (i := 6) (v := .agg #[.int .i64 3, .int .i64 4, .int .i64 4, .int .i64 0]) rfl (by kernel_rfl) (by kernel_rfl) (by kernel_rfl) (fun _ _ _ h => h) (Or.inl ⟨by rfl, ?_⟩) hS3 ?_
  · intro w hSw; go_simp
  try simp only [Act.put, List.getElem_toArray, List.getElem_cons_succ, List.getElem_cons_zero, List.setIfInBounds_toArray, List.set_cons_zero, List.set_cons_succ]
  refine wpAnyH_ready (rs := [8]) (by kernel_rfl) (by simp) (AllReadyH.cons rfl (fun K' hK' => ?_) AllReadyH.nil)
  go_simp
  refine (HRE.out 7 _).mono ?_; rintro e w17 ⟨rfl, hg17⟩
  refine hK'.out _ _ (hS3.trans hg17) (fun hS4 => ?_)
  clear hK' K'
  try simp only [Act.put, List.getElem_toArray, List.getElem_cons_succ, List.getElem_cons_zero, List.setIfInBounds_toArray, List.set_cons_zero, List.set_cons_succ]
  refine wpAnyH_ready (rs := [9]) (by kernel_rfl) (by simp) (AllReadyH.cons rfl (fun K' hK' => ?_) AllReadyH.nil)
  go_simp
  refine (r15_At 5 _).mono ?_; rintro e w18 ⟨rfl, hg18⟩
  refine hK'.out _ _ (hS4.trans hg18) (fun hS5 => ?_)
  clear hK' K'
  try simp only [Act.put, List.getElem_toArray, List.getElem_cons_succ, List.getElem_cons_zero, List.setIfInBounds_toArray, List.set_cons_zero, List.set_cons_succ]
  refine wpAnyH_take (i := 10) (v := .agg #[.int .i64 7, .int .i64 3, .int .i64 0, .int .i64 5]) rfl (by kernel_rfl) (by kernel_rfl) (by kernel_rfl) (fun _ _ _ h => h) (Or.inl ⟨by rfl, ?_⟩) hS5 ?_
  · intro w hSw; go_simp
  try simp only [Act.put, List.getElem_toArray, List.getElem_cons_succ, List.getElem_cons_zero, List.setIfInBounds_toArray, List.set_cons_zero, List.set_cons_succ]
  refine wpAnyH_ready (rs := [11]) (by kernel_rfl) (by simp) (AllReadyH.cons rfl (fun K' hK' => ?_) AllReadyH.nil)
  go_simp
  refine hK'.out _ _ (hS5.alloc _) (fun hS6 => ?_)
  clear hK' K'
  try simp only [Act.put, List.getElem_toArray, List.getElem_cons_succ, List.getElem_cons_zero, List.setIfInBounds_toArray, List.set_cons_zero, List.set_cons_succ]
  refine wpAnyH_take (i := 12) (v := .slice (some ⟨w18.heap.size, 0, none⟩) 3 3) rfl (by kernel_rfl) (by kernel_rfl) (by kernel_rfl) (fun _ _ _ h => h) (Or.inl ⟨by rfl, ?_⟩) hS6 ?_
  · intro w hSw; go_simp
  try simp only [Act.put, List.getElem_toArray, List.getElem_cons_succ, List.getElem_cons_zero, List.setIfInBounds_toArray, List.set_cons_zero, List.set_cons_succ]
  refine wpAnyH_done (by kernel_rfl) ?_ _
  have HEL := Lib.hid (Rd.new shE w18 entL)
  have HG19 := Lib.hid (show Gr w1 (w18.alloc (.cells (shE.all entL).toArray shE.t)) from HG13.out.trans hS6)
  have HB19 := Lib.hid (show Blk shR (w18.alloc (.cells (shE.all entL).toArray shE.t)) g (3, 4) from HB13.out.gr hS6)
  clear hg14 hg15 hg16 hg17 hg18 hS6 hS0 hS1 hS2 hS3 hS4 hS5 HG13 HB13 k0 k1
  obtain ⟨w19, hw19⟩ : ∃ w19, w19 = w18.alloc (.cells (shE.all entL).toArray shE.t) := ⟨_, rfl⟩
  have hal : w18.alloc (.cells #[.int .i64 3, .int .i64 3, .int .i64 4, .int .i64 0, .int .i64 3, .int .i64 4, .int .i64 4, .int .i64 0, .int .i64 7, .int .i64 3, .int .i64 0, .int .i64 5] 57) = w19 := hw19.symm
  rw [← hw19] at HEL HG19 HB19
  obtain ⟨p, hp⟩ : ∃ p, p = w18.heap.size := ⟨_, rfl⟩
  rw [← hp] at HEL
  have HUS := Lib.hid (show ∀ W, Gr w19 W → Calls Try.prog 28 #[.slice (some ⟨p, 0, none⟩) 3 3] W fun e w' => (∃ v, e = .returned (.tuple #[v, .int .i64 0]) ∧ Own shI W.heap.size w' v [4]) ∧ Gr W w' from fun W hW => by
    have := pl_Used (l := entL) (cap := 3) W (HEL.out.gr hW) (by decide)
    rw [ent_ok, ent_used] at this
    exact this)
  have HFL := Lib.hid (show ∀ W, Gr w19 W → Calls Try.prog 30 #[.slice (some ⟨q, 0, none⟩) 1 1, .slice (some ⟨p, 0, none⟩) 3 3] W fun e w' => (∃ v, e = .returned (.tuple #[v, .int .i64 0]) ∧ Own shE W.heap.size w' v [(3, 3, 0, 100), (3, 4, -1, 0), (7, 3, 0, 5)]) ∧ Gr W w' from fun W hW => by
    have := pl_Flat (l := redL) (cl := 1) (es := entL) (ce := 3) W (HRP.out.gr (HG19.out.trans hW)) (by decide) (by decide) (HEL.out.gr hW) (by decide)
    rw [both_ok, ent_flat] at this
    exact this)
  have HMS := Lib.hid (show ∀ W, Gr w19 W → Calls Try.prog 32 #[.slice (some ⟨q, 0, none⟩) 1 1, .slice (some ⟨p, 0, none⟩) 3 3] W fun e w' => (∃ v, e = .returned (.tuple #[v, .int .i64 0]) ∧ Own shR W.heap.size w' v [(3, 4)]) ∧ Gr W w' from fun W hW => by
    have := pl_Missing (l := redL) (cl := 1) (es := entL) (ce := 3) W (HRP.out.gr (HG19.out.trans hW)) (by decide) (by decide) (HEL.out.gr hW) (by decide)
    rw [both_ok, ent_miss] at this
    exact this)
  clear HOF HRE
  go_wp2_with fail
  first | rw [← hw19, ← hp] | rw [hal, ← hp]
  clear hal hw19 hp
  refine (HUS.out _ (Gr.refl _)).mono ?_; rintro e w20 ⟨⟨v20, rfl, ho20⟩, hg20⟩
  obtain ⟨ua, uc, rfl, hur, -⟩ := ho20.shape
  go_wp2_with fail
  refine (HFL.out _ hg20).mono ?_; rintro e w21 ⟨⟨v21, rfl, ho21⟩, hg21⟩
  obtain ⟨fa, fc, rfl, hfr, hf1, -⟩ := ho21.shape
  go_wp2_with fail
  refine (HMS.out _ (hg20.trans hg21)).mono ?_; rintro e w22 ⟨⟨v22, rfl, ho22⟩, hg22⟩
  obtain ⟨ma, mc, rfl, hmr, -⟩ := ho22.shape
  have hg1922 := hg20.trans (hg21.trans hg22)
  have HUR := Lib.hid (hur.gr (hg21.trans hg22))
  have HMR := Lib.hid hmr
  obtain ⟨fb, fo, rfl, y0, y1, y2, y3⟩ := en_cells (hfr.gr hg22) (k := 0) (by decide)
  obtain ⟨_, _, e1, z0, z1, z2, z3⟩ := en_cells (hfr.gr hg22) (k := 1) (by decide)
  cases e1
  obtain ⟨_, _, e1, x0, x1, x2, x3⟩ := en_cells (hfr.gr hg22) (k := 2) (by decide)
  cases e1
  have hf13 : 3 ≤ fc := hf1
  have f2 : w22.cell? ⟨fb, fo + 2, none⟩ = some (.int .i64 0) := y2
  have f3 : w22.cell? ⟨fb, fo + 3, none⟩ = some (.int .i64 100) := y3
  have f6 : w22.cell? ⟨fb, fo + 6, none⟩ = some (.int .i64 (-1)) := z2
  have f7 : w22.cell? ⟨fb, fo + 7, none⟩ = some (.int .i64 0) := z3
  have f8 : w22.cell? ⟨fb, fo + 8, none⟩ = some (.int .i64 7) := x0
  have f9 : w22.cell? ⟨fb, fo + 9, none⟩ = some (.int .i64 3) := x1
  have f10 : w22.cell? ⟨fb, fo + 10, none⟩ = some (.int .i64 0) := x2
  have f11 : w22.cell? ⟨fb, fo + 11, none⟩ = some (.int .i64 5) := x3
  obtain ⟨_, _, e1, u0, u1, u2, u3⟩ := en_cells (HEL.out.gr hg1922) (k := 2) (by decide)
  cases e1
  have p8 : w22.cell? ⟨p, 8, none⟩ = some (.int .i64 7) := u0
  have p9 : w22.cell? ⟨p, 9, none⟩ = some (.int .i64 3) := u1
  have p10 : w22.cell? ⟨p, 10, none⟩ = some (.int .i64 0) := u2
  have p11 : w22.cell? ⟨p, 11, none⟩ = some (.int .i64 5) := u3
  have k0 := (HB19.out.gr hg1922).cell (k := 0) rfl
  have k1 := (HB19.out.gr hg1922).cell (k := 1) rfl
  have HG22 := Lib.hid (HG1.out.trans (HG19.out.trans hg1922))
  clear hg20 hg21 hg22 hg1922 ho20 ho21 ho22 hur hfr hmr HUS HFL HMS HEL HRP HG19 HB19 HG1 hf1 y0 y1 y2 y3 z0 z1 z2 z3 x0 x1 x2 x3 u0 u1 u2 u3
  go_wp2_with fail
  have hS0 : (fun w' : World => Gr w22 w') w22.drew := (Gr.refl _).drew
  refine wp_region_held (S := fun w' : World => Gr w22 w') (by kernel_rfl) ?_
  change wpAnyH _ _ _ _ _ _ _ _ w22.drew
  refine wpAnyH_take (i := 0) (v := .int .i64 0) rfl (by kernel_rfl) (by kernel_rfl) (by kernel_rfl) (fun _ _ _ h => h) (Or.inl ⟨by rfl, ?_⟩) hS0 ?_
  · intro w hSw; go_simp
  try simp only [Act.put, List.getElem_toArray, List.getElem_cons_succ, List.getElem_cons_zero, List.setIfInBounds_toArray, List.set_cons_zero, List.set_cons_succ]
  refine wpAnyH_take (i := 1) (v := .int .i64 0) rfl (by kernel_rfl) (by kernel_rfl) (by kernel_rfl) (fun _ _ _ h => h) (Or.inl ⟨by rfl, ?_⟩) hS0 ?_
  · intro w hSw; go_simp
  try simp only [Act.put, List.getElem_toArray, List.getElem_cons_succ, List.getElem_cons_zero, List.setIfInBounds_toArray, List.set_cons_zero, List.set_cons_succ]
  refine wpAnyH_take (i := 2) (v := .int .i64 0) rfl (by kernel_rfl) (by kernel_rfl) (by kernel_rfl) (fun _ _ _ h => h) (Or.inl ⟨by rfl, ?_⟩) hS0 ?_
  · intro w hSw; go_simp <;> decide
  try simp only [Act.put, List.getElem_toArray, List.getElem_cons_succ, List.getElem_cons_zero, List.setIfInBounds_toArray, List.set_cons_zero, List.set_cons_succ]
  refine wpAnyH_take (i := 3) (v := .int .i64 0) rfl (by kernel_rfl) (by kernel_rfl) (by kernel_rfl) (fun _ _ _ h => h) (Or.inl ⟨by rfl, ?_⟩) hS0 ?_
  · intro w hSw; go_simp
  try simp only [Act.put, List.getElem_toArray, List.getElem_cons_succ, List.getElem_cons_zero, List.setIfInBounds_toArray, List.set_cons_zero, List.set_cons_succ]
  refine wpAnyH_take (i := 4) (v := .int .i64 0) rfl (by kernel_rfl) (by kernel_rfl) (by kernel_rfl) (fun _ _ _ h => h) (Or.inl ⟨by rfl, ?_⟩) hS0 ?_
  · intro w hSw; go_simp <;> decide
  try simp only [Act.put, List.getElem_toArray, List.getElem_cons_succ, List.getElem_cons_zero, List.setIfInBounds_toArray, List.set_cons_zero, List.set_cons_succ]
  refine wpAnyH_take (i := 5) (v := .bool true) rfl (by kernel_rfl) (by kernel_rfl) (by kernel_rfl) (fun _ _ _ h => h) (Or.inl ⟨by rfl, ?_⟩) hS0 ?_
  · intro w hSw; go_simp
  try simp only [Act.put, List.getElem_toArray, List.getElem_cons_succ, List.getElem_cons_zero, List.setIfInBounds_toArray, List.set_cons_zero, List.set_cons_succ]
  refine wpAnyH_take (i := 6) (v := .bool true) rfl (by kernel_rfl) (by kernel_rfl) (by kernel_rfl) (fun _ _ _ h => h) (Or.inl ⟨by rfl, ?_⟩) hS0 ?_
  · intro w hSw; go_simp
  try simp only [Act.put, List.getElem_toArray, List.getElem_cons_succ, List.getElem_cons_zero, List.setIfInBounds_toArray, List.set_cons_zero, List.set_cons_succ]
  refine wpAnyH_take (i := 7) (v := .slice ua 1 uc) rfl (by kernel_rfl) (by kernel_rfl) (by kernel_rfl) (fun _ _ _ h => h) (Or.inl ⟨by rfl, ?_⟩) hS0 ?_
  · intro w hSw; go_simp
  try simp only [Act.put, List.getElem_toArray, List.getElem_cons_succ, List.getElem_cons_zero, List.setIfInBounds_toArray, List.set_cons_zero, List.set_cons_succ]
  refine wpAnyH_ready (rs := [8]) (by kernel_rfl) (by simp) (AllReadyH.cons rfl (fun K' hK' => ?_) AllReadyH.nil)
  go_simp
  refine hK'.out _ _ (hS0.alloc _) (fun hS1 => ?_)
  clear hK' K'
  try simp only [Act.put, List.getElem_toArray, List.getElem_cons_succ, List.getElem_cons_zero, List.setIfInBounds_toArray, List.set_cons_zero, List.set_cons_succ]
  refine wpAnyH_ready (rs := [9]) (by kernel_rfl) (by simp) (AllReadyH.cons rfl (fun K' hK' => ?_) AllReadyH.nil)
  go_simp
  refine (sl_EqualI (L := [4]) (M := [4]) (ca := uc) (cb := 1) _ (HUR.out.gr hS1) (Rd.new shI w22.drew [4]) (by decide) (by decide)).mono ?_; rintro e w23 ⟨rfl, hg23⟩
  refine hK'.out _ _ (hS1.trans hg23) (fun hS2 => ?_)
  clear hK' K'
  try simp only [Act.put, List.getElem_toArray, List.getElem_cons_succ, List.getElem_cons_zero, List.setIfInBounds_toArray, List.set_cons_zero, List.set_cons_succ]
  refine wpAnyH_take (i := 10) (v := .bool true) rfl (by kernel_rfl) (by kernel_rfl) (by kernel_rfl) (fun _ _ _ h => h) (Or.inl ⟨by rfl, ?_⟩) hS2 ?_
  · intro w hSw; go_simp
  try simp only [Act.put, List.getElem_toArray, List.getElem_cons_succ, List.getElem_cons_zero, List.setIfInBounds_toArray, List.set_cons_zero, List.set_cons_succ]
  refine wpAnyH_take (i := 11) (v := .bool true) rfl (by kernel_rfl) (by kernel_rfl) (by kernel_rfl) (fun _ _ _ h => h) (Or.inl ⟨by rfl, ?_⟩) hS2 ?_
  · intro w hSw; go_simp
  try simp only [Act.put, List.getElem_toArray, List.getElem_cons_succ, List.getElem_cons_zero, List.setIfInBounds_toArray, List.set_cons_zero, List.set_cons_succ]
  refine wpAnyH_take (i := 12) (v := .slice (some ⟨fb, fo, none⟩) 3 fc) rfl (by kernel_rfl) (by kernel_rfl) (by kernel_rfl) (fun _ _ _ h => h) (Or.inl ⟨by rfl, ?_⟩) hS2 ?_
  · intro w hSw; go_simp
  try simp only [Act.put, List.getElem_toArray, List.getElem_cons_succ, List.getElem_cons_zero, List.setIfInBounds_toArray, List.set_cons_zero, List.set_cons_succ]
  refine wpAnyH_take (i := 13) (v := .int .i64 3) rfl (by kernel_rfl) (by kernel_rfl) (by kernel_rfl) (fun _ _ _ h => h) (Or.inl ⟨by rfl, ?_⟩) hS2 ?_
  · intro w hSw; go_simp
  try simp only [Act.put, List.getElem_toArray, List.getElem_cons_succ, List.getElem_cons_zero, List.setIfInBounds_toArray, List.set_cons_zero, List.set_cons_succ]
  refine wpAnyH_take (i := 14) (v := .bool true) rfl (by kernel_rfl) (by kernel_rfl) (by kernel_rfl) (fun _ _ _ h => h) (Or.inl ⟨by rfl, ?_⟩) hS2 ?_
  · intro w hSw; go_simp
  try simp only [Act.put, List.getElem_toArray, List.getElem_cons_succ, List.getElem_cons_zero, List.setIfInBounds_toArray, List.set_cons_zero, List.set_cons_succ]
  refine wpAnyH_take (i := 15) (v := .bool true) rfl (by kernel_rfl) (by kernel_rfl) (by kernel_rfl) (fun _ _ _ h => h) (Or.inl ⟨by rfl, ?_⟩) hS2 ?_
  · intro w hSw; go_simp
  try simp only [Act.put, List.getElem_toArray, List.getElem_cons_succ, List.getElem_cons_zero, List.setIfInBounds_toArray, List.set_cons_zero, List.set_cons_succ]
  refine wpAnyH_take (i := 16) (v := .bool true) rfl (by kernel_rfl) (by kernel_rfl) (by kernel_rfl) (fun _ _ _ h => h) (Or.inl ⟨by rfl, ?_⟩) hS2 ?_
  · intro w hSw; go_simp
  try simp only [Act.put, List.getElem_toArray, List.getElem_cons_succ, List.getElem_cons_zero, List.setIfInBounds_toArray, List.set_cons_zero, List.set_cons_succ]
  refine wpAnyH_take (i := 17) (v := .slice (some ⟨fb, fo, none⟩) 3 fc) rfl (by kernel_rfl) (by kernel_rfl) (by kernel_rfl) (fun _ _ _ h => h) (Or.inl ⟨by rfl, ?_⟩) hS2 ?_
  · intro w hSw; go_simp
  try simp only [Act.put, List.getElem_toArray, List.getElem_cons_succ, List.getElem_cons_zero, List.setIfInBounds_toArray, List.set_cons_zero, List.set_cons_succ]
  refine wpAnyH_take (i := 18) (v := .pointer (some ⟨fb, fo, none⟩)) rfl (by kernel_rfl) (by kernel_rfl) (by kernel_rfl) (fun _ _ _ h => h) (Or.inl ⟨by rfl, ?_⟩) hS2 ?_
  · intro w hSw; go_simp
  try simp only [Act.put, List.getElem_toArray, List.getElem_cons_succ, List.getElem_cons_zero, List.setIfInBounds_toArray, List.set_cons_zero, List.set_cons_succ]
  refine wpAnyH_take (i := 19) (v := .pointer (some ⟨fb, fo + 2, none⟩)) rfl (by kernel_rfl) (by kernel_rfl) (by kernel_rfl) (fun _ _ _ h => h) (Or.inl ⟨by rfl, ?_⟩) hS2 ?_
  · intro w hSw; go_simp
  try simp only [Act.put, List.getElem_toArray, List.getElem_cons_succ, List.getElem_cons_zero, List.setIfInBounds_toArray, List.set_cons_zero, List.set_cons_succ]
  refine wpAnyH_take (i := 20) (v := .agg #[.int .i64 0, .int .i64 100]) rfl (by kernel_rfl) (by kernel_rfl) (by kernel_rfl) (fun _ _ _ h => h) (Or.inl ⟨by rfl, ?_⟩) hS2 ?_
  · intro w hSw; have s0 := gr_cell hSw f2; have s1 := gr_cell hSw f3; go_simp
  try simp only [Act.put, List.getElem_toArray, List.getElem_cons_succ, List.getElem_cons_zero, List.setIfInBounds_toArray, List.set_cons_zero, List.set_cons_succ]
  refine wpAnyH_ready (rs := [21]) (by kernel_rfl) (by simp) (AllReadyH.cons rfl (fun K' hK' => ?_) AllReadyH.nil)
  go_simp
  refine (r15_At 100 _).mono ?_; rintro e w24 ⟨rfl, hg24⟩
  refine hK'.out _ _ (hS2.trans hg24) (fun hS3 => ?_)
  clear hK' K'
  try simp only [Act.put, List.getElem_toArray, List.getElem_cons_succ, List.getElem_cons_zero, List.setIfInBounds_toArray, List.set_cons_zero, List.set_cons_succ]
  refine wpAnyH_take (i := 22) (v := .bool true) rfl (by kernel_rfl) (by kernel_rfl) (by kernel_rfl) (fun _ _ _ h => h) (Or.inl ⟨by rfl, ?_⟩) hS3 ?_
  · intro w hSw; go_simp
  try simp only [Act.put, List.getElem_toArray, List.getElem_cons_succ, List.getElem_cons_zero, List.setIfInBounds_toArray, List.set_cons_zero, List.set_cons_succ]
  refine wpAnyH_take (i := 23) (v := .bool true) rfl (by kernel_rfl) (by kernel_rfl) (by kernel_rfl) (fun _ _ _ h => h) (Or.inl ⟨by rfl, ?_⟩) hS3 ?_
  · intro w hSw; go_simp
  try simp only [Act.put, List.getElem_toArray, List.getElem_cons_succ, List.getElem_cons_zero, List.setIfInBounds_toArray, List.set_cons_zero, List.set_cons_succ]
  refine wpAnyH_take (i := 24) (v := .bool true) rfl (by kernel_rfl) (by kernel_rfl) (by kernel_rfl) (fun _ _ _ h => h) (Or.inl ⟨by rfl, ?_⟩) hS3 ?_
  · intro w hSw; go_simp
  try simp only [Act.put, List.getElem_toArray, List.getElem_cons_succ, List.getElem_cons_zero, List.setIfInBounds_toArray, List.set_cons_zero, List.set_cons_succ]
  refine wpAnyH_take (i := 25) (v := .slice (some ⟨fb, fo, none⟩) 3 fc) rfl (by kernel_rfl) (by kernel_rfl) (by kernel_rfl) (fun _ _ _ h => h) (Or.inl ⟨by rfl, ?_⟩) hS3 ?_
  · intro w hSw; go_simp
  try simp only [Act.put, List.getElem_toArray, List.getElem_cons_succ, List.getElem_cons_zero, List.setIfInBounds_toArray, List.set_cons_zero, List.set_cons_succ]
  refine wpAnyH_take (i := 26) (v := .pointer (some ⟨fb, fo + 4, none⟩)) rfl (by kernel_rfl) (by kernel_rfl) (by kernel_rfl) (fun _ _ _ h => h) (Or.inl ⟨by rfl, ?_⟩) hS3 ?_
  · intro w hSw; go_simp
  try simp only [Act.put, List.getElem_toArray, List.getElem_cons_succ, List.getElem_cons_zero, List.setIfInBounds_toArray, List.set_cons_zero, List.set_cons_succ]
  refine wpAnyH_take (i := 27) (v := .pointer (some ⟨fb, fo + 6, none⟩)) rfl (by kernel_rfl) (by kernel_rfl) (by kernel_rfl) (fun _ _ _ h => h) (Or.inl ⟨by rfl, ?_⟩) hS3 ?_
  · intro w hSw; go_simp
  try simp only [Act.put, List.getElem_toArray, List.getElem_cons_succ, List.getElem_cons_zero, List.setIfInBounds_toArray, List.set_cons_zero, List.set_cons_succ]
  refine wpAnyH_take (i := 28) (v := .agg #[.int .i64 (-1), .int .i64 0]) rfl (by kernel_rfl) (by kernel_rfl) (by kernel_rfl) (fun _ _ _ h => h) (Or.inl ⟨by rfl, ?_⟩) hS3 ?_
  · intro w hSw; have s0 := gr_cell hSw f6; have s1 := gr_cell hSw f7; go_simp
  try simp only [Act.put, List.getElem_toArray, List.getElem_cons_succ, List.getElem_cons_zero, List.setIfInBounds_toArray, List.set_cons_zero, List.set_cons_succ]
  refine wpAnyH_ready (rs := [29]) (by kernel_rfl) (by simp) (AllReadyH.cons rfl (fun K' hK' => ?_) AllReadyH.nil)
  go_simp
  refine (r15_Home _).mono ?_; rintro e w25 ⟨rfl, hg25⟩
  refine hK'.out _ _ (hS3.trans hg25) (fun hS4 => ?_)
  clear hK' K'
  try simp only [Act.put, List.getElem_toArray, List.getElem_cons_succ, List.getElem_cons_zero, List.setIfInBounds_toArray, List.set_cons_zero, List.set_cons_succ]
  refine wpAnyH_take (i := 30) (v := .bool true) rfl (by kernel_rfl) (by kernel_rfl) (by kernel_rfl) (fun _ _ _ h => h) (Or.inl ⟨by rfl, ?_⟩) hS4 ?_
  · intro w hSw; go_simp
  try simp only [Act.put, List.getElem_toArray, List.getElem_cons_succ, List.getElem_cons_zero, List.setIfInBounds_toArray, List.set_cons_zero, List.set_cons_succ]
  refine wpAnyH_take (i := 31) (v := .bool true) rfl (by kernel_rfl) (by kernel_rfl) (by kernel_rfl) (fun _ _ _ h => h) (Or.inl ⟨by rfl, ?_⟩) hS4 ?_
  · intro w hSw; go_simp
  try simp only [Act.put, List.getElem_toArray, List.getElem_cons_succ, List.getElem_cons_zero, List.setIfInBounds_toArray, List.set_cons_zero, List.set_cons_succ]
  refine wpAnyH_take (i := 32) (v := .bool true) rfl (by kernel_rfl) (by kernel_rfl) (by kernel_rfl) (fun _ _ _ h => h) (Or.inl ⟨by rfl, ?_⟩) hS4 ?_
  · intro w hSw; go_simp
  try simp only [Act.put, List.getElem_toArray, List.getElem_cons_succ, List.getElem_cons_zero, List.setIfInBounds_toArray, List.set_cons_zero, List.set_cons_succ]
  refine wpAnyH_take (i := 33) (v := .slice (some ⟨fb, fo, none⟩) 3 fc) rfl (by kernel_rfl) (by kernel_rfl) (by kernel_rfl) (fun _ _ _ h => h) (Or.inl ⟨by rfl, ?_⟩) hS4 ?_
  · intro w hSw; go_simp
  try simp only [Act.put, List.getElem_toArray, List.getElem_cons_succ, List.getElem_cons_zero, List.setIfInBounds_toArray, List.set_cons_zero, List.set_cons_succ]
  refine wpAnyH_take (i := 34) (v := .pointer (some ⟨fb, fo + 8, none⟩)) rfl (by kernel_rfl) (by kernel_rfl) (by kernel_rfl) (fun _ _ _ h => h) (Or.inl ⟨by rfl, ?_⟩) hS4 ?_
  · intro w hSw; go_simp
  try simp only [Act.put, List.getElem_toArray, List.getElem_cons_succ, List.getElem_cons_zero, List.setIfInBounds_toArray, List.set_cons_zero, List.set_cons_succ]
  refine wpAnyH_take (i := 35) (v := .agg #[.int .i64 7, .int .i64 3, .int .i64 0, .int .i64 5]) rfl (by kernel_rfl) (by kernel_rfl) (by kernel_rfl) (fun _ _ _ h => h) (Or.inl ⟨by rfl, ?_⟩) hS4 ?_
  · intro w hSw; have s0 := gr_cell hSw f8; have s1 := gr_cell hSw f9; have s2 := gr_cell hSw f10; have s3 := gr_cell hSw f11; go_simp
  try simp only [Act.put, List.getElem_toArray, List.getElem_cons_succ, List.getElem_cons_zero, List.setIfInBounds_toArray, List.set_cons_zero, List.set_cons_succ]
  refine wpAnyH_take (i := 36) (v := .slice (some ⟨p, 0, none⟩) 3 3) rfl (by kernel_rfl) (by kernel_rfl) (by kernel_rfl) (fun _ _ _ h => h) (Or.inl ⟨by rfl, ?_⟩) hS4 ?_
  · intro w hSw; go_simp
  try simp only [Act.put, List.getElem_toArray, List.getElem_cons_succ, List.getElem_cons_zero, List.setIfInBounds_toArray, List.set_cons_zero, List.set_cons_succ]
  refine wpAnyH_take (i := 37) (v := .pointer (some ⟨p, 8, none⟩)) rfl (by kernel_rfl) (by kernel_rfl) (by kernel_rfl) (fun _ _ _ h => h) (Or.inl ⟨by rfl, ?_⟩) hS4 ?_
  · intro w hSw; go_simp
  try simp only [Act.put, List.getElem_toArray, List.getElem_cons_succ, List.getElem_cons_zero, List.setIfInBounds_toArray, List.set_cons_zero, List.set_cons_succ]
  refine wpAnyH_take (i := 38) (v := .agg #[.int .i64 7, .int .i64 3, .int .i64 0, .int .i64 5]) rfl (by kernel_rfl) (by kernel_rfl) (by kernel_rfl) (fun _ _ _ h => h) (Or.inl ⟨by rfl, ?_⟩) hS4 ?_
  · intro w hSw; have s0 := gr_cell hSw p8; have s1 := gr_cell hSw p9; have s2 := gr_cell hSw p10; have s3 := gr_cell hSw p11; go_simp
  try simp only [Act.put, List.getElem_toArray, List.getElem_cons_succ, List.getElem_cons_zero, List.setIfInBounds_toArray, List.set_cons_zero, List.set_cons_succ]
  refine wpAnyH_take (i := 39) (v := .bool true) rfl (by kernel_rfl) (by kernel_rfl) (by kernel_rfl) (fun _ _ _ h => h) (Or.inl ⟨by rfl, ?_⟩) hS4 ?_
  · intro w hSw; go_simp
  try simp only [Act.put, List.getElem_toArray, List.getElem_cons_succ, List.getElem_cons_zero, List.setIfInBounds_toArray, List.set_cons_zero, List.set_cons_succ]
  refine wpAnyH_take (i := 40) (v := .bool true) rfl (by kernel_rfl) (by kernel_rfl) (by kernel_rfl) (fun _ _ _ h => h) (Or.inl ⟨by rfl, ?_⟩) hS4 ?_
  · intro w hSw; go_simp
  try simp only [Act.put, List.getElem_toArray, List.getElem_cons_succ, List.getElem_cons_zero, List.setIfInBounds_toArray, List.set_cons_zero, List.set_cons_succ]
  refine wpAnyH_take (i := 41) (v := .bool true) rfl (by kernel_rfl) (by kernel_rfl) (by kernel_rfl) (fun _ _ _ h => h) (Or.inl ⟨by rfl, ?_⟩) hS4 ?_
  · intro w hSw; go_simp
  try simp only [Act.put, List.getElem_toArray, List.getElem_cons_succ, List.getElem_cons_zero, List.setIfInBounds_toArray, List.set_cons_zero, List.set_cons_succ]
  refine wpAnyH_take (i := 42) (v := .slice ma 1 mc) rfl (by kernel_rfl) (by kernel_rfl) (by kernel_rfl) (fun _ _ _ h => h) (Or.inl ⟨by rfl, ?_⟩) hS4 ?_
  · intro w hSw; go_simp
  try simp only [Act.put, List.getElem_toArray, List.getElem_cons_succ, List.getElem_cons_zero, List.setIfInBounds_toArray, List.set_cons_zero, List.set_cons_succ]
  refine wpAnyH_take (i := 43) (v := .agg #[.int .i64 3, .int .i64 4]) rfl (by kernel_rfl) (by kernel_rfl) (by kernel_rfl) (fun _ _ _ h => h) (Or.inl ⟨by rfl, ?_⟩) hS4 ?_
  · intro w hSw; have s0 := gr_cell hSw k0; have s1 := gr_cell hSw k1; go_simp
  try simp only [Act.put, List.getElem_toArray, List.getElem_cons_succ, List.getElem_cons_zero, List.setIfInBounds_toArray, List.set_cons_zero, List.set_cons_succ]
  refine wpAnyH_ready (rs := [44]) (by kernel_rfl) (by simp) (AllReadyH.cons rfl (fun K' hK' => ?_) AllReadyH.nil)
  go_simp
  refine hK'.out _ _ (hS4.alloc _) (fun hS5 => ?_)
  clear hK' K'
  try simp only [Act.put, List.getElem_toArray, List.getElem_cons_succ, List.getElem_cons_zero, List.setIfInBounds_toArray, List.set_cons_zero, List.set_cons_succ]
  refine wpAnyH_ready (rs := [45]) (by kernel_rfl) (by simp) (AllReadyH.cons rfl (fun K' hK' => ?_) AllReadyH.nil)
  go_simp
  refine (sl_EqualR (L := [(3, 4)]) (M := [(3, 4)]) (ca := mc) (cb := 1) _ (HMR.out.gr hS5) (Rd.new shR w25 [(3, 4)]) (by decide) (by decide)).mono ?_; rintro e w26 ⟨rfl, hg26⟩
  refine hK'.out _ _ (hS5.trans hg26) (fun hS6 => ?_)
  clear hK' K'
  try simp only [Act.put, List.getElem_toArray, List.getElem_cons_succ, List.getElem_cons_zero, List.setIfInBounds_toArray, List.set_cons_zero, List.set_cons_succ]
  refine wpAnyH_take (i := 46) (v := .bool true) rfl (by kernel_rfl) (by kernel_rfl) (by kernel_rfl) (fun _ _ _ h => h) (Or.inl ⟨by rfl, ?_⟩) hS6 ?_
  · intro w hSw; go_simp
  try simp only [Act.put, List.getElem_toArray, List.getElem_cons_succ, List.getElem_cons_zero, List.setIfInBounds_toArray, List.set_cons_zero, List.set_cons_succ]
  refine wpAnyH_take (i := 47) (v := .bool true) rfl (by kernel_rfl) (by kernel_rfl) (by kernel_rfl) (fun _ _ _ h => h) (Or.inl ⟨by rfl, ?_⟩) hS6 ?_
  · intro w hSw; go_simp
  try simp only [Act.put, List.getElem_toArray, List.getElem_cons_succ, List.getElem_cons_zero, List.setIfInBounds_toArray, List.set_cons_zero, List.set_cons_succ]
  refine wpAnyH_done (by kernel_rfl) ?_ _
  have HGe := Lib.hid (HG22.out.trans hS6)
  go_wp2
  go_ret
  exact ⟨rfl, HGe.out⟩
end Go.Proofs.Ytgjlcmheipmmlaa
