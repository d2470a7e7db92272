/- Curves: two segments of one direction. -/
import Derived.Test.YtlbnibicehpobaaGreatDoorCvE
set_option linter.unusedVariables false
set_option linter.unusedSimpArgs false
namespace Go.Proofs.YtlbnibicehpobaaGreatDoor
open Go.RowKit Go.Shelf
open Z
theorem mul_lim {x y : Int} (hx : -131070 ≤ x ∧ x ≤ 131070) (hy : -131070 ≤ y ∧ y ≤ 131070) : -17179344900 ≤ x * y ∧ x * y ≤ 17179344900 := by
  have h1 := Int.mul_nonneg (show 0 ≤ 131070 - x by omega) (show 0 ≤ 131070 - y by omega)
  have h2 := Int.mul_nonneg (show 0 ≤ 131070 + x by omega) (show 0 ≤ 131070 + y by omega)
  have h3 := Int.mul_nonneg (show 0 ≤ 131070 - x by omega) (show 0 ≤ 131070 + y by omega)
  have h4 := Int.mul_nonneg (show 0 ≤ 131070 + x by omega) (show 0 ≤ 131070 - y by omega)
  rw [Int.sub_mul, Int.mul_sub, Int.mul_sub] at h1
  rw [Int.add_mul, Int.mul_add, Int.mul_add] at h2
  rw [Int.sub_mul, Int.mul_add, Int.mul_add] at h3
  rw [Int.add_mul, Int.mul_sub, Int.mul_sub] at h4
  omega
set_option maxRecDepth 100000 in
set_option maxHeartbeats 4000000 in
theorem cv_goesOn (a b c d a' b' c' d' : Int) (w : World) (h1 : (0 ≤ a ∧ a ≤ 65535) ∧ (0 ≤ b ∧ b ≤ 65535) ∧ (0 ≤ c ∧ c ≤ 65535) ∧ (0 ≤ d ∧ d ≤ 65535)) (h2 : (0 ≤ a' ∧ a' ≤ 65535) ∧ (0 ≤ b' ∧ b' ≤ 65535) ∧ (0 ≤ c' ∧ c' ≤ 65535) ∧ (0 ≤ d' ∧ d' ≤ 65535)) :
    Calls Tryz.prog 51 #[vSg a b c d, vSg a' b' c' d'] w fun e w' => e = .returned (.bool ((d - b) * (c' - a') == (d' - b') * (c - a))) ∧ Gr w w' := by
  have ka := sg_new w a b c d
  have kb := sg_new (w.alloc (oSg a b c d)) a' b' c' d'
  rw [World.size_alloc] at kb
  have hg1 : Gr (w.alloc (oSg a b c d)) ((w.alloc (oSg a b c d)).alloc (oSg a' b' c' d')) := (Gr.refl _).alloc _
  have hg0 : Gr w ((w.alloc (oSg a b c d)).alloc (oSg a' b' c' d')) := ((Gr.refl w).alloc _).alloc _
  have HG := Lib.hid hg0
  have HK := Lib.hid (And.intro (And.intro (cv_cell hg1 ka.1) (And.intro (cv_cell hg1 ka.2.1) (And.intro (cv_cell hg1 ka.2.2.1) (cv_cell hg1 ka.2.2.2)))) kb)
  have hm1 := mul_lim (x := d - b) (y := c' - a') (by omega) (by omega)
  have hm2 := mul_lim (x := d' - b') (y := c - a) (by omega) (by omega)
  have hw1 : IntKind.i64.wrap ((d - b) * (c' - a')) = (d - b) * (c' - a') := IntWalk.i64_in _ (by omega)
  have hw2 : IntKind.i64.wrap ((d' - b') * (c - a)) = (d' - b') * (c - a) := IntWalk.i64_in _ (by omega)
  clear ka kb hg1 hg0 hm1 hm2
  go_enter Tryz.func51, Tryz.ntmps51
  go_wp2_with fail
  have hS0 : (fun w' : World => Gr (((w.alloc (oSg a b c d)).alloc (oSg a' b' c' d'))) w') (((w.alloc (oSg a b c d)).alloc (oSg a' b' c' d'))).drew := (Gr.refl _).drew
  refine wp_region_held (S := fun w' : World => Gr (((w.alloc (oSg a b c d)).alloc (oSg a' b' c' d'))) w') (by kernel_rfl) ?_
  change wpAnyH _ _ _ _ _ _ _ _ (((w.alloc (oSg a b c d)).alloc (oSg a' b' c' d'))).drew
  refine wpAnyH_take (i := 0) (v := (vSg a b c d)) rfl (by kernel_rfl) (by kernel_rfl) (by kernel_rfl) (fun _ _ _ h => h) (Or.inl ⟨by rfl, ?_⟩) hS0 ?_
  · intro w hSw; have s0 := cv_cell hSw HK.out.1.1; have s1 := cv_cell hSw HK.out.1.2.1; have s2 := cv_cell hSw HK.out.1.2.2.1; have s3 := cv_cell hSw HK.out.1.2.2.2; go_simp
  try simp only [Act.put, List.getElem_toArray, List.getElem_cons_succ, List.getElem_cons_zero, List.setIfInBounds_toArray, List.set_cons_zero, List.set_cons_succ]
  refine wpAnyH_take (i := 2) (v := (vSg a' b' c' d')) rfl (by kernel_rfl) (by kernel_rfl) (by kernel_rfl) (fun _ _ _ h => h) (Or.inl ⟨by rfl, ?_⟩) hS0 ?_
  · intro w hSw; have s0 := cv_cell hSw HK.out.2.1; have s1 := cv_cell hSw HK.out.2.2.1; have s2 := cv_cell hSw HK.out.2.2.2.1; have s3 := cv_cell hSw HK.out.2.2.2.2; go_simp
  try simp only [Act.put, List.getElem_toArray, List.getElem_cons_succ, List.getElem_cons_zero, List.setIfInBounds_toArray, List.set_cons_zero, List.set_cons_succ]
  refine wpAnyH_take (i := 5) (v := (vSg a' b' c' d')) rfl (by kernel_rfl) (by kernel_rfl) (by kernel_rfl) (fun _ _ _ h => h) (Or.inl ⟨by rfl, ?_⟩) hS0 ?_
  · intro w hSw; have s0 := cv_cell hSw HK.out.2.1; have s1 := cv_cell hSw HK.out.2.2.1; have s2 := cv_cell hSw HK.out.2.2.2.1; have s3 := cv_cell hSw HK.out.2.2.2.2; go_simp
  try simp only [Act.put, List.getElem_toArray, List.getElem_cons_succ, List.getElem_cons_zero, List.setIfInBounds_toArray, List.set_cons_zero, List.set_cons_succ]
  refine wpAnyH_take (i := 7) (v := (vSg a b c d)) rfl (by kernel_rfl) (by kernel_rfl) (by kernel_rfl) (fun _ _ _ h => h) (Or.inl ⟨by rfl, ?_⟩) hS0 ?_
  · intro w hSw; have s0 := cv_cell hSw HK.out.1.1; have s1 := cv_cell hSw HK.out.1.2.1; have s2 := cv_cell hSw HK.out.1.2.2.1; have s3 := cv_cell hSw HK.out.1.2.2.2; go_simp
  try simp only [Act.put, List.getElem_toArray, List.getElem_cons_succ, List.getElem_cons_zero, List.setIfInBounds_toArray, List.set_cons_zero, List.set_cons_succ]
  refine wpAnyH_ready (rs := [1]) (by kernel_rfl) (by simp) (AllReadyH.cons rfl (fun K' hK' => ?_) AllReadyH.nil)
  go_simp
  refine (cv_rise a b c d _ (by omega) (by omega)).mono ?_; rintro e w1 ⟨rfl, hgw1⟩
  refine hK'.out _ _ (hS0.trans hgw1) (fun hS1 => ?_)
  clear hK' K'
  try simp only [Act.put, List.getElem_toArray, List.getElem_cons_succ, List.getElem_cons_zero, List.setIfInBounds_toArray, List.set_cons_zero, List.set_cons_succ]
  refine wpAnyH_ready (rs := [3]) (by kernel_rfl) (by simp) (AllReadyH.cons rfl (fun K' hK' => ?_) AllReadyH.nil)
  go_simp
  refine (cv_width a' b' c' d' _ (by omega) (by omega)).mono ?_; rintro e w2 ⟨rfl, hgw2⟩
  refine hK'.out _ _ (hS1.trans hgw2) (fun hS2 => ?_)
  clear hK' K'
  try simp only [Act.put, List.getElem_toArray, List.getElem_cons_succ, List.getElem_cons_zero, List.setIfInBounds_toArray, List.set_cons_zero, List.set_cons_succ]
  refine wpAnyH_take (i := 4) (v := .int .i64 ((d - b) * (c' - a'))) rfl (by kernel_rfl) (by kernel_rfl) (by kernel_rfl) (fun _ _ _ h => h) (Or.inl ⟨by rfl, ?_⟩) hS2 ?_
  · intro w hSw; go_simp
  try simp only [Act.put, List.getElem_toArray, List.getElem_cons_succ, List.getElem_cons_zero, List.setIfInBounds_toArray, List.set_cons_zero, List.set_cons_succ]
  refine wpAnyH_ready (rs := [6]) (by kernel_rfl) (by simp) (AllReadyH.cons rfl (fun K' hK' => ?_) AllReadyH.nil)
  go_simp
  refine (cv_rise a' b' c' d' _ (by omega) (by omega)).mono ?_; rintro e w3 ⟨rfl, hgw3⟩
  refine hK'.out _ _ (hS2.trans hgw3) (fun hS3 => ?_)
  clear hK' K'
  try simp only [Act.put, List.getElem_toArray, List.getElem_cons_succ, List.getElem_cons_zero, List.setIfInBounds_toArray, List.set_cons_zero, List.set_cons_succ]
  refine wpAnyH_ready (rs := [8]) (by kernel_rfl) (by simp) (AllReadyH.cons rfl (fun K' hK' => ?_) AllReadyH.nil)
  go_simp
  refine (cv_width a b c d _ (by omega) (by omega)).mono ?_; rintro e w4 ⟨rfl, hgw4⟩
  refine hK'.out _ _ (hS3.trans hgw4) (fun hS4 => ?_)
  clear hK' K'
  try simp only [Act.put, List.getElem_toArray, List.getElem_cons_succ, List.getElem_cons_zero, List.setIfInBounds_toArray, List.set_cons_zero, List.set_cons_succ]
  refine wpAnyH_take (i := 9) (v := .int .i64 ((d' - b') * (c - a))) rfl (by kernel_rfl) (by kernel_rfl) (by kernel_rfl) (fun _ _ _ h => h) (Or.inl ⟨by rfl, ?_⟩) hS4 ?_
  · intro w hSw; go_simp
  try simp only [Act.put, List.getElem_toArray, List.getElem_cons_succ, List.getElem_cons_zero, List.setIfInBounds_toArray, List.set_cons_zero, List.set_cons_succ]
  refine wpAnyH_take (i := 10) (v := .bool ((d - b) * (c' - a') == (d' - b') * (c - a))) rfl (by kernel_rfl) (by kernel_rfl) (by kernel_rfl) (fun _ _ _ h => h) (Or.inl ⟨by rfl, ?_⟩) hS4 ?_
  · intro w hSw; go_simp
  try simp only [Act.put, List.getElem_toArray, List.getElem_cons_succ, List.getElem_cons_zero, List.setIfInBounds_toArray, List.set_cons_zero, List.set_cons_succ]
  refine wpAnyH_take (i := 11) (v := .bool ((d - b) * (c' - a') == (d' - b') * (c - a))) rfl (by kernel_rfl) (by kernel_rfl) (by kernel_rfl) (fun _ _ _ h => h) (Or.inl ⟨by rfl, ?_⟩) hS4 ?_
  · intro w hSw; go_simp
  try simp only [Act.put, List.getElem_toArray, List.getElem_cons_succ, List.getElem_cons_zero, List.setIfInBounds_toArray, List.set_cons_zero, List.set_cons_succ]
  refine wpAnyH_done (by kernel_rfl) ?_ _
  go_wp2
  go_ret
  exact ⟨rfl, Gr.trans HG.out hS4⟩
end Go.Proofs.YtlbnibicehpobaaGreatDoor
