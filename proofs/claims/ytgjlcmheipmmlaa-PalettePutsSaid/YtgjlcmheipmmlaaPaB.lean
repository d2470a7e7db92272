/- Law 15: Check and Compare of parameters, keyOf. -/
import Derived.Test.YtgjlcmheipmmlaaPaA
set_option linter.unusedVariables false
set_option linter.unusedSimpArgs false
namespace Go.Proofs.Ytgjlcmheipmmlaa
open Go.RowKit
open Z
theorem cmpI_lt {x y : Int} : cmpI x y < 0 ↔ x < y := by unfold cmpI; split <;> (try split) <;> omega
theorem cmpI_zero {x y : Int} : cmpI x y = 0 ↔ x = y := by unfold cmpI; split <;> (try split) <;> omega
theorem cmpI_gt {x y : Int} : 0 < cmpI x y ↔ y < x := by unfold cmpI; split <;> (try split) <;> omega
def pcmp (p q : Pr) : Int := or2 (cmpI p.1 q.1) (cmpI p.2 q.2)
theorem pcmp_lt {p q : Pr} : pcmp p q < 0 ↔ bef p q = true := by
  rw [bef_iff]; unfold pcmp or2; have := @cmpI_lt p.1 q.1; have := @cmpI_lt p.2 q.2; have := @cmpI_zero p.1 q.1; split <;> omega
theorem pcmp_zero {p q : Pr} : pcmp p q = 0 ↔ p = q := by
  rw [Prod.ext_iff]; unfold pcmp or2; have := @cmpI_zero p.1 q.1; have := @cmpI_zero p.2 q.2; split <;> omega
theorem pcmp_le {p q : Pr} : pcmp p q ≤ 0 ↔ bef q p = false := by
  rw [Bool.eq_false_iff, ne_eq, bef_iff]; unfold pcmp or2; have := @cmpI_gt p.1 q.1; have := @cmpI_gt p.2 q.2; have := @cmpI_zero p.1 q.1; split <;> omega
set_option maxRecDepth 100000 in
set_option maxHeartbeats 1000000 in
theorem pm_Check (c a : Int) (w : World) : Calls Try.prog 52 #[.agg #[.int .i64 c, .int .i64 a]] w fun e w' => e = .returned (.int .i64 (parR c a)) ∧ Gr w w' := by
  obtain ⟨E, hE⟩ : ∃ E, parR c a = E := ⟨_, rfl⟩
  rw [hE]
  unfold parR at hE
  have HG1 := Lib.hid ((Gr.refl w).alloc (.cells #[.int .i64 c, .int .i64 a] 55))
  by_cases h1 : c < 1
  · rw [if_neg (by omega)] at hE
    subst hE
    go_enter Try.func52, Try.ntmps52
    go_wp2
    go_ret
    exact ⟨rfl, HG1.out⟩
  · by_cases h2 : 999 < c
    · rw [if_neg (by omega)] at hE
      subst hE
      go_enter Try.func52, Try.ntmps52
      go_wp2
      go_ret
      exact ⟨rfl, HG1.out⟩
    · by_cases h3 : a < 0
      · rw [if_neg (by omega)] at hE
        subst hE
        go_enter Try.func52, Try.ntmps52
        go_wp2
        go_ret
        exact ⟨rfl, HG1.out⟩
      · by_cases h4 : 15 ≤ a
        · rw [if_neg (by omega)] at hE
          subst hE
          go_enter Try.func52, Try.ntmps52
          go_wp2
          go_ret
          exact ⟨rfl, HG1.out⟩
        · rw [if_pos (by omega)] at hE
          subst hE
          go_enter Try.func52, Try.ntmps52
          go_wp2
          go_ret
          exact ⟨rfl, HG1.out⟩
set_option maxRecDepth 100000 in
set_option maxHeartbeats 1000000 in
theorem pl_keyOf (c a v : Int) (w : World) : Calls Try.prog 83 #[.agg #[.int .i64 c, .int .i64 a, .int .i64 v]] w fun e w' => e = .returned (.agg #[.int .i64 c, .int .i64 a]) ∧ Gr w w' := by
  have HG1 := Lib.hid (((Gr.refl w).alloc (.cells #[.int .i64 c, .int .i64 a, .int .i64 v] 110)).alloc (.cells #[.int .i64 c, .int .i64 a] 55))
  have d0 : ((w.alloc (.cells #[.int .i64 c, .int .i64 a, .int .i64 v] 110)).alloc (.cells #[.int .i64 c, .int .i64 a] 55)).cell? ⟨w.heap.size + 1, 0, none⟩ = some (.int .i64 c) := by
    have := fresh (w.alloc (.cells #[.int .i64 c, .int .i64 a, .int .i64 v] 110)) [.int .i64 c, .int .i64 a] 55 (k := 0) rfl
    rwa [World.size_alloc] at this
  have d1 : ((w.alloc (.cells #[.int .i64 c, .int .i64 a, .int .i64 v] 110)).alloc (.cells #[.int .i64 c, .int .i64 a] 55)).cell? ⟨w.heap.size + 1, 1, none⟩ = some (.int .i64 a) := by
    have := fresh (w.alloc (.cells #[.int .i64 c, .int .i64 a, .int .i64 v] 110)) [.int .i64 c, .int .i64 a] 55 (k := 1) rfl
    rwa [World.size_alloc] at this
  have HD0 := Lib.hid d0
  have HD1 := Lib.hid d1
  clear d0 d1
  go_enter Try.func83, Try.ntmps83
  go_wp2
  refine bodyPost_ret (v := .agg #[.int .i64 c, .int .i64 a]) ?_ rfl ⟨rfl, HG1.out⟩
  have k0 := HD0.out
  have k1 := HD1.out
  simp [results, Try.results83, go_sem, k0, k1]
theorem or2I_fresh (X Y : Int) (w : World) : Calls Try.prog 81 #[.slice (some ⟨w.heap.size, 0, none⟩) 2 2] (w.alloc (.cells #[.int .i64 X, .int .i64 Y] 3)) fun e w' => e = .returned (.int .i64 (or2 X Y)) ∧ (w.alloc (.cells #[.int .i64 X, .int .i64 Y] 3)) = w' :=
  cmp_Or2I w.heap.size 0 2 X Y _ (fresh w [.int .i64 X, .int .i64 Y] 3 (k := 0) rfl) (fresh w [.int .i64 X, .int .i64 Y] 3 (k := 1) rfl)
theorem or2E_fresh (X Y : Int) (w : World) : Calls Try.prog 51 #[.slice (some ⟨w.heap.size, 0, none⟩) 2 2] (w.alloc (.cells #[.int .i64 X, .int .i64 Y] 29)) fun e w' => e = .returned (.int .i64 (or2 X Y)) ∧ (w.alloc (.cells #[.int .i64 X, .int .i64 Y] 29)) = w' :=
  cmp_Or2E w.heap.size 0 2 X Y _ (fresh w [.int .i64 X, .int .i64 Y] 29 (k := 0) rfl) (fresh w [.int .i64 X, .int .i64 Y] 29 (k := 1) rfl)
set_option maxRecDepth 100000 in
set_option maxHeartbeats 1000000 in
theorem pm_Compare (c1 a1 c2 a2 : Int) (w : World) : Calls Try.prog 53 #[.agg #[.int .i64 c1, .int .i64 a1], .agg #[.int .i64 c2, .int .i64 a2]] w fun e w' => e = .returned (.int .i64 (pcmp (c1, a1) (c2, a2))) ∧ Gr w w' := by
  obtain ⟨p, hp⟩ : ∃ p, p = w.heap.size := ⟨_, rfl⟩
  obtain ⟨w2, hw2⟩ : ∃ w2, w2 = (w.alloc (.cells #[.int .i64 c1, .int .i64 a1] 55)).alloc (.cells #[.int .i64 c2, .int .i64 a2] 55) := ⟨_, rfl⟩
  have hG2 : Gr w w2 := by rw [hw2]; exact ((Gr.refl w).alloc _).alloc _
  have hc0 : w2.cell? ⟨p, 0, none⟩ = some (.int .i64 c1) := by rw [hw2, hp]; exact gr_cell ((Gr.refl _).alloc _) (fresh w [.int .i64 c1, .int .i64 a1] _ (k := 0) rfl)
  have hc1 : w2.cell? ⟨p, 1, none⟩ = some (.int .i64 a1) := by rw [hw2, hp]; exact gr_cell ((Gr.refl _).alloc _) (fresh w [.int .i64 c1, .int .i64 a1] _ (k := 1) rfl)
  have hd0 : w2.cell? ⟨p + 1, 0, none⟩ = some (.int .i64 c2) := by
    have := fresh (w.alloc (.cells #[.int .i64 c1, .int .i64 a1] 55)) [.int .i64 c2, .int .i64 a2] 55 (k := 0) rfl
    rw [World.size_alloc] at this
    rw [hw2, hp]; exact this
  have hd1 : w2.cell? ⟨p + 1, 1, none⟩ = some (.int .i64 a2) := by
    have := fresh (w.alloc (.cells #[.int .i64 c1, .int .i64 a1] 55)) [.int .i64 c2, .int .i64 a2] 55 (k := 1) rfl
    rw [World.size_alloc] at this
    rw [hw2, hp]; exact this
  have HG2 := Lib.hid hG2
  unfold pcmp
  simp only
  have HY := Lib.hid (fun w => cmp_Compare a1 a2 w)
  have HX := Lib.hid (fun w => cmp_Compare c1 c2 w)
  generalize cmpI c1 c2 = X at *
  generalize cmpI a1 a2 = Y at *
  go_enter Try.func53, Try.ntmps53
  go_wp2_with fail
  rw [← hw2, ← hp]
  clear hw2 hp
  have hS0 : (fun w' : World => Gr w2 w') w2.drew := (Gr.refl _).drew
  refine wp_region_held (S := fun w' : World => Gr w2 w') (by kernel_rfl) ?_
  change wpAnyH _ _ _ _ _ _ _ _ w2.drew
  refine wpAnyH_take (i := 0) (v := .pointer (some ⟨p, 0, none⟩)) rfl (by kernel_rfl) (by kernel_rfl) (by kernel_rfl) (fun _ _ _ h => h) (Or.inl ⟨by rfl, ?_⟩) hS0 ?_
  · intro w hSw; go_simp
  try simp only [Act.put, List.getElem_toArray, List.getElem_cons_succ, List.getElem_cons_zero, List.setIfInBounds_toArray, List.set_cons_zero, List.set_cons_succ]
  refine wpAnyH_take (i := 1) (v := .int .i64 c1) rfl (by kernel_rfl) (by kernel_rfl) (by kernel_rfl) (fun _ _ _ h => h) (Or.inl ⟨by rfl, ?_⟩) hS0 ?_
  · intro w hSw; have s0 := gr_cell hSw hc0; go_simp
  try simp only [Act.put, List.getElem_toArray, List.getElem_cons_succ, List.getElem_cons_zero, List.setIfInBounds_toArray, List.set_cons_zero, List.set_cons_succ]
  refine wpAnyH_take (i := 2) (v := .pointer (some ⟨p + 1, 0, none⟩)) rfl (by kernel_rfl) (by kernel_rfl) (by kernel_rfl) (fun _ _ _ h => h) (Or.inl ⟨by rfl, ?_⟩) hS0 ?_
  · intro w hSw; go_simp
  try simp only [Act.put, List.getElem_toArray, List.getElem_cons_succ, List.getElem_cons_zero, List.setIfInBounds_toArray, List.set_cons_zero, List.set_cons_succ]
  refine wpAnyH_take (i := 3) (v := .int .i64 c2) rfl (by kernel_rfl) (by kernel_rfl) (by kernel_rfl) (fun _ _ _ h => h) (Or.inl ⟨by rfl, ?_⟩) hS0 ?_
  · intro w hSw; have s0 := gr_cell hSw hd0; go_simp
  try simp only [Act.put, List.getElem_toArray, List.getElem_cons_succ, List.getElem_cons_zero, List.setIfInBounds_toArray, List.set_cons_zero, List.set_cons_succ]
  refine wpAnyH_take (i := 5) (v := .pointer (some ⟨p, 1, none⟩)) rfl (by kernel_rfl) (by kernel_rfl) (by kernel_rfl) (fun _ _ _ h => h) (Or.inl ⟨by rfl, ?_⟩) hS0 ?_
  · intro w hSw; go_simp
  try simp only [Act.put, List.getElem_toArray, List.getElem_cons_succ, List.getElem_cons_zero, List.setIfInBounds_toArray, List.set_cons_zero, List.set_cons_succ]
  refine wpAnyH_take (i := 6) (v := .int .i64 a1) rfl (by kernel_rfl) (by kernel_rfl) (by kernel_rfl) (fun _ _ _ h => h) (Or.inl ⟨by rfl, ?_⟩) hS0 ?_
  · intro w hSw; have s0 := gr_cell hSw hc1; go_simp
  try simp only [Act.put, List.getElem_toArray, List.getElem_cons_succ, List.getElem_cons_zero, List.setIfInBounds_toArray, List.set_cons_zero, List.set_cons_succ]
  refine wpAnyH_take (i := 7) (v := .pointer (some ⟨p + 1, 1, none⟩)) rfl (by kernel_rfl) (by kernel_rfl) (by kernel_rfl) (fun _ _ _ h => h) (Or.inl ⟨by rfl, ?_⟩) hS0 ?_
  · intro w hSw; go_simp
  try simp only [Act.put, List.getElem_toArray, List.getElem_cons_succ, List.getElem_cons_zero, List.setIfInBounds_toArray, List.set_cons_zero, List.set_cons_succ]
  refine wpAnyH_take (i := 8) (v := .int .i64 a2) rfl (by kernel_rfl) (by kernel_rfl) (by kernel_rfl) (fun _ _ _ h => h) (Or.inl ⟨by rfl, ?_⟩) hS0 ?_
  · intro w hSw; have s0 := gr_cell hSw hd1; go_simp
  try simp only [Act.put, List.getElem_toArray, List.getElem_cons_succ, List.getElem_cons_zero, List.setIfInBounds_toArray, List.set_cons_zero, List.set_cons_succ]
  refine wpAnyH_ready (rs := [4]) (by kernel_rfl) (by simp) (AllReadyH.cons rfl (fun K' hK' => ?_) AllReadyH.nil)
  go_simp
  refine (HX.out _).mono ?_; rintro e w3 ⟨rfl, rfl⟩
  refine hK'.out _ _ hS0 (fun hS1 => ?_)
  clear hK' K'
  try simp only [Act.put, List.getElem_toArray, List.getElem_cons_succ, List.getElem_cons_zero, List.setIfInBounds_toArray, List.set_cons_zero, List.set_cons_succ]
  refine wpAnyH_ready (rs := [9]) (by kernel_rfl) (by simp) (AllReadyH.cons rfl (fun K' hK' => ?_) AllReadyH.nil)
  go_simp
  refine (HY.out _).mono ?_; rintro e w4 ⟨rfl, rfl⟩
  refine hK'.out _ _ hS1 (fun hS2 => ?_)
  clear hK' K'
  try simp only [Act.put, List.getElem_toArray, List.getElem_cons_succ, List.getElem_cons_zero, List.setIfInBounds_toArray, List.set_cons_zero, List.set_cons_succ]
  refine wpAnyH_ready (rs := [10]) (by kernel_rfl) (by simp) (AllReadyH.cons rfl (fun K' hK' => ?_) AllReadyH.nil)
  go_simp
  refine hK'.out _ _ (hS2.alloc _) (fun hS3 => ?_)
  clear hK' K'
  try simp only [Act.put, List.getElem_toArray, List.getElem_cons_succ, List.getElem_cons_zero, List.setIfInBounds_toArray, List.set_cons_zero, List.set_cons_succ]
  refine wpAnyH_ready (rs := [11]) (by kernel_rfl) (by simp) (AllReadyH.cons rfl (fun K' hK' => ?_) AllReadyH.nil)
  go_simp
  refine (or2I_fresh X Y w2.drew).mono ?_; rintro e w5 ⟨rfl, rfl⟩
  refine hK'.out _ _ hS3 (fun hS4 => ?_)
  clear hK' K'
  try simp only [Act.put, List.getElem_toArray, List.getElem_cons_succ, List.getElem_cons_zero, List.setIfInBounds_toArray, List.set_cons_zero, List.set_cons_succ]
  refine wpAnyH_take (i := 12) (v := .int .i64 (or2 X Y)) rfl (by kernel_rfl) (by kernel_rfl) (by kernel_rfl) (fun _ _ _ h => h) (Or.inl ⟨by rfl, ?_⟩) hS4 ?_
  · intro w hSw; go_simp
  try simp only [Act.put, List.getElem_toArray, List.getElem_cons_succ, List.getElem_cons_zero, List.setIfInBounds_toArray, List.set_cons_zero, List.set_cons_succ]
  refine wpAnyH_done (by kernel_rfl) ?_ _
  have HG3 := Lib.hid (HG2.out.trans hS4)
  go_wp2
  go_ret
  exact ⟨rfl, HG3.out⟩
end Go.Proofs.Ytgjlcmheipmmlaa
