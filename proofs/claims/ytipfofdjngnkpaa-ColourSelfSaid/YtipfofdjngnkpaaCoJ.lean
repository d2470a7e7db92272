/- Law 11: the program's Wheel. -/
import Derived.Test.YtipfofdjngnkpaaCoI
set_option linter.unusedVariables false
set_option linter.unusedSimpArgs false
namespace Go.Proofs.Ytipfofdjngnkpaa
open Go.RowKit
open Z
theorem exec_store3 {w : World} {g : Nat} {c c0 : C3} {ev : Operand → Value} (o : Oper) {x y : Operand} (ho : o.op = .store 23 x y) (hx : ev x = .pointer (some ⟨g, 0, none⟩)) (hy : ev y = vC c) (hP : C3At w g c0) :
    (execOp ev o).run Try.prog w = .ok .skip (w.setRow g #[.int .i64 c.1, .int .i64 c.2.1, .int .i64 c.2.2]) := by
  have hz := (zero_of_info Try.infoC3).2
  have h1 : (storeVar 23 ⟨g, 0, none⟩ (.agg #[.int .i64 c.1, .int .i64 c.2.1, .int .i64 c.2.2])).run Try.prog w = .ok () (w.setRow g #[.int .i64 c.1, .int .i64 c.2.1, .int .i64 c.2.2]) :=
    run_storeVar_row w g _ _ _ _ hP (by rw [hz]; rfl) rfl (by simp [Value.oneCell'])
  unfold execOp
  rw [ho]
  simp only [hx, hy, vC, Instr.storeAt, Instr.sureAddr, Sem.run_bind, Sem.run_pure, Result.andThen, h1]
set_option maxRecDepth 100000 in
set_option maxHeartbeats 2000000 in
theorem co_Wheel (c : C3) (w : World) : Calls Try.prog 19 #[vC c] w fun e w' => e = .returned (.tuple #[vC (wheelR c).1, .int .i64 (wheelR c).2]) ∧ Gr w w' := by
  have HK : Hid (∀ (w : World) g (h : C3At w g c), Calls Try.prog 31 #[.slice (some ⟨g, 0, none⟩) 3 3] w fun e w' => e = .returned (.int .i64 (if [c.1, c.2.1, c.2.2].all isL = true then 0 else 2)) ∧ w' = w) := Lib.hid (fun (w : World) g (h : C3At w g c) => co_checkLevels (cap := 3) w h.rd (by show 3 ≤ maxLen; decide))
  have hall : ([c.1, c.2.1, c.2.2].all isL) = isC c := by simp [isC]
  rw [hall] at HK
  have HH := Lib.hid (fun h w => co_hue c h w)
  have HA := Lib.hid (fun h w => co_saturation c h w)
  have HX := Lib.hid (fun w => co_greatest c w)
  obtain ⟨V, hV⟩ : ∃ V, wheelR c = V := ⟨_, rfl⟩
  rw [hV]
  unfold wheelR at hV
  obtain ⟨W0, hW0⟩ : ∃ W0, W0 = (w.alloc (.cells #[.int .i64 c.1, .int .i64 c.2.1, .int .i64 c.2.2] 23)).alloc (.cells #[.int .i64 0, .int .i64 0, .int .i64 0] 23) := ⟨_, rfl⟩
  have HG2 := Lib.hid (show Gr w W0 by rw [hW0]; exact ((Gr.refl w).alloc _).alloc _)
  have HC1 := Lib.hid (show C3At W0 w.heap.size c by rw [hW0]; exact (C3At.new w c).gr ((Gr.refl _).alloc _))
  have HC2 := Lib.hid (show C3At W0 (w.heap.size + 1) (0, 0, 0) by
    rw [hW0]
    have := C3At.new (w.alloc (.cells #[.int .i64 c.1, .int .i64 c.2.1, .int .i64 c.2.2] 23)) (0, 0, 0)
    simp only [World.size_alloc] at this
    exact this)
  generalize hic : isC c = ic at *
  cases ic
  · rw [if_neg (by simp)] at hV HK
    subst hV
    have HW := Lib.hid hW0
    clear HH HA HX hW0
    obtain ⟨x, y, z⟩ := c
    unfold vC
    go_enter Try.func19, Try.ntmps19
    go_wp2_with fail
    rw [← HW.out]
    refine (HK.out _ _ HC1.out).mono ?_; rintro e w' ⟨rfl, hw'⟩
    subst hw'
    go_wp2_with (refine wpl_store3 (c := (0, 0, 0)) rfl rfl rfl rfl HC2.out ?_)
    refine bodyPost_ret (v := .tuple #[vC (0, 0, 0), .int .i64 2]) ?_ rfl ⟨by first | rfl | simp [vC], HG2.out.row (by omega) _⟩
    rw [results_cell_tmp rfl]
    simp [asAddr, Result.andThen]
    rw [run_load3 (show C3At _ _ _ from HC2.out.row (0, 0, 0))]
  · rw [if_pos rfl] at hV HK
    subst hV
    have HH2 := Lib.hid (fun w => HH.out rfl w)
    have HA2 := Lib.hid (fun w => HA.out rfl w)
    clear HH HA
    have HH := HH2
    have HA := HA2
    clear HH2 HA2
    obtain ⟨hu, hhu⟩ : ∃ v, hueR c = v := ⟨_, rfl⟩
    obtain ⟨sa, hsa⟩ : ∃ v, satR c = v := ⟨_, rfl⟩
    obtain ⟨mx, hmx⟩ : ∃ v, max3 c = v := ⟨_, rfl⟩
    rw [hhu] at HH
    rw [hsa] at HA
    rw [hmx] at HX
    rw [hhu, hsa, hmx]
    clear hhu hsa hmx
    have HW := Lib.hid hW0
    clear hW0
    obtain ⟨x, y, z⟩ := c
    unfold vC
    go_enter Try.func19, Try.ntmps19
    go_wp2_with fail
    rw [← HW.out]
    refine (HK.out _ _ HC1.out).mono ?_; rintro e w' ⟨rfl, hw'⟩
    subst hw'
    go_wp2_with fail
    have hS0 : (fun w' : World => C3At w' w.heap.size (x, y, z) ∧ (∃ d, C3At w' (w.heap.size + 1) d) ∧ Gr w w') _ := ⟨HC1.out.drew, ⟨_, HC2.out.drew⟩, HG2.out.drew⟩
    refine wp_region_held (S := fun w' : World => C3At w' w.heap.size (x, y, z) ∧ (∃ d, C3At w' (w.heap.size + 1) d) ∧ Gr w w') (by kernel_rfl) ?_
    refine wpAnyH_take (i := 0) (v := vC (x, y, z)) rfl (by kernel_rfl) (by kernel_rfl) (by kernel_rfl) (fun _ _ _ h => h) (Or.inl ⟨by rfl, ?_⟩) hS0 ?_
    · intro w hSw; exact exec_load3 _ rfl rfl hSw.1
    try simp only [Act.put, List.getElem_toArray, List.getElem_cons_succ, List.getElem_cons_zero, List.setIfInBounds_toArray, List.set_cons_zero, List.set_cons_succ]
    refine wpAnyH_take (i := 2) (v := vC (x, y, z)) rfl (by kernel_rfl) (by kernel_rfl) (by kernel_rfl) (fun _ _ _ h => h) (Or.inl ⟨by rfl, ?_⟩) hS0 ?_
    · intro w hSw; exact exec_load3 _ rfl rfl hSw.1
    try simp only [Act.put, List.getElem_toArray, List.getElem_cons_succ, List.getElem_cons_zero, List.setIfInBounds_toArray, List.set_cons_zero, List.set_cons_succ]
    refine wpAnyH_take (i := 4) (v := vC (x, y, z)) rfl (by kernel_rfl) (by kernel_rfl) (by kernel_rfl) (fun _ _ _ h => h) (Or.inl ⟨by rfl, ?_⟩) hS0 ?_
    · intro w hSw; exact exec_load3 _ rfl rfl hSw.1
    try simp only [Act.put, List.getElem_toArray, List.getElem_cons_succ, List.getElem_cons_zero, List.setIfInBounds_toArray, List.set_cons_zero, List.set_cons_succ]
    refine wpAnyH_ready (rs := [1]) (by kernel_rfl) (by simp) (AllReadyH.cons rfl (fun K' hK' => ?_) AllReadyH.nil)
    go_simp
    refine (HH.out _).mono ?_; rintro e w6 ⟨rfl, hg6⟩
    refine hK'.out _ _ ⟨hS0.1.gr hg6, hS0.2.1.elim fun d hd => ⟨d, hd.gr hg6⟩, hS0.2.2.trans hg6⟩ (fun hS1 => ?_)
    clear hK' K'
    try simp only [Act.put, List.getElem_toArray, List.getElem_cons_succ, List.getElem_cons_zero, List.setIfInBounds_toArray, List.set_cons_zero, List.set_cons_succ]
    refine wpAnyH_ready (rs := [3]) (by kernel_rfl) (by simp) (AllReadyH.cons rfl (fun K' hK' => ?_) AllReadyH.nil)
    go_simp
    refine (HA.out _).mono ?_; rintro e w7 ⟨rfl, hg7⟩
    refine hK'.out _ _ ⟨hS1.1.gr hg7, hS1.2.1.elim fun d hd => ⟨d, hd.gr hg7⟩, hS1.2.2.trans hg7⟩ (fun hS2 => ?_)
    clear hK' K'
    try simp only [Act.put, List.getElem_toArray, List.getElem_cons_succ, List.getElem_cons_zero, List.setIfInBounds_toArray, List.set_cons_zero, List.set_cons_succ]
    refine wpAnyH_ready (rs := [5]) (by kernel_rfl) (by simp) (AllReadyH.cons rfl (fun K' hK' => ?_) AllReadyH.nil)
    go_simp
    refine (HX.out _).mono ?_; rintro e w8 ⟨rfl, hg8⟩
    refine hK'.out _ _ ⟨hS2.1.gr hg8, hS2.2.1.elim fun d hd => ⟨d, hd.gr hg8⟩, hS2.2.2.trans hg8⟩ (fun hS3 => ?_)
    clear hK' K'
    try simp only [Act.put, List.getElem_toArray, List.getElem_cons_succ, List.getElem_cons_zero, List.setIfInBounds_toArray, List.set_cons_zero, List.set_cons_succ]
    refine wpAnyH_take (i := 6) (v := vC (hu, sa, mx)) rfl (by kernel_rfl) (by kernel_rfl) (by kernel_rfl) (fun _ _ _ h => h) (Or.inl ⟨by rfl, ?_⟩) hS3 ?_
    · intro w hSw; go_simp; try rfl
    try simp only [Act.put, List.getElem_toArray, List.getElem_cons_succ, List.getElem_cons_zero, List.setIfInBounds_toArray, List.set_cons_zero, List.set_cons_succ]
    obtain ⟨d0, hd0⟩ := hS3.2.1
    refine wpAnyH_ready (rs := [7]) (by kernel_rfl) (by simp) (AllReadyH.cons rfl (fun K' hK' => ?_) AllReadyH.nil)
    rw [if_pos (by rfl)]
    unfold Oper.wp
    rw [exec_store3 (c := (hu, sa, mx)) _ rfl rfl rfl hd0]
    rw [Oper.upon_skip]
    refine hK'.out _ _ ⟨hS3.1.orow (by omega), ⟨_, hd0.row (hu, sa, mx)⟩, hS3.2.2.row (by omega) _⟩ (fun hS4 => ?_)
    clear hK' K'
    try simp only [Act.put, List.getElem_toArray, List.getElem_cons_succ, List.getElem_cons_zero, List.setIfInBounds_toArray, List.set_cons_zero, List.set_cons_succ]
    refine wpAnyH_take (i := 8) (v := .int .i64 0) rfl (by kernel_rfl) (by kernel_rfl) (by kernel_rfl) (fun _ _ _ h => h) (Or.inl ⟨by rfl, ?_⟩) hS4 ?_
    · intro w hSw; go_simp
    try simp only [Act.put, List.getElem_toArray, List.getElem_cons_succ, List.getElem_cons_zero, List.setIfInBounds_toArray, List.set_cons_zero, List.set_cons_succ]
    refine wpAnyH_done (by kernel_rfl) ?_ _
    go_wp2
    refine bodyPost_ret (v := .tuple #[vC (hu, sa, mx), .int .i64 0]) ?_ rfl ⟨rfl, hS4.2.2⟩
    rw [results_cell_tmp rfl]
    simp [asAddr, Result.andThen]
    rw [run_load3 (show C3At _ _ _ from hd0.row (hu, sa, mx))]
end Go.Proofs.Ytipfofdjngnkpaa
