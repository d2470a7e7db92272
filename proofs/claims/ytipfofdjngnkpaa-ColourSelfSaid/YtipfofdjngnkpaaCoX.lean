/- Law 11: the examples of the chapter. -/
import Derived.Test.YtipfofdjngnkpaaCoW
set_option linter.unusedVariables false
set_option linter.unusedSimpArgs false
namespace Go.Proofs.Ytipfofdjngnkpaa
open Go.RowKit
open Z
theorem run_eq3 (d : Nat) (x y z x' y' z' : Int) (w : World) : (Op.equalIn (d + 2) 23 (.agg #[.int .i64 x, .int .i64 y, .int .i64 z]) (.agg #[.int .i64 x', .int .i64 y', .int .i64 z'])).run Try.prog w = .ok (x == x' && (y == y' && z == z')) w := by
  rw [Op.equalIn]
  simp only [Sem.run_bind, run_underlying Try.underlying23, Result.andThen_ok]
  simp [Std.Legacy.Range.forIn_eq_forIn_range', Std.Legacy.Range.size, List.range', go_sem, part, run_underlying Try.underlying3]
  by_cases h1 : x = x' <;> by_cases h2 : y = y' <;> by_cases h3 : z = z' <;> simp [h1, h2, h3]
theorem run_eq3' (x y z x' y' z' : Int) (w : World) : (Op.equalIn 10000 23 (.agg #[.int .i64 x, .int .i64 y, .int .i64 z]) (.agg #[.int .i64 x', .int .i64 y', .int .i64 z'])).run Try.prog w = .ok (x == x' && (y == y' && z == z')) w := run_eq3 9998 x y z x' y' z' w
theorem RdI.new (w : World) (L : List Int) : RdI (w.alloc (.cells (L.map fun k => Value.int .i64 k).toArray 3)) (some ⟨w.heap.size, 0, none⟩) L := fun k hk => by
  have h := heap_alloc_last w (.cells (L.map fun k => Value.int .i64 k).toArray 3)
  refine ⟨w.heap.size, 0, rfl, ?_⟩
  rw [Nat.zero_add, cell_of_row _ _ _ _ _ _ h]
  simp [List.getElem?_eq_getElem hk]
theorem mixW : mixR [3, 4, 5, 6] (60000, 50000, 10000) = ([50000, 40000, 0, 10000], 0) := by decide +kernel
theorem mixD : mixR [8, 9, 10] (60000, 50000, 10000) = ([5535, 15535, 55535], 0) := by decide +kernel
theorem whA1 : wheelR (60000, 50000, 10000) = ((800, 54613, 60000), 0) := by decide +kernel
theorem whA2 : wheelR (0, 0, 65535) = ((4000, 65535, 65535), 0) := by decide +kernel
theorem whA3 : wheelR (65535, 0, 1) = ((5999, 65535, 65535), 0) := by decide +kernel
theorem nearA : nearR (30000, 30000, 30000) [(0, 0, 0), (65535, 65535, 65535)] = (0, 0) := by decide +kernel
theorem aw_mixW {a : Option Addr} (w : World) (hr : RdI w a [3, 4, 5, 6]) : Calls Try.prog 11 #[.slice a 4 4, .agg #[.int .i64 60000, .int .i64 50000, .int .i64 10000]] w fun e w' => (∃ a' cap', e = .returned (.tuple #[.slice a' 4 cap', .int .i64 0]) ∧ RdI w' a' [50000, 40000, 0, 10000]) ∧ Gr w w' := by
  have h := co_Mix (cap := 4) (60000, 50000, 10000) w hr (by unfold maxLen; decide +revert)
  rw [mixW] at h
  refine h.mono ?_
  rintro e w' ⟨⟨a', c', h1, h2, -⟩, h3⟩
  exact ⟨⟨a', c', h1, h2⟩, h3⟩
theorem aw_eqW {a b : Option Addr} {ca : Nat} (w : World) (ha : RdI w a [50000, 40000, 0, 10000]) (hb : RdI w b [50000, 40000, 0, 10000]) : Calls Try.prog 15 #[.slice a 4 ca, .slice b 4 4] w fun e w' => e = .returned (.bool true) ∧ Gr w w' := by
  have h := sl_EqualI a b [50000, 40000, 0, 10000] [50000, 40000, 0, 10000] ca 4 w ha hb (by simp) (by simp)
  simp only [decide_true] at h
  exact h
theorem aw_mixD {a : Option Addr} (w : World) (hr : RdI w a [8, 9, 10]) : Calls Try.prog 11 #[.slice a 3 3, .agg #[.int .i64 60000, .int .i64 50000, .int .i64 10000]] w fun e w' => (∃ a' cap', e = .returned (.tuple #[.slice a' 3 cap', .int .i64 0]) ∧ RdI w' a' [5535, 15535, 55535]) ∧ Gr w w' := by
  have h := co_Mix (cap := 3) (60000, 50000, 10000) w hr (by unfold maxLen; decide +revert)
  rw [mixD] at h
  refine h.mono ?_
  rintro e w' ⟨⟨a', c', h1, h2, -⟩, h3⟩
  exact ⟨⟨a', c', h1, h2⟩, h3⟩
theorem aw_eqD {a b : Option Addr} {ca : Nat} (w : World) (ha : RdI w a [5535, 15535, 55535]) (hb : RdI w b [5535, 15535, 55535]) : Calls Try.prog 15 #[.slice a 3 ca, .slice b 3 3] w fun e w' => e = .returned (.bool true) ∧ Gr w w' := by
  have h := sl_EqualI a b [5535, 15535, 55535] [5535, 15535, 55535] ca 3 w ha hb (by simp) (by simp)
  simp only [decide_true] at h
  exact h
theorem aw_wheel1 (w : World) : Calls Try.prog 19 #[.agg #[.int .i64 60000, .int .i64 50000, .int .i64 10000]] w fun e w' => e = .returned (.tuple #[vC (800, 54613, 60000), .int .i64 0]) ∧ Gr w w' := by
  have h := co_Wheel (60000, 50000, 10000) w
  rw [whA1] at h
  exact h
theorem aw_wheel2 (w : World) : Calls Try.prog 19 #[.agg #[.int .i64 0, .int .i64 0, .int .i64 65535]] w fun e w' => e = .returned (.tuple #[vC (4000, 65535, 65535), .int .i64 0]) ∧ Gr w w' := by
  have h := co_Wheel (0, 0, 65535) w
  rw [whA2] at h
  exact h
theorem aw_wheel3 (w : World) : Calls Try.prog 19 #[.agg #[.int .i64 65535, .int .i64 0, .int .i64 1]] w fun e w' => e = .returned (.tuple #[vC (5999, 65535, 65535), .int .i64 0]) ∧ Gr w w' := by
  have h := co_Wheel (65535, 0, 1) w
  rw [whA3] at h
  exact h
theorem aw_near (w : World) (g : Nat) (hg : w.heap[g]? = some (.cells #[.int .i64 0, .int .i64 0, .int .i64 0, .int .i64 65535, .int .i64 65535, .int .i64 65535] 23 (0, 0))) : Calls Try.prog 21 #[.agg #[.int .i64 30000, .int .i64 30000, .int .i64 30000], .slice (some ⟨g, 0, none⟩) 2 2] w fun e w' => e = .returned (.tuple #[.int .i64 0, .int .i64 0]) ∧ Gr w w' := by
  have hr : Rd3 w (some ⟨g, 0, none⟩) [(0, 0, 0), (65535, 65535, 65535)] := fun k hk => by
    have : k = 0 ∨ k = 1 := by simp at hk; omega
    rcases this with rfl | rfl
    · exact ⟨g, 0, rfl, by rw [cell_of_row _ _ _ _ _ _ hg]; rfl, by rw [cell_of_row _ _ _ _ _ _ hg]; rfl, by rw [cell_of_row _ _ _ _ _ _ hg]; rfl⟩
    · exact ⟨g, 0, rfl, by rw [cell_of_row _ _ _ _ _ _ hg]; rfl, by rw [cell_of_row _ _ _ _ _ _ hg]; rfl, by rw [cell_of_row _ _ _ _ _ _ hg]; rfl⟩
  have h := co_Nearest (30000, 30000, 30000) (cap := 2) w hr (by unfold maxLen; decide +revert)
  rw [nearA] at h
  exact h
set_option maxRecDepth 100000 in
set_option maxHeartbeats 4000000 in
theorem l11_awake (w : World) : Calls Try.prog 16 #[] w fun e w' => e = .returned (.bool true) ∧ Gr w w' := by
  obtain ⟨w0, hw0⟩ : ∃ v, v = w.alloc (.cells #[.int .i64 60000, .int .i64 50000, .int .i64 10000] 23) := ⟨_, rfl⟩
  have HC0 := Lib.hid (show C3At w0 w.heap.size (60000, 50000, 10000) by rw [hw0]; exact C3At.new w (60000, 50000, 10000))
  have HG0 := Lib.hid (show Gr w w0 by rw [hw0]; exact (Gr.refl w).alloc _)
  have HW0 := Lib.hid hw0
  clear hw0
  go_enter Try.func16, Try.ntmps16
  go_wp2_with fail
  rw [← HW0.out]
  clear HW0
  have hS0 : (fun w' : World => Gr w0 w') w0.drew := (Gr.refl _).drew
  refine wp_region_held (S := fun w' : World => Gr w0 w') (by kernel_rfl) ?_
  change wpAnyH _ _ _ _ _ _ _ _ w0.drew
  refine wpAnyH_take (i := 1) (v := vC (60000, 50000, 10000)) rfl (by kernel_rfl) (by kernel_rfl) (by kernel_rfl) (fun _ _ _ h => h) (Or.inl ⟨by rfl, ?_⟩) hS0 ?_
  · intro w hSw; exact exec_load3 _ rfl rfl (HC0.out.gr hSw)
  try simp only [Act.put, List.getElem_toArray, List.getElem_cons_succ, List.getElem_cons_zero, List.setIfInBounds_toArray, List.set_cons_zero, List.set_cons_succ]
  refine wpAnyH_ready (rs := [0]) (by kernel_rfl) (by simp) (AllReadyH.cons rfl (fun K' hK' => ?_) AllReadyH.nil)
  go_simp
  refine (lw_white _).mono ?_; rintro e w6 ⟨⟨a1, rfl, hr1⟩, hg6⟩
  refine hK'.out _ _ (hS0.trans hg6) (fun hS1 => ?_)
  clear hK' K'
  try simp only [Act.put, List.getElem_toArray, List.getElem_cons_succ, List.getElem_cons_zero, List.setIfInBounds_toArray, List.set_cons_zero, List.set_cons_succ]
  refine wpAnyH_ready (rs := [2]) (by kernel_rfl) (by simp) (AllReadyH.cons rfl (fun K' hK' => ?_) AllReadyH.nil)
  go_simp
  refine (aw_mixW _ hr1).mono ?_; rintro e w7 ⟨⟨aW, cW, rfl, hr2⟩, hg7⟩
  refine hK'.out _ _ (hS1.trans hg7) (fun hS2 => ?_)
  clear hK' K'
  try simp only [Act.put, List.getElem_toArray, List.getElem_cons_succ, List.getElem_cons_zero, List.setIfInBounds_toArray, List.set_cons_zero, List.set_cons_succ]
  refine wpAnyH_take (i := 3) (v := .tuple #[.slice aW 4 cW, .int .i64 0]) rfl (by kernel_rfl) (by kernel_rfl) (by kernel_rfl) (fun _ _ _ h => h) (Or.inl ⟨by rfl, ?_⟩) hS2 ?_
  · intro w hSw; go_simp
  try simp only [Act.put, List.getElem_toArray, List.getElem_cons_succ, List.getElem_cons_zero, List.setIfInBounds_toArray, List.set_cons_zero, List.set_cons_succ]
  refine wpAnyH_take (i := 4) (v := .slice aW 4 cW) rfl (by kernel_rfl) (by kernel_rfl) (by kernel_rfl) (fun _ _ _ h => h) (Or.inl ⟨by rfl, ?_⟩) hS2 ?_
  · intro w hSw; go_simp
  try simp only [Act.put, List.getElem_toArray, List.getElem_cons_succ, List.getElem_cons_zero, List.setIfInBounds_toArray, List.set_cons_zero, List.set_cons_succ]
  refine wpAnyH_take (i := 5) (v := .int .i64 0) rfl (by kernel_rfl) (by kernel_rfl) (by kernel_rfl) (fun _ _ _ h => h) (Or.inl ⟨by rfl, ?_⟩) hS2 ?_
  · intro w hSw; go_simp
  try simp only [Act.put, List.getElem_toArray, List.getElem_cons_succ, List.getElem_cons_zero, List.setIfInBounds_toArray, List.set_cons_zero, List.set_cons_succ]
  refine wpAnyH_take (i := 6) (v := .slice aW 4 cW) rfl (by kernel_rfl) (by kernel_rfl) (by kernel_rfl) (fun _ _ _ h => h) (Or.inl ⟨by rfl, ?_⟩) hS2 ?_
  · intro w hSw; go_simp
  try simp only [Act.put, List.getElem_toArray, List.getElem_cons_succ, List.getElem_cons_zero, List.setIfInBounds_toArray, List.set_cons_zero, List.set_cons_succ]
  refine wpAnyH_take (i := 7) (v := .int .i64 0) rfl (by kernel_rfl) (by kernel_rfl) (by kernel_rfl) (fun _ _ _ h => h) (Or.inl ⟨by rfl, ?_⟩) hS2 ?_
  · intro w hSw; go_simp
  try simp only [Act.put, List.getElem_toArray, List.getElem_cons_succ, List.getElem_cons_zero, List.setIfInBounds_toArray, List.set_cons_zero, List.set_cons_succ]
  refine wpAnyH_done (by kernel_rfl) ?_ _
  have HRW := Lib.hid hr2
  have HSW := Lib.hid hS2
  clear hr1 hg6 hr2 hg7 hS0 hS1 hS2
  have HC7 := Lib.hid (HC0.out.gr HSW.out)
  go_wp2_with fail
  have hS0 : (fun w' : World => Gr w7 w') w7.drew := (Gr.refl _).drew
  refine wp_region_held (S := fun w' : World => Gr w7 w') (by kernel_rfl) ?_
  change wpAnyH _ _ _ _ _ _ _ _ w7.drew
  refine wpAnyH_take (i := 1) (v := vC (60000, 50000, 10000)) rfl (by kernel_rfl) (by kernel_rfl) (by kernel_rfl) (fun _ _ _ h => h) (Or.inl ⟨by rfl, ?_⟩) hS0 ?_
  · intro w hSw; exact exec_load3 _ rfl rfl (HC7.out.gr hSw)
  try simp only [Act.put, List.getElem_toArray, List.getElem_cons_succ, List.getElem_cons_zero, List.setIfInBounds_toArray, List.set_cons_zero, List.set_cons_succ]
  refine wpAnyH_ready (rs := [0]) (by kernel_rfl) (by simp) (AllReadyH.cons rfl (fun K' hK' => ?_) AllReadyH.nil)
  go_simp
  refine (lw_dye _).mono ?_; rintro e w6 ⟨⟨a1, rfl, hr1⟩, hg6⟩
  refine hK'.out _ _ (hS0.trans hg6) (fun hS1 => ?_)
  clear hK' K'
  try simp only [Act.put, List.getElem_toArray, List.getElem_cons_succ, List.getElem_cons_zero, List.setIfInBounds_toArray, List.set_cons_zero, List.set_cons_succ]
  refine wpAnyH_ready (rs := [2]) (by kernel_rfl) (by simp) (AllReadyH.cons rfl (fun K' hK' => ?_) AllReadyH.nil)
  go_simp
  refine (aw_mixD _ hr1).mono ?_; rintro e w17 ⟨⟨aD, cD, rfl, hr2⟩, hg7⟩
  refine hK'.out _ _ (hS1.trans hg7) (fun hS2 => ?_)
  clear hK' K'
  try simp only [Act.put, List.getElem_toArray, List.getElem_cons_succ, List.getElem_cons_zero, List.setIfInBounds_toArray, List.set_cons_zero, List.set_cons_succ]
  refine wpAnyH_take (i := 3) (v := .tuple #[.slice aD 3 cD, .int .i64 0]) rfl (by kernel_rfl) (by kernel_rfl) (by kernel_rfl) (fun _ _ _ h => h) (Or.inl ⟨by rfl, ?_⟩) hS2 ?_
  · intro w hSw; go_simp
  try simp only [Act.put, List.getElem_toArray, List.getElem_cons_succ, List.getElem_cons_zero, List.setIfInBounds_toArray, List.set_cons_zero, List.set_cons_succ]
  refine wpAnyH_take (i := 4) (v := .slice aD 3 cD) rfl (by kernel_rfl) (by kernel_rfl) (by kernel_rfl) (fun _ _ _ h => h) (Or.inl ⟨by rfl, ?_⟩) hS2 ?_
  · intro w hSw; go_simp
  try simp only [Act.put, List.getElem_toArray, List.getElem_cons_succ, List.getElem_cons_zero, List.setIfInBounds_toArray, List.set_cons_zero, List.set_cons_succ]
  refine wpAnyH_take (i := 5) (v := .int .i64 0) rfl (by kernel_rfl) (by kernel_rfl) (by kernel_rfl) (fun _ _ _ h => h) (Or.inl ⟨by rfl, ?_⟩) hS2 ?_
  · intro w hSw; go_simp
  try simp only [Act.put, List.getElem_toArray, List.getElem_cons_succ, List.getElem_cons_zero, List.setIfInBounds_toArray, List.set_cons_zero, List.set_cons_succ]
  refine wpAnyH_take (i := 6) (v := .slice aD 3 cD) rfl (by kernel_rfl) (by kernel_rfl) (by kernel_rfl) (fun _ _ _ h => h) (Or.inl ⟨by rfl, ?_⟩) hS2 ?_
  · intro w hSw; go_simp
  try simp only [Act.put, List.getElem_toArray, List.getElem_cons_succ, List.getElem_cons_zero, List.setIfInBounds_toArray, List.set_cons_zero, List.set_cons_succ]
  refine wpAnyH_take (i := 7) (v := .int .i64 0) rfl (by kernel_rfl) (by kernel_rfl) (by kernel_rfl) (fun _ _ _ h => h) (Or.inl ⟨by rfl, ?_⟩) hS2 ?_
  · intro w hSw; go_simp
  try simp only [Act.put, List.getElem_toArray, List.getElem_cons_succ, List.getElem_cons_zero, List.setIfInBounds_toArray, List.set_cons_zero, List.set_cons_succ]
  refine wpAnyH_done (by kernel_rfl) ?_ _
  have HRD := Lib.hid hr2
  have HSD := Lib.hid hS2
  clear hr1 hg6 hr2 hg7 hS0 hS1 hS2
  have HC17 := Lib.hid (HC7.out.gr HSD.out)
  have HG17 := Lib.hid ((HG0.out.trans HSW.out).trans HSD.out)
  have HRW17 := Lib.hid (HRW.out.gr HSD.out)
  clear HC0 HC7 HG0 HSW HSD HRW
  go_wp2_with (refine wpl_load3 (c := (60000, 50000, 10000)) rfl rfl rfl HC17.out ?_)
  refine (aw_wheel1 _).mono ?_; rintro e w21 ⟨rfl, hg⟩
  obtain ⟨w21b, hw⟩ : ∃ v, v = (w21.alloc (.cells #[.int .i64 0, .int .i64 0, .int .i64 0] 23)).setRow w21.heap.size #[.int .i64 800, .int .i64 54613, .int .i64 60000] := ⟨_, rfl⟩
  have HH1 := Lib.hid (show C3At w21b w21.heap.size (800, 54613, 60000) by rw [hw]; exact (C3At.new w21 (0, 0, 0)).row (800, 54613, 60000))
  have HX1 := Lib.hid (show Gr w17 w21b by rw [hw]; exact (hg.alloc (.cells #[.int .i64 0, .int .i64 0, .int .i64 0] 23)).row (g := w21.heap.size) hg.size _)
  have HW1 := Lib.hid hw
  clear hg hw
  go_wp2_with (refine wpl_store3 (c := (800, 54613, 60000)) rfl rfl rfl rfl (C3At.new w21 (0, 0, 0)) ?_; rw [← HW1.out])
  clear HW1
  refine (aw_wheel2 _).mono ?_; rintro e w22 ⟨rfl, hg⟩
  obtain ⟨w22b, hw⟩ : ∃ v, v = (w22.alloc (.cells #[.int .i64 0, .int .i64 0, .int .i64 0] 23)).setRow w22.heap.size #[.int .i64 4000, .int .i64 65535, .int .i64 65535] := ⟨_, rfl⟩
  have HH2 := Lib.hid (show C3At w22b w22.heap.size (4000, 65535, 65535) by rw [hw]; exact (C3At.new w22 (0, 0, 0)).row (4000, 65535, 65535))
  have HX2 := Lib.hid (show Gr w21b w22b by rw [hw]; exact (hg.alloc (.cells #[.int .i64 0, .int .i64 0, .int .i64 0] 23)).row (g := w22.heap.size) hg.size _)
  have HW2 := Lib.hid hw
  clear hg hw
  go_wp2_with (refine wpl_store3 (c := (4000, 65535, 65535)) rfl rfl rfl rfl (C3At.new w22 (0, 0, 0)) ?_; rw [← HW2.out])
  clear HW2
  refine (aw_wheel3 _).mono ?_; rintro e w23 ⟨rfl, hg⟩
  obtain ⟨w23b, hw⟩ : ∃ v, v = (w23.alloc (.cells #[.int .i64 0, .int .i64 0, .int .i64 0] 23)).setRow w23.heap.size #[.int .i64 5999, .int .i64 65535, .int .i64 65535] := ⟨_, rfl⟩
  have HH3 := Lib.hid (show C3At w23b w23.heap.size (5999, 65535, 65535) by rw [hw]; exact (C3At.new w23 (0, 0, 0)).row (5999, 65535, 65535))
  have HX3 := Lib.hid (show Gr w22b w23b by rw [hw]; exact (hg.alloc (.cells #[.int .i64 0, .int .i64 0, .int .i64 0] 23)).row (g := w23.heap.size) hg.size _)
  have HW3 := Lib.hid hw
  clear hg hw
  go_wp2_with (refine wpl_store3 (c := (5999, 65535, 65535)) rfl rfl rfl rfl (C3At.new w23 (0, 0, 0)) ?_; rw [← HW3.out])
  clear HW3
  refine (aw_near _ _ (heap_alloc_last w23b _)).mono ?_; rintro e w24 ⟨rfl, hg24⟩
  have g1 : Gr w22b w24 := HX3.out.trans (((Gr.refl w23b).alloc _).trans hg24)
  have K1 := Lib.hid ((HH1.out.gr HX2.out).gr g1)
  have K2 := Lib.hid (HH2.out.gr g1)
  have K3 := Lib.hid (HH3.out.gr (((Gr.refl w23b).alloc _).trans hg24))
  have g0 : Gr w17 w24 := (HX1.out.trans HX2.out).trans g1
  have RW := Lib.hid (HRW17.out.gr g0)
  have RD := Lib.hid (HRD.out.gr g0)
  have HG24 := Lib.hid (HG17.out.trans g0)
  clear g0 g1 hg24 HH1 HH2 HH3 HX1 HX2 HX3 HRW17 HRD HC17 HG17
  go_wp2_with fail
  refine (aw_eqW _ (RW.out.gr ((Gr.refl _).alloc _)) (RdI.new w24 [50000, 40000, 0, 10000])).mono ?_; rintro e w25 ⟨rfl, hg25⟩
  have G25 := Lib.hid (show Gr w24 w25 from ((Gr.refl _).alloc _).trans hg25)
  clear hg25 RW
  go_wp2_with fail
  refine (aw_eqD _ (RD.out.gr (G25.out.alloc _)) (RdI.new w25 [5535, 15535, 55535])).mono ?_; rintro e w26 ⟨rfl, hg26⟩
  have G26 : Gr w24 w26 := (G25.out.alloc _).trans hg26
  have k1 := K1.out.gr G26
  have k2 := K2.out.gr G26
  have k3 := K3.out.gr G26
  have a1 := k1.c0
  have a2 := k1.c1
  have a3 := k1.c2
  have b1 := k2.c0
  have b2 := k2.c1
  have b3 := k2.c2
  have d1 := k3.c0
  have d2 := k3.c1
  have d3 := k3.c2
  simp only at a1 a2 a3 b1 b2 b3 d1 d2 d3
  have HG26 := Lib.hid (HG24.out.trans G26)
  clear k1 k2 k3 K1 K2 K3 hg26 G26 G25 RD HG24
  have heq := run_eq3'
  go_wp2
  go_ret
  exact ⟨rfl, HG26.out⟩
end Go.Proofs.Ytipfofdjngnkpaa
