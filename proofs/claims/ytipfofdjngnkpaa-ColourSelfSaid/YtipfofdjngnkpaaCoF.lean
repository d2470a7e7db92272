/- Law 11: the light of the program's palettes. -/
import Derived.Test.YtipfofdjngnkpaaCoE
set_option linter.unusedVariables false
set_option linter.unusedSimpArgs false
namespace Go.Proofs.Ytipfofdjngnkpaa
open Go.RowKit
open Z
/-- a colour in a block of its own -/
def C3At (w : World) (g : Nat) (c : C3) : Prop := w.heap[g]? = some (.cells #[.int .i64 c.1, .int .i64 c.2.1, .int .i64 c.2.2] 23 (0, 0))
theorem C3At.gr {w w' : World} {g : Nat} {c : C3} (h : C3At w g c) (hg : Gr w w') : C3At w' g c := (hg.block g (Array.getElem?_eq_some_iff.1 h).1).trans h
theorem C3At.drew {w : World} {g : Nat} {c : C3} (h : C3At w g c) : C3At w.drew g c := h
theorem C3At.new (w : World) (c : C3) : C3At (w.alloc (.cells #[.int .i64 c.1, .int .i64 c.2.1, .int .i64 c.2.2] 23)) w.heap.size c := heap_alloc_last w _
theorem C3At.c0 {w : World} {g : Nat} {c : C3} (h : C3At w g c) : w.cell? ⟨g, 0, none⟩ = some (.int .i64 c.1) := by rw [cell_of_row _ _ _ _ _ _ h]; rfl
theorem C3At.c1 {w : World} {g : Nat} {c : C3} (h : C3At w g c) : w.cell? ⟨g, 1, none⟩ = some (.int .i64 c.2.1) := by rw [cell_of_row _ _ _ _ _ _ h]; rfl
theorem C3At.c2 {w : World} {g : Nat} {c : C3} (h : C3At w g c) : w.cell? ⟨g, 2, none⟩ = some (.int .i64 c.2.2) := by rw [cell_of_row _ _ _ _ _ _ h]; rfl
theorem C3At.s0 {w : World} {g : Nat} {c : C3} (h : C3At w g c) (v : Int) : C3At (w.setCell ⟨g, 0, none⟩ (.int .i64 v)) g (v, c.2) := heap_setCell_same w g 0 _ _ _ h
theorem C3At.s1 {w : World} {g : Nat} {c : C3} (h : C3At w g c) (v : Int) : C3At (w.setCell ⟨g, 1, none⟩ (.int .i64 v)) g (c.1, v, c.2.2) := heap_setCell_same w g 1 _ _ _ h
theorem C3At.s2 {w : World} {g : Nat} {c : C3} (h : C3At w g c) (v : Int) : C3At (w.setCell ⟨g, 2, none⟩ (.int .i64 v)) g (c.1, c.2.1, v) := heap_setCell_same w g 2 _ _ _ h
theorem C3At.other {w : World} {g : Nat} {c : C3} (H : C3At w g c) {b o : Nat} {v : Value} (hb : g ≠ b) : C3At (w.setCell ⟨b, o, none⟩ v) g c := by
  unfold C3At at *
  rw [← H]; exact Below.heap_setCell w _ v g hb
theorem C3At.fz {w : World} {g : Nat} {c : C3} (H : C3At w g c) (k : Nat) : w.frozen? ⟨g, k, none⟩ = false := by
  unfold C3At at H
  simp [World.frozen?, H]
theorem C3At.row {w : World} {g : Nat} {c : C3} (H : C3At w g c) (d : C3) : C3At (w.setRow g #[.int .i64 d.1, .int .i64 d.2.1, .int .i64 d.2.2]) g d := setRow_heap w g _ _ _ _ H
theorem Try.infoC3 : (Try.prog.info? 23).map (fun i => (i.zero, i.size)) = some (some (.agg #[.int .i64 0, .int .i64 0, .int .i64 0]), 3) := by kernel_rfl
theorem run_load3 {w : World} {g : Nat} {c : C3} (hg : C3At w g c) : (loadVar 23 ⟨g, 0, none⟩).run Try.prog w = .ok (vC c) w :=
  run_loadVar_row w g _ _ _ (0, 0) _ hg Try.underlying23 rfl (by rw [(zero_of_info Try.infoC3).2]; rfl)
theorem exec_load3 {w : World} {g : Nat} {c : C3} {ev : Operand → Value} (o : Oper) {x : Operand} (ho : o.op = .load 23 x) (hx : ev x = .pointer (some ⟨g, 0, none⟩)) (hg : C3At w g c) : (execOp ev o).run Try.prog w = .ok (.value (vC c)) w := by
  unfold execOp
  rw [ho]
  simp only [hx, Instr.loadAt, Instr.sureAddr, Sem.run_bind, Sem.run_pure, Result.andThen, run_load3 hg]
theorem wpl_load3 {ops : Array Oper} {rest : List Oper} {o : Oper} {a : Act} {Q : Exit → Act → World → Prop} {w : World} {x : Operand} {g : Nat} {c : C3} (hg : o.guard = none) (ho : o.op = .load 23 x) (hx : a.eval x = .pointer (some ⟨g, 0, none⟩)) (hP : C3At w g c)
    (hK : wpList Try.prog ops Q rest (a.put o.dst (vC c)) w) : wpList Try.prog ops Q (o :: rest) a w :=
  wpList_plain hg fun K hK' => by
    unfold Oper.wp
    rw [exec_load3 o ho hx hP]; exact hK' _ _ hK
theorem wpl_store3 {ops : Array Oper} {rest : List Oper} {o : Oper} {a : Act} {Q : Exit → Act → World → Prop} {w : World} {x y : Operand} {g : Nat} {c c0 : C3} (hg : o.guard = none) (ho : o.op = .store 23 x y) (hx : a.eval x = .pointer (some ⟨g, 0, none⟩)) (hy : a.eval y = vC c) (hP : C3At w g c0)
    (hK : wpList Try.prog ops Q rest (a.put o.dst undef) (w.setRow g #[.int .i64 c.1, .int .i64 c.2.1, .int .i64 c.2.2])) : wpList Try.prog ops Q (o :: rest) a w := by
  refine wpList_plain hg fun K hK' => ?_
  have hz := (zero_of_info Try.infoC3).2
  have h1 : (storeVar 23 ⟨g, 0, none⟩ (.agg #[.int .i64 c.1, .int .i64 c.2.1, .int .i64 c.2.2])).run Try.prog w = .ok () (w.setRow g #[.int .i64 c.1, .int .i64 c.2.1, .int .i64 c.2.2]) :=
    run_storeVar_row w g _ _ _ _ hP (by rw [hz]; rfl) rfl (by simp [Value.oneCell'])
  unfold Oper.wp execOp
  rw [ho]
  simp only [hx, hy, vC, Instr.storeAt, Instr.sureAddr, Sem.run_bind, Sem.run_pure, Result.andThen, h1]
  rw [Oper.upon_skip]
  exact hK' _ _ hK
def lightP (b : Nat → Bool) (f : Nat → Int) : C3 := if (b 3 && (b 4 && b 5)) = true then (min 65535 (f 3 + f 6), min 65535 (f 4 + f 6), min 65535 (f 5 + f 6)) else (65535 - f 8, 65535 - f 9, 65535 - f 10)
set_option maxRecDepth 100000 in
set_option maxHeartbeats 4000000 in
theorem co_light (b : Nat → Bool) (f : Nat → Int) (hf : ∀ k, 0 ≤ f k ∧ f k ≤ 65535) (w : World) : Calls Try.prog 38 #[.agg (palA b), .agg (outA f)] w fun e w' => e = .returned (vC (lightP b f)) ∧ Gr w w' := by
  obtain ⟨V, hV⟩ : ∃ V, lightP b f = V := ⟨_, rfl⟩
  rw [hV]
  unfold lightP at hV
  have HV := Lib.hid hV
  clear hV
  have HA := Lib.hid (fun w => co_isAdditive b w)
  have HD := Lib.hid (fun w => co_dyes w)
  have HI := Lib.hid (fun w => co_lights w)
  have HF := Lib.hid hf
  clear hf
  obtain ⟨W0, hW0⟩ : ∃ W0, W0 = (((w.alloc (.cells (palA b) 60)).alloc (.cells (outA f) 64)).alloc (.cells #[.int .i64 0, .int .i64 0, .int .i64 0] 23)).alloc (.cells #[.int .i64 0, .int .i64 0, .int .i64 0] 23) := ⟨_, rfl⟩
  have HW := Lib.hid hW0
  have HG := Lib.hid (show Gr w W0 by rw [hW0]; exact ((((Gr.refl w).alloc _).alloc _).alloc _).alloc _)
  have HP := Lib.hid (show PalAt W0 w.heap.size b by rw [hW0]; exact (PalAt.new w b).gr ((((Gr.refl _).alloc _).alloc _).alloc _))
  have HO := Lib.hid (show OutAt W0 (w.heap.size + 1) f by
    rw [hW0]
    have := OutAt.new (w.alloc (.cells (palA b) 60)) f
    simp only [World.size_alloc] at this
    exact this.gr (((Gr.refl _).alloc _).alloc _))
  have HC := Lib.hid (show C3At W0 (w.heap.size + 1 + 1) (0, 0, 0) by
    rw [hW0]
    have := C3At.new ((w.alloc (.cells (palA b) 60)).alloc (.cells (outA f) 64)) (0, 0, 0)
    simp only [World.size_alloc] at this
    exact this.gr ((Gr.refl _).alloc _))
  have HE := Lib.hid (show C3At W0 (w.heap.size + 1 + 1 + 1) (0, 0, 0) by
    rw [hW0]
    have := C3At.new (((w.alloc (.cells (palA b) 60)).alloc (.cells (outA f) 64)).alloc (.cells #[.int .i64 0, .int .i64 0, .int .i64 0] 23)) (0, 0, 0)
    simp only [World.size_alloc] at this
    exact this)
  clear hW0
  go_enter Try.func38, Try.ntmps38
  go_wp2_with (first | (refine wpl_loadP (f := b) rfl rfl rfl (by rw [HW.out] at HP; exact HP.out) ?_))
  refine (HA.out _).mono ?_; rintro e w6 ⟨rfl, hg6a⟩
  have hg6 : Gr W0 w6 := by rw [HW.out]; exact hg6a
  clear hg6a
  have HO6 := Lib.hid (HO.out.gr hg6)
  have HC6 := Lib.hid (HC.out.gr hg6)
  have HE6 := Lib.hid (HE.out.gr hg6)
  have HG6 := Lib.hid (HG.out.trans hg6)
  clear hg6 HP HO HC HE HG HW
  generalize hav : (b 3 && (b 4 && b 5)) = ad at *
  clear hav HA
  cases ad
  · have HV2 : Hid ((65535 - f 8, 65535 - f 9, 65535 - f 10) = V) := Lib.hid (by have h := HV.out; simpa only [Bool.false_eq_true, if_false] using h)
    clear HV
    go_wp2_with fail
    refine (HD.out _).mono ?_; rintro e w7 ⟨rfl, hg7⟩
    obtain ⟨i0, i1, i2⟩ := idx3 (.int .i64 8) (.int .i64 9) (.int .i64 10)
    have HO7 := Lib.hid (HO6.out.gr hg7)
    have HC7 := Lib.hid (HC6.out.gr hg7)
    have HE7 := Lib.hid (HE6.out.gr hg7)
    have HG7 := Lib.hid (HG6.out.trans hg7)
    clear hg7 HO6 HC6 HE6 HG6 HD HI
    go_wp2_with fail
    refine wp_loop_rounds 4 ?_
    rw [rounds_succ]
    have c0 := HO7.out.cell (k := 8) (by decide)
    have c6 := HO7.out.cell (k := 6) (by decide)
    have c1 := HE7.out.c0
    have c2 := HE7.out.fz 0
    obtain ⟨f0, f1⟩ := HF.out 8
    obtain ⟨f2, f3⟩ := HF.out 6
    go_wp2
    obtain ⟨w8, hw8⟩ : ∃ v, v = w7.setCell ⟨w.heap.size + 1 + 1 + 1, 0, none⟩ (.int .i64 (65535 - f 8)) := ⟨_, rfl⟩
    have HO8 := Lib.hid (show OutAt w8 (w.heap.size + 1) f by rw [hw8]; exact (HO7.out.other (by omega)))
    have HC8 := Lib.hid (show C3At w8 (w.heap.size + 1 + 1) (0, 0, 0) by rw [hw8]; exact (HC7.out.other (by omega)))
    have HE8 := Lib.hid (show C3At w8 (w.heap.size + 1 + 1 + 1) _ by rw [hw8]; exact (HE7.out.s0 (65535 - f 8)))
    have HG8 := Lib.hid (show Gr w w8 by rw [hw8]; exact (HG7.out.set (by omega) _))
    rw [← hw8]
    clear hw8 c0 c1 c2 c6 f0 f1 f2 f3 HO7 HC7 HE7 HG7
    rw [rounds_succ]
    have c0 := HO8.out.cell (k := 9) (by decide)
    have c6 := HO8.out.cell (k := 6) (by decide)
    have c1 := HE8.out.c1
    have c2 := HE8.out.fz 1
    obtain ⟨f0, f1⟩ := HF.out 9
    obtain ⟨f2, f3⟩ := HF.out 6
    go_wp2
    obtain ⟨w9, hw9⟩ : ∃ v, v = w8.setCell ⟨w.heap.size + 1 + 1 + 1, 1, none⟩ (.int .i64 (65535 - f 9)) := ⟨_, rfl⟩
    have HO9 := Lib.hid (show OutAt w9 (w.heap.size + 1) f by rw [hw9]; exact (HO8.out.other (by omega)))
    have HC9 := Lib.hid (show C3At w9 (w.heap.size + 1 + 1) (0, 0, 0) by rw [hw9]; exact (HC8.out.other (by omega)))
    have HE9 := Lib.hid (show C3At w9 (w.heap.size + 1 + 1 + 1) _ by rw [hw9]; exact (HE8.out.s1 (65535 - f 9)))
    have HG9 := Lib.hid (show Gr w w9 by rw [hw9]; exact (HG8.out.set (by omega) _))
    rw [← hw9]
    clear hw9 c0 c1 c2 c6 f0 f1 f2 f3 HO8 HC8 HE8 HG8
    rw [rounds_succ]
    have c0 := HO9.out.cell (k := 10) (by decide)
    have c6 := HO9.out.cell (k := 6) (by decide)
    have c1 := HE9.out.c2
    have c2 := HE9.out.fz 2
    obtain ⟨f0, f1⟩ := HF.out 10
    obtain ⟨f2, f3⟩ := HF.out 6
    go_wp2
    obtain ⟨w10, hw10⟩ : ∃ v, v = w9.setCell ⟨w.heap.size + 1 + 1 + 1, 2, none⟩ (.int .i64 (65535 - f 10)) := ⟨_, rfl⟩
    have HO10 := Lib.hid (show OutAt w10 (w.heap.size + 1) f by rw [hw10]; exact (HO9.out.other (by omega)))
    have HC10 := Lib.hid (show C3At w10 (w.heap.size + 1 + 1) (0, 0, 0) by rw [hw10]; exact (HC9.out.other (by omega)))
    have HE10 := Lib.hid (show C3At w10 (w.heap.size + 1 + 1 + 1) _ by rw [hw10]; exact (HE9.out.s2 (65535 - f 10)))
    have HG10 := Lib.hid (show Gr w w10 by rw [hw10]; exact (HG9.out.set (by omega) _))
    rw [← hw10]
    clear hw10 c0 c1 c2 c6 f0 f1 f2 f3 HO9 HC9 HE9 HG9
    rw [rounds_succ]
    go_wp2_with (first | (refine wpl_load3 rfl rfl rfl HE10.out ?_) | (refine wpl_store3 rfl rfl rfl rfl HC10.out ?_))
    refine bodyPost_ret (v := vC V) ?_ rfl ⟨rfl, HG10.out.row (by omega) _⟩
    simp [results, Try.results38, asAddr, Act.put]
    rw [run_load3 (show C3At _ _ _ from HC10.out.row (65535 - f 8, 65535 - f 9, 65535 - f 10)), ← HV2.out]
  · have HV2 : Hid ((min 65535 (f 3 + f 6), min 65535 (f 4 + f 6), min 65535 (f 5 + f 6)) = V) := Lib.hid (by have h := HV.out; simpa only [if_true] using h)
    clear HV
    go_wp2_with fail
    refine (HI.out _).mono ?_; rintro e w7 ⟨rfl, hg7⟩
    obtain ⟨i0, i1, i2⟩ := idx3 (.int .i64 3) (.int .i64 4) (.int .i64 5)
    have HO7 := Lib.hid (HO6.out.gr hg7)
    have HC7 := Lib.hid (HC6.out.gr hg7)
    have HE7 := Lib.hid (HE6.out.gr hg7)
    have HG7 := Lib.hid (HG6.out.trans hg7)
    clear hg7 HO6 HC6 HE6 HG6 HD HI
    go_wp2_with fail
    refine wp_loop_rounds 4 ?_
    rw [rounds_succ]
    have c0 := HO7.out.cell (k := 3) (by decide)
    have c6 := HO7.out.cell (k := 6) (by decide)
    have c1 := HE7.out.c0
    have c2 := HE7.out.fz 0
    obtain ⟨f0, f1⟩ := HF.out 3
    obtain ⟨f2, f3⟩ := HF.out 6
    go_wp2_with fail
    go_region
    obtain ⟨m3, hm3⟩ : ∃ v : Int, v = (if f 3 + f 6 < 65535 then f 3 + f 6 else 65535) := ⟨_, rfl⟩
    rw [← hm3]
    have HM3 := Lib.hid (show m3 = min 65535 (f 3 + f 6) by rw [hm3]; split <;> omega)
    clear hm3
    go_wp2
    obtain ⟨w8, hw8⟩ : ∃ v, v = (w7.setCell ⟨w.heap.size + 1 + 1 + 1, 0, none⟩ (.int .i64 (m3))).drew := ⟨_, rfl⟩
    have HO8 := Lib.hid (show OutAt w8 (w.heap.size + 1) f by rw [hw8]; exact (HO7.out.other (by omega)).drew)
    have HC8 := Lib.hid (show C3At w8 (w.heap.size + 1 + 1) (0, 0, 0) by rw [hw8]; exact (HC7.out.other (by omega)).drew)
    have HE8 := Lib.hid (show C3At w8 (w.heap.size + 1 + 1 + 1) _ by rw [hw8]; exact (HE7.out.s0 (m3)).drew)
    have HG8 := Lib.hid (show Gr w w8 by rw [hw8]; exact (HG7.out.set (by omega) _).drew)
    rw [← hw8]
    clear hw8 c0 c1 c2 c6 f0 f1 f2 f3 HO7 HC7 HE7 HG7
    rw [rounds_succ]
    have c0 := HO8.out.cell (k := 4) (by decide)
    have c6 := HO8.out.cell (k := 6) (by decide)
    have c1 := HE8.out.c1
    have c2 := HE8.out.fz 1
    obtain ⟨f0, f1⟩ := HF.out 4
    obtain ⟨f2, f3⟩ := HF.out 6
    go_wp2_with fail
    go_region
    obtain ⟨m4, hm4⟩ : ∃ v : Int, v = (if f 4 + f 6 < 65535 then f 4 + f 6 else 65535) := ⟨_, rfl⟩
    rw [← hm4]
    have HM4 := Lib.hid (show m4 = min 65535 (f 4 + f 6) by rw [hm4]; split <;> omega)
    clear hm4
    go_wp2
    obtain ⟨w9, hw9⟩ : ∃ v, v = (w8.setCell ⟨w.heap.size + 1 + 1 + 1, 1, none⟩ (.int .i64 (m4))).drew := ⟨_, rfl⟩
    have HO9 := Lib.hid (show OutAt w9 (w.heap.size + 1) f by rw [hw9]; exact (HO8.out.other (by omega)).drew)
    have HC9 := Lib.hid (show C3At w9 (w.heap.size + 1 + 1) (0, 0, 0) by rw [hw9]; exact (HC8.out.other (by omega)).drew)
    have HE9 := Lib.hid (show C3At w9 (w.heap.size + 1 + 1 + 1) _ by rw [hw9]; exact (HE8.out.s1 (m4)).drew)
    have HG9 := Lib.hid (show Gr w w9 by rw [hw9]; exact (HG8.out.set (by omega) _).drew)
    rw [← hw9]
    clear hw9 c0 c1 c2 c6 f0 f1 f2 f3 HO8 HC8 HE8 HG8
    rw [rounds_succ]
    have c0 := HO9.out.cell (k := 5) (by decide)
    have c6 := HO9.out.cell (k := 6) (by decide)
    have c1 := HE9.out.c2
    have c2 := HE9.out.fz 2
    obtain ⟨f0, f1⟩ := HF.out 5
    obtain ⟨f2, f3⟩ := HF.out 6
    go_wp2_with fail
    go_region
    obtain ⟨m5, hm5⟩ : ∃ v : Int, v = (if f 5 + f 6 < 65535 then f 5 + f 6 else 65535) := ⟨_, rfl⟩
    rw [← hm5]
    have HM5 := Lib.hid (show m5 = min 65535 (f 5 + f 6) by rw [hm5]; split <;> omega)
    clear hm5
    go_wp2
    obtain ⟨w10, hw10⟩ : ∃ v, v = (w9.setCell ⟨w.heap.size + 1 + 1 + 1, 2, none⟩ (.int .i64 (m5))).drew := ⟨_, rfl⟩
    have HO10 := Lib.hid (show OutAt w10 (w.heap.size + 1) f by rw [hw10]; exact (HO9.out.other (by omega)).drew)
    have HC10 := Lib.hid (show C3At w10 (w.heap.size + 1 + 1) (0, 0, 0) by rw [hw10]; exact (HC9.out.other (by omega)).drew)
    have HE10 := Lib.hid (show C3At w10 (w.heap.size + 1 + 1 + 1) _ by rw [hw10]; exact (HE9.out.s2 (m5)).drew)
    have HG10 := Lib.hid (show Gr w w10 by rw [hw10]; exact (HG9.out.set (by omega) _).drew)
    rw [← hw10]
    clear hw10 c0 c1 c2 c6 f0 f1 f2 f3 HO9 HC9 HE9 HG9
    rw [rounds_succ]
    go_wp2_with (first | (refine wpl_load3 rfl rfl rfl HE10.out ?_) | (refine wpl_store3 rfl rfl rfl rfl HC10.out ?_))
    refine bodyPost_ret (v := vC V) ?_ rfl ⟨rfl, HG10.out.row (by omega) _⟩
    simp [results, Try.results38, asAddr, Act.put]
    rw [run_load3 (show C3At _ _ _ from HC10.out.row (m3, m4, m5)), HM3.out, HM4.out, HM5.out, ← HV2.out]
end Go.Proofs.Ytipfofdjngnkpaa
