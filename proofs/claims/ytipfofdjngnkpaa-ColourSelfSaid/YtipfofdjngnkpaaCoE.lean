/- Law 11: what the program's palettes mix. -/
import Derived.Test.YtipfofdjngnkpaaCoD
set_option linter.unusedVariables false
set_option linter.unusedSimpArgs false
namespace Go.Proofs.Ytipfofdjngnkpaa
open Go.RowKit
open Z
def mixP (b : Nat → Bool) (c : C3) (k : Nat) : Int := if (b 3 && (b 4 && b 5)) = true then mixAdd (if b 6 = true then min3 c else 0) c k else mixSub c k
set_option maxRecDepth 100000 in
set_option maxHeartbeats 4000000 in
theorem co_mix (b : Nat → Bool) (c : C3) (hc : isC c = true) (w : World) : Calls Try.prog 32 #[.agg (palA b), vC c] w fun e w' => e = .returned (.agg (outA (mixP b c))) ∧ Gr w w' := by
  obtain ⟨⟨x0, x1⟩, ⟨y0, y1⟩, ⟨z0, z1⟩⟩ := isC_iff.1 hc
  have HL := Lib.hid (fun w => co_least c w)
  obtain ⟨x, y, z⟩ := c
  simp only at x0 x1 y0 y1 z0 z1
  obtain ⟨F, hF⟩ : ∃ F, mixP b (x, y, z) = F := ⟨_, rfl⟩
  rw [hF]
  have HF : Hid (∀ k : Nat, (if (b 3 && (b 4 && b 5)) = true then mixAdd (if b 6 = true then min3 (x, y, z) else 0) (x, y, z) k else mixSub (x, y, z) k) = F k) := Lib.hid fun k => congrFun hF k
  clear hF hc
  have HA := Lib.hid (fun w => co_isAdditive b w)
  have HD := Lib.hid (fun w => co_dyes w)
  have HI := Lib.hid (fun w => co_lights w)
  obtain ⟨W0, hW0⟩ : ∃ W0, W0 = (((w.alloc (.cells (palA b) 60)).alloc (.cells #[.int .i64 x, .int .i64 y, .int .i64 z] 23)).alloc (.cells (outA fun _ => 0) 64)).alloc (.cells (outA fun _ => 0) 64) := ⟨_, rfl⟩
  have HW := Lib.hid hW0
  have HG := Lib.hid (show Gr w W0 by rw [hW0]; exact ((((Gr.refl w).alloc _).alloc _).alloc _).alloc _)
  have HP := Lib.hid (show PalAt W0 w.heap.size b by rw [hW0]; exact (PalAt.new w b).gr ((((Gr.refl _).alloc _).alloc _).alloc _))
  have HO1 := Lib.hid (show OutAt W0 (w.heap.size + 1 + 1) (fun _ => 0) by
    rw [hW0]
    have := OutAt.new ((w.alloc (.cells (palA b) 60)).alloc (.cells #[.int .i64 x, .int .i64 y, .int .i64 z] 23)) (fun _ => 0)
    simp only [World.size_alloc] at this
    exact this.gr ((Gr.refl _).alloc _))
  have HO2 := Lib.hid (show OutAt W0 (w.heap.size + 1 + 1 + 1) (fun _ => 0) by
    rw [hW0]
    have := OutAt.new (((w.alloc (.cells (palA b) 60)).alloc (.cells #[.int .i64 x, .int .i64 y, .int .i64 z] 23)).alloc (.cells (outA fun _ => 0) 64)) (fun _ => 0)
    simp only [World.size_alloc] at this
    exact this)
  have HR := Lib.hid (show W0.heap[w.heap.size + 1]? = some (.cells #[.int .i64 x, .int .i64 y, .int .i64 z] 23 (0, 0)) by
    rw [hW0]
    have := heap_alloc_last (w.alloc (.cells (palA b) 60)) (.cells #[.int .i64 x, .int .i64 y, .int .i64 z] 23 (0, 0))
    simp only [World.size_alloc] at this
    have h2 : Gr ((w.alloc (.cells (palA b) 60)).alloc (.cells #[.int .i64 x, .int .i64 y, .int .i64 z] 23)) ((((w.alloc (.cells (palA b) 60)).alloc (.cells #[.int .i64 x, .int .i64 y, .int .i64 z] 23)).alloc (.cells (outA fun _ => 0) 64)).alloc (.cells (outA fun _ => 0) 64)) := ((Gr.refl _).alloc _).alloc _
    exact (h2.block _ (by simp)).trans this)
  unfold vC
  clear hW0
  go_enter Try.func32, Try.ntmps32
  go_wp2_with (first | (refine wpl_loadP (f := b) rfl rfl rfl (by rw [HW.out] at HP; exact HP.out) ?_))
  refine (HA.out _).mono ?_; rintro e w6 ⟨rfl, hg6a⟩
  have hg6 : Gr W0 w6 := by rw [HW.out]; exact hg6a
  clear hg6a
  have HP6 := Lib.hid (HP.out.gr hg6)
  have HO16 := Lib.hid (HO1.out.gr hg6)
  have HO26 := Lib.hid (HO2.out.gr hg6)
  have HR6 := Lib.hid ((hg6.block _ (Array.getElem?_eq_some_iff.1 HR.out).1).trans HR.out)
  have HG6 := Lib.hid (HG.out.trans hg6)
  clear hg6 HP HO1 HO2 HR HG HW
  generalize hav : (b 3 && (b 4 && b 5)) = ad at *
  clear hav HA
  cases ad
  · have HFs : Hid (∀ k : Nat, F k = mixSub (x, y, z) k) := Lib.hid fun k => by have h := HF.out k; simp only [Bool.false_eq_true, if_false] at h; exact h.symm
    clear HF
    go_wp2_with fail
    refine (HD.out _).mono ?_; rintro e w7 ⟨rfl, hg7⟩
    obtain ⟨i0, i1, i2⟩ := idx3 (.int .i64 8) (.int .i64 9) (.int .i64 10)
    have HO17 := Lib.hid (HO16.out.gr hg7)
    have HO27 := Lib.hid (HO26.out.gr hg7)
    have HR7 := Lib.hid ((hg7.block _ (Array.getElem?_eq_some_iff.1 HR6.out).1).trans HR6.out)
    have HG7 := Lib.hid (HG6.out.trans hg7)
    clear hg7 HP6 HO16 HO26 HR6 HG6 HD HI HL
    go_wp2_with fail
    refine wp_loop_rounds 4 ?_
    rw [rounds_succ]
    have c0 : w7.cell? ⟨w.heap.size + 1, 0, none⟩ = some (.int .i64 x) := by rw [cell_of_row _ _ _ _ _ _ HR7.out]; rfl
    have c1 := HO27.out.cell (k := 8) (by decide)
    have c2 := HO27.out.fz 8
    go_wp2
    obtain ⟨w8, hw8⟩ : ∃ v, v = w7.setCell ⟨w.heap.size + 1 + 1 + 1, 8, none⟩ (.int .i64 (65535 - x)) := ⟨_, rfl⟩
    have HO28 := Lib.hid (show OutAt w8 (w.heap.size + 1 + 1 + 1) _ by rw [hw8]; exact HO27.out.set (m := 8) (by decide) (65535 - x))
    have HO18 := Lib.hid (show OutAt w8 (w.heap.size + 1 + 1) (fun _ => 0) by rw [hw8]; exact HO17.out.other (by omega))
    have HR8 := Lib.hid (show w8.heap[w.heap.size + 1]? = some (.cells #[.int .i64 x, .int .i64 y, .int .i64 z] 23 (0, 0)) by rw [hw8]; exact (Below.heap_setCell w7 _ _ _ (by simp)).trans HR7.out)
    have HG8 := Lib.hid (show Gr w w8 by rw [hw8]; exact HG7.out.set (by omega) _)
    rw [← hw8]
    clear hw8 c0 c1 c2 HO27 HO17 HR7 HG7
    rw [rounds_succ]
    have c0 : w8.cell? ⟨w.heap.size + 1, 1, none⟩ = some (.int .i64 y) := by rw [cell_of_row _ _ _ _ _ _ HR8.out]; rfl
    have c1 := HO28.out.cell (k := 9) (by decide)
    have c2 := HO28.out.fz 9
    go_wp2
    obtain ⟨w9, hw9⟩ : ∃ v, v = w8.setCell ⟨w.heap.size + 1 + 1 + 1, 9, none⟩ (.int .i64 (65535 - y)) := ⟨_, rfl⟩
    have HO29 := Lib.hid (show OutAt w9 (w.heap.size + 1 + 1 + 1) _ by rw [hw9]; exact HO28.out.set (m := 9) (by decide) (65535 - y))
    have HO19 := Lib.hid (show OutAt w9 (w.heap.size + 1 + 1) (fun _ => 0) by rw [hw9]; exact HO18.out.other (by omega))
    have HR9 := Lib.hid (show w9.heap[w.heap.size + 1]? = some (.cells #[.int .i64 x, .int .i64 y, .int .i64 z] 23 (0, 0)) by rw [hw9]; exact (Below.heap_setCell w8 _ _ _ (by simp)).trans HR8.out)
    have HG9 := Lib.hid (show Gr w w9 by rw [hw9]; exact HG8.out.set (by omega) _)
    rw [← hw9]
    clear hw9 c0 c1 c2 HO28 HO18 HR8 HG8
    rw [rounds_succ]
    have c0 : w9.cell? ⟨w.heap.size + 1, 2, none⟩ = some (.int .i64 z) := by rw [cell_of_row _ _ _ _ _ _ HR9.out]; rfl
    have c1 := HO29.out.cell (k := 10) (by decide)
    have c2 := HO29.out.fz 10
    go_wp2
    obtain ⟨w10, hw10⟩ : ∃ v, v = w9.setCell ⟨w.heap.size + 1 + 1 + 1, 10, none⟩ (.int .i64 (65535 - z)) := ⟨_, rfl⟩
    have HO210 := Lib.hid (show OutAt w10 (w.heap.size + 1 + 1 + 1) _ by rw [hw10]; exact HO29.out.set (m := 10) (by decide) (65535 - z))
    have HO110 := Lib.hid (show OutAt w10 (w.heap.size + 1 + 1) (fun _ => 0) by rw [hw10]; exact HO19.out.other (by omega))
    have HR10 := Lib.hid (show w10.heap[w.heap.size + 1]? = some (.cells #[.int .i64 x, .int .i64 y, .int .i64 z] 23 (0, 0)) by rw [hw10]; exact (Below.heap_setCell w9 _ _ _ (by simp)).trans HR9.out)
    have HG10 := Lib.hid (show Gr w w10 by rw [hw10]; exact HG9.out.set (by omega) _)
    rw [← hw10]
    clear hw10 c0 c1 c2 HO29 HO19 HR9 HG9
    rw [rounds_succ]
    have HF2 : Hid (F = fun k => (if k = 10 then 65535 - z else if k = 9 then 65535 - y else if k = 8 then 65535 - x else 0)) := Lib.hid (by funext k; rw [HFs.out]; simp only [mixSub]; repeat' split; all_goals omega)
    go_wp2_with (first | (refine wpl_loadO rfl rfl rfl HO210.out ?_) | (refine wpl_storeO rfl rfl rfl rfl HO110.out ?_))
    refine bodyPost_ret (v := .agg (outA F)) ?_ rfl ⟨rfl, HG10.out.row (by omega) _⟩
    simp [results, Try.results32, asAddr, Act.put]
    rw [run_loadO (show OutAt _ _ _ from HO110.out.row _), HF2.out]
  · have HFs : Hid (∀ k : Nat, F k = mixAdd (if b 6 = true then min3 (x, y, z) else 0) (x, y, z) k) := Lib.hid fun k => by have h := HF.out k; simp only [if_true] at h; exact h.symm
    have c6 := HP6.out.cell (k := 6) (by decide)
    clear HF
    generalize b 6 = b6 at *
    cases b6
    · obtain ⟨wv, hwv⟩ : ∃ wv : Int, wv = 0 := ⟨0, rfl⟩
      have HFw : Hid (∀ k : Nat, F k = mixAdd wv (x, y, z) k) := Lib.hid fun k => by have h := HFs.out k; simp only [Bool.false_eq_true, if_false] at h; rw [hwv]; exact h
      have w0 : 0 ≤ wv := by omega
      have w1 : wv ≤ 65535 := by omega
      have HO26' := Lib.hid (HO26.out.congr (h := fun k => if k = 6 then wv else 0) (fun k _ => by subst hwv; split <;> rfl))
      clear HFs HO26 hwv
      have HO26 := HO26'
      clear HO26'
      go_wp2_with fail
      refine (HI.out _).mono ?_; rintro e w8 ⟨rfl, hg8⟩
      obtain ⟨i0, i1, i2⟩ := idx3 (.int .i64 3) (.int .i64 4) (.int .i64 5)
      have HO18 := Lib.hid (HO16.out.gr hg8)
      have HO28 := Lib.hid (HO26.out.gr hg8)
      have HR8 := Lib.hid ((hg8.block _ (Array.getElem?_eq_some_iff.1 HR6.out).1).trans HR6.out)
      have HG8 := Lib.hid (HG6.out.trans hg8)
      clear hg8 HO16 HO26 HR6 HG6 HD HI HL
      go_wp2_with fail
      refine wp_loop_rounds 4 ?_
      rw [rounds_succ]
      have c0 : w8.cell? ⟨w.heap.size + 1, 0, none⟩ = some (.int .i64 x) := by rw [cell_of_row _ _ _ _ _ _ HR8.out]; rfl
      have c1 := HO28.out.cell (k := 3) (by decide)
      have c2 := HO28.out.fz 3
      have c6 : w8.cell? ⟨w.heap.size + 1 + 1 + 1, 6, none⟩ = some (.int .i64 wv) := HO28.out.cell (k := 6) (by decide)
      go_wp2_with fail
      go_region
      go_wp2
      obtain ⟨w9, hw9⟩ : ∃ v, v = (w8.setCell ⟨w.heap.size + 1 + 1 + 1, 3, none⟩ (.int .i64 (x - wv))).drew := ⟨_, rfl⟩
      have HO29 := Lib.hid (show OutAt w9 (w.heap.size + 1 + 1 + 1) _ by rw [hw9]; exact (HO28.out.set (m := 3) (by decide) (x - wv)).drew)
      have HO19 := Lib.hid (show OutAt w9 (w.heap.size + 1 + 1) (fun _ => 0) by rw [hw9]; exact (HO18.out.other (by omega)).drew)
      have HR9 := Lib.hid (show w9.heap[w.heap.size + 1]? = some (.cells #[.int .i64 x, .int .i64 y, .int .i64 z] 23 (0, 0)) by rw [hw9]; exact (Below.heap_setCell w8 _ _ _ (by simp)).trans HR8.out)
      have HG9 := Lib.hid (show Gr w w9 by rw [hw9]; exact (HG8.out.set (by omega) _).drew)
      rw [← hw9]
      clear hw9 c0 c1 c2 c6 HO28 HO18 HR8 HG8
      rw [rounds_succ]
      have c0 : w9.cell? ⟨w.heap.size + 1, 1, none⟩ = some (.int .i64 y) := by rw [cell_of_row _ _ _ _ _ _ HR9.out]; rfl
      have c1 := HO29.out.cell (k := 4) (by decide)
      have c2 := HO29.out.fz 4
      have c6 : w9.cell? ⟨w.heap.size + 1 + 1 + 1, 6, none⟩ = some (.int .i64 wv) := HO29.out.cell (k := 6) (by decide)
      go_wp2_with fail
      go_region
      go_wp2
      obtain ⟨w10, hw10⟩ : ∃ v, v = (w9.setCell ⟨w.heap.size + 1 + 1 + 1, 4, none⟩ (.int .i64 (y - wv))).drew := ⟨_, rfl⟩
      have HO210 := Lib.hid (show OutAt w10 (w.heap.size + 1 + 1 + 1) _ by rw [hw10]; exact (HO29.out.set (m := 4) (by decide) (y - wv)).drew)
      have HO110 := Lib.hid (show OutAt w10 (w.heap.size + 1 + 1) (fun _ => 0) by rw [hw10]; exact (HO19.out.other (by omega)).drew)
      have HR10 := Lib.hid (show w10.heap[w.heap.size + 1]? = some (.cells #[.int .i64 x, .int .i64 y, .int .i64 z] 23 (0, 0)) by rw [hw10]; exact (Below.heap_setCell w9 _ _ _ (by simp)).trans HR9.out)
      have HG10 := Lib.hid (show Gr w w10 by rw [hw10]; exact (HG9.out.set (by omega) _).drew)
      rw [← hw10]
      clear hw10 c0 c1 c2 c6 HO29 HO19 HR9 HG9
      rw [rounds_succ]
      have c0 : w10.cell? ⟨w.heap.size + 1, 2, none⟩ = some (.int .i64 z) := by rw [cell_of_row _ _ _ _ _ _ HR10.out]; rfl
      have c1 := HO210.out.cell (k := 5) (by decide)
      have c2 := HO210.out.fz 5
      have c6 : w10.cell? ⟨w.heap.size + 1 + 1 + 1, 6, none⟩ = some (.int .i64 wv) := HO210.out.cell (k := 6) (by decide)
      go_wp2_with fail
      go_region
      go_wp2
      obtain ⟨w11, hw11⟩ : ∃ v, v = (w10.setCell ⟨w.heap.size + 1 + 1 + 1, 5, none⟩ (.int .i64 (z - wv))).drew := ⟨_, rfl⟩
      have HO211 := Lib.hid (show OutAt w11 (w.heap.size + 1 + 1 + 1) _ by rw [hw11]; exact (HO210.out.set (m := 5) (by decide) (z - wv)).drew)
      have HO111 := Lib.hid (show OutAt w11 (w.heap.size + 1 + 1) (fun _ => 0) by rw [hw11]; exact (HO110.out.other (by omega)).drew)
      have HR11 := Lib.hid (show w11.heap[w.heap.size + 1]? = some (.cells #[.int .i64 x, .int .i64 y, .int .i64 z] 23 (0, 0)) by rw [hw11]; exact (Below.heap_setCell w10 _ _ _ (by simp)).trans HR10.out)
      have HG11 := Lib.hid (show Gr w w11 by rw [hw11]; exact (HG10.out.set (by omega) _).drew)
      rw [← hw11]
      clear hw11 c0 c1 c2 c6 HO210 HO110 HR10 HG10
      rw [rounds_succ]
      have HF2 : Hid (F = fun k => (if k = 5 then z - wv else if k = 4 then y - wv else if k = 3 then x - wv else if k = 6 then wv else 0)) := Lib.hid (by funext k; rw [HFw.out]; simp only [mixAdd]; repeat' split; all_goals omega)
      go_wp2_with (first | (refine wpl_loadO rfl rfl rfl HO211.out ?_) | (refine wpl_storeO rfl rfl rfl rfl HO111.out ?_))
      refine bodyPost_ret (v := .agg (outA F)) ?_ rfl ⟨rfl, HG11.out.row (by omega) _⟩
      simp [results, Try.results32, asAddr, Act.put]
      rw [run_loadO (show OutAt _ _ _ from HO111.out.row _), HF2.out]
    · obtain ⟨wv, hwv⟩ : ∃ wv : Int, min3 (x, y, z) = wv := ⟨_, rfl⟩
      have HFw : Hid (∀ k : Nat, F k = mixAdd wv (x, y, z) k) := Lib.hid fun k => by have h := HFs.out k; simp only [if_true] at h; rw [← hwv]; exact h
      have w0 : 0 ≤ wv := by rw [← hwv]; unfold min3; simp only; omega
      have w1 : wv ≤ 65535 := by rw [← hwv]; unfold min3; simp only; omega
      rw [hwv] at HL
      clear HFs hwv
      have d0 : w6.cell? ⟨w.heap.size + 1, 0, none⟩ = some (.int .i64 x) := by rw [cell_of_row _ _ _ _ _ _ HR6.out]; rfl
      have d1 : w6.cell? ⟨w.heap.size + 1, 1, none⟩ = some (.int .i64 y) := by rw [cell_of_row _ _ _ _ _ _ HR6.out]; rfl
      have d2 : w6.cell? ⟨w.heap.size + 1, 2, none⟩ = some (.int .i64 z) := by rw [cell_of_row _ _ _ _ _ _ HR6.out]; rfl
      go_wp2_with fail
      refine (HL.out _).mono ?_; rintro e w7 ⟨rfl, hg7⟩
      have HO17 := Lib.hid (HO16.out.gr hg7)
      have HO27a := Lib.hid (HO26.out.gr hg7)
      have HR7 := Lib.hid ((hg7.block _ (Array.getElem?_eq_some_iff.1 HR6.out).1).trans HR6.out)
      have HG7a := Lib.hid (HG6.out.trans hg7)
      clear hg7 HO16 HO26 HR6 HG6 c6 d0 d1 d2
      have c1 := HO27a.out.cell (k := 6) (by decide)
      have c2 := HO27a.out.fz 6
      obtain ⟨w7b, hw7b⟩ : ∃ v, v = w7.setCell ⟨w.heap.size + 1 + 1 + 1, 6, none⟩ (.int .i64 wv) := ⟨_, rfl⟩
      have HO27 := Lib.hid (show OutAt w7b (w.heap.size + 1 + 1 + 1) (fun k => if k = 6 then wv else 0) by rw [hw7b]; exact HO27a.out.set (m := 6) (by decide) wv)
      have HO17b := Lib.hid (show OutAt w7b (w.heap.size + 1 + 1) (fun _ => 0) by rw [hw7b]; exact HO17.out.other (by omega))
      have HR7b := Lib.hid (show w7b.heap[w.heap.size + 1]? = some (.cells #[.int .i64 x, .int .i64 y, .int .i64 z] 23 (0, 0)) by rw [hw7b]; exact (Below.heap_setCell w7 _ _ _ (by simp)).trans HR7.out)
      have HG7 := Lib.hid (show Gr w w7b by rw [hw7b]; exact HG7a.out.set (by omega) _)
      clear HO17 HR7 HO27a HG7a
      have HO17 := HO17b
      have HR7 := HR7b
      clear HO17b HR7b
      go_wp2_with fail
      rw [← hw7b]
      clear hw7b c1 c2
      go_wp2_with fail
      refine (HI.out _).mono ?_; rintro e w8 ⟨rfl, hg8⟩
      obtain ⟨i0, i1, i2⟩ := idx3 (.int .i64 3) (.int .i64 4) (.int .i64 5)
      have HO18 := Lib.hid (HO17.out.gr hg8)
      have HO28 := Lib.hid (HO27.out.gr hg8)
      have HR8 := Lib.hid ((hg8.block _ (Array.getElem?_eq_some_iff.1 HR7.out).1).trans HR7.out)
      have HG8 := Lib.hid (HG7.out.trans hg8)
      clear hg8 HO17 HO27 HR7 HG7 HD HI HL
      go_wp2_with fail
      refine wp_loop_rounds 4 ?_
      rw [rounds_succ]
      have c0 : w8.cell? ⟨w.heap.size + 1, 0, none⟩ = some (.int .i64 x) := by rw [cell_of_row _ _ _ _ _ _ HR8.out]; rfl
      have c1 := HO28.out.cell (k := 3) (by decide)
      have c2 := HO28.out.fz 3
      have c6 : w8.cell? ⟨w.heap.size + 1 + 1 + 1, 6, none⟩ = some (.int .i64 wv) := HO28.out.cell (k := 6) (by decide)
      go_wp2_with fail
      go_region
      go_wp2
      obtain ⟨w9, hw9⟩ : ∃ v, v = (w8.setCell ⟨w.heap.size + 1 + 1 + 1, 3, none⟩ (.int .i64 (x - wv))).drew := ⟨_, rfl⟩
      have HO29 := Lib.hid (show OutAt w9 (w.heap.size + 1 + 1 + 1) _ by rw [hw9]; exact (HO28.out.set (m := 3) (by decide) (x - wv)).drew)
      have HO19 := Lib.hid (show OutAt w9 (w.heap.size + 1 + 1) (fun _ => 0) by rw [hw9]; exact (HO18.out.other (by omega)).drew)
      have HR9 := Lib.hid (show w9.heap[w.heap.size + 1]? = some (.cells #[.int .i64 x, .int .i64 y, .int .i64 z] 23 (0, 0)) by rw [hw9]; exact (Below.heap_setCell w8 _ _ _ (by simp)).trans HR8.out)
      have HG9 := Lib.hid (show Gr w w9 by rw [hw9]; exact (HG8.out.set (by omega) _).drew)
      rw [← hw9]
      clear hw9 c0 c1 c2 c6 HO28 HO18 HR8 HG8
      rw [rounds_succ]
      have c0 : w9.cell? ⟨w.heap.size + 1, 1, none⟩ = some (.int .i64 y) := by rw [cell_of_row _ _ _ _ _ _ HR9.out]; rfl
      have c1 := HO29.out.cell (k := 4) (by decide)
      have c2 := HO29.out.fz 4
      have c6 : w9.cell? ⟨w.heap.size + 1 + 1 + 1, 6, none⟩ = some (.int .i64 wv) := HO29.out.cell (k := 6) (by decide)
      go_wp2_with fail
      go_region
      go_wp2
      obtain ⟨w10, hw10⟩ : ∃ v, v = (w9.setCell ⟨w.heap.size + 1 + 1 + 1, 4, none⟩ (.int .i64 (y - wv))).drew := ⟨_, rfl⟩
      have HO210 := Lib.hid (show OutAt w10 (w.heap.size + 1 + 1 + 1) _ by rw [hw10]; exact (HO29.out.set (m := 4) (by decide) (y - wv)).drew)
      have HO110 := Lib.hid (show OutAt w10 (w.heap.size + 1 + 1) (fun _ => 0) by rw [hw10]; exact (HO19.out.other (by omega)).drew)
      have HR10 := Lib.hid (show w10.heap[w.heap.size + 1]? = some (.cells #[.int .i64 x, .int .i64 y, .int .i64 z] 23 (0, 0)) by rw [hw10]; exact (Below.heap_setCell w9 _ _ _ (by simp)).trans HR9.out)
      have HG10 := Lib.hid (show Gr w w10 by rw [hw10]; exact (HG9.out.set (by omega) _).drew)
      rw [← hw10]
      clear hw10 c0 c1 c2 c6 HO29 HO19 HR9 HG9
      rw [rounds_succ]
      have c0 : w10.cell? ⟨w.heap.size + 1, 2, none⟩ = some (.int .i64 z) := by rw [cell_of_row _ _ _ _ _ _ HR10.out]; rfl
      have c1 := HO210.out.cell (k := 5) (by decide)
      have c2 := HO210.out.fz 5
      have c6 : w10.cell? ⟨w.heap.size + 1 + 1 + 1, 6, none⟩ = some (.int .i64 wv) := HO210.out.cell (k := 6) (by decide)
      go_wp2_with fail
      go_region
      go_wp2
      obtain ⟨w11, hw11⟩ : ∃ v, v = (w10.setCell ⟨w.heap.size + 1 + 1 + 1, 5, none⟩ (.int .i64 (z - wv))).drew := ⟨_, rfl⟩
      have HO211 := Lib.hid (show OutAt w11 (w.heap.size + 1 + 1 + 1) _ by rw [hw11]; exact (HO210.out.set (m := 5) (by decide) (z - wv)).drew)
      have HO111 := Lib.hid (show OutAt w11 (w.heap.size + 1 + 1) (fun _ => 0) by rw [hw11]; exact (HO110.out.other (by omega)).drew)
      have HR11 := Lib.hid (show w11.heap[w.heap.size + 1]? = some (.cells #[.int .i64 x, .int .i64 y, .int .i64 z] 23 (0, 0)) by rw [hw11]; exact (Below.heap_setCell w10 _ _ _ (by simp)).trans HR10.out)
      have HG11 := Lib.hid (show Gr w w11 by rw [hw11]; exact (HG10.out.set (by omega) _).drew)
      rw [← hw11]
      clear hw11 c0 c1 c2 c6 HO210 HO110 HR10 HG10
      rw [rounds_succ]
      have HF2 : Hid (F = fun k => (if k = 5 then z - wv else if k = 4 then y - wv else if k = 3 then x - wv else if k = 6 then wv else 0)) := Lib.hid (by funext k; rw [HFw.out]; simp only [mixAdd]; repeat' split; all_goals omega)
      go_wp2_with (first | (refine wpl_loadO rfl rfl rfl HO211.out ?_) | (refine wpl_storeO rfl rfl rfl rfl HO111.out ?_))
      refine bodyPost_ret (v := .agg (outA F)) ?_ rfl ⟨rfl, HG11.out.row (by omega) _⟩
      simp [results, Try.results32, asAddr, Act.put]
      rw [run_loadO (show OutAt _ _ _ from HO111.out.row _), HF2.out]
end Go.Proofs.Ytipfofdjngnkpaa
