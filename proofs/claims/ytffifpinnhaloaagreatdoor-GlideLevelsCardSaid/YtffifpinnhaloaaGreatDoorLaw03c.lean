/- Laws of layer 3: GlideGoes, GlideLevels. -/
import Derived.Test.YtffifpinnhaloaaGreatDoorLaw03b
set_option linter.unusedVariables false
set_option linter.unusedSimpArgs false
namespace Go.Proofs.YtffifpinnhaloaaGreatDoor
open Go.RowKit Go.Shelf Go.Deep
open Z

theorem T3At.new (w : World) (t y d : Int) (e : TypeId) : T3At (w.alloc (.cells #[.int .i64 t, .int .i64 y, .int .i64 d] e)) w.heap.size 0 (t, y, d) := ⟨by simp, by simp, by simp⟩
section
variable {w0 : World} (htab : Tab w0) (hmx : Mx w0) (herr : ErrR w0)
include htab hmx herr
set_option maxHeartbeats 4000000 in
set_option maxRecDepth 100000 in
theorem l3_GlideGoes {g : Gl} (hs : g.f.size ≤ maxLen) (hg : g.isG) {q : T3} (hq : isT q) : Ret w0 4 #[vG4 g, vT3 q] (.bool true) := by
  have AW := Lib.hid (RetG.of4 (w0 := w0) fun w1 h => l3_awake (htab_gr htab h) (hmx.gr h) (herr.gr h))
  obtain ⟨f, x, st, ti⟩ := g
  obtain ⟨t, y, d⟩ := q
  obtain ⟨hx, hst, hti⟩ := hg
  obtain ⟨ht, hy, hd⟩ := hq
  simp only [Gl.f, Gl.x, Gl.st, Gl.ti] at hs hx hst hti
  simp only at ht hy hd
  by_cases h3 : 300 < f.size
  · clear htab hmx herr
    intro w hg
    have HB := Lib.hid ((Box4.new w f x st ti 24).gr ((Gr.refl _).alloc (.cells #[.int .i64 t, .int .i64 y, .int .i64 d] 40)))
    have HG := Lib.hid ((hg.alloc (oGl f x st ti)).alloc (.cells #[.int .i64 t, .int .i64 y, .int .i64 d] 40))
    clear hg
    obtain ⟨k0, k1, k2, k3⟩ := id HB.out
    go_enter Tryz.func4, Tryz.ntmps4
    go_wp2_with fail
    refine (AW.out _ HG.out).mono ?_
    rintro e w1 ⟨rfl, hg1⟩
    have HG1 := Lib.hid (Gr.trans HG.out hg1)
    clear hg1 HG HB k0 k1 k2 k3
    go_wp2
    go_ret
    exact ⟨rfl, HG1.out⟩
  · have C1 := RetG.of4 (w0 := w0) fun w1 h => ret_GGo (htab_gr htab h) (hmx.gr h) (herr.gr h) (s := f) (by omega) (x := x) (st := st) (ti := ti) (y := y) (d := d) ht
    have C2 := RetG.of4 (w0 := w0) fun w1 _ => ret3_Go (w0 := w1) (s := f) (by omega) hx hst hti ht hy hd
    clear htab hmx herr
    generalize goE f x st ti t y d = r at *
    obtain ⟨⟨m, a, b, c⟩, e⟩ := r
    unfold vGI at C1 C2
    have C1 := Lib.hid C1
    have C2 := Lib.hid C2
    have hbeq := ba_beq (s := m) rfl
    intro w hg
    have HB := Lib.hid ((Box4.new w f x st ti 24).gr ((Gr.refl _).alloc (.cells #[.int .i64 t, .int .i64 y, .int .i64 d] 40)))
    have HT : Hid (T3At ((w.alloc (oGl f x st ti)).alloc (.cells #[.int .i64 t, .int .i64 y, .int .i64 d] 40)) (w.heap.size + 1) 0 (t, y, d)) := Lib.hid (by have := T3At.new (w.alloc (oGl f x st ti)) t y d 40; rwa [World.size_alloc] at this)
    have HG := Lib.hid ((hg.alloc (oGl f x st ti)).alloc (.cells #[.int .i64 t, .int .i64 y, .int .i64 d] 40))
    clear hg
    obtain ⟨k0, k1, k2, k3⟩ := id HB.out
    obtain ⟨j0, j1, j2⟩ := id HT.out
    simp only at j0 j1 j2
    go_enter Tryz.func4, Tryz.ntmps4
    go_wp2_with fail
    refine (C1.out _ HG.out).mono ?_
    rintro e1 w1 ⟨rfl, hg1⟩
    have hg1' := Gr.trans hg1 ((Gr.refl w1).alloc (oGl m a b c))
    have HB1 := Lib.hid (HB.out.gr hg1')
    have HT1 := Lib.hid (HT.out.gr hg1')
    have HG1 := Lib.hid (Gr.trans HG.out hg1')
    have H5 := Lib.hid (Box4.new w1 m a b c 24)
    clear hg1 hg1' HB HT HG k0 k1 k2 k3 j0 j1 j2
    obtain ⟨k0, k1, k2, k3⟩ := id HB1.out
    obtain ⟨j0, j1, j2⟩ := id HT1.out
    simp only at j0 j1 j2
    go_wp2_with fail
    refine (C2.out _ HG1.out).mono ?_
    rintro e1 w2 ⟨rfl, hg2⟩
    have hg2' := Gr.trans hg2 ((Gr.refl w2).alloc (oGl m a b c))
    have H52 := Lib.hid (H5.out.gr hg2')
    have HG2 := Lib.hid (Gr.trans HG1.out hg2')
    have H7 := Lib.hid (Box4.new w2 m a b c 24)
    clear hg2 hg2' HB1 HT1 HG1 H5 k0 k1 k2 k3 j0 j1 j2
    go_wp2_with fail
    refine (AW.out _ HG2.out).mono ?_
    rintro e1 w3 ⟨rfl, hg3⟩
    obtain ⟨k0, k1, k2, k3⟩ := H52.out.gr hg3
    obtain ⟨j0, j1, j2, j3⟩ := H7.out.gr hg3
    have HG3 := Lib.hid (Gr.trans HG2.out hg3)
    clear hg3 HG2 H52 H7
    go_wp2
    go_ret
    exact ⟨rfl, HG3.out⟩
set_option maxHeartbeats 4000000 in
set_option maxRecDepth 100000 in
theorem l3_GlideLevels {g : Gl} (hs : g.f.size ≤ maxLen) (hg : g.isG) {t : Int} (ht : isJ t) : Ret w0 3 #[vG4 g, .int .i64 t] (.bool true) := by
  have AW := Lib.hid (RetG.of4 (w0 := w0) fun w1 h => l3_awake (htab_gr htab h) (hmx.gr h) (herr.gr h))
  obtain ⟨f, x, st, ti⟩ := g
  obtain ⟨hx, hst, hti⟩ := hg
  simp only [Gl.f, Gl.x, Gl.st, Gl.ti] at hs hx hst hti
  by_cases h3 : 300 < f.size
  · clear htab hmx herr
    intro w hg
    have HB := Lib.hid (Box4.new w f x st ti 24)
    have HG := Lib.hid (hg.alloc (oGl f x st ti))
    clear hg
    obtain ⟨k0, k1, k2, k3⟩ := id HB.out
    go_enter Tryz.func3, Tryz.ntmps3
    go_wp2_with fail
    refine (AW.out _ HG.out).mono ?_
    rintro e w1 ⟨rfl, hg1⟩
    have HG1 := Lib.hid (Gr.trans HG.out hg1)
    clear hg1 HG HB k0 k1 k2 k3
    go_wp2
    go_ret
    exact ⟨rfl, HG1.out⟩
  · have C1 := RetG.of4 (w0 := w0) fun w1 h => ret_GAt (htab_gr htab h) (hmx.gr h) (herr.gr h) (s := f) (by omega) (x := x) (st := st) (ti := ti) ht
    have C2 := RetG.of4 (w0 := w0) fun w1 _ => ret3_At (w0 := w1) (s := f) (by omega) hx hst hti ht
    have C3 := RetG.of4 (w0 := w0) fun w1 h => ret_GDone (htab_gr htab h) (hmx.gr h) (herr.gr h) (s := f) (by omega) (x := x) (st := st) (ti := ti) ht
    have C4 := RetG.of4 (w0 := w0) fun w1 _ => ret3_Done (w0 := w1) (s := f) (by omega) hx hst hti ht
    have C5 := Lib.hid (RetG.of4 (w0 := w0) fun w1 h => ret_GCheck (htab_gr htab h) (hmx.gr h) (herr.gr h) (s := f) (by omega) x st ti)
    have C6 := Lib.hid (RetG.of4 (w0 := w0) fun w1 _ => ret3_Check (w0 := w1) (s := f) (by omega) hx hst hti)
    have C7 := Lib.hid (RetG.of4 (w0 := w0) fun w1 h => ret_GFull (htab_gr htab h))
    have C8 := Lib.hid (RetG.of4 (w0 := w0) fun w1 _ => ret3_Full (w0 := w1))
    have C9 := Lib.hid (RetG.of4 (w0 := w0) fun w1 h => ret_GZero (htab_gr htab h))
    have CA := Lib.hid (RetG.of4 (w0 := w0) fun w1 _ => ret3_Zero (w0 := w1))
    clear htab hmx herr
    generalize atE f x st ti t = r at *
    obtain ⟨v, e⟩ := r
    generalize doneE f x st ti t = r2 at *
    obtain ⟨bd, i⟩ := r2
    unfold vSI at C1 C2
    unfold vBI at C3 C4
    have C1 := Lib.hid C1
    have C2 := Lib.hid C2
    have C3 := Lib.hid C3
    have C4 := Lib.hid C4
    generalize glE f x st ti = c at *
    generalize Tx 65535 = tf at *
    have hbeq := ba_beq (s := v) rfl
    have hbeq2 := ba_beq (s := tf) rfl
    intro w hg
    have HB := Lib.hid (Box4.new w f x st ti 24)
    have HG := Lib.hid (hg.alloc (oGl f x st ti))
    clear hg
    obtain ⟨k0, k1, k2, k3⟩ := id HB.out
    go_enter Tryz.func3, Tryz.ntmps3
    go_wp2_with fail
    refine (C1.out _ HG.out).mono ?_
    rintro e1 w2 ⟨rfl, hg⟩
    have hB := HB.out.gr hg
    replace HG := Lib.hid (Gr.trans HG.out hg)
    clear hg HB k0 k1 k2 k3
    have HB := Lib.hid hB
    obtain ⟨k0, k1, k2, k3⟩ := hB
    go_wp2_with fail
    refine (C2.out _ HG.out).mono ?_
    rintro e1 w3 ⟨rfl, hg⟩
    have hB := HB.out.gr hg
    replace HG := Lib.hid (Gr.trans HG.out hg)
    clear hg HB k0 k1 k2 k3
    have HB := Lib.hid hB
    obtain ⟨k0, k1, k2, k3⟩ := hB
    go_wp2_with fail
    refine (C3.out _ HG.out).mono ?_
    rintro e1 w4 ⟨rfl, hg⟩
    have hB := HB.out.gr hg
    replace HG := Lib.hid (Gr.trans HG.out hg)
    clear hg HB k0 k1 k2 k3
    have HB := Lib.hid hB
    obtain ⟨k0, k1, k2, k3⟩ := hB
    go_wp2_with fail
    refine (C4.out _ HG.out).mono ?_
    rintro e1 w5 ⟨rfl, hg⟩
    have hB := HB.out.gr hg
    replace HG := Lib.hid (Gr.trans HG.out hg)
    clear hg HB k0 k1 k2 k3
    have HB := Lib.hid hB
    obtain ⟨k0, k1, k2, k3⟩ := hB
    go_wp2_with fail
    have gd : Gr w0 w5.drew := HG.out.drew
    go_region_held3 (fun w' => w'.cell? ⟨w.heap.size, 0, none⟩ = some (.string f) ∧ w'.cell? ⟨w.heap.size, 1, none⟩ = some (.int .i64 x) ∧ w'.cell? ⟨w.heap.size, 2, none⟩ = some (.int .i64 st) ∧ w'.cell? ⟨w.heap.size, 3, none⟩ = some (.int .i64 ti)) (go_keep) (first
      | (go_at_call 13; refine (AW.out _ (by assumption)).mono ?_; rintro e1 y1 ⟨rfl, hy1⟩; have gy1 : Gr w0 y1 := Gr.trans (by assumption) hy1; have d0 : y1.cell? ⟨w.heap.size, 0, none⟩ = some (.string f) := gr_cell hy1 (by assumption); have d1 : y1.cell? ⟨w.heap.size, 1, none⟩ = some (.int .i64 x) := gr_cell hy1 (by assumption); have d2 : y1.cell? ⟨w.heap.size, 2, none⟩ = some (.int .i64 st) := gr_cell hy1 (by assumption); have d3 : y1.cell? ⟨w.heap.size, 3, none⟩ = some (.int .i64 ti) := gr_cell hy1 (by assumption))
      | (go_at_call 18; refine (C5.out _ (by assumption)).mono ?_; rintro e1 y2 ⟨rfl, hy2⟩; have gy2 : Gr w0 y2 := Gr.trans (by assumption) hy2; have d0 : y2.cell? ⟨w.heap.size, 0, none⟩ = some (.string f) := gr_cell hy2 (by assumption); have d1 : y2.cell? ⟨w.heap.size, 1, none⟩ = some (.int .i64 x) := gr_cell hy2 (by assumption); have d2 : y2.cell? ⟨w.heap.size, 2, none⟩ = some (.int .i64 st) := gr_cell hy2 (by assumption); have d3 : y2.cell? ⟨w.heap.size, 3, none⟩ = some (.int .i64 ti) := gr_cell hy2 (by assumption))
      | (go_at_call 19; refine (C6.out _ (by assumption)).mono ?_; rintro e1 y3 ⟨rfl, hy3⟩; have gy3 : Gr w0 y3 := Gr.trans (by assumption) hy3; have d0 : y3.cell? ⟨w.heap.size, 0, none⟩ = some (.string f) := gr_cell hy3 (by assumption); have d1 : y3.cell? ⟨w.heap.size, 1, none⟩ = some (.int .i64 x) := gr_cell hy3 (by assumption); have d2 : y3.cell? ⟨w.heap.size, 2, none⟩ = some (.int .i64 st) := gr_cell hy3 (by assumption); have d3 : y3.cell? ⟨w.heap.size, 3, none⟩ = some (.int .i64 ti) := gr_cell hy3 (by assumption))
      | (go_at_call 20; refine (C7.out _ (by assumption)).mono ?_; rintro e1 y4 ⟨rfl, hy4⟩; have gy4 : Gr w0 y4 := Gr.trans (by assumption) hy4; have d0 : y4.cell? ⟨w.heap.size, 0, none⟩ = some (.string f) := gr_cell hy4 (by assumption); have d1 : y4.cell? ⟨w.heap.size, 1, none⟩ = some (.int .i64 x) := gr_cell hy4 (by assumption); have d2 : y4.cell? ⟨w.heap.size, 2, none⟩ = some (.int .i64 st) := gr_cell hy4 (by assumption); have d3 : y4.cell? ⟨w.heap.size, 3, none⟩ = some (.int .i64 ti) := gr_cell hy4 (by assumption))
      | (go_at_call 21; refine (C8.out _ (by assumption)).mono ?_; rintro e1 y5 ⟨rfl, hy5⟩; have gy5 : Gr w0 y5 := Gr.trans (by assumption) hy5; have d0 : y5.cell? ⟨w.heap.size, 0, none⟩ = some (.string f) := gr_cell hy5 (by assumption); have d1 : y5.cell? ⟨w.heap.size, 1, none⟩ = some (.int .i64 x) := gr_cell hy5 (by assumption); have d2 : y5.cell? ⟨w.heap.size, 2, none⟩ = some (.int .i64 st) := gr_cell hy5 (by assumption); have d3 : y5.cell? ⟨w.heap.size, 3, none⟩ = some (.int .i64 ti) := gr_cell hy5 (by assumption))
      | (go_at_call 22; refine (C9.out _ (by assumption)).mono ?_; rintro e1 y6 ⟨rfl, hy6⟩; have gy6 : Gr w0 y6 := Gr.trans (by assumption) hy6; have d0 : y6.cell? ⟨w.heap.size, 0, none⟩ = some (.string f) := gr_cell hy6 (by assumption); have d1 : y6.cell? ⟨w.heap.size, 1, none⟩ = some (.int .i64 x) := gr_cell hy6 (by assumption); have d2 : y6.cell? ⟨w.heap.size, 2, none⟩ = some (.int .i64 st) := gr_cell hy6 (by assumption); have d3 : y6.cell? ⟨w.heap.size, 3, none⟩ = some (.int .i64 ti) := gr_cell hy6 (by assumption))
      | (go_at_call 23; refine (CA.out _ (by assumption)).mono ?_; rintro e1 y7 ⟨rfl, hy7⟩; have gy7 : Gr w0 y7 := Gr.trans (by assumption) hy7; have d0 : y7.cell? ⟨w.heap.size, 0, none⟩ = some (.string f) := gr_cell hy7 (by assumption); have d1 : y7.cell? ⟨w.heap.size, 1, none⟩ = some (.int .i64 x) := gr_cell hy7 (by assumption); have d2 : y7.cell? ⟨w.heap.size, 2, none⟩ = some (.int .i64 st) := gr_cell hy7 (by assumption); have d3 : y7.cell? ⟨w.heap.size, 3, none⟩ = some (.int .i64 ti) := gr_cell hy7 (by assumption)))
    go_wp2
    go_ret
    exact ⟨rfl, by assumption⟩
end
end Go.Proofs.YtffifpinnhaloaaGreatDoor
