/- The law GlideOvertakes. -/
import Derived.Test.YtffifpinnhaloaaGreatDoorLaw03b
set_option linter.unusedVariables false
set_option linter.unusedSimpArgs false
namespace Go.Proofs.YtffifpinnhaloaaGreatDoor
open Go.RowKit Go.Shelf Go.Deep
open Z

theorem T3At.new' (w : World) (t y d : Int) (e : TypeId) : T3At (w.alloc (.cells #[.int .i64 t, .int .i64 y, .int .i64 d] e)) w.heap.size 0 (t, y, d) := ⟨by simp, by simp, by simp⟩
theorem atE_gl {g : Gl} (h : g.err = 0) (u : Int) : atE g.f g.x g.st g.ti u = (g.at u, 0) := by
  unfold atE
  rw [if_pos (show glE g.f g.x g.st g.ti = 0 from h)]
  rfl
theorem valE_two {g h : Gl} (hc : chainE [g, h] = 0) (t : Int) : valE [g, h] t = (if h.st ≤ t then h.at t else g.at t, 0) := by
  unfold valE
  rw [if_pos hc, if_neg (by simp)]
  show (valL [g, h] t, (0 : Int)) = _
  unfold valL
  rfl
theorem over_ok {g : Gl} (hs : g.f.size ≤ 120) (he : g.err = 0) {t0 y d : Int} (h1 : okL (t0, 10000000) = true) (h2 : okL (y, 65535) = true) (h3 : okL (d, 10000000) = true) (hge : g.st ≤ t0) :
    goE g.f g.x g.st g.ti t0 y d = ((g.at t0, y, t0, d), 0) ∧ Gl.err (g.at t0, y, t0, d) = 0 ∧ chainE [g, (g.at t0, y, t0, d)] = 0 ∧ (g.at t0).size ≤ 1000 ∧ (0 < d → Gl.at (g.at t0, y, t0, d) t0 = g.at t0) := by
  obtain ⟨a, e1, e2, e3, lq, x0, x1, st0, st1, ti0, ti1⟩ := Gl.err_zero he (by omega)
  have htg : tgE y t0 d = 0 := by unfold tgE; rw [h1, h2, h3]; rfl
  have sh := (sh_ofG (t := t0) e3 x0 x1 st0 st1 ti0 ti1).mono (show _ ≤ 260 by omega)
  have hat : g.at t0 = RT (ofG a g.x g.st g.ti t0) := by show RT (ofG (rv g.f) g.x g.st g.ti t0) = _; rw [e2]
  have herr : Gl.err (g.at t0, y, t0, d) = 0 := by
    show glE (g.at t0) y t0 d = 0
    unfold glE
    rw [hat, compE_RT (sh.inR (by omega)), if_pos (ofG_lvl lq x0 x1 ti0), if_pos rfl, htg]
  refine ⟨?_, herr, chainE_snoc (l := []) (p := g) (g := (g.at t0, y, t0, d)) (chainE_one he) (by simp) herr hge rfl, by rw [hat]; have := RT_size sh; omega, fun hd => ?_⟩
  · unfold goE
    rw [if_pos (show glE g.f g.x g.st g.ti = 0 from he), if_pos htg]
    rfl
  · show RT (ofG (rv (g.at t0)) y t0 d t0) = g.at t0
    unfold ofG
    rw [if_neg (by omega), if_pos (Int.le_refl _), hat, rv_RT]
section
variable {w0 : World} (htab : Tab w0) (hmx : Mx w0) (herr : ErrR w0)
include htab hmx herr
theorem two_Chain {g h : Gl} (hc : chainE [g, h] = 0) (h1 : g.f.size ≤ 1400) (h2 : h.f.size ≤ 1400) (hg : g.isG) (hh : h.isG) (w : World) (hw : Gr w0 w) : Calls Tryz.prog 31 #[.slice (some ⟨w.heap.size, 0, none⟩) 2 2] (w.alloc (.cells #[.string g.f, .int .i64 g.x, .int .i64 g.st, .int .i64 g.ti, .string h.f, .int .i64 h.x, .int .i64 h.st, .int .i64 h.ti] 24)) (fun e w' => e = .returned (.int .i64 0) ∧ Gr w w') := by
  have hgr := hw.alloc (.cells #[.string g.f, .int .i64 g.x, .int .i64 g.st, .int .i64 g.ti, .string h.f, .int .i64 h.x, .int .i64 h.st, .int .i64 h.ti] 24)
  have := (ret_GChain (htab_gr htab hgr) (hmx.gr hgr) (herr.gr hgr) (l := [g, h]) (cap := 2) (rdG_two w g h 24) (by intro z hz; simp only [List.mem_cons, List.not_mem_nil, or_false] at hz; rcases hz with rfl | rfl; exact hg; exact hh) (.inr (by intro z hz; simp only [List.mem_cons, List.not_mem_nil, or_false] at hz; rcases hz with rfl | rfl; exact h1; exact h2)) (by unfold maxLen; simp) _ (Gr.refl _))
  rw [hc] at this
  refine this.mono ?_
  rintro e w' ⟨rfl, hx⟩
  exact ⟨rfl, Gr.trans ((Gr.refl w).alloc _) hx⟩
theorem two_Value {g h : Gl} (hc : chainE [g, h] = 0) (h1 : g.f.size ≤ 1400) (h2 : h.f.size ≤ 1400) (hg : g.isG) (hh : h.isG) {t : Int} (ht : isJ t) (w : World) (hw : Gr w0 w) : Calls Tryz.prog 27 #[.slice (some ⟨w.heap.size, 0, none⟩) 2 2, .int .i64 t] (w.alloc (.cells #[.string g.f, .int .i64 g.x, .int .i64 g.st, .int .i64 g.ti, .string h.f, .int .i64 h.x, .int .i64 h.st, .int .i64 h.ti] 24)) (fun e w' => e = .returned (.tuple #[.string (if h.st ≤ t then h.at t else g.at t), .int .i64 0]) ∧ Gr w w') := by
  have hgr := hw.alloc (.cells #[.string g.f, .int .i64 g.x, .int .i64 g.st, .int .i64 g.ti, .string h.f, .int .i64 h.x, .int .i64 h.st, .int .i64 h.ti] 24)
  have := (ret_GValue (htab_gr htab hgr) (hmx.gr hgr) (herr.gr hgr) (l := [g, h]) (cap := 2) (t := t) (rdG_two w g h 24) (by intro z hz; simp only [List.mem_cons, List.not_mem_nil, or_false] at hz; rcases hz with rfl | rfl; exact hg; exact hh) (.inr (by intro z hz; simp only [List.mem_cons, List.not_mem_nil, or_false] at hz; rcases hz with rfl | rfl; exact h1; exact h2)) (by simp) (by decide) ht _ (Gr.refl _))
  rw [valE_two hc] at this
  refine this.mono ?_
  rintro e w' ⟨rfl, hx⟩
  exact ⟨rfl, Gr.trans ((Gr.refl w).alloc _) hx⟩
set_option maxHeartbeats 4000000 in
set_option maxRecDepth 100000 in
theorem l3_GlideOvertakes {g : Gl} (hs : g.f.size ≤ maxLen) (hg : g.isG) {q : T3} (hq : isT q) {t : Int} (ht : isJ t) : Ret w0 8 #[vG4 g, vT3 q, .int .i64 t] (.bool true) := by
  have AW := Lib.hid (RetG.of4 (w0 := w0) fun w1 h => l3_awake (htab_gr htab h) (hmx.gr h) (herr.gr h))
  obtain ⟨f, x, st, ti⟩ := g
  obtain ⟨t0, y, d⟩ := q
  have hgG := hg
  obtain ⟨hx, hst, hti⟩ := hg
  obtain ⟨ht0, hy, hd⟩ := hq
  simp only [Gl.f, Gl.x, Gl.st, Gl.ti] at hs hx hst hti
  simp only at ht0 hy hd
  have F := Lib.hid (fun w => few_new1 (w := w) (g := (f, x, st, ti)) 24 hs)
  simp only [Gl.f, Gl.x, Gl.st, Gl.ti] at F
  have T1 := Lib.hid (retG_same (w0 := w0) fun w => r3_Time t0 w ht0)
  have T2 := Lib.hid (retG_same (w0 := w0) fun w => r3_Whole y w hy)
  have T3 := Lib.hid (retG_same (w0 := w0) fun w => r3_Time d w hd)
  by_cases h12 : f.size ≤ 120
  · rw [decide_eq_true h12] at F
    have K := RetG.of4 (w0 := w0) fun w1 _ => ret3_Check (w0 := w1) (s := f) (by omega) hx hst hti
    by_cases he : glE f x st ti = 0
    · rw [he] at K
      have K := Lib.hid K
      obtain ⟨t00, t01⟩ := id ht0
      obtain ⟨s00, s01⟩ := id hst
      obtain ⟨d00, d01⟩ := id hd
      obtain ⟨tt0, tt1⟩ := id ht
      by_cases o1 : okL (t0, 10000000) = true
      · by_cases o2 : okL (y, 65535) = true
        · by_cases o3 : okL (d, 10000000) = true
          · by_cases hlt : t0 < st
            · rw [o1] at T1; rw [o2] at T2; rw [o3] at T3
              clear htab hmx herr he h12 o1 o2 o3
              intro w hg
              have HB := Lib.hid ((Box4.new w f x st ti 24).gr ((Gr.refl _).alloc (.cells #[.int .i64 t0, .int .i64 y, .int .i64 d] 40)))
              have HT : Hid (T3At ((w.alloc (oGl f x st ti)).alloc (.cells #[.int .i64 t0, .int .i64 y, .int .i64 d] 40)) (w.heap.size + 1) 0 (t0, y, d)) := Lib.hid (by have := T3At.new' (w.alloc (oGl f x st ti)) t0 y d 40; rwa [World.size_alloc] at this)
              have HG := Lib.hid ((hg.alloc (oGl f x st ti)).alloc (.cells #[.int .i64 t0, .int .i64 y, .int .i64 d] 40))
              clear hg
              obtain ⟨k0, k1, k2, k3⟩ := id HB.out
              obtain ⟨j0, j1, j2⟩ := id HT.out
              simp only at j0 j1 j2
              go_enter Tryz.func8, Tryz.ntmps8
              have F2 := F.out ((w.alloc (oGl f x st ti)).alloc (.cells #[.int .i64 t0, .int .i64 y, .int .i64 d] 40))
              simp only [World.size_alloc] at F2
              have F2 := Lib.hid F2
              go_wp2_with fail
              refine F2.out.mono ?_
              clear F2
              rintro e w1 ⟨rfl, hg⟩
              have hB := HB.out.gr hg
              have hT := HT.out.gr hg
              replace HG := Lib.hid (Gr.trans HG.out hg)
              clear hg HB HT k0 k1 k2 k3 j0 j1 j2
              have HB := Lib.hid hB
              have HT := Lib.hid hT
              obtain ⟨k0, k1, k2, k3⟩ := hB
              obtain ⟨j0, j1, j2⟩ := hT
              simp only at j0 j1 j2
              go_wp2_with fail
              refine (K.out _ HG.out).mono ?_
              rintro e w1 ⟨rfl, hg⟩
              have hB := HB.out.gr hg
              have hT := HT.out.gr hg
              replace HG := Lib.hid (Gr.trans HG.out hg)
              clear hg HB HT k0 k1 k2 k3 j0 j1 j2
              have HB := Lib.hid hB
              have HT := Lib.hid hT
              obtain ⟨k0, k1, k2, k3⟩ := hB
              obtain ⟨j0, j1, j2⟩ := hT
              simp only at j0 j1 j2
              go_wp2_with fail
              refine (T1.out _ HG.out).mono ?_
              rintro e w1 ⟨rfl, hg⟩
              have hB := HB.out.gr hg
              have hT := HT.out.gr hg
              replace HG := Lib.hid (Gr.trans HG.out hg)
              clear hg HB HT k0 k1 k2 k3 j0 j1 j2
              have HB := Lib.hid hB
              have HT := Lib.hid hT
              obtain ⟨k0, k1, k2, k3⟩ := hB
              obtain ⟨j0, j1, j2⟩ := hT
              simp only at j0 j1 j2
              go_wp2_with fail
              refine (T2.out _ HG.out).mono ?_
              rintro e w1 ⟨rfl, hg⟩
              have hB := HB.out.gr hg
              have hT := HT.out.gr hg
              replace HG := Lib.hid (Gr.trans HG.out hg)
              clear hg HB HT k0 k1 k2 k3 j0 j1 j2
              have HB := Lib.hid hB
              have HT := Lib.hid hT
              obtain ⟨k0, k1, k2, k3⟩ := hB
              obtain ⟨j0, j1, j2⟩ := hT
              simp only at j0 j1 j2
              go_wp2_with fail
              refine (T3.out _ HG.out).mono ?_
              rintro e w1 ⟨rfl, hg⟩
              have hB := HB.out.gr hg
              have hT := HT.out.gr hg
              replace HG := Lib.hid (Gr.trans HG.out hg)
              clear hg HB HT k0 k1 k2 k3 j0 j1 j2
              have HB := Lib.hid hB
              have HT := Lib.hid hT
              obtain ⟨k0, k1, k2, k3⟩ := hB
              obtain ⟨j0, j1, j2⟩ := hT
              simp only at j0 j1 j2
              go_wp2_with fail
              refine (AW.out _ HG.out).mono ?_
              rintro e w1 ⟨rfl, hg⟩
              have HGz := Lib.hid (Gr.trans HG.out hg)
              clear hg HB HT k0 k1 k2 k3 j0 j1 j2
              go_wp2
              go_ret
              exact ⟨rfl, HGz.out⟩
            · obtain ⟨g1, g2, g3, g4, g5⟩ := over_ok (g := (f, x, st, ti)) h12 he o1 o2 o3 (by show st ≤ t0; omega)
              have hhG : Gl.isG (Gl.at (f, x, st, ti) t0, y, t0, d) := ⟨hy, ht0, hd⟩
              have GO := (RetG.of4 (w0 := w0) fun w1 h => ret_GGo (htab_gr htab h) (hmx.gr h) (herr.gr h) (s := f) (by omega) (x := x) (st := st) (ti := ti) (y := y) (d := d) ht0).cast (show vGI _ = .tuple #[vGl (Gl.at (f, x, st, ti) t0) y t0 d, .int .i64 0] by rw [show goE f x st ti t0 y d = _ from g1]; rfl)
              have A1 := RetG.of4 (w0 := w0) fun w1 h => (ret_GAt (htab_gr htab h) (hmx.gr h) (herr.gr h) (s := f) (by omega) (x := x) (st := st) (ti := ti) ht0).si (atE_gl (g := (f, x, st, ti)) he t0)
              have A2 := RetG.of4 (w0 := w0) fun w1 h => (ret_GAt (htab_gr htab h) (hmx.gr h) (herr.gr h) (s := Gl.at (f, x, st, ti) t0) (by omega) (x := y) (st := t0) (ti := d) ht0).si (atE_gl (g := (Gl.at (f, x, st, ti) t0, y, t0, d)) g2 t0)
              have A3 := RetG.of4 (w0 := w0) fun w1 h => (ret_GAt (htab_gr htab h) (hmx.gr h) (herr.gr h) (s := f) (by omega) (x := x) (st := st) (ti := ti) ht).si (atE_gl (g := (f, x, st, ti)) he t)
              have A4 := RetG.of4 (w0 := w0) fun w1 h => (ret_GAt (htab_gr htab h) (hmx.gr h) (herr.gr h) (s := Gl.at (f, x, st, ti) t0) (by omega) (x := y) (st := t0) (ti := d) ht).si (atE_gl (g := (Gl.at (f, x, st, ti) t0, y, t0, d)) g2 t)
              have CK := RetG.of4 (w0 := w0) fun w1 h => ret_GCheck (htab_gr htab h) (hmx.gr h) (herr.gr h) (s := Gl.at (f, x, st, ti) t0) (by omega) y t0 d
              rw [show glE (Gl.at (f, x, st, ti) t0) y t0 d = 0 from g2] at CK
              have CH := two_Chain htab hmx herr g3 (by show f.size ≤ 1400; omega) (by show (Gl.at (f, x, st, ti) t0).size ≤ 1400; omega) hgG hhG
              have VA := two_Value htab hmx herr g3 (by show f.size ≤ 1400; omega) (by show (Gl.at (f, x, st, ti) t0).size ≤ 1400; omega) hgG hhG ht
              simp only [Gl.f, Gl.x, Gl.st, Gl.ti] at CH VA
              rw [o1] at T1; rw [o2] at T2; rw [o3] at T3
              generalize Gl.at (Gl.at (f, x, st, ti) t0, y, t0, d) t0 = u at *
              generalize Gl.at (Gl.at (f, x, st, ti) t0, y, t0, d) t = v2 at *
              generalize Gl.at (f, x, st, ti) t = v1 at *
              generalize Gl.at (f, x, st, ti) t0 = m at *
              have hmeq := ba_beq (s := m) rfl
              have hv1 := ba_beq (s := v1) rfl
              have hv2 := ba_beq (s := v2) rfl
              have GO := Lib.hid GO
              have A1 := Lib.hid A1
              have A2 := Lib.hid A2
              have A3 := Lib.hid A3
              have A4 := Lib.hid A4
              have CK := Lib.hid CK
              have CH := Lib.hid CH
              clear htab hmx herr he h12 o1 o2 o3 g1 g2 g3 hgG hhG hx hy g4 ht ht0 hst hti hd
              have hdu : 0 < d → (u.toList == m.toList) = true := fun h => ba_beq (g5 h)
              clear g5
              by_cases htt : t0 ≤ t
              · simp only [if_pos htt] at VA
                have VA := Lib.hid VA
                by_cases hdp : 0 < d
                · have hum := hdu hdp
                  clear hdu
                  intro w hg
                  have HB := Lib.hid ((Box4.new w f x st ti 24).gr ((Gr.refl _).alloc (.cells #[.int .i64 t0, .int .i64 y, .int .i64 d] 40)))
                  have HT : Hid (T3At ((w.alloc (oGl f x st ti)).alloc (.cells #[.int .i64 t0, .int .i64 y, .int .i64 d] 40)) (w.heap.size + 1) 0 (t0, y, d)) := Lib.hid (by have := T3At.new' (w.alloc (oGl f x st ti)) t0 y d 40; rwa [World.size_alloc] at this)
                  have HG := Lib.hid ((hg.alloc (oGl f x st ti)).alloc (.cells #[.int .i64 t0, .int .i64 y, .int .i64 d] 40))
                  clear hg
                  obtain ⟨k0, k1, k2, k3⟩ := id HB.out
                  obtain ⟨j0, j1, j2⟩ := id HT.out
                  simp only at j0 j1 j2
                  go_enter Tryz.func8, Tryz.ntmps8
                  have F2 := F.out ((w.alloc (oGl f x st ti)).alloc (.cells #[.int .i64 t0, .int .i64 y, .int .i64 d] 40))
                  simp only [World.size_alloc] at F2
                  have F2 := Lib.hid F2
                  go_wp2_with fail
                  refine F2.out.mono ?_
                  clear F2
                  rintro e w1 ⟨rfl, hg⟩
                  have hB := HB.out.gr hg
                  have hT := HT.out.gr hg
                  replace HG := Lib.hid (Gr.trans HG.out hg)
                  clear hg HB HT k0 k1 k2 k3 j0 j1 j2
                  have HB := Lib.hid hB
                  have HT := Lib.hid hT
                  obtain ⟨k0, k1, k2, k3⟩ := hB
                  obtain ⟨j0, j1, j2⟩ := hT
                  simp only at j0 j1 j2
                  go_wp2_with fail
                  refine (K.out _ HG.out).mono ?_
                  rintro e w1 ⟨rfl, hg⟩
                  have hB := HB.out.gr hg
                  have hT := HT.out.gr hg
                  replace HG := Lib.hid (Gr.trans HG.out hg)
                  clear hg HB HT k0 k1 k2 k3 j0 j1 j2
                  have HB := Lib.hid hB
                  have HT := Lib.hid hT
                  obtain ⟨k0, k1, k2, k3⟩ := hB
                  obtain ⟨j0, j1, j2⟩ := hT
                  simp only at j0 j1 j2
                  go_wp2_with fail
                  refine (T1.out _ HG.out).mono ?_
                  rintro e w1 ⟨rfl, hg⟩
                  have hB := HB.out.gr hg
                  have hT := HT.out.gr hg
                  replace HG := Lib.hid (Gr.trans HG.out hg)
                  clear hg HB HT k0 k1 k2 k3 j0 j1 j2
                  have HB := Lib.hid hB
                  have HT := Lib.hid hT
                  obtain ⟨k0, k1, k2, k3⟩ := hB
                  obtain ⟨j0, j1, j2⟩ := hT
                  simp only at j0 j1 j2
                  go_wp2_with fail
                  refine (T2.out _ HG.out).mono ?_
                  rintro e w1 ⟨rfl, hg⟩
                  have hB := HB.out.gr hg
                  have hT := HT.out.gr hg
                  replace HG := Lib.hid (Gr.trans HG.out hg)
                  clear hg HB HT k0 k1 k2 k3 j0 j1 j2
                  have HB := Lib.hid hB
                  have HT := Lib.hid hT
                  obtain ⟨k0, k1, k2, k3⟩ := hB
                  obtain ⟨j0, j1, j2⟩ := hT
                  simp only at j0 j1 j2
                  go_wp2_with fail
                  refine (T3.out _ HG.out).mono ?_
                  rintro e w1 ⟨rfl, hg⟩
                  have hB := HB.out.gr hg
                  have hT := HT.out.gr hg
                  replace HG := Lib.hid (Gr.trans HG.out hg)
                  clear hg HB HT k0 k1 k2 k3 j0 j1 j2
                  have HB := Lib.hid hB
                  have HT := Lib.hid hT
                  obtain ⟨k0, k1, k2, k3⟩ := hB
                  obtain ⟨j0, j1, j2⟩ := hT
                  simp only at j0 j1 j2
                  go_wp2_with fail
                  refine (GO.out _ HG.out).mono ?_
                  rintro e w2 ⟨rfl, hg⟩
                  have HH := Lib.hid (Box4.new w2 m y t0 d 24)
                  replace hg := Gr.trans hg ((Gr.refl w2).alloc (oGl m y t0 d))
                  have hB := HB.out.gr hg
                  have hT := HT.out.gr hg
                  replace HG := Lib.hid (Gr.trans HG.out hg)
                  clear hg HB HT k0 k1 k2 k3 j0 j1 j2
                  have HB := Lib.hid hB
                  have HT := Lib.hid hT
                  obtain ⟨k0, k1, k2, k3⟩ := hB
                  obtain ⟨j0, j1, j2⟩ := hT
                  simp only at j0 j1 j2
                  obtain ⟨m0, m1, m2, m3⟩ := id HH.out
                  have hlA : w.heap.size + 1 < w2.heap.size + 1 := by have := cell_lt j0; simpa using this
                  have hlB : w.heap.size < w2.heap.size + 1 := by omega
                  go_wp2_with fail
                  refine (A1.out _ HG.out).mono ?_
                  rintro e w1 ⟨rfl, hg⟩
                  have hB := HB.out.gr hg
                  have hT := HT.out.gr hg
                  have hH := HH.out.gr hg
                  replace HG := Lib.hid (Gr.trans HG.out hg)
                  clear hg HB HT HH k0 k1 k2 k3 j0 j1 j2 m0 m1 m2 m3
                  have HB := Lib.hid hB
                  have HT := Lib.hid hT
                  have HH := Lib.hid hH
                  obtain ⟨k0, k1, k2, k3⟩ := hB
                  obtain ⟨j0, j1, j2⟩ := hT
                  obtain ⟨m0, m1, m2, m3⟩ := hH
                  simp only at j0 j1 j2
                  go_wp2_with fail
                  refine (A2.out _ HG.out).mono ?_
                  rintro e w1 ⟨rfl, hg⟩
                  have hB := HB.out.gr hg
                  have hT := HT.out.gr hg
                  have hH := HH.out.gr hg
                  replace HG := Lib.hid (Gr.trans HG.out hg)
                  clear hg HB HT HH k0 k1 k2 k3 j0 j1 j2 m0 m1 m2 m3
                  have HB := Lib.hid hB
                  have HT := Lib.hid hT
                  have HH := Lib.hid hH
                  obtain ⟨k0, k1, k2, k3⟩ := hB
                  obtain ⟨j0, j1, j2⟩ := hT
                  obtain ⟨m0, m1, m2, m3⟩ := hH
                  simp only at j0 j1 j2
                  go_wp2_with fail
                  refine (CK.out _ HG.out).mono ?_
                  rintro e w1 ⟨rfl, hg⟩
                  have hB := HB.out.gr hg
                  have hT := HT.out.gr hg
                  have hH := HH.out.gr hg
                  replace HG := Lib.hid (Gr.trans HG.out hg)
                  clear hg HB HT HH k0 k1 k2 k3 j0 j1 j2 m0 m1 m2 m3
                  have HB := Lib.hid hB
                  have HT := Lib.hid hT
                  have HH := Lib.hid hH
                  obtain ⟨k0, k1, k2, k3⟩ := hB
                  obtain ⟨j0, j1, j2⟩ := hT
                  obtain ⟨m0, m1, m2, m3⟩ := hH
                  simp only at j0 j1 j2
                  go_wp2_with fail
                  refine (CH.out _ HG.out).mono ?_
                  rintro e w1 ⟨rfl, hg⟩
                  have hB := HB.out.gr hg
                  have hT := HT.out.gr hg
                  have hH := HH.out.gr hg
                  replace HG := Lib.hid (Gr.trans HG.out hg)
                  clear hg HB HT HH k0 k1 k2 k3 j0 j1 j2 m0 m1 m2 m3
                  have HB := Lib.hid hB
                  have HT := Lib.hid hT
                  have HH := Lib.hid hH
                  obtain ⟨k0, k1, k2, k3⟩ := hB
                  obtain ⟨j0, j1, j2⟩ := hT
                  obtain ⟨m0, m1, m2, m3⟩ := hH
                  simp only at j0 j1 j2
                  go_wp2_with fail
                  refine (VA.out _ HG.out).mono ?_
                  rintro e w1 ⟨rfl, hg⟩
                  have hB := HB.out.gr hg
                  have hT := HT.out.gr hg
                  have hH := HH.out.gr hg
                  replace HG := Lib.hid (Gr.trans HG.out hg)
                  clear hg HB HT HH k0 k1 k2 k3 j0 j1 j2 m0 m1 m2 m3
                  have HB := Lib.hid hB
                  have HT := Lib.hid hT
                  have HH := Lib.hid hH
                  obtain ⟨k0, k1, k2, k3⟩ := hB
                  obtain ⟨j0, j1, j2⟩ := hT
                  obtain ⟨m0, m1, m2, m3⟩ := hH
                  simp only at j0 j1 j2
                  have hb14 := GB.new w1 f x st ti 24
                  obtain ⟨p0, p1, p2, p3, q0, q1, q2, q3⟩ := id hb14
                  have hlC : w2.heap.size < w1.heap.size := cell_lt m0
                  have hlD : w.heap.size < w1.heap.size := cell_lt k0
                  have hlE : w.heap.size + 1 < w1.heap.size := cell_lt j0
                  clear hb14
                  go_wp2_with fail
                  refine (A4.out _ (HG.out.alloc (oGl m y t0 d))).mono ?_
                  rintro e w9 ⟨rfl, hg⟩
                  replace HG := Lib.hid (Gr.trans (HG.out.alloc (oGl m y t0 d)) hg)
                  clear hg p0 p1 p2 p3 q0 q1 q2 q3 HB HT HH k0 k1 k2 k3 j0 j1 j2 m0 m1 m2 m3
                  go_wp2_with fail
                  refine (AW.out _ HG.out).mono ?_
                  rintro e w10 ⟨rfl, hg⟩
                  have HGz := Lib.hid (Gr.trans HG.out hg)
                  clear hg
                  go_wp2
                  go_ret
                  exact ⟨rfl, HGz.out⟩
                · clear hdu
                  intro w hg
                  have HB := Lib.hid ((Box4.new w f x st ti 24).gr ((Gr.refl _).alloc (.cells #[.int .i64 t0, .int .i64 y, .int .i64 d] 40)))
                  have HT : Hid (T3At ((w.alloc (oGl f x st ti)).alloc (.cells #[.int .i64 t0, .int .i64 y, .int .i64 d] 40)) (w.heap.size + 1) 0 (t0, y, d)) := Lib.hid (by have := T3At.new' (w.alloc (oGl f x st ti)) t0 y d 40; rwa [World.size_alloc] at this)
                  have HG := Lib.hid ((hg.alloc (oGl f x st ti)).alloc (.cells #[.int .i64 t0, .int .i64 y, .int .i64 d] 40))
                  clear hg
                  obtain ⟨k0, k1, k2, k3⟩ := id HB.out
                  obtain ⟨j0, j1, j2⟩ := id HT.out
                  simp only at j0 j1 j2
                  go_enter Tryz.func8, Tryz.ntmps8
                  have F2 := F.out ((w.alloc (oGl f x st ti)).alloc (.cells #[.int .i64 t0, .int .i64 y, .int .i64 d] 40))
                  simp only [World.size_alloc] at F2
                  have F2 := Lib.hid F2
                  go_wp2_with fail
                  refine F2.out.mono ?_
                  clear F2
                  rintro e w1 ⟨rfl, hg⟩
                  have hB := HB.out.gr hg
                  have hT := HT.out.gr hg
                  replace HG := Lib.hid (Gr.trans HG.out hg)
                  clear hg HB HT k0 k1 k2 k3 j0 j1 j2
                  have HB := Lib.hid hB
                  have HT := Lib.hid hT
                  obtain ⟨k0, k1, k2, k3⟩ := hB
                  obtain ⟨j0, j1, j2⟩ := hT
                  simp only at j0 j1 j2
                  go_wp2_with fail
                  refine (K.out _ HG.out).mono ?_
                  rintro e w1 ⟨rfl, hg⟩
                  have hB := HB.out.gr hg
                  have hT := HT.out.gr hg
                  replace HG := Lib.hid (Gr.trans HG.out hg)
                  clear hg HB HT k0 k1 k2 k3 j0 j1 j2
                  have HB := Lib.hid hB
                  have HT := Lib.hid hT
                  obtain ⟨k0, k1, k2, k3⟩ := hB
                  obtain ⟨j0, j1, j2⟩ := hT
                  simp only at j0 j1 j2
                  go_wp2_with fail
                  refine (T1.out _ HG.out).mono ?_
                  rintro e w1 ⟨rfl, hg⟩
                  have hB := HB.out.gr hg
                  have hT := HT.out.gr hg
                  replace HG := Lib.hid (Gr.trans HG.out hg)
                  clear hg HB HT k0 k1 k2 k3 j0 j1 j2
                  have HB := Lib.hid hB
                  have HT := Lib.hid hT
                  obtain ⟨k0, k1, k2, k3⟩ := hB
                  obtain ⟨j0, j1, j2⟩ := hT
                  simp only at j0 j1 j2
                  go_wp2_with fail
                  refine (T2.out _ HG.out).mono ?_
                  rintro e w1 ⟨rfl, hg⟩
                  have hB := HB.out.gr hg
                  have hT := HT.out.gr hg
                  replace HG := Lib.hid (Gr.trans HG.out hg)
                  clear hg HB HT k0 k1 k2 k3 j0 j1 j2
                  have HB := Lib.hid hB
                  have HT := Lib.hid hT
                  obtain ⟨k0, k1, k2, k3⟩ := hB
                  obtain ⟨j0, j1, j2⟩ := hT
                  simp only at j0 j1 j2
                  go_wp2_with fail
                  refine (T3.out _ HG.out).mono ?_
                  rintro e w1 ⟨rfl, hg⟩
                  have hB := HB.out.gr hg
                  have hT := HT.out.gr hg
                  replace HG := Lib.hid (Gr.trans HG.out hg)
                  clear hg HB HT k0 k1 k2 k3 j0 j1 j2
                  have HB := Lib.hid hB
                  have HT := Lib.hid hT
                  obtain ⟨k0, k1, k2, k3⟩ := hB
                  obtain ⟨j0, j1, j2⟩ := hT
                  simp only at j0 j1 j2
                  go_wp2_with fail
                  refine (GO.out _ HG.out).mono ?_
                  rintro e w2 ⟨rfl, hg⟩
                  have HH := Lib.hid (Box4.new w2 m y t0 d 24)
                  replace hg := Gr.trans hg ((Gr.refl w2).alloc (oGl m y t0 d))
                  have hB := HB.out.gr hg
                  have hT := HT.out.gr hg
                  replace HG := Lib.hid (Gr.trans HG.out hg)
                  clear hg HB HT k0 k1 k2 k3 j0 j1 j2
                  have HB := Lib.hid hB
                  have HT := Lib.hid hT
                  obtain ⟨k0, k1, k2, k3⟩ := hB
                  obtain ⟨j0, j1, j2⟩ := hT
                  simp only at j0 j1 j2
                  obtain ⟨m0, m1, m2, m3⟩ := id HH.out
                  have hlA : w.heap.size + 1 < w2.heap.size + 1 := by have := cell_lt j0; simpa using this
                  have hlB : w.heap.size < w2.heap.size + 1 := by omega
                  go_wp2_with fail
                  refine (A1.out _ HG.out).mono ?_
                  rintro e w1 ⟨rfl, hg⟩
                  have hB := HB.out.gr hg
                  have hT := HT.out.gr hg
                  have hH := HH.out.gr hg
                  replace HG := Lib.hid (Gr.trans HG.out hg)
                  clear hg HB HT HH k0 k1 k2 k3 j0 j1 j2 m0 m1 m2 m3
                  have HB := Lib.hid hB
                  have HT := Lib.hid hT
                  have HH := Lib.hid hH
                  obtain ⟨k0, k1, k2, k3⟩ := hB
                  obtain ⟨j0, j1, j2⟩ := hT
                  obtain ⟨m0, m1, m2, m3⟩ := hH
                  simp only at j0 j1 j2
                  go_wp2_with fail
                  refine (A2.out _ HG.out).mono ?_
                  rintro e w1 ⟨rfl, hg⟩
                  have hB := HB.out.gr hg
                  have hT := HT.out.gr hg
                  have hH := HH.out.gr hg
                  replace HG := Lib.hid (Gr.trans HG.out hg)
                  clear hg HB HT HH k0 k1 k2 k3 j0 j1 j2 m0 m1 m2 m3
                  have HB := Lib.hid hB
                  have HT := Lib.hid hT
                  have HH := Lib.hid hH
                  obtain ⟨k0, k1, k2, k3⟩ := hB
                  obtain ⟨j0, j1, j2⟩ := hT
                  obtain ⟨m0, m1, m2, m3⟩ := hH
                  simp only at j0 j1 j2
                  go_wp2_with fail
                  refine (CK.out _ HG.out).mono ?_
                  rintro e w1 ⟨rfl, hg⟩
                  have hB := HB.out.gr hg
                  have hT := HT.out.gr hg
                  have hH := HH.out.gr hg
                  replace HG := Lib.hid (Gr.trans HG.out hg)
                  clear hg HB HT HH k0 k1 k2 k3 j0 j1 j2 m0 m1 m2 m3
                  have HB := Lib.hid hB
                  have HT := Lib.hid hT
                  have HH := Lib.hid hH
                  obtain ⟨k0, k1, k2, k3⟩ := hB
                  obtain ⟨j0, j1, j2⟩ := hT
                  obtain ⟨m0, m1, m2, m3⟩ := hH
                  simp only at j0 j1 j2
                  go_wp2_with fail
                  refine (CH.out _ HG.out).mono ?_
                  rintro e w1 ⟨rfl, hg⟩
                  have hB := HB.out.gr hg
                  have hT := HT.out.gr hg
                  have hH := HH.out.gr hg
                  replace HG := Lib.hid (Gr.trans HG.out hg)
                  clear hg HB HT HH k0 k1 k2 k3 j0 j1 j2 m0 m1 m2 m3
                  have HB := Lib.hid hB
                  have HT := Lib.hid hT
                  have HH := Lib.hid hH
                  obtain ⟨k0, k1, k2, k3⟩ := hB
                  obtain ⟨j0, j1, j2⟩ := hT
                  obtain ⟨m0, m1, m2, m3⟩ := hH
                  simp only at j0 j1 j2
                  go_wp2_with fail
                  refine (VA.out _ HG.out).mono ?_
                  rintro e w1 ⟨rfl, hg⟩
                  have hB := HB.out.gr hg
                  have hT := HT.out.gr hg
                  have hH := HH.out.gr hg
                  replace HG := Lib.hid (Gr.trans HG.out hg)
                  clear hg HB HT HH k0 k1 k2 k3 j0 j1 j2 m0 m1 m2 m3
                  have HB := Lib.hid hB
                  have HT := Lib.hid hT
                  have HH := Lib.hid hH
                  obtain ⟨k0, k1, k2, k3⟩ := hB
                  obtain ⟨j0, j1, j2⟩ := hT
                  obtain ⟨m0, m1, m2, m3⟩ := hH
                  simp only at j0 j1 j2
                  have hb14 := GB.new w1 f x st ti 24
                  obtain ⟨p0, p1, p2, p3, q0, q1, q2, q3⟩ := id hb14
                  have hlC : w2.heap.size < w1.heap.size := cell_lt m0
                  have hlD : w.heap.size < w1.heap.size := cell_lt k0
                  have hlE : w.heap.size + 1 < w1.heap.size := cell_lt j0
                  clear hb14
                  go_wp2_with fail
                  refine (A4.out _ (HG.out.alloc (oGl m y t0 d))).mono ?_
                  rintro e w9 ⟨rfl, hg⟩
                  replace HG := Lib.hid (Gr.trans (HG.out.alloc (oGl m y t0 d)) hg)
                  clear hg p0 p1 p2 p3 q0 q1 q2 q3 HB HT HH k0 k1 k2 k3 j0 j1 j2 m0 m1 m2 m3
                  go_wp2_with fail
                  refine (AW.out _ HG.out).mono ?_
                  rintro e w10 ⟨rfl, hg⟩
                  have HGz := Lib.hid (Gr.trans HG.out hg)
                  clear hg
                  go_wp2
                  go_ret
                  exact ⟨rfl, HGz.out⟩
              · simp only [if_neg htt] at VA
                have VA := Lib.hid VA
                by_cases hdp : 0 < d
                · have hum := hdu hdp
                  clear hdu
                  intro w hg
                  have HB := Lib.hid ((Box4.new w f x st ti 24).gr ((Gr.refl _).alloc (.cells #[.int .i64 t0, .int .i64 y, .int .i64 d] 40)))
                  have HT : Hid (T3At ((w.alloc (oGl f x st ti)).alloc (.cells #[.int .i64 t0, .int .i64 y, .int .i64 d] 40)) (w.heap.size + 1) 0 (t0, y, d)) := Lib.hid (by have := T3At.new' (w.alloc (oGl f x st ti)) t0 y d 40; rwa [World.size_alloc] at this)
                  have HG := Lib.hid ((hg.alloc (oGl f x st ti)).alloc (.cells #[.int .i64 t0, .int .i64 y, .int .i64 d] 40))
                  clear hg
                  obtain ⟨k0, k1, k2, k3⟩ := id HB.out
                  obtain ⟨j0, j1, j2⟩ := id HT.out
                  simp only at j0 j1 j2
                  go_enter Tryz.func8, Tryz.ntmps8
                  have F2 := F.out ((w.alloc (oGl f x st ti)).alloc (.cells #[.int .i64 t0, .int .i64 y, .int .i64 d] 40))
                  simp only [World.size_alloc] at F2
                  have F2 := Lib.hid F2
                  go_wp2_with fail
                  refine F2.out.mono ?_
                  clear F2
                  rintro e w1 ⟨rfl, hg⟩
                  have hB := HB.out.gr hg
                  have hT := HT.out.gr hg
                  replace HG := Lib.hid (Gr.trans HG.out hg)
                  clear hg HB HT k0 k1 k2 k3 j0 j1 j2
                  have HB := Lib.hid hB
                  have HT := Lib.hid hT
                  obtain ⟨k0, k1, k2, k3⟩ := hB
                  obtain ⟨j0, j1, j2⟩ := hT
                  simp only at j0 j1 j2
                  go_wp2_with fail
                  refine (K.out _ HG.out).mono ?_
                  rintro e w1 ⟨rfl, hg⟩
                  have hB := HB.out.gr hg
                  have hT := HT.out.gr hg
                  replace HG := Lib.hid (Gr.trans HG.out hg)
                  clear hg HB HT k0 k1 k2 k3 j0 j1 j2
                  have HB := Lib.hid hB
                  have HT := Lib.hid hT
                  obtain ⟨k0, k1, k2, k3⟩ := hB
                  obtain ⟨j0, j1, j2⟩ := hT
                  simp only at j0 j1 j2
                  go_wp2_with fail
                  refine (T1.out _ HG.out).mono ?_
                  rintro e w1 ⟨rfl, hg⟩
                  have hB := HB.out.gr hg
                  have hT := HT.out.gr hg
                  replace HG := Lib.hid (Gr.trans HG.out hg)
                  clear hg HB HT k0 k1 k2 k3 j0 j1 j2
                  have HB := Lib.hid hB
                  have HT := Lib.hid hT
                  obtain ⟨k0, k1, k2, k3⟩ := hB
                  obtain ⟨j0, j1, j2⟩ := hT
                  simp only at j0 j1 j2
                  go_wp2_with fail
                  refine (T2.out _ HG.out).mono ?_
                  rintro e w1 ⟨rfl, hg⟩
                  have hB := HB.out.gr hg
                  have hT := HT.out.gr hg
                  replace HG := Lib.hid (Gr.trans HG.out hg)
                  clear hg HB HT k0 k1 k2 k3 j0 j1 j2
                  have HB := Lib.hid hB
                  have HT := Lib.hid hT
                  obtain ⟨k0, k1, k2, k3⟩ := hB
                  obtain ⟨j0, j1, j2⟩ := hT
                  simp only at j0 j1 j2
                  go_wp2_with fail
                  refine (T3.out _ HG.out).mono ?_
                  rintro e w1 ⟨rfl, hg⟩
                  have hB := HB.out.gr hg
                  have hT := HT.out.gr hg
                  replace HG := Lib.hid (Gr.trans HG.out hg)
                  clear hg HB HT k0 k1 k2 k3 j0 j1 j2
                  have HB := Lib.hid hB
                  have HT := Lib.hid hT
                  obtain ⟨k0, k1, k2, k3⟩ := hB
                  obtain ⟨j0, j1, j2⟩ := hT
                  simp only at j0 j1 j2
                  go_wp2_with fail
                  refine (GO.out _ HG.out).mono ?_
                  rintro e w2 ⟨rfl, hg⟩
                  have HH := Lib.hid (Box4.new w2 m y t0 d 24)
                  replace hg := Gr.trans hg ((Gr.refl w2).alloc (oGl m y t0 d))
                  have hB := HB.out.gr hg
                  have hT := HT.out.gr hg
                  replace HG := Lib.hid (Gr.trans HG.out hg)
                  clear hg HB HT k0 k1 k2 k3 j0 j1 j2
                  have HB := Lib.hid hB
                  have HT := Lib.hid hT
                  obtain ⟨k0, k1, k2, k3⟩ := hB
                  obtain ⟨j0, j1, j2⟩ := hT
                  simp only at j0 j1 j2
                  obtain ⟨m0, m1, m2, m3⟩ := id HH.out
                  have hlA : w.heap.size + 1 < w2.heap.size + 1 := by have := cell_lt j0; simpa using this
                  have hlB : w.heap.size < w2.heap.size + 1 := by omega
                  go_wp2_with fail
                  refine (A1.out _ HG.out).mono ?_
                  rintro e w1 ⟨rfl, hg⟩
                  have hB := HB.out.gr hg
                  have hT := HT.out.gr hg
                  have hH := HH.out.gr hg
                  replace HG := Lib.hid (Gr.trans HG.out hg)
                  clear hg HB HT HH k0 k1 k2 k3 j0 j1 j2 m0 m1 m2 m3
                  have HB := Lib.hid hB
                  have HT := Lib.hid hT
                  have HH := Lib.hid hH
                  obtain ⟨k0, k1, k2, k3⟩ := hB
                  obtain ⟨j0, j1, j2⟩ := hT
                  obtain ⟨m0, m1, m2, m3⟩ := hH
                  simp only at j0 j1 j2
                  go_wp2_with fail
                  refine (A2.out _ HG.out).mono ?_
                  rintro e w1 ⟨rfl, hg⟩
                  have hB := HB.out.gr hg
                  have hT := HT.out.gr hg
                  have hH := HH.out.gr hg
                  replace HG := Lib.hid (Gr.trans HG.out hg)
                  clear hg HB HT HH k0 k1 k2 k3 j0 j1 j2 m0 m1 m2 m3
                  have HB := Lib.hid hB
                  have HT := Lib.hid hT
                  have HH := Lib.hid hH
                  obtain ⟨k0, k1, k2, k3⟩ := hB
                  obtain ⟨j0, j1, j2⟩ := hT
                  obtain ⟨m0, m1, m2, m3⟩ := hH
                  simp only at j0 j1 j2
                  go_wp2_with fail
                  refine (CK.out _ HG.out).mono ?_
                  rintro e w1 ⟨rfl, hg⟩
                  have hB := HB.out.gr hg
                  have hT := HT.out.gr hg
                  have hH := HH.out.gr hg
                  replace HG := Lib.hid (Gr.trans HG.out hg)
                  clear hg HB HT HH k0 k1 k2 k3 j0 j1 j2 m0 m1 m2 m3
                  have HB := Lib.hid hB
                  have HT := Lib.hid hT
                  have HH := Lib.hid hH
                  obtain ⟨k0, k1, k2, k3⟩ := hB
                  obtain ⟨j0, j1, j2⟩ := hT
                  obtain ⟨m0, m1, m2, m3⟩ := hH
                  simp only at j0 j1 j2
                  go_wp2_with fail
                  refine (CH.out _ HG.out).mono ?_
                  rintro e w1 ⟨rfl, hg⟩
                  have hB := HB.out.gr hg
                  have hT := HT.out.gr hg
                  have hH := HH.out.gr hg
                  replace HG := Lib.hid (Gr.trans HG.out hg)
                  clear hg HB HT HH k0 k1 k2 k3 j0 j1 j2 m0 m1 m2 m3
                  have HB := Lib.hid hB
                  have HT := Lib.hid hT
                  have HH := Lib.hid hH
                  obtain ⟨k0, k1, k2, k3⟩ := hB
                  obtain ⟨j0, j1, j2⟩ := hT
                  obtain ⟨m0, m1, m2, m3⟩ := hH
                  simp only at j0 j1 j2
                  go_wp2_with fail
                  refine (VA.out _ HG.out).mono ?_
                  rintro e w1 ⟨rfl, hg⟩
                  have hB := HB.out.gr hg
                  have hT := HT.out.gr hg
                  have hH := HH.out.gr hg
                  replace HG := Lib.hid (Gr.trans HG.out hg)
                  clear hg HB HT HH k0 k1 k2 k3 j0 j1 j2 m0 m1 m2 m3
                  have HB := Lib.hid hB
                  have HT := Lib.hid hT
                  have HH := Lib.hid hH
                  obtain ⟨k0, k1, k2, k3⟩ := hB
                  obtain ⟨j0, j1, j2⟩ := hT
                  obtain ⟨m0, m1, m2, m3⟩ := hH
                  simp only at j0 j1 j2
                  have hb14 := GB.new w1 f x st ti 24
                  obtain ⟨p0, p1, p2, p3, q0, q1, q2, q3⟩ := id hb14
                  have hlC : w2.heap.size < w1.heap.size := cell_lt m0
                  have hlD : w.heap.size < w1.heap.size := cell_lt k0
                  have hlE : w.heap.size + 1 < w1.heap.size := cell_lt j0
                  clear hb14
                  go_wp2_with fail
                  refine (A3.out _ (HG.out.alloc (oGl f x st ti))).mono ?_
                  rintro e w9 ⟨rfl, hg⟩
                  replace HG := Lib.hid (Gr.trans (HG.out.alloc (oGl f x st ti)) hg)
                  clear hg p0 p1 p2 p3 q0 q1 q2 q3 HB HT HH k0 k1 k2 k3 j0 j1 j2 m0 m1 m2 m3
                  go_wp2_with fail
                  refine (AW.out _ HG.out).mono ?_
                  rintro e w10 ⟨rfl, hg⟩
                  have HGz := Lib.hid (Gr.trans HG.out hg)
                  clear hg
                  go_wp2
                  go_ret
                  exact ⟨rfl, HGz.out⟩
                · clear hdu
                  intro w hg
                  have HB := Lib.hid ((Box4.new w f x st ti 24).gr ((Gr.refl _).alloc (.cells #[.int .i64 t0, .int .i64 y, .int .i64 d] 40)))
                  have HT : Hid (T3At ((w.alloc (oGl f x st ti)).alloc (.cells #[.int .i64 t0, .int .i64 y, .int .i64 d] 40)) (w.heap.size + 1) 0 (t0, y, d)) := Lib.hid (by have := T3At.new' (w.alloc (oGl f x st ti)) t0 y d 40; rwa [World.size_alloc] at this)
                  have HG := Lib.hid ((hg.alloc (oGl f x st ti)).alloc (.cells #[.int .i64 t0, .int .i64 y, .int .i64 d] 40))
                  clear hg
                  obtain ⟨k0, k1, k2, k3⟩ := id HB.out
                  obtain ⟨j0, j1, j2⟩ := id HT.out
                  simp only at j0 j1 j2
                  go_enter Tryz.func8, Tryz.ntmps8
                  have F2 := F.out ((w.alloc (oGl f x st ti)).alloc (.cells #[.int .i64 t0, .int .i64 y, .int .i64 d] 40))
                  simp only [World.size_alloc] at F2
                  have F2 := Lib.hid F2
                  go_wp2_with fail
                  refine F2.out.mono ?_
                  clear F2
                  rintro e w1 ⟨rfl, hg⟩
                  have hB := HB.out.gr hg
                  have hT := HT.out.gr hg
                  replace HG := Lib.hid (Gr.trans HG.out hg)
                  clear hg HB HT k0 k1 k2 k3 j0 j1 j2
                  have HB := Lib.hid hB
                  have HT := Lib.hid hT
                  obtain ⟨k0, k1, k2, k3⟩ := hB
                  obtain ⟨j0, j1, j2⟩ := hT
                  simp only at j0 j1 j2
                  go_wp2_with fail
                  refine (K.out _ HG.out).mono ?_
                  rintro e w1 ⟨rfl, hg⟩
                  have hB := HB.out.gr hg
                  have hT := HT.out.gr hg
                  replace HG := Lib.hid (Gr.trans HG.out hg)
                  clear hg HB HT k0 k1 k2 k3 j0 j1 j2
                  have HB := Lib.hid hB
                  have HT := Lib.hid hT
                  obtain ⟨k0, k1, k2, k3⟩ := hB
                  obtain ⟨j0, j1, j2⟩ := hT
                  simp only at j0 j1 j2
                  go_wp2_with fail
                  refine (T1.out _ HG.out).mono ?_
                  rintro e w1 ⟨rfl, hg⟩
                  have hB := HB.out.gr hg
                  have hT := HT.out.gr hg
                  replace HG := Lib.hid (Gr.trans HG.out hg)
                  clear hg HB HT k0 k1 k2 k3 j0 j1 j2
                  have HB := Lib.hid hB
                  have HT := Lib.hid hT
                  obtain ⟨k0, k1, k2, k3⟩ := hB
                  obtain ⟨j0, j1, j2⟩ := hT
                  simp only at j0 j1 j2
                  go_wp2_with fail
                  refine (T2.out _ HG.out).mono ?_
                  rintro e w1 ⟨rfl, hg⟩
                  have hB := HB.out.gr hg
                  have hT := HT.out.gr hg
                  replace HG := Lib.hid (Gr.trans HG.out hg)
                  clear hg HB HT k0 k1 k2 k3 j0 j1 j2
                  have HB := Lib.hid hB
                  have HT := Lib.hid hT
                  obtain ⟨k0, k1, k2, k3⟩ := hB
                  obtain ⟨j0, j1, j2⟩ := hT
                  simp only at j0 j1 j2
                  go_wp2_with fail
                  refine (T3.out _ HG.out).mono ?_
                  rintro e w1 ⟨rfl, hg⟩
                  have hB := HB.out.gr hg
                  have hT := HT.out.gr hg
                  replace HG := Lib.hid (Gr.trans HG.out hg)
                  clear hg HB HT k0 k1 k2 k3 j0 j1 j2
                  have HB := Lib.hid hB
                  have HT := Lib.hid hT
                  obtain ⟨k0, k1, k2, k3⟩ := hB
                  obtain ⟨j0, j1, j2⟩ := hT
                  simp only at j0 j1 j2
                  go_wp2_with fail
                  refine (GO.out _ HG.out).mono ?_
                  rintro e w2 ⟨rfl, hg⟩
                  have HH := Lib.hid (Box4.new w2 m y t0 d 24)
                  replace hg := Gr.trans hg ((Gr.refl w2).alloc (oGl m y t0 d))
                  have hB := HB.out.gr hg
                  have hT := HT.out.gr hg
                  replace HG := Lib.hid (Gr.trans HG.out hg)
                  clear hg HB HT k0 k1 k2 k3 j0 j1 j2
                  have HB := Lib.hid hB
                  have HT := Lib.hid hT
                  obtain ⟨k0, k1, k2, k3⟩ := hB
                  obtain ⟨j0, j1, j2⟩ := hT
                  simp only at j0 j1 j2
                  obtain ⟨m0, m1, m2, m3⟩ := id HH.out
                  have hlA : w.heap.size + 1 < w2.heap.size + 1 := by have := cell_lt j0; simpa using this
                  have hlB : w.heap.size < w2.heap.size + 1 := by omega
                  go_wp2_with fail
                  refine (A1.out _ HG.out).mono ?_
                  rintro e w1 ⟨rfl, hg⟩
                  have hB := HB.out.gr hg
                  have hT := HT.out.gr hg
                  have hH := HH.out.gr hg
                  replace HG := Lib.hid (Gr.trans HG.out hg)
                  clear hg HB HT HH k0 k1 k2 k3 j0 j1 j2 m0 m1 m2 m3
                  have HB := Lib.hid hB
                  have HT := Lib.hid hT
                  have HH := Lib.hid hH
                  obtain ⟨k0, k1, k2, k3⟩ := hB
                  obtain ⟨j0, j1, j2⟩ := hT
                  obtain ⟨m0, m1, m2, m3⟩ := hH
                  simp only at j0 j1 j2
                  go_wp2_with fail
                  refine (A2.out _ HG.out).mono ?_
                  rintro e w1 ⟨rfl, hg⟩
                  have hB := HB.out.gr hg
                  have hT := HT.out.gr hg
                  have hH := HH.out.gr hg
                  replace HG := Lib.hid (Gr.trans HG.out hg)
                  clear hg HB HT HH k0 k1 k2 k3 j0 j1 j2 m0 m1 m2 m3
                  have HB := Lib.hid hB
                  have HT := Lib.hid hT
                  have HH := Lib.hid hH
                  obtain ⟨k0, k1, k2, k3⟩ := hB
                  obtain ⟨j0, j1, j2⟩ := hT
                  obtain ⟨m0, m1, m2, m3⟩ := hH
                  simp only at j0 j1 j2
                  go_wp2_with fail
                  refine (CK.out _ HG.out).mono ?_
                  rintro e w1 ⟨rfl, hg⟩
                  have hB := HB.out.gr hg
                  have hT := HT.out.gr hg
                  have hH := HH.out.gr hg
                  replace HG := Lib.hid (Gr.trans HG.out hg)
                  clear hg HB HT HH k0 k1 k2 k3 j0 j1 j2 m0 m1 m2 m3
                  have HB := Lib.hid hB
                  have HT := Lib.hid hT
                  have HH := Lib.hid hH
                  obtain ⟨k0, k1, k2, k3⟩ := hB
                  obtain ⟨j0, j1, j2⟩ := hT
                  obtain ⟨m0, m1, m2, m3⟩ := hH
                  simp only at j0 j1 j2
                  go_wp2_with fail
                  refine (CH.out _ HG.out).mono ?_
                  rintro e w1 ⟨rfl, hg⟩
                  have hB := HB.out.gr hg
                  have hT := HT.out.gr hg
                  have hH := HH.out.gr hg
                  replace HG := Lib.hid (Gr.trans HG.out hg)
                  clear hg HB HT HH k0 k1 k2 k3 j0 j1 j2 m0 m1 m2 m3
                  have HB := Lib.hid hB
                  have HT := Lib.hid hT
                  have HH := Lib.hid hH
                  obtain ⟨k0, k1, k2, k3⟩ := hB
                  obtain ⟨j0, j1, j2⟩ := hT
                  obtain ⟨m0, m1, m2, m3⟩ := hH
                  simp only at j0 j1 j2
                  go_wp2_with fail
                  refine (VA.out _ HG.out).mono ?_
                  rintro e w1 ⟨rfl, hg⟩
                  have hB := HB.out.gr hg
                  have hT := HT.out.gr hg
                  have hH := HH.out.gr hg
                  replace HG := Lib.hid (Gr.trans HG.out hg)
                  clear hg HB HT HH k0 k1 k2 k3 j0 j1 j2 m0 m1 m2 m3
                  have HB := Lib.hid hB
                  have HT := Lib.hid hT
                  have HH := Lib.hid hH
                  obtain ⟨k0, k1, k2, k3⟩ := hB
                  obtain ⟨j0, j1, j2⟩ := hT
                  obtain ⟨m0, m1, m2, m3⟩ := hH
                  simp only at j0 j1 j2
                  have hb14 := GB.new w1 f x st ti 24
                  obtain ⟨p0, p1, p2, p3, q0, q1, q2, q3⟩ := id hb14
                  have hlC : w2.heap.size < w1.heap.size := cell_lt m0
                  have hlD : w.heap.size < w1.heap.size := cell_lt k0
                  have hlE : w.heap.size + 1 < w1.heap.size := cell_lt j0
                  clear hb14
                  go_wp2_with fail
                  refine (A3.out _ (HG.out.alloc (oGl f x st ti))).mono ?_
                  rintro e w9 ⟨rfl, hg⟩
                  replace HG := Lib.hid (Gr.trans (HG.out.alloc (oGl f x st ti)) hg)
                  clear hg p0 p1 p2 p3 q0 q1 q2 q3 HB HT HH k0 k1 k2 k3 j0 j1 j2 m0 m1 m2 m3
                  go_wp2_with fail
                  refine (AW.out _ HG.out).mono ?_
                  rintro e w10 ⟨rfl, hg⟩
                  have HGz := Lib.hid (Gr.trans HG.out hg)
                  clear hg
                  go_wp2
                  go_ret
                  exact ⟨rfl, HGz.out⟩
          · have o3 : okL (d, 10000000) = false := by simpa using o3
            rw [o1] at T1; rw [o2] at T2; rw [o3] at T3
            clear htab hmx herr he h12 o1 o2 o3
            intro w hg
            have HB := Lib.hid ((Box4.new w f x st ti 24).gr ((Gr.refl _).alloc (.cells #[.int .i64 t0, .int .i64 y, .int .i64 d] 40)))
            have HT : Hid (T3At ((w.alloc (oGl f x st ti)).alloc (.cells #[.int .i64 t0, .int .i64 y, .int .i64 d] 40)) (w.heap.size + 1) 0 (t0, y, d)) := Lib.hid (by have := T3At.new' (w.alloc (oGl f x st ti)) t0 y d 40; rwa [World.size_alloc] at this)
            have HG := Lib.hid ((hg.alloc (oGl f x st ti)).alloc (.cells #[.int .i64 t0, .int .i64 y, .int .i64 d] 40))
            clear hg
            obtain ⟨k0, k1, k2, k3⟩ := id HB.out
            obtain ⟨j0, j1, j2⟩ := id HT.out
            simp only at j0 j1 j2
            go_enter Tryz.func8, Tryz.ntmps8
            have F2 := F.out ((w.alloc (oGl f x st ti)).alloc (.cells #[.int .i64 t0, .int .i64 y, .int .i64 d] 40))
            simp only [World.size_alloc] at F2
            have F2 := Lib.hid F2
            go_wp2_with fail
            refine F2.out.mono ?_
            clear F2
            rintro e w1 ⟨rfl, hg⟩
            have hB := HB.out.gr hg
            have hT := HT.out.gr hg
            replace HG := Lib.hid (Gr.trans HG.out hg)
            clear hg HB HT k0 k1 k2 k3 j0 j1 j2
            have HB := Lib.hid hB
            have HT := Lib.hid hT
            obtain ⟨k0, k1, k2, k3⟩ := hB
            obtain ⟨j0, j1, j2⟩ := hT
            simp only at j0 j1 j2
            go_wp2_with fail
            refine (K.out _ HG.out).mono ?_
            rintro e w1 ⟨rfl, hg⟩
            have hB := HB.out.gr hg
            have hT := HT.out.gr hg
            replace HG := Lib.hid (Gr.trans HG.out hg)
            clear hg HB HT k0 k1 k2 k3 j0 j1 j2
            have HB := Lib.hid hB
            have HT := Lib.hid hT
            obtain ⟨k0, k1, k2, k3⟩ := hB
            obtain ⟨j0, j1, j2⟩ := hT
            simp only at j0 j1 j2
            go_wp2_with fail
            refine (T1.out _ HG.out).mono ?_
            rintro e w1 ⟨rfl, hg⟩
            have hB := HB.out.gr hg
            have hT := HT.out.gr hg
            replace HG := Lib.hid (Gr.trans HG.out hg)
            clear hg HB HT k0 k1 k2 k3 j0 j1 j2
            have HB := Lib.hid hB
            have HT := Lib.hid hT
            obtain ⟨k0, k1, k2, k3⟩ := hB
            obtain ⟨j0, j1, j2⟩ := hT
            simp only at j0 j1 j2
            go_wp2_with fail
            refine (T2.out _ HG.out).mono ?_
            rintro e w1 ⟨rfl, hg⟩
            have hB := HB.out.gr hg
            have hT := HT.out.gr hg
            replace HG := Lib.hid (Gr.trans HG.out hg)
            clear hg HB HT k0 k1 k2 k3 j0 j1 j2
            have HB := Lib.hid hB
            have HT := Lib.hid hT
            obtain ⟨k0, k1, k2, k3⟩ := hB
            obtain ⟨j0, j1, j2⟩ := hT
            simp only at j0 j1 j2
            go_wp2_with fail
            refine (T3.out _ HG.out).mono ?_
            rintro e w1 ⟨rfl, hg⟩
            have hB := HB.out.gr hg
            have hT := HT.out.gr hg
            replace HG := Lib.hid (Gr.trans HG.out hg)
            clear hg HB HT k0 k1 k2 k3 j0 j1 j2
            have HB := Lib.hid hB
            have HT := Lib.hid hT
            obtain ⟨k0, k1, k2, k3⟩ := hB
            obtain ⟨j0, j1, j2⟩ := hT
            simp only at j0 j1 j2
            go_wp2_with fail
            refine (AW.out _ HG.out).mono ?_
            rintro e w1 ⟨rfl, hg⟩
            have HGz := Lib.hid (Gr.trans HG.out hg)
            clear hg HB HT k0 k1 k2 k3 j0 j1 j2
            go_wp2
            go_ret
            exact ⟨rfl, HGz.out⟩
        · have o2 : okL (y, 65535) = false := by simpa using o2
          rw [o1] at T1; rw [o2] at T2
          clear htab hmx herr he h12 o1 o2
          intro w hg
          have HB := Lib.hid ((Box4.new w f x st ti 24).gr ((Gr.refl _).alloc (.cells #[.int .i64 t0, .int .i64 y, .int .i64 d] 40)))
          have HT : Hid (T3At ((w.alloc (oGl f x st ti)).alloc (.cells #[.int .i64 t0, .int .i64 y, .int .i64 d] 40)) (w.heap.size + 1) 0 (t0, y, d)) := Lib.hid (by have := T3At.new' (w.alloc (oGl f x st ti)) t0 y d 40; rwa [World.size_alloc] at this)
          have HG := Lib.hid ((hg.alloc (oGl f x st ti)).alloc (.cells #[.int .i64 t0, .int .i64 y, .int .i64 d] 40))
          clear hg
          obtain ⟨k0, k1, k2, k3⟩ := id HB.out
          obtain ⟨j0, j1, j2⟩ := id HT.out
          simp only at j0 j1 j2
          go_enter Tryz.func8, Tryz.ntmps8
          have F2 := F.out ((w.alloc (oGl f x st ti)).alloc (.cells #[.int .i64 t0, .int .i64 y, .int .i64 d] 40))
          simp only [World.size_alloc] at F2
          have F2 := Lib.hid F2
          go_wp2_with fail
          refine F2.out.mono ?_
          clear F2
          rintro e w1 ⟨rfl, hg⟩
          have hB := HB.out.gr hg
          have hT := HT.out.gr hg
          replace HG := Lib.hid (Gr.trans HG.out hg)
          clear hg HB HT k0 k1 k2 k3 j0 j1 j2
          have HB := Lib.hid hB
          have HT := Lib.hid hT
          obtain ⟨k0, k1, k2, k3⟩ := hB
          obtain ⟨j0, j1, j2⟩ := hT
          simp only at j0 j1 j2
          go_wp2_with fail
          refine (K.out _ HG.out).mono ?_
          rintro e w1 ⟨rfl, hg⟩
          have hB := HB.out.gr hg
          have hT := HT.out.gr hg
          replace HG := Lib.hid (Gr.trans HG.out hg)
          clear hg HB HT k0 k1 k2 k3 j0 j1 j2
          have HB := Lib.hid hB
          have HT := Lib.hid hT
          obtain ⟨k0, k1, k2, k3⟩ := hB
          obtain ⟨j0, j1, j2⟩ := hT
          simp only at j0 j1 j2
          go_wp2_with fail
          refine (T1.out _ HG.out).mono ?_
          rintro e w1 ⟨rfl, hg⟩
          have hB := HB.out.gr hg
          have hT := HT.out.gr hg
          replace HG := Lib.hid (Gr.trans HG.out hg)
          clear hg HB HT k0 k1 k2 k3 j0 j1 j2
          have HB := Lib.hid hB
          have HT := Lib.hid hT
          obtain ⟨k0, k1, k2, k3⟩ := hB
          obtain ⟨j0, j1, j2⟩ := hT
          simp only at j0 j1 j2
          go_wp2_with fail
          refine (T2.out _ HG.out).mono ?_
          rintro e w1 ⟨rfl, hg⟩
          have hB := HB.out.gr hg
          have hT := HT.out.gr hg
          replace HG := Lib.hid (Gr.trans HG.out hg)
          clear hg HB HT k0 k1 k2 k3 j0 j1 j2
          have HB := Lib.hid hB
          have HT := Lib.hid hT
          obtain ⟨k0, k1, k2, k3⟩ := hB
          obtain ⟨j0, j1, j2⟩ := hT
          simp only at j0 j1 j2
          go_wp2_with fail
          refine (AW.out _ HG.out).mono ?_
          rintro e w1 ⟨rfl, hg⟩
          have HGz := Lib.hid (Gr.trans HG.out hg)
          clear hg HB HT k0 k1 k2 k3 j0 j1 j2
          go_wp2
          go_ret
          exact ⟨rfl, HGz.out⟩
      · have o1 : okL (t0, 10000000) = false := by simpa using o1
        rw [o1] at T1
        clear htab hmx herr he h12 o1
        intro w hg
        have HB := Lib.hid ((Box4.new w f x st ti 24).gr ((Gr.refl _).alloc (.cells #[.int .i64 t0, .int .i64 y, .int .i64 d] 40)))
        have HT : Hid (T3At ((w.alloc (oGl f x st ti)).alloc (.cells #[.int .i64 t0, .int .i64 y, .int .i64 d] 40)) (w.heap.size + 1) 0 (t0, y, d)) := Lib.hid (by have := T3At.new' (w.alloc (oGl f x st ti)) t0 y d 40; rwa [World.size_alloc] at this)
        have HG := Lib.hid ((hg.alloc (oGl f x st ti)).alloc (.cells #[.int .i64 t0, .int .i64 y, .int .i64 d] 40))
        clear hg
        obtain ⟨k0, k1, k2, k3⟩ := id HB.out
        obtain ⟨j0, j1, j2⟩ := id HT.out
        simp only at j0 j1 j2
        go_enter Tryz.func8, Tryz.ntmps8
        have F2 := F.out ((w.alloc (oGl f x st ti)).alloc (.cells #[.int .i64 t0, .int .i64 y, .int .i64 d] 40))
        simp only [World.size_alloc] at F2
        have F2 := Lib.hid F2
        go_wp2_with fail
        refine F2.out.mono ?_
        clear F2
        rintro e w1 ⟨rfl, hg⟩
        have hB := HB.out.gr hg
        have hT := HT.out.gr hg
        replace HG := Lib.hid (Gr.trans HG.out hg)
        clear hg HB HT k0 k1 k2 k3 j0 j1 j2
        have HB := Lib.hid hB
        have HT := Lib.hid hT
        obtain ⟨k0, k1, k2, k3⟩ := hB
        obtain ⟨j0, j1, j2⟩ := hT
        simp only at j0 j1 j2
        go_wp2_with fail
        refine (K.out _ HG.out).mono ?_
        rintro e w1 ⟨rfl, hg⟩
        have hB := HB.out.gr hg
        have hT := HT.out.gr hg
        replace HG := Lib.hid (Gr.trans HG.out hg)
        clear hg HB HT k0 k1 k2 k3 j0 j1 j2
        have HB := Lib.hid hB
        have HT := Lib.hid hT
        obtain ⟨k0, k1, k2, k3⟩ := hB
        obtain ⟨j0, j1, j2⟩ := hT
        simp only at j0 j1 j2
        go_wp2_with fail
        refine (T1.out _ HG.out).mono ?_
        rintro e w1 ⟨rfl, hg⟩
        have hB := HB.out.gr hg
        have hT := HT.out.gr hg
        replace HG := Lib.hid (Gr.trans HG.out hg)
        clear hg HB HT k0 k1 k2 k3 j0 j1 j2
        have HB := Lib.hid hB
        have HT := Lib.hid hT
        obtain ⟨k0, k1, k2, k3⟩ := hB
        obtain ⟨j0, j1, j2⟩ := hT
        simp only at j0 j1 j2
        go_wp2_with fail
        refine (AW.out _ HG.out).mono ?_
        rintro e w1 ⟨rfl, hg⟩
        have HGz := Lib.hid (Gr.trans HG.out hg)
        clear hg HB HT k0 k1 k2 k3 j0 j1 j2
        go_wp2
        go_ret
        exact ⟨rfl, HGz.out⟩
    · have hne : (glE f x st ti != 0) = true := by simpa using he
      have K := Lib.hid K
      clear htab hmx herr he h12
      generalize glE f x st ti = c at *
      intro w hg
      have HB := Lib.hid ((Box4.new w f x st ti 24).gr ((Gr.refl _).alloc (.cells #[.int .i64 t0, .int .i64 y, .int .i64 d] 40)))
      have HT : Hid (T3At ((w.alloc (oGl f x st ti)).alloc (.cells #[.int .i64 t0, .int .i64 y, .int .i64 d] 40)) (w.heap.size + 1) 0 (t0, y, d)) := Lib.hid (by have := T3At.new' (w.alloc (oGl f x st ti)) t0 y d 40; rwa [World.size_alloc] at this)
      have HG := Lib.hid ((hg.alloc (oGl f x st ti)).alloc (.cells #[.int .i64 t0, .int .i64 y, .int .i64 d] 40))
      clear hg
      obtain ⟨k0, k1, k2, k3⟩ := id HB.out
      obtain ⟨j0, j1, j2⟩ := id HT.out
      simp only at j0 j1 j2
      go_enter Tryz.func8, Tryz.ntmps8
      have F2 := F.out ((w.alloc (oGl f x st ti)).alloc (.cells #[.int .i64 t0, .int .i64 y, .int .i64 d] 40))
      simp only [World.size_alloc] at F2
      have F2 := Lib.hid F2
      go_wp2_with fail
      refine F2.out.mono ?_
      clear F2
      rintro e w1 ⟨rfl, hg⟩
      have hB := HB.out.gr hg
      have hT := HT.out.gr hg
      replace HG := Lib.hid (Gr.trans HG.out hg)
      clear hg HB HT k0 k1 k2 k3 j0 j1 j2
      have HB := Lib.hid hB
      have HT := Lib.hid hT
      obtain ⟨k0, k1, k2, k3⟩ := hB
      obtain ⟨j0, j1, j2⟩ := hT
      simp only at j0 j1 j2
      go_wp2_with fail
      refine (K.out _ HG.out).mono ?_
      rintro e w1 ⟨rfl, hg⟩
      have hB := HB.out.gr hg
      have hT := HT.out.gr hg
      replace HG := Lib.hid (Gr.trans HG.out hg)
      clear hg HB HT k0 k1 k2 k3 j0 j1 j2
      have HB := Lib.hid hB
      have HT := Lib.hid hT
      obtain ⟨k0, k1, k2, k3⟩ := hB
      obtain ⟨j0, j1, j2⟩ := hT
      simp only at j0 j1 j2
      go_wp2_with fail
      refine (AW.out _ HG.out).mono ?_
      rintro e w1 ⟨rfl, hg⟩
      have HGz := Lib.hid (Gr.trans HG.out hg)
      clear hg HB HT k0 k1 k2 k3 j0 j1 j2
      go_wp2
      go_ret
      exact ⟨rfl, HGz.out⟩
  · rw [decide_eq_false h12] at F
    clear htab hmx herr h12
    intro w hg
    have HB := Lib.hid ((Box4.new w f x st ti 24).gr ((Gr.refl _).alloc (.cells #[.int .i64 t0, .int .i64 y, .int .i64 d] 40)))
    have HT : Hid (T3At ((w.alloc (oGl f x st ti)).alloc (.cells #[.int .i64 t0, .int .i64 y, .int .i64 d] 40)) (w.heap.size + 1) 0 (t0, y, d)) := Lib.hid (by have := T3At.new' (w.alloc (oGl f x st ti)) t0 y d 40; rwa [World.size_alloc] at this)
    have HG := Lib.hid ((hg.alloc (oGl f x st ti)).alloc (.cells #[.int .i64 t0, .int .i64 y, .int .i64 d] 40))
    clear hg
    obtain ⟨k0, k1, k2, k3⟩ := id HB.out
    obtain ⟨j0, j1, j2⟩ := id HT.out
    simp only at j0 j1 j2
    go_enter Tryz.func8, Tryz.ntmps8
    have F2 := F.out ((w.alloc (oGl f x st ti)).alloc (.cells #[.int .i64 t0, .int .i64 y, .int .i64 d] 40))
    simp only [World.size_alloc] at F2
    have F2 := Lib.hid F2
    go_wp2_with fail
    refine F2.out.mono ?_
    clear F2
    rintro e w1 ⟨rfl, hg⟩
    have hB := HB.out.gr hg
    have hT := HT.out.gr hg
    replace HG := Lib.hid (Gr.trans HG.out hg)
    clear hg HB HT k0 k1 k2 k3 j0 j1 j2
    have HB := Lib.hid hB
    have HT := Lib.hid hT
    obtain ⟨k0, k1, k2, k3⟩ := hB
    obtain ⟨j0, j1, j2⟩ := hT
    simp only at j0 j1 j2
    go_wp2_with fail
    refine (AW.out _ HG.out).mono ?_
    rintro e w1 ⟨rfl, hg⟩
    have HGz := Lib.hid (Gr.trans HG.out hg)
    clear hg HB HT k0 k1 k2 k3 j0 j1 j2
    go_wp2
    go_ret
    exact ⟨rfl, HGz.out⟩
end
end Go.Proofs.YtffifpinnhaloaaGreatDoor
