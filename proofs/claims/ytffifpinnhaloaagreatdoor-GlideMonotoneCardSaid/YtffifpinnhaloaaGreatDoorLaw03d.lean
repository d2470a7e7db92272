/- The law GlideMonotone. -/
import Derived.Test.YtffifpinnhaloaaGreatDoorLaw03b
set_option linter.unusedVariables false
set_option linter.unusedSimpArgs false
namespace Go.Proofs.YtffifpinnhaloaaGreatDoor
open Go.RowKit Go.Shelf Go.Deep
open Z

theorem cmp_ge {a b : Rat} (h : b ≤ a) : 0 ≤ cmpQ a b := by
  rcases cmpQ_cases a b with ⟨h1, hc, -⟩ | ⟨h1, hc, -⟩ | ⟨h1, hc, -⟩
  · exact absurd h (by rw [Rat.not_le]; exact h1)
  · omega
  · omega
theorem cmp_le {a b : Rat} (h : a ≤ b) : cmpQ a b ≤ 0 := by
  rcases cmpQ_cases a b with ⟨h1, hc, -⟩ | ⟨h1, hc, -⟩ | ⟨h1, hc, -⟩
  · omega
  · omega
  · exact absurd h (by rw [Rat.not_le]; exact h1)
section
variable {w0 : World} (htab : Tab w0) (hmx : Mx w0) (herr : ErrR w0)
include htab hmx herr
/-- what the law calls, and how the answers compare -/
theorem mono_calls {f : ByteArray} {x st ti s t : Int} (hs : f.size ≤ 120) (he : glE f x st ti = 0) (hst : s ≤ t) (hsj : isJ s) (htj : isJ t) :
    ∃ (A B tx : ByteArray) (c0 c1 c2 c3 : Int), (st + ti ≤ t → (B.toList == tx.toList) = true) ∧ ((0 < c0 ∧ 0 ≤ c1 ∧ c2 ≤ 0 ∧ 0 ≤ c3) ∨ (c0 ≤ 0 ∧ c1 ≤ 0 ∧ 0 ≤ c2 ∧ c3 ≤ 0)) ∧
      RetG w0 14 #[vGl f x st ti, .int .i64 s] (.tuple #[.string A, .int .i64 0]) ∧ RetG w0 14 #[vGl f x st ti, .int .i64 t] (.tuple #[.string B, .int .i64 0]) ∧
      RetG w0 16 #[vGl f x st ti, .int .i64 t] (.tuple #[.bool (decide (st + ti ≤ t)), .int .i64 0]) ∧ RetG w0 38 #[.string A] (.int .i64 0) ∧ RetG w0 38 #[.string B] (.int .i64 0) ∧
      RetG w0 39 #[.int .i64 x] (.string tx) ∧ RetG w0 40 #[.string f, .string tx] (.int .i64 c0) ∧ RetG w0 40 #[.string A, .string B] (.int .i64 c1) ∧
      RetG w0 40 #[.string A, .string f] (.int .i64 c2) ∧ RetG w0 40 #[.string B, .string tx] (.int .i64 c3) := by
  obtain ⟨b, hb, ib, lb, x0, x1, st0, st1, ti0, ti1⟩ := glE_zero_iff he
  obtain ⟨a, rfl, ha, hra⟩ := text_sh (by rw [hb]; exact chkS_RT ib) hs
  obtain rfl : a = b := RT_inj hb
  have shs := sh_ofG (t := s) ha x0 x1 st0 st1 ti0 ti1
  have sht := sh_ofG (t := t) ha x0 x1 st0 st1 ti0 ti1
  have shx := sh_lvl x0 x1
  have hls := ofG_lvl (st := st) (t := s) lb x0 x1 ti0
  have hlt := ofG_lvl (st := st) (t := t) lb x0 x1 ti0
  have es : ∀ u : Int, atE (RT a) x st ti u = (RT (ofG a x st ti u), 0) := fun u => by unfold atE; rw [if_pos he, hra]
  have ed : doneE (RT a) x st ti t = (decide (st + ti ≤ t), 0) := by unfold doneE; rw [if_pos he]
  have hL : ∀ {y : Rat}, Sh (2 * 120 + 20) y → lvlQ y = true → RetG w0 38 #[.string (RT y)] (.int .i64 0) := fun {y} hy hl => RetG.of4 fun w1 _ => by
    have := ret3_Level (w0 := w1) (s := RT y) (by have := RT_size hy; omega)
    rw [compE_RT (hy.inR (by omega)), if_pos hl] at this
    exact this
  refine ⟨RT (ofG a x st ti s), RT (ofG a x st ti t), Tx x, cmpQ a x, cmpQ (ofG a x st ti s) (ofG a x st ti t), cmpQ (ofG a x st ti s) a, cmpQ (ofG a x st ti t) x, fun h => ba_beq ?_, ?_, ?_, ?_, ?_, hL (shs.mono (by omega)) hls, hL (sht.mono (by omega)) hlt, ?_, ?_, ?_, ?_, ?_⟩
  · unfold ofG; rw [if_pos h, RT_int]
  · rcases cmpQ_cases a ((x : Int) : Rat) with ⟨h, hc, -⟩ | ⟨h, hc, -⟩ | ⟨h, hc, -⟩
    · have h' : a ≤ (x : Rat) := Rat.le_of_lt h
      exact .inr ⟨by omega, cmp_le (ofG_mono h' ti0 hst), cmp_ge (ofG_up h' ti0).1, cmp_le (ofG_up h' ti0).2⟩
    · have h' : a ≤ (x : Rat) := by rw [← h]; exact Rat.le_refl
      exact .inr ⟨by omega, cmp_le (ofG_mono h' ti0 hst), cmp_ge (ofG_up h' ti0).1, cmp_le (ofG_up h' ti0).2⟩
    · have h' : (x : Rat) ≤ a := Rat.le_of_lt h
      exact .inl ⟨by omega, cmp_ge (ofG_anti h' ti0 hst), cmp_le (ofG_down h' ti0).2, cmp_ge (ofG_down h' ti0).1⟩
  · exact RetG.of4 fun w1 h => (ret_GAt (htab_gr htab h) (hmx.gr h) (herr.gr h) (s := RT a) (by omega) (x := x) (st := st) (ti := ti) hsj).si (es s)
  · exact RetG.of4 fun w1 h => (ret_GAt (htab_gr htab h) (hmx.gr h) (herr.gr h) (s := RT a) (by omega) (x := x) (st := st) (ti := ti) htj).si (es t)
  · exact RetG.of4 fun w1 h => (ret_GDone (htab_gr htab h) (hmx.gr h) (herr.gr h) (s := RT a) (by omega) (x := x) (st := st) (ti := ti) htj).bi ed
  · exact RetG.of4 fun w1 _ => ret_Whole2 (w0 := w1) (n := x) (by omega) (by omega)
  · rw [← RT_int]; exact RetG.of4 fun w1 _ => ret_OrderR (w0 := w1) ha shx (by omega) (by omega)
  · exact RetG.of4 fun w1 _ => ret_OrderR (w0 := w1) shs sht (by omega) (by omega)
  · exact RetG.of4 fun w1 _ => ret_OrderR (w0 := w1) shs ha (by omega) (by omega)
  · rw [← RT_int]; exact RetG.of4 fun w1 _ => ret_OrderR (w0 := w1) sht shx (by omega) (by omega)
set_option maxHeartbeats 4000000 in
set_option maxRecDepth 100000 in
theorem l3_GlideMonotone {g : Gl} (hs : g.f.size ≤ maxLen) (hg : g.isG) {s t : Int} (hsj : isJ s) (htj : isJ t) : Ret w0 7 #[vG4 g, .int .i64 s, .int .i64 t] (.bool true) := by
  have AW := Lib.hid (RetG.of4 (w0 := w0) fun w1 h => l3_awake (htab_gr htab h) (hmx.gr h) (herr.gr h))
  obtain ⟨f, x, st, ti⟩ := g
  obtain ⟨hx, hst, hti⟩ := hg
  simp only [Gl.f, Gl.x, Gl.st, Gl.ti] at hs hx hst hti
  have F := Lib.hid (fun w => few_new1 (w := w) (g := (f, x, st, ti)) 24 hs)
  simp only [Gl.f, Gl.x, Gl.st, Gl.ti] at F
  obtain ⟨s0, s1⟩ := id hsj
  obtain ⟨t0, t1⟩ := id htj
  by_cases h12 : f.size ≤ 120
  · rw [decide_eq_true h12] at F
    have K := RetG.of4 (w0 := w0) fun w1 _ => ret3_Check (w0 := w1) (s := f) (by omega) hx hst hti
    by_cases he : glE f x st ti = 0
    · rw [he] at K
      have K := Lib.hid K
      by_cases hlt : t < s
      · clear htab hmx herr he
        intro w hg
        have HB := Lib.hid (Box4.new w f x st ti 24)
        have HG := Lib.hid (hg.alloc (oGl f x st ti))
        clear hg
        obtain ⟨k0, k1, k2, k3⟩ := id HB.out
        go_enter Tryz.func7, Tryz.ntmps7
        have F2 := F.out (w.alloc (oGl f x st ti))
        rw [World.size_alloc] at F2
        have F2 := Lib.hid F2
        go_wp2_with fail
        refine F2.out.mono ?_
        clear F2
        rintro e w1 ⟨rfl, hg⟩
        have hB := HB.out.gr hg
        replace HG := Lib.hid (Gr.trans HG.out hg)
        clear hg HB k0 k1 k2 k3
        have HB := Lib.hid hB
        obtain ⟨k0, k1, k2, k3⟩ := hB
        go_wp2_with fail
        refine (K.out _ HG.out).mono ?_
        rintro e w1 ⟨rfl, hg⟩
        have hB := HB.out.gr hg
        replace HG := Lib.hid (Gr.trans HG.out hg)
        clear hg HB k0 k1 k2 k3
        have HB := Lib.hid hB
        obtain ⟨k0, k1, k2, k3⟩ := hB
        go_wp2_with fail
        refine (AW.out _ HG.out).mono ?_
        rintro e w1 ⟨rfl, hg⟩
        replace HG := Lib.hid (Gr.trans HG.out hg); clear hg
        go_wp2
        go_ret
        exact ⟨rfl, HG.out⟩
      · have hle : s ≤ t := by omega
        obtain ⟨A, B, tx, c0, c1, c2, c3, hB, hcc, C1, C2, C3, C4, C5, C6, C7, C8, C9, CA⟩ := mono_calls htab hmx herr h12 he hle hsj htj
        have C1 := Lib.hid C1
        have C2 := Lib.hid C2
        have C4 := Lib.hid C4
        have C5 := Lib.hid C5
        have C6 := Lib.hid C6
        have C7 := Lib.hid C7
        have C8 := Lib.hid C8
        have C9 := Lib.hid C9
        have CA := Lib.hid CA
        clear htab hmx herr he hs h12 hsj htj hx hst hti
        rcases hcc with ⟨hc0, hc1, hc2, hc3⟩ | ⟨hc0, hc1, hc2, hc3⟩
        all_goals
          by_cases hd : st + ti ≤ t
          · have hbeq := hB hd
            rw [decide_eq_true hd] at C3
            clear hB hd
            have C3 := Lib.hid C3
            intro w hg
            have HB := Lib.hid (Box4.new w f x st ti 24)
            have HG := Lib.hid (hg.alloc (oGl f x st ti))
            clear hg
            obtain ⟨k0, k1, k2, k3⟩ := id HB.out
            go_enter Tryz.func7, Tryz.ntmps7
            have F2 := F.out (w.alloc (oGl f x st ti))
            rw [World.size_alloc] at F2
            have F2 := Lib.hid F2
            go_wp2_with fail
            refine F2.out.mono ?_
            clear F2
            rintro e w1 ⟨rfl, hg⟩
            have hB := HB.out.gr hg
            replace HG := Lib.hid (Gr.trans HG.out hg)
            clear hg HB k0 k1 k2 k3
            have HB := Lib.hid hB
            obtain ⟨k0, k1, k2, k3⟩ := hB
            go_wp2_with fail
            refine (K.out _ HG.out).mono ?_
            rintro e w1 ⟨rfl, hg⟩
            have hB := HB.out.gr hg
            replace HG := Lib.hid (Gr.trans HG.out hg)
            clear hg HB k0 k1 k2 k3
            have HB := Lib.hid hB
            obtain ⟨k0, k1, k2, k3⟩ := hB
            go_wp2_with fail
            refine (C1.out _ HG.out).mono ?_
            rintro e w1 ⟨rfl, hg⟩
            have hB := HB.out.gr hg
            replace HG := Lib.hid (Gr.trans HG.out hg)
            clear hg HB k0 k1 k2 k3
            have HB := Lib.hid hB
            obtain ⟨k0, k1, k2, k3⟩ := hB
            go_wp2_with fail
            refine (C2.out _ HG.out).mono ?_
            rintro e w1 ⟨rfl, hg⟩
            have hB := HB.out.gr hg
            replace HG := Lib.hid (Gr.trans HG.out hg)
            clear hg HB k0 k1 k2 k3
            have HB := Lib.hid hB
            obtain ⟨k0, k1, k2, k3⟩ := hB
            go_wp2_with fail
            refine (C3.out _ HG.out).mono ?_
            rintro e w1 ⟨rfl, hg⟩
            have hB := HB.out.gr hg
            replace HG := Lib.hid (Gr.trans HG.out hg)
            clear hg HB k0 k1 k2 k3
            have HB := Lib.hid hB
            obtain ⟨k0, k1, k2, k3⟩ := hB
            go_wp2_with fail
            refine (C4.out _ HG.out).mono ?_
            rintro e w1 ⟨rfl, hg⟩
            have hB := HB.out.gr hg
            replace HG := Lib.hid (Gr.trans HG.out hg)
            clear hg HB k0 k1 k2 k3
            have HB := Lib.hid hB
            obtain ⟨k0, k1, k2, k3⟩ := hB
            go_wp2_with fail
            refine (C5.out _ HG.out).mono ?_
            rintro e w1 ⟨rfl, hg⟩
            have hB := HB.out.gr hg
            replace HG := Lib.hid (Gr.trans HG.out hg)
            clear hg HB k0 k1 k2 k3
            have HB := Lib.hid hB
            obtain ⟨k0, k1, k2, k3⟩ := hB
            go_wp2_with fail
            refine (C6.out _ HG.out).mono ?_
            rintro e w1 ⟨rfl, hg⟩
            have hB := HB.out.gr hg
            replace HG := Lib.hid (Gr.trans HG.out hg)
            clear hg HB k0 k1 k2 k3
            have HB := Lib.hid hB
            obtain ⟨k0, k1, k2, k3⟩ := hB
            go_wp2_with fail
            refine (C7.out _ HG.out).mono ?_
            rintro e w1 ⟨rfl, hg⟩
            have hB := HB.out.gr hg
            replace HG := Lib.hid (Gr.trans HG.out hg)
            clear hg HB k0 k1 k2 k3
            have HB := Lib.hid hB
            obtain ⟨k0, k1, k2, k3⟩ := hB
            go_wp2_with fail
            refine (C8.out _ HG.out).mono ?_
            rintro e w1 ⟨rfl, hg⟩
            have hB := HB.out.gr hg
            replace HG := Lib.hid (Gr.trans HG.out hg)
            clear hg HB k0 k1 k2 k3
            have HB := Lib.hid hB
            obtain ⟨k0, k1, k2, k3⟩ := hB
            go_wp2_with fail
            refine (C9.out _ HG.out).mono ?_
            rintro e w1 ⟨rfl, hg⟩
            replace HG := Lib.hid (Gr.trans HG.out hg); clear hg
            clear HB k0 k1 k2 k3
            go_wp2_with fail
            refine (CA.out _ HG.out).mono ?_
            rintro e w1 ⟨rfl, hg⟩
            replace HG := Lib.hid (Gr.trans HG.out hg); clear hg
            go_wp2_with fail
            refine (AW.out _ HG.out).mono ?_
            rintro e w1 ⟨rfl, hg⟩
            replace HG := Lib.hid (Gr.trans HG.out hg); clear hg
            go_wp2
            go_ret
            exact ⟨rfl, HG.out⟩
          · rw [decide_eq_false hd] at C3
            clear hB hd
            have C3 := Lib.hid C3
            intro w hg
            have HB := Lib.hid (Box4.new w f x st ti 24)
            have HG := Lib.hid (hg.alloc (oGl f x st ti))
            clear hg
            obtain ⟨k0, k1, k2, k3⟩ := id HB.out
            go_enter Tryz.func7, Tryz.ntmps7
            have F2 := F.out (w.alloc (oGl f x st ti))
            rw [World.size_alloc] at F2
            have F2 := Lib.hid F2
            go_wp2_with fail
            refine F2.out.mono ?_
            clear F2
            rintro e w1 ⟨rfl, hg⟩
            have hB := HB.out.gr hg
            replace HG := Lib.hid (Gr.trans HG.out hg)
            clear hg HB k0 k1 k2 k3
            have HB := Lib.hid hB
            obtain ⟨k0, k1, k2, k3⟩ := hB
            go_wp2_with fail
            refine (K.out _ HG.out).mono ?_
            rintro e w1 ⟨rfl, hg⟩
            have hB := HB.out.gr hg
            replace HG := Lib.hid (Gr.trans HG.out hg)
            clear hg HB k0 k1 k2 k3
            have HB := Lib.hid hB
            obtain ⟨k0, k1, k2, k3⟩ := hB
            go_wp2_with fail
            refine (C1.out _ HG.out).mono ?_
            rintro e w1 ⟨rfl, hg⟩
            have hB := HB.out.gr hg
            replace HG := Lib.hid (Gr.trans HG.out hg)
            clear hg HB k0 k1 k2 k3
            have HB := Lib.hid hB
            obtain ⟨k0, k1, k2, k3⟩ := hB
            go_wp2_with fail
            refine (C2.out _ HG.out).mono ?_
            rintro e w1 ⟨rfl, hg⟩
            have hB := HB.out.gr hg
            replace HG := Lib.hid (Gr.trans HG.out hg)
            clear hg HB k0 k1 k2 k3
            have HB := Lib.hid hB
            obtain ⟨k0, k1, k2, k3⟩ := hB
            go_wp2_with fail
            refine (C3.out _ HG.out).mono ?_
            rintro e w1 ⟨rfl, hg⟩
            have hB := HB.out.gr hg
            replace HG := Lib.hid (Gr.trans HG.out hg)
            clear hg HB k0 k1 k2 k3
            have HB := Lib.hid hB
            obtain ⟨k0, k1, k2, k3⟩ := hB
            go_wp2_with fail
            refine (C4.out _ HG.out).mono ?_
            rintro e w1 ⟨rfl, hg⟩
            have hB := HB.out.gr hg
            replace HG := Lib.hid (Gr.trans HG.out hg)
            clear hg HB k0 k1 k2 k3
            have HB := Lib.hid hB
            obtain ⟨k0, k1, k2, k3⟩ := hB
            go_wp2_with fail
            refine (C5.out _ HG.out).mono ?_
            rintro e w1 ⟨rfl, hg⟩
            have hB := HB.out.gr hg
            replace HG := Lib.hid (Gr.trans HG.out hg)
            clear hg HB k0 k1 k2 k3
            have HB := Lib.hid hB
            obtain ⟨k0, k1, k2, k3⟩ := hB
            go_wp2_with fail
            refine (C6.out _ HG.out).mono ?_
            rintro e w1 ⟨rfl, hg⟩
            have hB := HB.out.gr hg
            replace HG := Lib.hid (Gr.trans HG.out hg)
            clear hg HB k0 k1 k2 k3
            have HB := Lib.hid hB
            obtain ⟨k0, k1, k2, k3⟩ := hB
            go_wp2_with fail
            refine (C7.out _ HG.out).mono ?_
            rintro e w1 ⟨rfl, hg⟩
            have hB := HB.out.gr hg
            replace HG := Lib.hid (Gr.trans HG.out hg)
            clear hg HB k0 k1 k2 k3
            have HB := Lib.hid hB
            obtain ⟨k0, k1, k2, k3⟩ := hB
            go_wp2_with fail
            refine (C8.out _ HG.out).mono ?_
            rintro e w1 ⟨rfl, hg⟩
            have hB := HB.out.gr hg
            replace HG := Lib.hid (Gr.trans HG.out hg)
            clear hg HB k0 k1 k2 k3
            have HB := Lib.hid hB
            obtain ⟨k0, k1, k2, k3⟩ := hB
            go_wp2_with fail
            refine (C9.out _ HG.out).mono ?_
            rintro e w1 ⟨rfl, hg⟩
            replace HG := Lib.hid (Gr.trans HG.out hg); clear hg
            clear HB k0 k1 k2 k3
            go_wp2_with fail
            refine (CA.out _ HG.out).mono ?_
            rintro e w1 ⟨rfl, hg⟩
            replace HG := Lib.hid (Gr.trans HG.out hg); clear hg
            go_wp2_with fail
            refine (AW.out _ HG.out).mono ?_
            rintro e w1 ⟨rfl, hg⟩
            replace HG := Lib.hid (Gr.trans HG.out hg); clear hg
            go_wp2
            go_ret
            exact ⟨rfl, HG.out⟩
    · have hne : (glE f x st ti != 0) = true := by simpa using he
      have K := Lib.hid K
      clear htab hmx herr he h12
      generalize glE f x st ti = c at *
      intro w hg
      have HB := Lib.hid (Box4.new w f x st ti 24)
      have HG := Lib.hid (hg.alloc (oGl f x st ti))
      clear hg
      obtain ⟨k0, k1, k2, k3⟩ := id HB.out
      go_enter Tryz.func7, Tryz.ntmps7
      have F2 := F.out (w.alloc (oGl f x st ti))
      rw [World.size_alloc] at F2
      have F2 := Lib.hid F2
      go_wp2_with fail
      refine F2.out.mono ?_
      clear F2
      rintro e w1 ⟨rfl, hg⟩
      have hB := HB.out.gr hg
      replace HG := Lib.hid (Gr.trans HG.out hg)
      clear hg HB k0 k1 k2 k3
      have HB := Lib.hid hB
      obtain ⟨k0, k1, k2, k3⟩ := hB
      go_wp2_with fail
      refine (K.out _ HG.out).mono ?_
      rintro e w1 ⟨rfl, hg⟩
      have hB := HB.out.gr hg
      replace HG := Lib.hid (Gr.trans HG.out hg)
      clear hg HB k0 k1 k2 k3
      have HB := Lib.hid hB
      obtain ⟨k0, k1, k2, k3⟩ := hB
      go_wp2_with fail
      refine (AW.out _ HG.out).mono ?_
      rintro e w1 ⟨rfl, hg⟩
      replace HG := Lib.hid (Gr.trans HG.out hg); clear hg
      go_wp2
      go_ret
      exact ⟨rfl, HG.out⟩
  · rw [decide_eq_false h12] at F
    clear htab hmx herr h12
    intro w hg
    have HB := Lib.hid (Box4.new w f x st ti 24)
    have HG := Lib.hid (hg.alloc (oGl f x st ti))
    clear hg
    obtain ⟨k0, k1, k2, k3⟩ := id HB.out
    go_enter Tryz.func7, Tryz.ntmps7
    have F2 := F.out (w.alloc (oGl f x st ti))
    rw [World.size_alloc] at F2
    have F2 := Lib.hid F2
    go_wp2_with fail
    refine F2.out.mono ?_
    clear F2
    rintro e w1 ⟨rfl, hg⟩
    have hB := HB.out.gr hg
    replace HG := Lib.hid (Gr.trans HG.out hg)
    clear hg HB k0 k1 k2 k3
    have HB := Lib.hid hB
    obtain ⟨k0, k1, k2, k3⟩ := hB
    go_wp2_with fail
    refine (AW.out _ HG.out).mono ?_
    rintro e w1 ⟨rfl, hg⟩
    replace HG := Lib.hid (Gr.trans HG.out hg); clear hg
    go_wp2
    go_ret
    exact ⟨rfl, HG.out⟩
end
end Go.Proofs.YtffifpinnhaloaaGreatDoor
