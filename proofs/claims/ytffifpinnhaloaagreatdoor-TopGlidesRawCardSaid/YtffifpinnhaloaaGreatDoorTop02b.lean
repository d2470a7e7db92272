/- The top law TopGlidesRaw. -/
import Derived.Test.YtffifpinnhaloaaGreatDoorTop02a
set_option linter.unusedVariables false
set_option linter.unusedSimpArgs false
namespace Go.Proofs.YtffifpinnhaloaaGreatDoor
open Go.RowKit Go.Shelf
open Z

section
variable {w0 : World} (htab : Tab w0) (hmx : Mx w0) (herr : ErrR w0)
include htab hmx herr
/-- the calls behind both levels -/
theorem raw_calls {k : Nat} {A B : Rat} (hA : Sh k A) (hB : Sh k B) (hk : k ≤ 400) (la : lvlQ A = true) (lb : lvlQ B = true) (hAB : A ≤ B) : ∃ a8 b8 a16 b16 : Int, ∃ u v s t : ByteArray, a8 ≤ b8 ∧ a16 ≤ b16 ∧ 0 ≤ a8 ∧ b8 ≤ 255 ∧ 0 ≤ a16 ∧ b16 ≤ 65535 ∧
    Ret w0 38 #[.string (RT A)] (.int .i64 0) ∧ Ret w0 38 #[.string (RT B)] (.int .i64 0) ∧
    Ret w0 49 #[.string (RT A)] (.tuple #[.int .i64 a8, .int .i64 0]) ∧ Ret w0 49 #[.string (RT B)] (.tuple #[.int .i64 b8, .int .i64 0]) ∧
    Ret w0 50 #[.string (RT A)] (.tuple #[.int .i64 a16, .int .i64 0]) ∧ Ret w0 50 #[.string (RT B)] (.tuple #[.int .i64 b16, .int .i64 0]) ∧
    Ret w0 39 #[.int .i64 a16] (.string u) ∧ Ret w0 47 #[.string (RT A), .string u] (.string s) ∧
    Ret w0 39 #[.int .i64 (257 * a8)] (.string v) ∧ Ret w0 47 #[.string (RT A), .string v] (.string t) ∧
    Ret w0 51 #[.string s, .string ⟨#[49, 47, 50]⟩] (.bool true) ∧ Ret w0 51 #[.string t, .string ⟨#[50, 53, 55, 47, 50]⟩] (.bool true) := by
  have za := RT_size hA
  have zb := RT_size hB
  have ea : compE (RT A) = 0 := by rw [compE_RT (hA.inR (by omega)), if_pos la]
  have eb : compE (RT B) = 0 := by rw [compE_RT (hB.inR (by omega)), if_pos lb]
  have na := nearest_lvl la
  have nb := nearest_lvl lb
  have nm := nearest_mono hAB
  have hn := near_diff A
  have hc := coarse_near A
  have e8 : ∀ {X : Rat}, compE (RT X) = 0 → eightR (RT X) = ((2 * nearest X + 257) / 514, 0) := fun h => by unfold eightR; rw [if_pos h, rv_RT]
  have e16 : ∀ {X : Rat}, compE (RT X) = 0 → sixteenR (RT X) = (nearest X, 0) := fun h => by unfold sixteenR; rw [if_pos h, rv_RT]
  have shn : Sh 5 ((nearest A : Int) : Rat) := sh_lvl na.1 na.2
  have shm : Sh 5 ((257 * ((2 * nearest A + 257) / 514) : Int) : Rat) := sh_lvl (by omega) (by omega)
  have M1 := ret_Minus (w0 := w0) hA shn (by omega) (by omega)
  have M2 := ret_Minus (w0 := w0) hA shm (by omega) (by omega)
  rw [RT_int] at M1 M2
  refine ⟨(2 * nearest A + 257) / 514, (2 * nearest B + 257) / 514, nearest A, nearest B, Tx (nearest A), Tx (257 * ((2 * nearest A + 257) / 514)), RT (A - (nearest A : Rat)), RT (A - ((257 * ((2 * nearest A + 257) / 514) : Int) : Rat)), by omega, nm, by omega, by omega, na.1, nb.2,
    (ret3_Level (by omega)).cast (by rw [ea]), (ret3_Level (by omega)).cast (by rw [eb]),
    (ret_LEight htab hmx herr (by omega)).ii (e8 ea), (ret_LEight htab hmx herr (by omega)).ii (e8 eb), (ret_LSixteen htab hmx herr (by omega)).ii (e16 ea), (ret_LSixteen htab hmx herr (by omega)).ii (e16 eb),
    ret_Whole2 (by omega) (by omega), M1, ret_Whole2 (by omega) (by omega), M2, ?_, ?_⟩
  · rw [half_text]
    exact ret_tryNear (hA.sub shn) sh_half (by omega) (by omega) (by grind) (by grind)
  · rw [half257_text]
    exact ret_tryNear (hA.sub shm) sh_half257 (by omega) (by omega) hc.1 hc.2
set_option maxHeartbeats 1000000 in
set_option maxRecDepth 100000 in
theorem top_TopGlidesRaw {g : Gl} (hs : g.f.size ≤ maxLen) (hg : g.isG) {s t : Int} (hsj : isJ s) (htj : isJ t) : Ret w0 11 #[vG4 g, .int .i64 s, .int .i64 t] (.bool true) := by
  have T := Lib.hid (top_tryGlides htab hmx herr)
  obtain ⟨f, x, st, ti⟩ := g
  obtain ⟨hx, hst, hti⟩ := hg
  simp only [Gl.f, Gl.x, Gl.st, Gl.ti] at hs hx hst hti
  have F := Lib.hid (fun w => few_new1 (w := w) (g := (f, x, st, ti)) 24 hs)
  simp only [Gl.f, Gl.x, Gl.st, Gl.ti] at F
  obtain ⟨s0, s1⟩ := id hsj
  obtain ⟨t0, t1⟩ := id htj
  by_cases h12 : f.size ≤ 120
  · rw [decide_eq_true h12] at F
    have K := RetG.of4 (w0 := w0) fun w1 _ => ret3_Check (w0 := w1) (s := f) (by omega) hx hst hti
    by_cases he : glE f x st ti = 0
    · rw [he] at K
      have K := Lib.hid K
      obtain ⟨b, hb, ib, lb, x0, x1, st0, st1, ti0, ti1⟩ := glE_zero_iff he
      obtain ⟨a, rfl, ha, hra⟩ := text_sh (by rw [hb]; exact chkS_RT ib) h12
      obtain rfl : a = b := RT_inj hb
      by_cases hlt : t < s
      · clear hx hst hti hb ib lb ha hra he
        generalize RT a = f at *
        intro w hg
        have HB := Lib.hid (Box4.new w f x st ti 24)
        have HG := Lib.hid (hg.alloc (oGl f x st ti))
        clear hg
        obtain ⟨k0, k1, k2, k3⟩ := id HB.out
        go_enter Tryz.func11, Tryz.ntmps11
        have F2 := F.out (w.alloc (oGl f x st ti))
        rw [World.size_alloc] at F2
        have F2 := Lib.hid F2
        go_wp2_with fail
        refine F2.out.mono ?_
        clear F2
        rintro e w1 ⟨rfl, hg⟩
        have hB := HB.out.gr hg
        replace HG := Lib.hid (Gr.trans HG.out hg)
        clear hg HB k0 k1 k2 k3
        have HB := Lib.hid hB
        obtain ⟨k0, k1, k2, k3⟩ := hB
        go_wp2_with fail
        refine (K.out _ HG.out).mono ?_
        rintro e w1 ⟨rfl, hg⟩
        have hB := HB.out.gr hg
        replace HG := Lib.hid (Gr.trans HG.out hg)
        clear hg HB k0 k1 k2 k3
        have HB := Lib.hid hB
        obtain ⟨k0, k1, k2, k3⟩ := hB
        clear HB k0 k1 k2 k3
        go_wp2_with fail
        refine (T.out _ HG.out).mono ?_
        rintro e w1 ⟨rfl, hg⟩
        replace HG := Lib.hid hg; clear hg
        go_wp2
        go_ret
        exact ⟨rfl, HG.out⟩
      · have hle : s ≤ t := by omega
        have W := Lib.hid (RetG.of4 (w0 := w0) fun w1 _ => ret_Whole2 (w0 := w1) (n := x) (by omega) (by omega))
        have O := RetG.of4 (w0 := w0) fun w1 _ => ret_OrderR (w0 := w1) ha (sh_lvl x0 x1) (by omega) (by omega)
        rw [RT_int] at O
        have shs := sh_ofG (t := s) ha x0 x1 st0 st1 ti0 ti1
        have sht := sh_ofG (t := t) ha x0 x1 st0 st1 ti0 ti1
        have hls := ofG_lvl (st := st) (t := s) lb x0 x1 ti0
        have hlt' := ofG_lvl (st := st) (t := t) lb x0 x1 ti0
        have es : ∀ u : Int, atE (RT a) x st ti u = (RT (ofG a x st ti u), 0) := fun u => by unfold atE; rw [if_pos he, hra]
        have AS := Lib.hid (RetG.of4 (w0 := w0) fun w1 h => (ret_GAt (htab_gr htab h) (hmx.gr h) (herr.gr h) (s := RT a) (by omega) (x := x) (st := st) (ti := ti) hsj).si (es s))
        have AT := Lib.hid (RetG.of4 (w0 := w0) fun w1 h => (ret_GAt (htab_gr htab h) (hmx.gr h) (herr.gr h) (s := RT a) (by omega) (x := x) (st := st) (ti := ti) htj).si (es t))
        rcases cmpQ_cases a ((x : Int) : Rat) with ⟨h, hc, -⟩ | ⟨h, hc, -⟩ | ⟨h, hc, -⟩
        all_goals rw [hc] at O
        all_goals have O := Lib.hid O
        · have hm := ofG_mono (st := st) (ti := ti) (Rat.le_of_lt h) ti0 hle
          obtain ⟨a8, b8, a16, b16, u, v, q, z, h8, h16, a80, b81, a160, b161, L1, L2, E1, E2, S1, S2, X1, M1, X2, M2, N1, N2⟩ := raw_calls htab hmx herr shs sht (by omega) hls hlt' hm
          have L1 := Lib.hid L1
          have L2 := Lib.hid L2
          have E1 := Lib.hid E1
          have E2 := Lib.hid E2
          have S1 := Lib.hid S1
          have S2 := Lib.hid S2
          have X1 := Lib.hid X1
          have M1 := Lib.hid M1
          have X2 := Lib.hid X2
          have M2 := Lib.hid M2
          have N1 := Lib.hid N1
          have N2 := Lib.hid N2
          clear shs sht hls hlt' hm hx hst hti hb ib lb ha hra he htab hmx herr es hsj htj hs h hc
          generalize RT (ofG a x st ti s) = rs at *
          generalize RT (ofG a x st ti t) = rt at *
          generalize RT a = f at *
          generalize Tx x = xt at *
          intro w hg
          have HB := Lib.hid (Box4.new w f x st ti 24)
          have HG := Lib.hid (hg.alloc (oGl f x st ti))
          clear hg
          obtain ⟨k0, k1, k2, k3⟩ := id HB.out
          go_enter Tryz.func11, Tryz.ntmps11
          have F2 := F.out (w.alloc (oGl f x st ti))
          rw [World.size_alloc] at F2
          have F2 := Lib.hid F2
          go_wp2_with fail
          refine F2.out.mono ?_
          clear F2
          rintro e w1 ⟨rfl, hg⟩
          have hB := HB.out.gr hg
          replace HG := Lib.hid (Gr.trans HG.out hg)
          clear hg HB k0 k1 k2 k3
          have HB := Lib.hid hB
          obtain ⟨k0, k1, k2, k3⟩ := hB
          go_wp2_with fail
          refine (K.out _ HG.out).mono ?_
          rintro e w1 ⟨rfl, hg⟩
          have hB := HB.out.gr hg
          replace HG := Lib.hid (Gr.trans HG.out hg)
          clear hg HB k0 k1 k2 k3
          have HB := Lib.hid hB
          obtain ⟨k0, k1, k2, k3⟩ := hB
          go_wp2_with fail
          have gd : Gr w0 w1.drew := HG.out.drew
          go_region_held3 (fun w' => w'.cell? ⟨w.heap.size, 0, none⟩ = some (.string f) ∧ w'.cell? ⟨w.heap.size, 1, none⟩ = some (.int .i64 x) ∧ w'.cell? ⟨w.heap.size, 2, none⟩ = some (.int .i64 st) ∧ w'.cell? ⟨w.heap.size, 3, none⟩ = some (.int .i64 ti)) (go_keep) (first
            | (go_at_call 39; refine (W.out _ (by assumption)).mono ?_; rintro e w6 ⟨rfl, hw6⟩; have gw6 : Gr w0 w6 := Gr.trans (by assumption) hw6; have d0 : w6.cell? ⟨w.heap.size, 0, none⟩ = some (.string f) := gr_cell hw6 (by assumption); have d1 : w6.cell? ⟨w.heap.size, 1, none⟩ = some (.int .i64 x) := gr_cell hw6 (by assumption); have d2 : w6.cell? ⟨w.heap.size, 2, none⟩ = some (.int .i64 st) := gr_cell hw6 (by assumption); have d3 : w6.cell? ⟨w.heap.size, 3, none⟩ = some (.int .i64 ti) := gr_cell hw6 (by assumption))
            | (go_at_call 40; refine (O.out _ (by assumption)).mono ?_; rintro e w7 ⟨rfl, hw7⟩; have gw7 : Gr w0 w7 := Gr.trans (by assumption) hw7; have d0 : w7.cell? ⟨w.heap.size, 0, none⟩ = some (.string f) := gr_cell hw7 (by assumption); have d1 : w7.cell? ⟨w.heap.size, 1, none⟩ = some (.int .i64 x) := gr_cell hw7 (by assumption); have d2 : w7.cell? ⟨w.heap.size, 2, none⟩ = some (.int .i64 st) := gr_cell hw7 (by assumption); have d3 : w7.cell? ⟨w.heap.size, 3, none⟩ = some (.int .i64 ti) := gr_cell hw7 (by assumption)))
          have HB2 : Hid (Box4 w7 w.heap.size f x st ti) := ⟨by assumption, by assumption, by assumption, by assumption⟩
          have HG2 : Hid (Gr w0 w7) := by assumption
          clear HB HG k0 k1 k2 k3
          have HB := HB2
          have HG := HG2
          clear HB2 HG2
          obtain ⟨k0, k1, k2, k3⟩ := id HB.out
          go_wp2_with fail
          refine (AS.out _ HG.out).mono ?_
          rintro e w1 ⟨rfl, hg⟩
          have hB := HB.out.gr hg
          replace HG := Lib.hid (Gr.trans HG.out hg)
          clear hg HB k0 k1 k2 k3
          have HB := Lib.hid hB
          obtain ⟨k0, k1, k2, k3⟩ := hB
          go_wp2_with fail
          refine (AT.out _ HG.out).mono ?_
          rintro e w1 ⟨rfl, hg⟩
          have hB := HB.out.gr hg
          replace HG := Lib.hid (Gr.trans HG.out hg)
          clear hg HB k0 k1 k2 k3
          have HB := Lib.hid hB
          obtain ⟨k0, k1, k2, k3⟩ := hB
          clear HB k0 k1 k2 k3
          go_wp2_with fail
          refine (L1.out _ HG.out).mono ?_
          rintro e w1 ⟨rfl, hg⟩
          replace HG := Lib.hid hg; clear hg
          go_wp2_with fail
          refine (L2.out _ HG.out).mono ?_
          rintro e w1 ⟨rfl, hg⟩
          replace HG := Lib.hid hg; clear hg
          go_wp2_with fail
          refine (E1.out _ HG.out).mono ?_
          rintro e w1 ⟨rfl, hg⟩
          replace HG := Lib.hid hg; clear hg
          go_wp2_with fail
          refine (E2.out _ HG.out).mono ?_
          rintro e w1 ⟨rfl, hg⟩
          replace HG := Lib.hid hg; clear hg
          go_wp2_with fail
          refine (S1.out _ HG.out).mono ?_
          rintro e w1 ⟨rfl, hg⟩
          replace HG := Lib.hid hg; clear hg
          go_wp2_with fail
          refine (S2.out _ HG.out).mono ?_
          rintro e w1 ⟨rfl, hg⟩
          replace HG := Lib.hid hg; clear hg
          go_wp2_with fail
          refine (X1.out _ HG.out).mono ?_
          rintro e w1 ⟨rfl, hg⟩
          replace HG := Lib.hid hg; clear hg
          go_wp2_with fail
          refine (M1.out _ HG.out).mono ?_
          rintro e w1 ⟨rfl, hg⟩
          replace HG := Lib.hid hg; clear hg
          go_wp2_with fail
          refine (X2.out _ HG.out).mono ?_
          rintro e w1 ⟨rfl, hg⟩
          replace HG := Lib.hid hg; clear hg
          go_wp2_with fail
          refine (M2.out _ HG.out).mono ?_
          rintro e w1 ⟨rfl, hg⟩
          replace HG := Lib.hid hg; clear hg
          go_wp2_with fail
          refine (N1.out _ HG.out).mono ?_
          rintro e w1 ⟨rfl, hg⟩
          replace HG := Lib.hid hg; clear hg
          go_wp2_with fail
          refine (N2.out _ HG.out).mono ?_
          rintro e w1 ⟨rfl, hg⟩
          replace HG := Lib.hid hg; clear hg
          go_wp2_with fail
          refine (T.out _ HG.out).mono ?_
          rintro e w1 ⟨rfl, hg⟩
          replace HG := Lib.hid hg; clear hg
          go_wp2
          go_ret
          exact ⟨rfl, HG.out⟩
        · have hm := ofG_mono (st := st) (ti := ti) (show a ≤ (x : Rat) by rw [← h]; exact Rat.le_refl) ti0 hle
          obtain ⟨a8, b8, a16, b16, u, v, q, z, h8, h16, a80, b81, a160, b161, L1, L2, E1, E2, S1, S2, X1, M1, X2, M2, N1, N2⟩ := raw_calls htab hmx herr shs sht (by omega) hls hlt' hm
          have L1 := Lib.hid L1
          have L2 := Lib.hid L2
          have E1 := Lib.hid E1
          have E2 := Lib.hid E2
          have S1 := Lib.hid S1
          have S2 := Lib.hid S2
          have X1 := Lib.hid X1
          have M1 := Lib.hid M1
          have X2 := Lib.hid X2
          have M2 := Lib.hid M2
          have N1 := Lib.hid N1
          have N2 := Lib.hid N2
          clear shs sht hls hlt' hm hx hst hti hb ib lb ha hra he htab hmx herr es hsj htj hs h hc
          generalize RT (ofG a x st ti s) = rs at *
          generalize RT (ofG a x st ti t) = rt at *
          generalize RT a = f at *
          generalize Tx x = xt at *
          intro w hg
          have HB := Lib.hid (Box4.new w f x st ti 24)
          have HG := Lib.hid (hg.alloc (oGl f x st ti))
          clear hg
          obtain ⟨k0, k1, k2, k3⟩ := id HB.out
          go_enter Tryz.func11, Tryz.ntmps11
          have F2 := F.out (w.alloc (oGl f x st ti))
          rw [World.size_alloc] at F2
          have F2 := Lib.hid F2
          go_wp2_with fail
          refine F2.out.mono ?_
          clear F2
          rintro e w1 ⟨rfl, hg⟩
          have hB := HB.out.gr hg
          replace HG := Lib.hid (Gr.trans HG.out hg)
          clear hg HB k0 k1 k2 k3
          have HB := Lib.hid hB
          obtain ⟨k0, k1, k2, k3⟩ := hB
          go_wp2_with fail
          refine (K.out _ HG.out).mono ?_
          rintro e w1 ⟨rfl, hg⟩
          have hB := HB.out.gr hg
          replace HG := Lib.hid (Gr.trans HG.out hg)
          clear hg HB k0 k1 k2 k3
          have HB := Lib.hid hB
          obtain ⟨k0, k1, k2, k3⟩ := hB
          go_wp2_with fail
          have gd : Gr w0 w1.drew := HG.out.drew
          go_region_held3 (fun w' => w'.cell? ⟨w.heap.size, 0, none⟩ = some (.string f) ∧ w'.cell? ⟨w.heap.size, 1, none⟩ = some (.int .i64 x) ∧ w'.cell? ⟨w.heap.size, 2, none⟩ = some (.int .i64 st) ∧ w'.cell? ⟨w.heap.size, 3, none⟩ = some (.int .i64 ti)) (go_keep) (first
            | (go_at_call 39; refine (W.out _ (by assumption)).mono ?_; rintro e w6 ⟨rfl, hw6⟩; have gw6 : Gr w0 w6 := Gr.trans (by assumption) hw6; have d0 : w6.cell? ⟨w.heap.size, 0, none⟩ = some (.string f) := gr_cell hw6 (by assumption); have d1 : w6.cell? ⟨w.heap.size, 1, none⟩ = some (.int .i64 x) := gr_cell hw6 (by assumption); have d2 : w6.cell? ⟨w.heap.size, 2, none⟩ = some (.int .i64 st) := gr_cell hw6 (by assumption); have d3 : w6.cell? ⟨w.heap.size, 3, none⟩ = some (.int .i64 ti) := gr_cell hw6 (by assumption))
            | (go_at_call 40; refine (O.out _ (by assumption)).mono ?_; rintro e w7 ⟨rfl, hw7⟩; have gw7 : Gr w0 w7 := Gr.trans (by assumption) hw7; have d0 : w7.cell? ⟨w.heap.size, 0, none⟩ = some (.string f) := gr_cell hw7 (by assumption); have d1 : w7.cell? ⟨w.heap.size, 1, none⟩ = some (.int .i64 x) := gr_cell hw7 (by assumption); have d2 : w7.cell? ⟨w.heap.size, 2, none⟩ = some (.int .i64 st) := gr_cell hw7 (by assumption); have d3 : w7.cell? ⟨w.heap.size, 3, none⟩ = some (.int .i64 ti) := gr_cell hw7 (by assumption)))
          have HB2 : Hid (Box4 w7 w.heap.size f x st ti) := ⟨by assumption, by assumption, by assumption, by assumption⟩
          have HG2 : Hid (Gr w0 w7) := by assumption
          clear HB HG k0 k1 k2 k3
          have HB := HB2
          have HG := HG2
          clear HB2 HG2
          obtain ⟨k0, k1, k2, k3⟩ := id HB.out
          go_wp2_with fail
          refine (AS.out _ HG.out).mono ?_
          rintro e w1 ⟨rfl, hg⟩
          have hB := HB.out.gr hg
          replace HG := Lib.hid (Gr.trans HG.out hg)
          clear hg HB k0 k1 k2 k3
          have HB := Lib.hid hB
          obtain ⟨k0, k1, k2, k3⟩ := hB
          go_wp2_with fail
          refine (AT.out _ HG.out).mono ?_
          rintro e w1 ⟨rfl, hg⟩
          have hB := HB.out.gr hg
          replace HG := Lib.hid (Gr.trans HG.out hg)
          clear hg HB k0 k1 k2 k3
          have HB := Lib.hid hB
          obtain ⟨k0, k1, k2, k3⟩ := hB
          clear HB k0 k1 k2 k3
          go_wp2_with fail
          refine (L1.out _ HG.out).mono ?_
          rintro e w1 ⟨rfl, hg⟩
          replace HG := Lib.hid hg; clear hg
          go_wp2_with fail
          refine (L2.out _ HG.out).mono ?_
          rintro e w1 ⟨rfl, hg⟩
          replace HG := Lib.hid hg; clear hg
          go_wp2_with fail
          refine (E1.out _ HG.out).mono ?_
          rintro e w1 ⟨rfl, hg⟩
          replace HG := Lib.hid hg; clear hg
          go_wp2_with fail
          refine (E2.out _ HG.out).mono ?_
          rintro e w1 ⟨rfl, hg⟩
          replace HG := Lib.hid hg; clear hg
          go_wp2_with fail
          refine (S1.out _ HG.out).mono ?_
          rintro e w1 ⟨rfl, hg⟩
          replace HG := Lib.hid hg; clear hg
          go_wp2_with fail
          refine (S2.out _ HG.out).mono ?_
          rintro e w1 ⟨rfl, hg⟩
          replace HG := Lib.hid hg; clear hg
          go_wp2_with fail
          refine (X1.out _ HG.out).mono ?_
          rintro e w1 ⟨rfl, hg⟩
          replace HG := Lib.hid hg; clear hg
          go_wp2_with fail
          refine (M1.out _ HG.out).mono ?_
          rintro e w1 ⟨rfl, hg⟩
          replace HG := Lib.hid hg; clear hg
          go_wp2_with fail
          refine (X2.out _ HG.out).mono ?_
          rintro e w1 ⟨rfl, hg⟩
          replace HG := Lib.hid hg; clear hg
          go_wp2_with fail
          refine (M2.out _ HG.out).mono ?_
          rintro e w1 ⟨rfl, hg⟩
          replace HG := Lib.hid hg; clear hg
          go_wp2_with fail
          refine (N1.out _ HG.out).mono ?_
          rintro e w1 ⟨rfl, hg⟩
          replace HG := Lib.hid hg; clear hg
          go_wp2_with fail
          refine (N2.out _ HG.out).mono ?_
          rintro e w1 ⟨rfl, hg⟩
          replace HG := Lib.hid hg; clear hg
          go_wp2_with fail
          refine (T.out _ HG.out).mono ?_
          rintro e w1 ⟨rfl, hg⟩
          replace HG := Lib.hid hg; clear hg
          go_wp2
          go_ret
          exact ⟨rfl, HG.out⟩
        · have hm := ofG_anti (st := st) (ti := ti) (Rat.le_of_lt h) ti0 hle
          obtain ⟨a8, b8, a16, b16, u, v, q, z, h8, h16, a80, b81, a160, b161, L1, L2, E1, E2, S1, S2, X1, M1, X2, M2, N1, N2⟩ := raw_calls htab hmx herr sht shs (by omega) hlt' hls hm
          have L1 := Lib.hid L1
          have L2 := Lib.hid L2
          have E1 := Lib.hid E1
          have E2 := Lib.hid E2
          have S1 := Lib.hid S1
          have S2 := Lib.hid S2
          have X1 := Lib.hid X1
          have M1 := Lib.hid M1
          have X2 := Lib.hid X2
          have M2 := Lib.hid M2
          have N1 := Lib.hid N1
          have N2 := Lib.hid N2
          clear shs sht hls hlt' hm hx hst hti hb ib lb ha hra he htab hmx herr es hsj htj hs h hc
          generalize RT (ofG a x st ti s) = rs at *
          generalize RT (ofG a x st ti t) = rt at *
          generalize RT a = f at *
          generalize Tx x = xt at *
          intro w hg
          have HB := Lib.hid (Box4.new w f x st ti 24)
          have HG := Lib.hid (hg.alloc (oGl f x st ti))
          clear hg
          obtain ⟨k0, k1, k2, k3⟩ := id HB.out
          go_enter Tryz.func11, Tryz.ntmps11
          have F2 := F.out (w.alloc (oGl f x st ti))
          rw [World.size_alloc] at F2
          have F2 := Lib.hid F2
          go_wp2_with fail
          refine F2.out.mono ?_
          clear F2
          rintro e w1 ⟨rfl, hg⟩
          have hB := HB.out.gr hg
          replace HG := Lib.hid (Gr.trans HG.out hg)
          clear hg HB k0 k1 k2 k3
          have HB := Lib.hid hB
          obtain ⟨k0, k1, k2, k3⟩ := hB
          go_wp2_with fail
          refine (K.out _ HG.out).mono ?_
          rintro e w1 ⟨rfl, hg⟩
          have hB := HB.out.gr hg
          replace HG := Lib.hid (Gr.trans HG.out hg)
          clear hg HB k0 k1 k2 k3
          have HB := Lib.hid hB
          obtain ⟨k0, k1, k2, k3⟩ := hB
          go_wp2_with fail
          have gd : Gr w0 w1.drew := HG.out.drew
          go_region_held3 (fun w' => w'.cell? ⟨w.heap.size, 0, none⟩ = some (.string f) ∧ w'.cell? ⟨w.heap.size, 1, none⟩ = some (.int .i64 x) ∧ w'.cell? ⟨w.heap.size, 2, none⟩ = some (.int .i64 st) ∧ w'.cell? ⟨w.heap.size, 3, none⟩ = some (.int .i64 ti)) (go_keep) (first
            | (go_at_call 39; refine (W.out _ (by assumption)).mono ?_; rintro e w6 ⟨rfl, hw6⟩; have gw6 : Gr w0 w6 := Gr.trans (by assumption) hw6; have d0 : w6.cell? ⟨w.heap.size, 0, none⟩ = some (.string f) := gr_cell hw6 (by assumption); have d1 : w6.cell? ⟨w.heap.size, 1, none⟩ = some (.int .i64 x) := gr_cell hw6 (by assumption); have d2 : w6.cell? ⟨w.heap.size, 2, none⟩ = some (.int .i64 st) := gr_cell hw6 (by assumption); have d3 : w6.cell? ⟨w.heap.size, 3, none⟩ = some (.int .i64 ti) := gr_cell hw6 (by assumption))
            | (go_at_call 40; refine (O.out _ (by assumption)).mono ?_; rintro e w7 ⟨rfl, hw7⟩; have gw7 : Gr w0 w7 := Gr.trans (by assumption) hw7; have d0 : w7.cell? ⟨w.heap.size, 0, none⟩ = some (.string f) := gr_cell hw7 (by assumption); have d1 : w7.cell? ⟨w.heap.size, 1, none⟩ = some (.int .i64 x) := gr_cell hw7 (by assumption); have d2 : w7.cell? ⟨w.heap.size, 2, none⟩ = some (.int .i64 st) := gr_cell hw7 (by assumption); have d3 : w7.cell? ⟨w.heap.size, 3, none⟩ = some (.int .i64 ti) := gr_cell hw7 (by assumption)))
          have HB2 : Hid (Box4 w7 w.heap.size f x st ti) := ⟨by assumption, by assumption, by assumption, by assumption⟩
          have HG2 : Hid (Gr w0 w7) := by assumption
          clear HB HG k0 k1 k2 k3
          have HB := HB2
          have HG := HG2
          clear HB2 HG2
          obtain ⟨k0, k1, k2, k3⟩ := id HB.out
          go_wp2_with fail
          refine (AT.out _ HG.out).mono ?_
          rintro e w1 ⟨rfl, hg⟩
          have hB := HB.out.gr hg
          replace HG := Lib.hid (Gr.trans HG.out hg)
          clear hg HB k0 k1 k2 k3
          have HB := Lib.hid hB
          obtain ⟨k0, k1, k2, k3⟩ := hB
          go_wp2_with fail
          refine (AS.out _ HG.out).mono ?_
          rintro e w1 ⟨rfl, hg⟩
          have hB := HB.out.gr hg
          replace HG := Lib.hid (Gr.trans HG.out hg)
          clear hg HB k0 k1 k2 k3
          have HB := Lib.hid hB
          obtain ⟨k0, k1, k2, k3⟩ := hB
          clear HB k0 k1 k2 k3
          go_wp2_with fail
          refine (L1.out _ HG.out).mono ?_
          rintro e w1 ⟨rfl, hg⟩
          replace HG := Lib.hid hg; clear hg
          go_wp2_with fail
          refine (L2.out _ HG.out).mono ?_
          rintro e w1 ⟨rfl, hg⟩
          replace HG := Lib.hid hg; clear hg
          go_wp2_with fail
          refine (E1.out _ HG.out).mono ?_
          rintro e w1 ⟨rfl, hg⟩
          replace HG := Lib.hid hg; clear hg
          go_wp2_with fail
          refine (E2.out _ HG.out).mono ?_
          rintro e w1 ⟨rfl, hg⟩
          replace HG := Lib.hid hg; clear hg
          go_wp2_with fail
          refine (S1.out _ HG.out).mono ?_
          rintro e w1 ⟨rfl, hg⟩
          replace HG := Lib.hid hg; clear hg
          go_wp2_with fail
          refine (S2.out _ HG.out).mono ?_
          rintro e w1 ⟨rfl, hg⟩
          replace HG := Lib.hid hg; clear hg
          go_wp2_with fail
          refine (X1.out _ HG.out).mono ?_
          rintro e w1 ⟨rfl, hg⟩
          replace HG := Lib.hid hg; clear hg
          go_wp2_with fail
          refine (M1.out _ HG.out).mono ?_
          rintro e w1 ⟨rfl, hg⟩
          replace HG := Lib.hid hg; clear hg
          go_wp2_with fail
          refine (X2.out _ HG.out).mono ?_
          rintro e w1 ⟨rfl, hg⟩
          replace HG := Lib.hid hg; clear hg
          go_wp2_with fail
          refine (M2.out _ HG.out).mono ?_
          rintro e w1 ⟨rfl, hg⟩
          replace HG := Lib.hid hg; clear hg
          go_wp2_with fail
          refine (N1.out _ HG.out).mono ?_
          rintro e w1 ⟨rfl, hg⟩
          replace HG := Lib.hid hg; clear hg
          go_wp2_with fail
          refine (N2.out _ HG.out).mono ?_
          rintro e w1 ⟨rfl, hg⟩
          replace HG := Lib.hid hg; clear hg
          go_wp2_with fail
          refine (T.out _ HG.out).mono ?_
          rintro e w1 ⟨rfl, hg⟩
          replace HG := Lib.hid hg; clear hg
          go_wp2
          go_ret
          exact ⟨rfl, HG.out⟩
    · have hne : (glE f x st ti != 0) = true := by simpa using he
      clear he h12 hs hx hst hti hsj htj
      generalize glE f x st ti = r at *
      have K := Lib.hid K
      intro w hg
      have HB := Lib.hid (Box4.new w f x st ti 24)
      have HG := Lib.hid (hg.alloc (oGl f x st ti))
      clear hg
      obtain ⟨k0, k1, k2, k3⟩ := id HB.out
      go_enter Tryz.func11, Tryz.ntmps11
      have F2 := F.out (w.alloc (oGl f x st ti))
      rw [World.size_alloc] at F2
      have F2 := Lib.hid F2
      go_wp2_with fail
      refine F2.out.mono ?_
      clear F2
      rintro e w1 ⟨rfl, hg⟩
      have hB := HB.out.gr hg
      replace HG := Lib.hid (Gr.trans HG.out hg)
      clear hg HB k0 k1 k2 k3
      have HB := Lib.hid hB
      obtain ⟨k0, k1, k2, k3⟩ := hB
      go_wp2_with fail
      refine (K.out _ HG.out).mono ?_
      rintro e w1 ⟨rfl, hg⟩
      have hB := HB.out.gr hg
      replace HG := Lib.hid (Gr.trans HG.out hg)
      clear hg HB k0 k1 k2 k3
      have HB := Lib.hid hB
      obtain ⟨k0, k1, k2, k3⟩ := hB
      clear HB k0 k1 k2 k3
      go_wp2_with fail
      refine (T.out _ HG.out).mono ?_
      rintro e w1 ⟨rfl, hg⟩
      replace HG := Lib.hid hg; clear hg
      go_wp2
      go_ret
      exact ⟨rfl, HG.out⟩
  · rw [decide_eq_false h12] at F
    clear h12 hs hx hst hti hsj htj
    intro w hg
    have HB := Lib.hid (Box4.new w f x st ti 24)
    have HG := Lib.hid (hg.alloc (oGl f x st ti))
    clear hg
    obtain ⟨k0, k1, k2, k3⟩ := id HB.out
    go_enter Tryz.func11, Tryz.ntmps11
    have F2 := F.out (w.alloc (oGl f x st ti))
    rw [World.size_alloc] at F2
    have F2 := Lib.hid F2
    go_wp2_with fail
    refine F2.out.mono ?_
    clear F2
    rintro e w1 ⟨rfl, hg⟩
    have hB := HB.out.gr hg
    replace HG := Lib.hid (Gr.trans HG.out hg)
    clear hg HB k0 k1 k2 k3
    have HB := Lib.hid hB
    obtain ⟨k0, k1, k2, k3⟩ := hB
    clear HB k0 k1 k2 k3
    go_wp2_with fail
    refine (T.out _ HG.out).mono ?_
    rintro e w1 ⟨rfl, hg⟩
    replace HG := Lib.hid hg; clear hg
    go_wp2
    go_ret
    exact ⟨rfl, HG.out⟩
end
end Go.Proofs.YtffifpinnhaloaaGreatDoor
