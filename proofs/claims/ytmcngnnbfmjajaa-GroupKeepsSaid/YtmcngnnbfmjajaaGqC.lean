/- Law 14: With and Without of the reference. -/
import Derived.Test.YtmcngnnbfmjajaaGqB
set_option linter.unusedVariables false
set_option linter.unusedSimpArgs false
namespace Go.Proofs.Ytmcngnnbfmjajaa
open Go.RowKit
open Z
theorem withF_end (g : Gp) (d : Bool) : withF g d [] = if d = true then [] else [g] := rfl
theorem withF_len (g : Gp) : ∀ (l : List Gp) (d : Bool), (withF g d l).length ≤ l.length + 1
  | [], d => by unfold withF; split <;> simp
  | a :: r, d => by
    unfold withF
    cases d
    · by_cases h : g.1 ≤ a.1
      · rw [if_pos ⟨rfl, h⟩, decide_eq_true h, Bool.or_true, withF_true]
        have := List.length_filter_le (fun x : Gp => decide (x.1 ≠ g.1)) r
        rw [List.length_append, List.length_append]
        have h3 : (if a.1 ≠ g.1 then [a] else []).length ≤ 1 := by split <;> simp
        simp only [List.length_cons, List.length_nil]
        omega
      · rw [if_neg (fun h2 => h h2.2), List.nil_append, List.length_append]
        have h3 : (if a.1 ≠ g.1 then [a] else []).length ≤ 1 := by split <;> simp
        have := withF_len g r (false || decide (g.1 ≤ a.1))
        simp only [List.length_cons]
        omega
    · rw [if_neg (by simp), List.nil_append, List.length_append]
      have h3 : (if a.1 ≠ g.1 then [a] else []).length ≤ 1 := by split <;> simp
      have := withF_len g r (true || decide (g.1 ≤ a.1))
      simp only [List.length_cons]
      omega
theorem withF_step (g : Gp) (d : Bool) {l : List Gp} {j : Nat} (h : j < l.length) : withF g d (l.drop j) = (if d = false ∧ g.1 ≤ l[j].1 then [g] else []) ++ ((if l[j].1 ≠ g.1 then [l[j]] else []) ++ withF g (d || decide (g.1 ≤ l[j].1)) (l.drop (j + 1))) := by
  rw [List.drop_eq_getElem_cons h]; rfl
set_option maxRecDepth 100000 in
set_option maxHeartbeats 4000000 in
theorem r14_With {a : Option Addr} {l : List Gp} {cap : Nat} {v : Value} (g : Gp) (w : World) (hr : RdG w a l) (hlen : l.length ≤ 1000) (hv : GpV w v g) :
    Calls Try.prog 49 #[.slice a l.length cap, v] w fun e w' => (∃ u, e = .returned u ∧ TbV w' u (withF g false l)) ∧ Gr w w' := by
  obtain ⟨i0, hi, hz0, hz1, hz2⟩ := info_parts Try.infoGr
  obtain ⟨c, cp, rfl, rc, lc, mc⟩ := hv
  obtain ⟨x, L⟩ := g
  simp only at rc lc ⊢
  obtain ⟨R, hR⟩ : ∃ R, withF (x, L) false l = R := ⟨_, rfl⟩
  rw [hR]
  have HX0 := Lib.hid hR
  have HRL := Lib.hid (show R.length ≤ 1001 by rw [← hR]; have := withF_len (x, L) l false; omega)
  obtain ⟨w1, hw1⟩ : ∃ w1, w1 = w.alloc (.cells #[.int .i64 x, .slice c L.length cp] 25) := ⟨_, rfl⟩
  have hg1 : Gr w w1 := by rw [hw1]; exact (Gr.refl w).alloc _
  have HB := Lib.hid (show w1.cell? ⟨w.heap.size, 0, none⟩ = some (.int .i64 x) ∧ w1.cell? ⟨w.heap.size, 1, none⟩ = some (.slice c L.length cp) by rw [hw1]; exact box2 _ _ _ _)
  have HG1 := Lib.hid hg1
  obtain ⟨M, hM, hCh⟩ := (hr.gr hg1).split
  have HM := Lib.hid hM
  have HCh := Lib.hid hCh
  have HGV := Lib.hid (show ChAt w1 (x, c, L.length, cp) (x, L) from ⟨rfl, rfl, rc.gr hg1, lc, mc⟩)
  obtain ⟨n, hn⟩ : ∃ n, n = l.length := ⟨_, rfl⟩
  have HN := Lib.hid hn
  rw [← hn] at hlen ⊢
  generalize L.length = m at *
  clear hn hr rc hg1 hM hCh hR
  obtain ⟨p3, hp3⟩ : ∃ p3, p3 = w.heap.size := ⟨_, rfl⟩
  rw [← hp3] at HB
  have HW1 := Lib.hid hw1
  have HP3 := Lib.hid hp3
  clear hw1 hp3
  go_enter Try.func49, Try.ntmps49
  go_wp2_with fail
  rw [← HW1.out, ← HP3.out]
  go_loopw [5, 6, 7] (fun v d i wr => ∃ (j : Nat) (d' : Bool) (K : List GV) (xs : List Gp), i = .int .i64 j ∧ d = .bool d' ∧ j ≤ n ∧ Hid (OwnV w1.heap.size wr v K) ∧ Hid (ChL w1 K xs) ∧ Hid (Gr w1 wr) ∧ Hid (xs ++ withF (x, L) d' (l.drop j) = R)) (fun _ _ i _ => n - (intOf i).toNat)
  case atStart => exact ⟨0, false, [], [], rfl, rfl, Nat.zero_le _, Lib.hid (OwnV.nil _ _), Lib.hid (ChL.nil _), Lib.hid (Gr.refl _), HX0⟩
  case round =>
    obtain ⟨j, d', K, xs, rfl, rfl, hj, HO, HK, HG, HX⟩ := hrel
    by_cases hlt : j < n
    · have hjl : j < l.length := by rw [← HN.out]; exact hlt
      have hjM : j < M.length := by rw [HCh.out.1]; exact hjl
      obtain ⟨b, o, rfl, h1, h2⟩ := HM.out j hjM
      have hEV := HCh.out.2 j hjM hjl
      have HS := Lib.hid (withF_step (x, L) d' hjl)
      have hKl : K.length ≤ 3000 := by
        have h1 := congrArg List.length HX.out
        have h2 := HK.out.1
        rw [List.length_append] at h1
        have := HRL.out
        omega
      generalize M[j] = mj at *
      obtain ⟨y, c', m', cp'⟩ := mj
      generalize hlj : l[j] = gj at *
      obtain ⟨y0, Lj⟩ := gj
      obtain rfl : y = y0 := hEV.1
      have HE := Lib.hid (And.intro h1 h2)
      have HEV := Lib.hid hEV
      simp only [gsl] at HE
      clear h1 h2 hEV hlj
      cases d'
      · by_cases hge : x ≤ y
        · by_cases heq : y = x
          · subst heq
            have HX2 := Lib.hid (show (xs ++ [(y, L)]) ++ withF (y, L) true (l.drop (j + 1)) = R by
              have h := HX.out
              rw [HS.out] at h
              simpa [] using h)
            clear HX HS
            go_wp2_with fail
            have hb0 := gr_cell HG.out HB.out.1
            have hb1 := gr_cell HG.out HB.out.2
            have hc0 := gr_cell HG.out HE.out.1
            have hc1 := gr_cell HG.out HE.out.2
            have hS0 : (fun w' : World => Gr wr w') wr.drew := (Gr.refl _).drew
            refine wp_region_held (S := fun w' : World => Gr wr w') (by kernel_rfl) ?_
            change wpAnyH _ _ _ _ _ _ _ _ wr.drew
            refine wpAnyH_take (i := 0) (v := .bool false) rfl (by kernel_rfl) (by kernel_rfl) (by kernel_rfl) (fun _ _ _ h => h) (Or.inl ⟨by rfl, ?_⟩) hS0 ?_
            · intro w hSw; go_simp
            try simp only [Act.put, List.getElem_toArray, List.getElem_cons_succ, List.getElem_cons_zero, List.setIfInBounds_toArray, List.set_cons_zero, List.set_cons_succ]
            refine wpAnyH_take (i := 1) (v := .bool true) rfl (by kernel_rfl) (by kernel_rfl) (by kernel_rfl) (fun _ _ _ h => h) (Or.inl ⟨by rfl, ?_⟩) hS0 ?_
            · intro w hSw; go_simp
            try simp only [Act.put, List.getElem_toArray, List.getElem_cons_succ, List.getElem_cons_zero, List.setIfInBounds_toArray, List.set_cons_zero, List.set_cons_succ]
            refine wpAnyH_take (i := 2) (v := .bool true) rfl (by kernel_rfl) (by kernel_rfl) (by kernel_rfl) (fun _ _ _ h => h) (Or.inl ⟨by rfl, ?_⟩) hS0 ?_
            · intro w hSw; go_simp
            try simp only [Act.put, List.getElem_toArray, List.getElem_cons_succ, List.getElem_cons_zero, List.setIfInBounds_toArray, List.set_cons_zero, List.set_cons_succ]
            refine wpAnyH_take (i := 3) (v := .slice (some ⟨b, o, none⟩) n cap) rfl (by kernel_rfl) (by kernel_rfl) (by kernel_rfl) (fun _ _ _ h => h) (Or.inl ⟨by rfl, ?_⟩) hS0 ?_
            · intro w hSw; go_simp
            try simp only [Act.put, List.getElem_toArray, List.getElem_cons_succ, List.getElem_cons_zero, List.setIfInBounds_toArray, List.set_cons_zero, List.set_cons_succ]
            refine wpAnyH_take (i := 4) (v := .int .i64 j) rfl (by kernel_rfl) (by kernel_rfl) (by kernel_rfl) (fun _ _ _ h => h) (Or.inl ⟨by rfl, ?_⟩) hS0 ?_
            · intro w hSw; go_simp
            try simp only [Act.put, List.getElem_toArray, List.getElem_cons_succ, List.getElem_cons_zero, List.setIfInBounds_toArray, List.set_cons_zero, List.set_cons_succ]
            refine wpAnyH_take (i := 5) (v := .pointer (some ⟨b, o + j * 2, none⟩)) rfl (by kernel_rfl) (by kernel_rfl) (by kernel_rfl) (fun _ _ _ h => h) (Or.inl ⟨by rfl, ?_⟩) hS0 ?_
            · intro w hSw; go_simp
            try simp only [Act.put, List.getElem_toArray, List.getElem_cons_succ, List.getElem_cons_zero, List.setIfInBounds_toArray, List.set_cons_zero, List.set_cons_succ]
            refine wpAnyH_take (i := 6) (v := .pointer (some ⟨b, o + j * 2, none⟩)) rfl (by kernel_rfl) (by kernel_rfl) (by kernel_rfl) (fun _ _ _ h => h) (Or.inl ⟨by rfl, ?_⟩) hS0 ?_
            · intro w hSw; go_simp
            try simp only [Act.put, List.getElem_toArray, List.getElem_cons_succ, List.getElem_cons_zero, List.setIfInBounds_toArray, List.set_cons_zero, List.set_cons_succ]
            refine wpAnyH_take (i := 7) (v := .int .i64 y) rfl (by kernel_rfl) (by kernel_rfl) (by kernel_rfl) (fun _ _ _ h => h) (Or.inl ⟨by rfl, ?_⟩) hS0 ?_
            · intro w hSw; have s1 := gr_cell hSw hc0; go_simp
            try simp only [Act.put, List.getElem_toArray, List.getElem_cons_succ, List.getElem_cons_zero, List.setIfInBounds_toArray, List.set_cons_zero, List.set_cons_succ]
            refine wpAnyH_take (i := 8) (v := .pointer (some ⟨p3, 0, none⟩)) rfl (by kernel_rfl) (by kernel_rfl) (by kernel_rfl) (fun _ _ _ h => h) (Or.inl ⟨by rfl, ?_⟩) hS0 ?_
            · intro w hSw; go_simp
            try simp only [Act.put, List.getElem_toArray, List.getElem_cons_succ, List.getElem_cons_zero, List.setIfInBounds_toArray, List.set_cons_zero, List.set_cons_succ]
            refine wpAnyH_take (i := 9) (v := .int .i64 y) rfl (by kernel_rfl) (by kernel_rfl) (by kernel_rfl) (fun _ _ _ h => h) (Or.inl ⟨by rfl, ?_⟩) hS0 ?_
            · intro w hSw; have s1 := gr_cell hSw hb0; go_simp
            try simp only [Act.put, List.getElem_toArray, List.getElem_cons_succ, List.getElem_cons_zero, List.setIfInBounds_toArray, List.set_cons_zero, List.set_cons_succ]
            refine wpAnyH_take (i := 10) (v := .bool true) rfl (by kernel_rfl) (by kernel_rfl) (by kernel_rfl) (fun _ _ _ h => h) (Or.inl ⟨by rfl, ?_⟩) hS0 ?_
            · intro w hSw; go_simp
            try simp only [Act.put, List.getElem_toArray, List.getElem_cons_succ, List.getElem_cons_zero, List.setIfInBounds_toArray, List.set_cons_zero, List.set_cons_succ]
            refine wpAnyH_take (i := 11) (v := .bool true) rfl (by kernel_rfl) (by kernel_rfl) (by kernel_rfl) (fun _ _ _ h => h) (Or.inl ⟨by rfl, ?_⟩) hS0 ?_
            · intro w hSw; go_simp
            try simp only [Act.put, List.getElem_toArray, List.getElem_cons_succ, List.getElem_cons_zero, List.setIfInBounds_toArray, List.set_cons_zero, List.set_cons_succ]
            refine wpAnyH_done (by kernel_rfl) ?_ _
            obtain ⟨u1, hwd⟩ : ∃ W, W = wr.drew := ⟨_, rfl⟩
            rw [← hwd]
            have hgd : Gr wr u1 := by rw [hwd]; exact (Gr.refl _).drew
            have HO := Lib.hid (HO.out.gr hgd)
            have HG := Lib.hid (HG.out.trans hgd)
            clear hwd hgd hS0
            clear hb0 hb1 hc0 hc1
            obtain ⟨u2a, hwa⟩ : ∃ W, W = u1.alloc (.cells #[.int .i64 y, .slice c m cp] 25) := ⟨_, rfl⟩
            have hga : Gr u1 u2a := by rw [hwa]; exact (Gr.refl _).alloc _
            obtain ⟨hd0, hd1⟩ := show u2a.cell? ⟨u1.heap.size, 0, none⟩ = some _ ∧ u2a.cell? ⟨u1.heap.size, 1, none⟩ = some _ by rw [hwa]; exact box2 _ _ _ _
            have HY := Lib.hid (show RdGV u2a (some ⟨u1.heap.size, 0, none⟩) [(y, c, m, cp)] from fun j hj => by
              have : j = 0 := by simp at hj; omega
              subst this
              exact ⟨u1.heap.size, 0, rfl, by simpa using hd0, by simpa [gsl] using hd1⟩)
            clear hd0 hd1
            have HWA := Lib.hid hwa
            have HGA := Lib.hid (HG.out.trans hga)
            have HOA := Lib.hid (HO.out.gr hga)
            clear hwa hga
            have hb0 := gr_cell HG.out HB.out.1
            have hb1 := gr_cell HG.out HB.out.2
            have hc0 := gr_cell HG.out HE.out.1
            have hc1 := gr_cell HG.out HE.out.2
            go_wp2_with (at_builtin; rw [← HWA.out]; refine join_g hi hz0 hz1 hz2 rfl _ _ rfl _ K rfl HOA.out HGA.out.size (some ⟨u1.heap.size, 0, none⟩) [(y, c, m, cp)] 1 rfl HY.out (Or.inr ⟨_, _, rfl⟩) (by simp; omega) ?_; rintro v_u2 u2 HON hbn -; have HG := Lib.hid (show Gr w1 u2 from Below.trans HGA.out hbn); have HO := HON; have HK := Lib.hid (HK.out.app (ChL.one HGV.out)); clear hbn HON HY HWA HGA HOA hb0 hb1 hc0 hc1)
            have hb0 := gr_cell HG.out HB.out.1
            have hb1 := gr_cell HG.out HB.out.2
            have hc0 := gr_cell HG.out HE.out.1
            have hc1 := gr_cell HG.out HE.out.2
            have hS0 : (fun w' : World => Gr u2 w') u2.drew := (Gr.refl _).drew
            refine wp_region_held (S := fun w' : World => Gr u2 w') (by kernel_rfl) ?_
            change wpAnyH _ _ _ _ _ _ _ _ u2.drew
            refine wpAnyH_take (i := 0) (v := .slice (some ⟨b, o, none⟩) n cap) rfl (by kernel_rfl) (by kernel_rfl) (by kernel_rfl) (fun _ _ _ h => h) (Or.inl ⟨by rfl, ?_⟩) hS0 ?_
            · intro w hSw; go_simp
            try simp only [Act.put, List.getElem_toArray, List.getElem_cons_succ, List.getElem_cons_zero, List.setIfInBounds_toArray, List.set_cons_zero, List.set_cons_succ]
            refine wpAnyH_take (i := 1) (v := .int .i64 j) rfl (by kernel_rfl) (by kernel_rfl) (by kernel_rfl) (fun _ _ _ h => h) (Or.inl ⟨by rfl, ?_⟩) hS0 ?_
            · intro w hSw; go_simp
            try simp only [Act.put, List.getElem_toArray, List.getElem_cons_succ, List.getElem_cons_zero, List.setIfInBounds_toArray, List.set_cons_zero, List.set_cons_succ]
            refine wpAnyH_take (i := 2) (v := .pointer (some ⟨b, o + j * 2, none⟩)) rfl (by kernel_rfl) (by kernel_rfl) (by kernel_rfl) (fun _ _ _ h => h) (Or.inl ⟨by rfl, ?_⟩) hS0 ?_
            · intro w hSw; go_simp
            try simp only [Act.put, List.getElem_toArray, List.getElem_cons_succ, List.getElem_cons_zero, List.setIfInBounds_toArray, List.set_cons_zero, List.set_cons_succ]
            refine wpAnyH_take (i := 3) (v := .pointer (some ⟨b, o + j * 2, none⟩)) rfl (by kernel_rfl) (by kernel_rfl) (by kernel_rfl) (fun _ _ _ h => h) (Or.inl ⟨by rfl, ?_⟩) hS0 ?_
            · intro w hSw; go_simp
            try simp only [Act.put, List.getElem_toArray, List.getElem_cons_succ, List.getElem_cons_zero, List.setIfInBounds_toArray, List.set_cons_zero, List.set_cons_succ]
            refine wpAnyH_take (i := 4) (v := .int .i64 y) rfl (by kernel_rfl) (by kernel_rfl) (by kernel_rfl) (fun _ _ _ h => h) (Or.inl ⟨by rfl, ?_⟩) hS0 ?_
            · intro w hSw; have s1 := gr_cell hSw hc0; go_simp
            try simp only [Act.put, List.getElem_toArray, List.getElem_cons_succ, List.getElem_cons_zero, List.setIfInBounds_toArray, List.set_cons_zero, List.set_cons_succ]
            refine wpAnyH_take (i := 5) (v := .pointer (some ⟨p3, 0, none⟩)) rfl (by kernel_rfl) (by kernel_rfl) (by kernel_rfl) (fun _ _ _ h => h) (Or.inl ⟨by rfl, ?_⟩) hS0 ?_
            · intro w hSw; go_simp
            try simp only [Act.put, List.getElem_toArray, List.getElem_cons_succ, List.getElem_cons_zero, List.setIfInBounds_toArray, List.set_cons_zero, List.set_cons_succ]
            refine wpAnyH_take (i := 6) (v := .int .i64 y) rfl (by kernel_rfl) (by kernel_rfl) (by kernel_rfl) (fun _ _ _ h => h) (Or.inl ⟨by rfl, ?_⟩) hS0 ?_
            · intro w hSw; have s1 := gr_cell hSw hb0; go_simp
            try simp only [Act.put, List.getElem_toArray, List.getElem_cons_succ, List.getElem_cons_zero, List.setIfInBounds_toArray, List.set_cons_zero, List.set_cons_succ]
            refine wpAnyH_take (i := 7) (v := .bool false) rfl (by kernel_rfl) (by kernel_rfl) (by kernel_rfl) (fun _ _ _ h => h) (Or.inl ⟨by rfl, ?_⟩) hS0 ?_
            · intro w hSw; go_simp; try (simp; omega)
            try simp only [Act.put, List.getElem_toArray, List.getElem_cons_succ, List.getElem_cons_zero, List.setIfInBounds_toArray, List.set_cons_zero, List.set_cons_succ]
            refine wpAnyH_done (by kernel_rfl) ?_ _
            obtain ⟨u3, hwd⟩ : ∃ W, W = u2.drew := ⟨_, rfl⟩
            rw [← hwd]
            have hgd : Gr u2 u3 := by rw [hwd]; exact (Gr.refl _).drew
            have HO := Lib.hid (HO.out.gr hgd)
            have HG := Lib.hid (HG.out.trans hgd)
            clear hwd hgd hS0
            clear hb0 hb1 hc0 hc1
            go_wp2
            go_roundw
            case rel => exact ⟨j + 1, true, _, _, by go_num, rfl, by omega, HO, HK, HG, HX2⟩
            case measure => simp [intOf]; omega
          · have hne : (y == x) = false := by simpa using heq
            have HX2 := Lib.hid (show (xs ++ [(x, L)] ++ [(y, Lj)]) ++ withF (x, L) true (l.drop (j + 1)) = R by
              have h := HX.out
              rw [HS.out] at h
              simpa [hge, heq] using h)
            clear HX HS
            go_wp2_with fail
            have hb0 := gr_cell HG.out HB.out.1
            have hb1 := gr_cell HG.out HB.out.2
            have hc0 := gr_cell HG.out HE.out.1
            have hc1 := gr_cell HG.out HE.out.2
            have hS0 : (fun w' : World => Gr wr w') wr.drew := (Gr.refl _).drew
            refine wp_region_held (S := fun w' : World => Gr wr w') (by kernel_rfl) ?_
            change wpAnyH _ _ _ _ _ _ _ _ wr.drew
            refine wpAnyH_take (i := 0) (v := .bool false) rfl (by kernel_rfl) (by kernel_rfl) (by kernel_rfl) (fun _ _ _ h => h) (Or.inl ⟨by rfl, ?_⟩) hS0 ?_
            · intro w hSw; go_simp
            try simp only [Act.put, List.getElem_toArray, List.getElem_cons_succ, List.getElem_cons_zero, List.setIfInBounds_toArray, List.set_cons_zero, List.set_cons_succ]
            refine wpAnyH_take (i := 1) (v := .bool true) rfl (by kernel_rfl) (by kernel_rfl) (by kernel_rfl) (fun _ _ _ h => h) (Or.inl ⟨by rfl, ?_⟩) hS0 ?_
            · intro w hSw; go_simp
            try simp only [Act.put, List.getElem_toArray, List.getElem_cons_succ, List.getElem_cons_zero, List.setIfInBounds_toArray, List.set_cons_zero, List.set_cons_succ]
            refine wpAnyH_take (i := 2) (v := .bool true) rfl (by kernel_rfl) (by kernel_rfl) (by kernel_rfl) (fun _ _ _ h => h) (Or.inl ⟨by rfl, ?_⟩) hS0 ?_
            · intro w hSw; go_simp
            try simp only [Act.put, List.getElem_toArray, List.getElem_cons_succ, List.getElem_cons_zero, List.setIfInBounds_toArray, List.set_cons_zero, List.set_cons_succ]
            refine wpAnyH_take (i := 3) (v := .slice (some ⟨b, o, none⟩) n cap) rfl (by kernel_rfl) (by kernel_rfl) (by kernel_rfl) (fun _ _ _ h => h) (Or.inl ⟨by rfl, ?_⟩) hS0 ?_
            · intro w hSw; go_simp
            try simp only [Act.put, List.getElem_toArray, List.getElem_cons_succ, List.getElem_cons_zero, List.setIfInBounds_toArray, List.set_cons_zero, List.set_cons_succ]
            refine wpAnyH_take (i := 4) (v := .int .i64 j) rfl (by kernel_rfl) (by kernel_rfl) (by kernel_rfl) (fun _ _ _ h => h) (Or.inl ⟨by rfl, ?_⟩) hS0 ?_
            · intro w hSw; go_simp
            try simp only [Act.put, List.getElem_toArray, List.getElem_cons_succ, List.getElem_cons_zero, List.setIfInBounds_toArray, List.set_cons_zero, List.set_cons_succ]
            refine wpAnyH_take (i := 5) (v := .pointer (some ⟨b, o + j * 2, none⟩)) rfl (by kernel_rfl) (by kernel_rfl) (by kernel_rfl) (fun _ _ _ h => h) (Or.inl ⟨by rfl, ?_⟩) hS0 ?_
            · intro w hSw; go_simp
            try simp only [Act.put, List.getElem_toArray, List.getElem_cons_succ, List.getElem_cons_zero, List.setIfInBounds_toArray, List.set_cons_zero, List.set_cons_succ]
            refine wpAnyH_take (i := 6) (v := .pointer (some ⟨b, o + j * 2, none⟩)) rfl (by kernel_rfl) (by kernel_rfl) (by kernel_rfl) (fun _ _ _ h => h) (Or.inl ⟨by rfl, ?_⟩) hS0 ?_
            · intro w hSw; go_simp
            try simp only [Act.put, List.getElem_toArray, List.getElem_cons_succ, List.getElem_cons_zero, List.setIfInBounds_toArray, List.set_cons_zero, List.set_cons_succ]
            refine wpAnyH_take (i := 7) (v := .int .i64 y) rfl (by kernel_rfl) (by kernel_rfl) (by kernel_rfl) (fun _ _ _ h => h) (Or.inl ⟨by rfl, ?_⟩) hS0 ?_
            · intro w hSw; have s1 := gr_cell hSw hc0; go_simp
            try simp only [Act.put, List.getElem_toArray, List.getElem_cons_succ, List.getElem_cons_zero, List.setIfInBounds_toArray, List.set_cons_zero, List.set_cons_succ]
            refine wpAnyH_take (i := 8) (v := .pointer (some ⟨p3, 0, none⟩)) rfl (by kernel_rfl) (by kernel_rfl) (by kernel_rfl) (fun _ _ _ h => h) (Or.inl ⟨by rfl, ?_⟩) hS0 ?_
            · intro w hSw; go_simp
            try simp only [Act.put, List.getElem_toArray, List.getElem_cons_succ, List.getElem_cons_zero, List.setIfInBounds_toArray, List.set_cons_zero, List.set_cons_succ]
            refine wpAnyH_take (i := 9) (v := .int .i64 x) rfl (by kernel_rfl) (by kernel_rfl) (by kernel_rfl) (fun _ _ _ h => h) (Or.inl ⟨by rfl, ?_⟩) hS0 ?_
            · intro w hSw; have s1 := gr_cell hSw hb0; go_simp
            try simp only [Act.put, List.getElem_toArray, List.getElem_cons_succ, List.getElem_cons_zero, List.setIfInBounds_toArray, List.set_cons_zero, List.set_cons_succ]
            refine wpAnyH_take (i := 10) (v := .bool true) rfl (by kernel_rfl) (by kernel_rfl) (by kernel_rfl) (fun _ _ _ h => h) (Or.inl ⟨by rfl, ?_⟩) hS0 ?_
            · intro w hSw; go_simp
            try simp only [Act.put, List.getElem_toArray, List.getElem_cons_succ, List.getElem_cons_zero, List.setIfInBounds_toArray, List.set_cons_zero, List.set_cons_succ]
            refine wpAnyH_take (i := 11) (v := .bool true) rfl (by kernel_rfl) (by kernel_rfl) (by kernel_rfl) (fun _ _ _ h => h) (Or.inl ⟨by rfl, ?_⟩) hS0 ?_
            · intro w hSw; go_simp
            try simp only [Act.put, List.getElem_toArray, List.getElem_cons_succ, List.getElem_cons_zero, List.setIfInBounds_toArray, List.set_cons_zero, List.set_cons_succ]
            refine wpAnyH_done (by kernel_rfl) ?_ _
            obtain ⟨u1, hwd⟩ : ∃ W, W = wr.drew := ⟨_, rfl⟩
            rw [← hwd]
            have hgd : Gr wr u1 := by rw [hwd]; exact (Gr.refl _).drew
            have HO := Lib.hid (HO.out.gr hgd)
            have HG := Lib.hid (HG.out.trans hgd)
            clear hwd hgd hS0
            clear hb0 hb1 hc0 hc1
            obtain ⟨u2a, hwa⟩ : ∃ W, W = u1.alloc (.cells #[.int .i64 x, .slice c m cp] 25) := ⟨_, rfl⟩
            have hga : Gr u1 u2a := by rw [hwa]; exact (Gr.refl _).alloc _
            obtain ⟨hd0, hd1⟩ := show u2a.cell? ⟨u1.heap.size, 0, none⟩ = some _ ∧ u2a.cell? ⟨u1.heap.size, 1, none⟩ = some _ by rw [hwa]; exact box2 _ _ _ _
            have HY := Lib.hid (show RdGV u2a (some ⟨u1.heap.size, 0, none⟩) [(x, c, m, cp)] from fun j hj => by
              have : j = 0 := by simp at hj; omega
              subst this
              exact ⟨u1.heap.size, 0, rfl, by simpa using hd0, by simpa [gsl] using hd1⟩)
            clear hd0 hd1
            have HWA := Lib.hid hwa
            have HGA := Lib.hid (HG.out.trans hga)
            have HOA := Lib.hid (HO.out.gr hga)
            clear hwa hga
            have hb0 := gr_cell HG.out HB.out.1
            have hb1 := gr_cell HG.out HB.out.2
            have hc0 := gr_cell HG.out HE.out.1
            have hc1 := gr_cell HG.out HE.out.2
            go_wp2_with (at_builtin; rw [← HWA.out]; refine join_g hi hz0 hz1 hz2 rfl _ _ rfl _ K rfl HOA.out HGA.out.size (some ⟨u1.heap.size, 0, none⟩) [(x, c, m, cp)] 1 rfl HY.out (Or.inr ⟨_, _, rfl⟩) (by simp; omega) ?_; rintro v_u2 u2 HON hbn -; have HG := Lib.hid (show Gr w1 u2 from Below.trans HGA.out hbn); have HO := HON; have HK := Lib.hid (HK.out.app (ChL.one HGV.out)); clear hbn HON HY HWA HGA HOA hb0 hb1 hc0 hc1)
            have hb0 := gr_cell HG.out HB.out.1
            have hb1 := gr_cell HG.out HB.out.2
            have hc0 := gr_cell HG.out HE.out.1
            have hc1 := gr_cell HG.out HE.out.2
            have hS0 : (fun w' : World => Gr u2 w') u2.drew := (Gr.refl _).drew
            refine wp_region_held (S := fun w' : World => Gr u2 w') (by kernel_rfl) ?_
            change wpAnyH _ _ _ _ _ _ _ _ u2.drew
            refine wpAnyH_take (i := 0) (v := .slice (some ⟨b, o, none⟩) n cap) rfl (by kernel_rfl) (by kernel_rfl) (by kernel_rfl) (fun _ _ _ h => h) (Or.inl ⟨by rfl, ?_⟩) hS0 ?_
            · intro w hSw; go_simp
            try simp only [Act.put, List.getElem_toArray, List.getElem_cons_succ, List.getElem_cons_zero, List.setIfInBounds_toArray, List.set_cons_zero, List.set_cons_succ]
            refine wpAnyH_take (i := 1) (v := .int .i64 j) rfl (by kernel_rfl) (by kernel_rfl) (by kernel_rfl) (fun _ _ _ h => h) (Or.inl ⟨by rfl, ?_⟩) hS0 ?_
            · intro w hSw; go_simp
            try simp only [Act.put, List.getElem_toArray, List.getElem_cons_succ, List.getElem_cons_zero, List.setIfInBounds_toArray, List.set_cons_zero, List.set_cons_succ]
            refine wpAnyH_take (i := 2) (v := .pointer (some ⟨b, o + j * 2, none⟩)) rfl (by kernel_rfl) (by kernel_rfl) (by kernel_rfl) (fun _ _ _ h => h) (Or.inl ⟨by rfl, ?_⟩) hS0 ?_
            · intro w hSw; go_simp
            try simp only [Act.put, List.getElem_toArray, List.getElem_cons_succ, List.getElem_cons_zero, List.setIfInBounds_toArray, List.set_cons_zero, List.set_cons_succ]
            refine wpAnyH_take (i := 3) (v := .pointer (some ⟨b, o + j * 2, none⟩)) rfl (by kernel_rfl) (by kernel_rfl) (by kernel_rfl) (fun _ _ _ h => h) (Or.inl ⟨by rfl, ?_⟩) hS0 ?_
            · intro w hSw; go_simp
            try simp only [Act.put, List.getElem_toArray, List.getElem_cons_succ, List.getElem_cons_zero, List.setIfInBounds_toArray, List.set_cons_zero, List.set_cons_succ]
            refine wpAnyH_take (i := 4) (v := .int .i64 y) rfl (by kernel_rfl) (by kernel_rfl) (by kernel_rfl) (fun _ _ _ h => h) (Or.inl ⟨by rfl, ?_⟩) hS0 ?_
            · intro w hSw; have s1 := gr_cell hSw hc0; go_simp
            try simp only [Act.put, List.getElem_toArray, List.getElem_cons_succ, List.getElem_cons_zero, List.setIfInBounds_toArray, List.set_cons_zero, List.set_cons_succ]
            refine wpAnyH_take (i := 5) (v := .pointer (some ⟨p3, 0, none⟩)) rfl (by kernel_rfl) (by kernel_rfl) (by kernel_rfl) (fun _ _ _ h => h) (Or.inl ⟨by rfl, ?_⟩) hS0 ?_
            · intro w hSw; go_simp
            try simp only [Act.put, List.getElem_toArray, List.getElem_cons_succ, List.getElem_cons_zero, List.setIfInBounds_toArray, List.set_cons_zero, List.set_cons_succ]
            refine wpAnyH_take (i := 6) (v := .int .i64 x) rfl (by kernel_rfl) (by kernel_rfl) (by kernel_rfl) (fun _ _ _ h => h) (Or.inl ⟨by rfl, ?_⟩) hS0 ?_
            · intro w hSw; have s1 := gr_cell hSw hb0; go_simp
            try simp only [Act.put, List.getElem_toArray, List.getElem_cons_succ, List.getElem_cons_zero, List.setIfInBounds_toArray, List.set_cons_zero, List.set_cons_succ]
            refine wpAnyH_take (i := 7) (v := .bool true) rfl (by kernel_rfl) (by kernel_rfl) (by kernel_rfl) (fun _ _ _ h => h) (Or.inl ⟨by rfl, ?_⟩) hS0 ?_
            · intro w hSw; go_simp; try (simp; omega)
            try simp only [Act.put, List.getElem_toArray, List.getElem_cons_succ, List.getElem_cons_zero, List.setIfInBounds_toArray, List.set_cons_zero, List.set_cons_succ]
            refine wpAnyH_done (by kernel_rfl) ?_ _
            obtain ⟨u3, hwd⟩ : ∃ W, W = u2.drew := ⟨_, rfl⟩
            rw [← hwd]
            have hgd : Gr u2 u3 := by rw [hwd]; exact (Gr.refl _).drew
            have HO := Lib.hid (HO.out.gr hgd)
            have HG := Lib.hid (HG.out.trans hgd)
            clear hwd hgd hS0
            clear hb0 hb1 hc0 hc1
            obtain ⟨u4a, hwa⟩ : ∃ W, W = u3.alloc (.cells #[.int .i64 y, .slice c' m' cp'] 25) := ⟨_, rfl⟩
            have hga : Gr u3 u4a := by rw [hwa]; exact (Gr.refl _).alloc _
            obtain ⟨hd0, hd1⟩ := show u4a.cell? ⟨u3.heap.size, 0, none⟩ = some _ ∧ u4a.cell? ⟨u3.heap.size, 1, none⟩ = some _ by rw [hwa]; exact box2 _ _ _ _
            have HY := Lib.hid (show RdGV u4a (some ⟨u3.heap.size, 0, none⟩) [(y, c', m', cp')] from fun j hj => by
              have : j = 0 := by simp at hj; omega
              subst this
              exact ⟨u3.heap.size, 0, rfl, by simpa using hd0, by simpa [gsl] using hd1⟩)
            clear hd0 hd1
            have HWA := Lib.hid hwa
            have HGA := Lib.hid (HG.out.trans hga)
            have HOA := Lib.hid (HO.out.gr hga)
            clear hwa hga
            have hb0 := gr_cell HG.out HB.out.1
            have hb1 := gr_cell HG.out HB.out.2
            have hc0 := gr_cell HG.out HE.out.1
            have hc1 := gr_cell HG.out HE.out.2
            go_wp2_with (at_builtin; rw [← HWA.out]; refine join_g hi hz0 hz1 hz2 rfl _ _ rfl _ (K ++ [(x, c, m, cp)]) rfl HOA.out HGA.out.size (some ⟨u3.heap.size, 0, none⟩) [(y, c', m', cp')] 1 rfl HY.out (Or.inr ⟨_, _, rfl⟩) (by simp; omega) ?_; rintro v_u4 u4 HON hbn -; have HG := Lib.hid (show Gr w1 u4 from Below.trans HGA.out hbn); have HO := HON; have HK := Lib.hid (HK.out.app (ChL.one HEV.out)); clear hbn HON HY HWA HGA HOA hb0 hb1 hc0 hc1)
            go_roundw
            case rel => exact ⟨j + 1, true, _, _, by go_num, rfl, by omega, HO, HK, HG, HX2⟩
            case measure => simp [intOf]; omega
        · have heq : y ≠ x := by omega
          have hne : (y == x) = false := by simpa using heq
          have HX2 := Lib.hid (show (xs ++ [(y, Lj)]) ++ withF (x, L) false (l.drop (j + 1)) = R by
            have h := HX.out
            rw [HS.out] at h
            simpa [hge, heq] using h)
          clear HX HS
          go_wp2_with fail
          have hb0 := gr_cell HG.out HB.out.1
          have hb1 := gr_cell HG.out HB.out.2
          have hc0 := gr_cell HG.out HE.out.1
          have hc1 := gr_cell HG.out HE.out.2
          have hS0 : (fun w' : World => Gr wr w') wr.drew := (Gr.refl _).drew
          refine wp_region_held (S := fun w' : World => Gr wr w') (by kernel_rfl) ?_
          change wpAnyH _ _ _ _ _ _ _ _ wr.drew
          refine wpAnyH_take (i := 0) (v := .bool false) rfl (by kernel_rfl) (by kernel_rfl) (by kernel_rfl) (fun _ _ _ h => h) (Or.inl ⟨by rfl, ?_⟩) hS0 ?_
          · intro w hSw; go_simp
          try simp only [Act.put, List.getElem_toArray, List.getElem_cons_succ, List.getElem_cons_zero, List.setIfInBounds_toArray, List.set_cons_zero, List.set_cons_succ]
          refine wpAnyH_take (i := 1) (v := .bool true) rfl (by kernel_rfl) (by kernel_rfl) (by kernel_rfl) (fun _ _ _ h => h) (Or.inl ⟨by rfl, ?_⟩) hS0 ?_
          · intro w hSw; go_simp
          try simp only [Act.put, List.getElem_toArray, List.getElem_cons_succ, List.getElem_cons_zero, List.setIfInBounds_toArray, List.set_cons_zero, List.set_cons_succ]
          refine wpAnyH_take (i := 2) (v := .bool true) rfl (by kernel_rfl) (by kernel_rfl) (by kernel_rfl) (fun _ _ _ h => h) (Or.inl ⟨by rfl, ?_⟩) hS0 ?_
          · intro w hSw; go_simp
          try simp only [Act.put, List.getElem_toArray, List.getElem_cons_succ, List.getElem_cons_zero, List.setIfInBounds_toArray, List.set_cons_zero, List.set_cons_succ]
          refine wpAnyH_take (i := 3) (v := .slice (some ⟨b, o, none⟩) n cap) rfl (by kernel_rfl) (by kernel_rfl) (by kernel_rfl) (fun _ _ _ h => h) (Or.inl ⟨by rfl, ?_⟩) hS0 ?_
          · intro w hSw; go_simp
          try simp only [Act.put, List.getElem_toArray, List.getElem_cons_succ, List.getElem_cons_zero, List.setIfInBounds_toArray, List.set_cons_zero, List.set_cons_succ]
          refine wpAnyH_take (i := 4) (v := .int .i64 j) rfl (by kernel_rfl) (by kernel_rfl) (by kernel_rfl) (fun _ _ _ h => h) (Or.inl ⟨by rfl, ?_⟩) hS0 ?_
          · intro w hSw; go_simp
          try simp only [Act.put, List.getElem_toArray, List.getElem_cons_succ, List.getElem_cons_zero, List.setIfInBounds_toArray, List.set_cons_zero, List.set_cons_succ]
          refine wpAnyH_take (i := 5) (v := .pointer (some ⟨b, o + j * 2, none⟩)) rfl (by kernel_rfl) (by kernel_rfl) (by kernel_rfl) (fun _ _ _ h => h) (Or.inl ⟨by rfl, ?_⟩) hS0 ?_
          · intro w hSw; go_simp
          try simp only [Act.put, List.getElem_toArray, List.getElem_cons_succ, List.getElem_cons_zero, List.setIfInBounds_toArray, List.set_cons_zero, List.set_cons_succ]
          refine wpAnyH_take (i := 6) (v := .pointer (some ⟨b, o + j * 2, none⟩)) rfl (by kernel_rfl) (by kernel_rfl) (by kernel_rfl) (fun _ _ _ h => h) (Or.inl ⟨by rfl, ?_⟩) hS0 ?_
          · intro w hSw; go_simp
          try simp only [Act.put, List.getElem_toArray, List.getElem_cons_succ, List.getElem_cons_zero, List.setIfInBounds_toArray, List.set_cons_zero, List.set_cons_succ]
          refine wpAnyH_take (i := 7) (v := .int .i64 y) rfl (by kernel_rfl) (by kernel_rfl) (by kernel_rfl) (fun _ _ _ h => h) (Or.inl ⟨by rfl, ?_⟩) hS0 ?_
          · intro w hSw; have s1 := gr_cell hSw hc0; go_simp
          try simp only [Act.put, List.getElem_toArray, List.getElem_cons_succ, List.getElem_cons_zero, List.setIfInBounds_toArray, List.set_cons_zero, List.set_cons_succ]
          refine wpAnyH_take (i := 8) (v := .pointer (some ⟨p3, 0, none⟩)) rfl (by kernel_rfl) (by kernel_rfl) (by kernel_rfl) (fun _ _ _ h => h) (Or.inl ⟨by rfl, ?_⟩) hS0 ?_
          · intro w hSw; go_simp
          try simp only [Act.put, List.getElem_toArray, List.getElem_cons_succ, List.getElem_cons_zero, List.setIfInBounds_toArray, List.set_cons_zero, List.set_cons_succ]
          refine wpAnyH_take (i := 9) (v := .int .i64 x) rfl (by kernel_rfl) (by kernel_rfl) (by kernel_rfl) (fun _ _ _ h => h) (Or.inl ⟨by rfl, ?_⟩) hS0 ?_
          · intro w hSw; have s1 := gr_cell hSw hb0; go_simp
          try simp only [Act.put, List.getElem_toArray, List.getElem_cons_succ, List.getElem_cons_zero, List.setIfInBounds_toArray, List.set_cons_zero, List.set_cons_succ]
          refine wpAnyH_take (i := 10) (v := .bool false) rfl (by kernel_rfl) (by kernel_rfl) (by kernel_rfl) (fun _ _ _ h => h) (Or.inl ⟨by rfl, ?_⟩) hS0 ?_
          · intro w hSw; go_simp
          try simp only [Act.put, List.getElem_toArray, List.getElem_cons_succ, List.getElem_cons_zero, List.setIfInBounds_toArray, List.set_cons_zero, List.set_cons_succ]
          refine wpAnyH_take (i := 11) (v := .bool false) rfl (by kernel_rfl) (by kernel_rfl) (by kernel_rfl) (fun _ _ _ h => h) (Or.inl ⟨by rfl, ?_⟩) hS0 ?_
          · intro w hSw; go_simp
          try simp only [Act.put, List.getElem_toArray, List.getElem_cons_succ, List.getElem_cons_zero, List.setIfInBounds_toArray, List.set_cons_zero, List.set_cons_succ]
          refine wpAnyH_done (by kernel_rfl) ?_ _
          obtain ⟨u1, hwd⟩ : ∃ W, W = wr.drew := ⟨_, rfl⟩
          rw [← hwd]
          have hgd : Gr wr u1 := by rw [hwd]; exact (Gr.refl _).drew
          have HO := Lib.hid (HO.out.gr hgd)
          have HG := Lib.hid (HG.out.trans hgd)
          clear hwd hgd hS0
          clear hb0 hb1 hc0 hc1
          go_wp2_with fail
          have hb0 := gr_cell HG.out HB.out.1
          have hb1 := gr_cell HG.out HB.out.2
          have hc0 := gr_cell HG.out HE.out.1
          have hc1 := gr_cell HG.out HE.out.2
          have hS0 : (fun w' : World => Gr u1 w') u1.drew := (Gr.refl _).drew
          refine wp_region_held (S := fun w' : World => Gr u1 w') (by kernel_rfl) ?_
          change wpAnyH _ _ _ _ _ _ _ _ u1.drew
          refine wpAnyH_take (i := 0) (v := .slice (some ⟨b, o, none⟩) n cap) rfl (by kernel_rfl) (by kernel_rfl) (by kernel_rfl) (fun _ _ _ h => h) (Or.inl ⟨by rfl, ?_⟩) hS0 ?_
          · intro w hSw; go_simp
          try simp only [Act.put, List.getElem_toArray, List.getElem_cons_succ, List.getElem_cons_zero, List.setIfInBounds_toArray, List.set_cons_zero, List.set_cons_succ]
          refine wpAnyH_take (i := 1) (v := .int .i64 j) rfl (by kernel_rfl) (by kernel_rfl) (by kernel_rfl) (fun _ _ _ h => h) (Or.inl ⟨by rfl, ?_⟩) hS0 ?_
          · intro w hSw; go_simp
          try simp only [Act.put, List.getElem_toArray, List.getElem_cons_succ, List.getElem_cons_zero, List.setIfInBounds_toArray, List.set_cons_zero, List.set_cons_succ]
          refine wpAnyH_take (i := 2) (v := .pointer (some ⟨b, o + j * 2, none⟩)) rfl (by kernel_rfl) (by kernel_rfl) (by kernel_rfl) (fun _ _ _ h => h) (Or.inl ⟨by rfl, ?_⟩) hS0 ?_
          · intro w hSw; go_simp
          try simp only [Act.put, List.getElem_toArray, List.getElem_cons_succ, List.getElem_cons_zero, List.setIfInBounds_toArray, List.set_cons_zero, List.set_cons_succ]
          refine wpAnyH_take (i := 3) (v := .pointer (some ⟨b, o + j * 2, none⟩)) rfl (by kernel_rfl) (by kernel_rfl) (by kernel_rfl) (fun _ _ _ h => h) (Or.inl ⟨by rfl, ?_⟩) hS0 ?_
          · intro w hSw; go_simp
          try simp only [Act.put, List.getElem_toArray, List.getElem_cons_succ, List.getElem_cons_zero, List.setIfInBounds_toArray, List.set_cons_zero, List.set_cons_succ]
          refine wpAnyH_take (i := 4) (v := .int .i64 y) rfl (by kernel_rfl) (by kernel_rfl) (by kernel_rfl) (fun _ _ _ h => h) (Or.inl ⟨by rfl, ?_⟩) hS0 ?_
          · intro w hSw; have s1 := gr_cell hSw hc0; go_simp
          try simp only [Act.put, List.getElem_toArray, List.getElem_cons_succ, List.getElem_cons_zero, List.setIfInBounds_toArray, List.set_cons_zero, List.set_cons_succ]
          refine wpAnyH_take (i := 5) (v := .pointer (some ⟨p3, 0, none⟩)) rfl (by kernel_rfl) (by kernel_rfl) (by kernel_rfl) (fun _ _ _ h => h) (Or.inl ⟨by rfl, ?_⟩) hS0 ?_
          · intro w hSw; go_simp
          try simp only [Act.put, List.getElem_toArray, List.getElem_cons_succ, List.getElem_cons_zero, List.setIfInBounds_toArray, List.set_cons_zero, List.set_cons_succ]
          refine wpAnyH_take (i := 6) (v := .int .i64 x) rfl (by kernel_rfl) (by kernel_rfl) (by kernel_rfl) (fun _ _ _ h => h) (Or.inl ⟨by rfl, ?_⟩) hS0 ?_
          · intro w hSw; have s1 := gr_cell hSw hb0; go_simp
          try simp only [Act.put, List.getElem_toArray, List.getElem_cons_succ, List.getElem_cons_zero, List.setIfInBounds_toArray, List.set_cons_zero, List.set_cons_succ]
          refine wpAnyH_take (i := 7) (v := .bool true) rfl (by kernel_rfl) (by kernel_rfl) (by kernel_rfl) (fun _ _ _ h => h) (Or.inl ⟨by rfl, ?_⟩) hS0 ?_
          · intro w hSw; go_simp; try (simp; omega)
          try simp only [Act.put, List.getElem_toArray, List.getElem_cons_succ, List.getElem_cons_zero, List.setIfInBounds_toArray, List.set_cons_zero, List.set_cons_succ]
          refine wpAnyH_done (by kernel_rfl) ?_ _
          obtain ⟨u3, hwd⟩ : ∃ W, W = u1.drew := ⟨_, rfl⟩
          rw [← hwd]
          have hgd : Gr u1 u3 := by rw [hwd]; exact (Gr.refl _).drew
          have HO := Lib.hid (HO.out.gr hgd)
          have HG := Lib.hid (HG.out.trans hgd)
          clear hwd hgd hS0
          clear hb0 hb1 hc0 hc1
          obtain ⟨u4a, hwa⟩ : ∃ W, W = u3.alloc (.cells #[.int .i64 y, .slice c' m' cp'] 25) := ⟨_, rfl⟩
          have hga : Gr u3 u4a := by rw [hwa]; exact (Gr.refl _).alloc _
          obtain ⟨hd0, hd1⟩ := show u4a.cell? ⟨u3.heap.size, 0, none⟩ = some _ ∧ u4a.cell? ⟨u3.heap.size, 1, none⟩ = some _ by rw [hwa]; exact box2 _ _ _ _
          have HY := Lib.hid (show RdGV u4a (some ⟨u3.heap.size, 0, none⟩) [(y, c', m', cp')] from fun j hj => by
            have : j = 0 := by simp at hj; omega
            subst this
            exact ⟨u3.heap.size, 0, rfl, by simpa using hd0, by simpa [gsl] using hd1⟩)
          clear hd0 hd1
          have HWA := Lib.hid hwa
          have HGA := Lib.hid (HG.out.trans hga)
          have HOA := Lib.hid (HO.out.gr hga)
          clear hwa hga
          have hb0 := gr_cell HG.out HB.out.1
          have hb1 := gr_cell HG.out HB.out.2
          have hc0 := gr_cell HG.out HE.out.1
          have hc1 := gr_cell HG.out HE.out.2
          go_wp2_with (at_builtin; rw [← HWA.out]; refine join_g hi hz0 hz1 hz2 rfl _ _ rfl _ K rfl HOA.out HGA.out.size (some ⟨u3.heap.size, 0, none⟩) [(y, c', m', cp')] 1 rfl HY.out (Or.inr ⟨_, _, rfl⟩) (by simp; omega) ?_; rintro v_u4 u4 HON hbn -; have HG := Lib.hid (show Gr w1 u4 from Below.trans HGA.out hbn); have HO := HON; have HK := Lib.hid (HK.out.app (ChL.one HEV.out)); clear hbn HON HY HWA HGA HOA hb0 hb1 hc0 hc1)
          go_roundw
          case rel => exact ⟨j + 1, false, _, _, by go_num, rfl, by omega, HO, HK, HG, HX2⟩
          case measure => simp [intOf]; omega
      · by_cases heq : y = x
        · subst heq
          have HX2 := Lib.hid (show (xs) ++ withF (y, L) true (l.drop (j + 1)) = R by
            have h := HX.out
            rw [HS.out] at h
            simpa [] using h)
          clear HX HS
          go_wp2_with fail
          have hb0 := gr_cell HG.out HB.out.1
          have hb1 := gr_cell HG.out HB.out.2
          have hc0 := gr_cell HG.out HE.out.1
          have hc1 := gr_cell HG.out HE.out.2
          have hS0 : (fun w' : World => Gr wr w') wr.drew := (Gr.refl _).drew
          refine wp_region_held (S := fun w' : World => Gr wr w') (by kernel_rfl) ?_
          change wpAnyH _ _ _ _ _ _ _ _ wr.drew
          refine wpAnyH_take (i := 0) (v := .bool true) rfl (by kernel_rfl) (by kernel_rfl) (by kernel_rfl) (fun _ _ _ h => h) (Or.inl ⟨by rfl, ?_⟩) hS0 ?_
          · intro w hSw; go_simp
          try simp only [Act.put, List.getElem_toArray, List.getElem_cons_succ, List.getElem_cons_zero, List.setIfInBounds_toArray, List.set_cons_zero, List.set_cons_succ]
          refine wpAnyH_take (i := 1) (v := .bool false) rfl (by kernel_rfl) (by kernel_rfl) (by kernel_rfl) (fun _ _ _ h => h) (Or.inl ⟨by rfl, ?_⟩) hS0 ?_
          · intro w hSw; go_simp
          try simp only [Act.put, List.getElem_toArray, List.getElem_cons_succ, List.getElem_cons_zero, List.setIfInBounds_toArray, List.set_cons_zero, List.set_cons_succ]
          refine wpAnyH_take (i := 2) (v := .bool false) rfl (by kernel_rfl) (by kernel_rfl) (by kernel_rfl) (fun _ _ _ h => h) (Or.inl ⟨by rfl, ?_⟩) hS0 ?_
          · intro w hSw; go_simp
          try simp only [Act.put, List.getElem_toArray, List.getElem_cons_succ, List.getElem_cons_zero, List.setIfInBounds_toArray, List.set_cons_zero, List.set_cons_succ]
          refine wpAnyH_take (i := 3) (v := undef) rfl (by kernel_rfl) (by kernel_rfl) (by kernel_rfl) (fun _ _ _ h => h) (Or.inr ⟨by kernel_rfl, rfl⟩) hS0 ?_
          try simp only [Act.put, List.getElem_toArray, List.getElem_cons_succ, List.getElem_cons_zero, List.setIfInBounds_toArray, List.set_cons_zero, List.set_cons_succ]
          refine wpAnyH_take (i := 4) (v := undef) rfl (by kernel_rfl) (by kernel_rfl) (by kernel_rfl) (fun _ _ _ h => h) (Or.inr ⟨by kernel_rfl, rfl⟩) hS0 ?_
          try simp only [Act.put, List.getElem_toArray, List.getElem_cons_succ, List.getElem_cons_zero, List.setIfInBounds_toArray, List.set_cons_zero, List.set_cons_succ]
          refine wpAnyH_take (i := 5) (v := undef) rfl (by kernel_rfl) (by kernel_rfl) (by kernel_rfl) (fun _ _ _ h => h) (Or.inr ⟨by kernel_rfl, rfl⟩) hS0 ?_
          try simp only [Act.put, List.getElem_toArray, List.getElem_cons_succ, List.getElem_cons_zero, List.setIfInBounds_toArray, List.set_cons_zero, List.set_cons_succ]
          refine wpAnyH_take (i := 6) (v := undef) rfl (by kernel_rfl) (by kernel_rfl) (by kernel_rfl) (fun _ _ _ h => h) (Or.inr ⟨by kernel_rfl, rfl⟩) hS0 ?_
          try simp only [Act.put, List.getElem_toArray, List.getElem_cons_succ, List.getElem_cons_zero, List.setIfInBounds_toArray, List.set_cons_zero, List.set_cons_succ]
          refine wpAnyH_take (i := 7) (v := undef) rfl (by kernel_rfl) (by kernel_rfl) (by kernel_rfl) (fun _ _ _ h => h) (Or.inr ⟨by kernel_rfl, rfl⟩) hS0 ?_
          try simp only [Act.put, List.getElem_toArray, List.getElem_cons_succ, List.getElem_cons_zero, List.setIfInBounds_toArray, List.set_cons_zero, List.set_cons_succ]
          refine wpAnyH_take (i := 8) (v := undef) rfl (by kernel_rfl) (by kernel_rfl) (by kernel_rfl) (fun _ _ _ h => h) (Or.inr ⟨by kernel_rfl, rfl⟩) hS0 ?_
          try simp only [Act.put, List.getElem_toArray, List.getElem_cons_succ, List.getElem_cons_zero, List.setIfInBounds_toArray, List.set_cons_zero, List.set_cons_succ]
          refine wpAnyH_take (i := 9) (v := undef) rfl (by kernel_rfl) (by kernel_rfl) (by kernel_rfl) (fun _ _ _ h => h) (Or.inr ⟨by kernel_rfl, rfl⟩) hS0 ?_
          try simp only [Act.put, List.getElem_toArray, List.getElem_cons_succ, List.getElem_cons_zero, List.setIfInBounds_toArray, List.set_cons_zero, List.set_cons_succ]
          refine wpAnyH_take (i := 10) (v := undef) rfl (by kernel_rfl) (by kernel_rfl) (by kernel_rfl) (fun _ _ _ h => h) (Or.inr ⟨by kernel_rfl, rfl⟩) hS0 ?_
          try simp only [Act.put, List.getElem_toArray, List.getElem_cons_succ, List.getElem_cons_zero, List.setIfInBounds_toArray, List.set_cons_zero, List.set_cons_succ]
          refine wpAnyH_take (i := 11) (v := .bool false) rfl (by kernel_rfl) (by kernel_rfl) (by kernel_rfl) (fun _ _ _ h => h) (Or.inl ⟨by rfl, ?_⟩) hS0 ?_
          · intro w hSw; go_simp
          try simp only [Act.put, List.getElem_toArray, List.getElem_cons_succ, List.getElem_cons_zero, List.setIfInBounds_toArray, List.set_cons_zero, List.set_cons_succ]
          refine wpAnyH_done (by kernel_rfl) ?_ _
          obtain ⟨u1, hwd⟩ : ∃ W, W = wr.drew := ⟨_, rfl⟩
          rw [← hwd]
          have hgd : Gr wr u1 := by rw [hwd]; exact (Gr.refl _).drew
          have HO := Lib.hid (HO.out.gr hgd)
          have HG := Lib.hid (HG.out.trans hgd)
          clear hwd hgd hS0
          clear hb0 hb1 hc0 hc1
          go_wp2_with fail
          have hb0 := gr_cell HG.out HB.out.1
          have hb1 := gr_cell HG.out HB.out.2
          have hc0 := gr_cell HG.out HE.out.1
          have hc1 := gr_cell HG.out HE.out.2
          have hS0 : (fun w' : World => Gr u1 w') u1.drew := (Gr.refl _).drew
          refine wp_region_held (S := fun w' : World => Gr u1 w') (by kernel_rfl) ?_
          change wpAnyH _ _ _ _ _ _ _ _ u1.drew
          refine wpAnyH_take (i := 0) (v := .slice (some ⟨b, o, none⟩) n cap) rfl (by kernel_rfl) (by kernel_rfl) (by kernel_rfl) (fun _ _ _ h => h) (Or.inl ⟨by rfl, ?_⟩) hS0 ?_
          · intro w hSw; go_simp
          try simp only [Act.put, List.getElem_toArray, List.getElem_cons_succ, List.getElem_cons_zero, List.setIfInBounds_toArray, List.set_cons_zero, List.set_cons_succ]
          refine wpAnyH_take (i := 1) (v := .int .i64 j) rfl (by kernel_rfl) (by kernel_rfl) (by kernel_rfl) (fun _ _ _ h => h) (Or.inl ⟨by rfl, ?_⟩) hS0 ?_
          · intro w hSw; go_simp
          try simp only [Act.put, List.getElem_toArray, List.getElem_cons_succ, List.getElem_cons_zero, List.setIfInBounds_toArray, List.set_cons_zero, List.set_cons_succ]
          refine wpAnyH_take (i := 2) (v := .pointer (some ⟨b, o + j * 2, none⟩)) rfl (by kernel_rfl) (by kernel_rfl) (by kernel_rfl) (fun _ _ _ h => h) (Or.inl ⟨by rfl, ?_⟩) hS0 ?_
          · intro w hSw; go_simp
          try simp only [Act.put, List.getElem_toArray, List.getElem_cons_succ, List.getElem_cons_zero, List.setIfInBounds_toArray, List.set_cons_zero, List.set_cons_succ]
          refine wpAnyH_take (i := 3) (v := .pointer (some ⟨b, o + j * 2, none⟩)) rfl (by kernel_rfl) (by kernel_rfl) (by kernel_rfl) (fun _ _ _ h => h) (Or.inl ⟨by rfl, ?_⟩) hS0 ?_
          · intro w hSw; go_simp
          try simp only [Act.put, List.getElem_toArray, List.getElem_cons_succ, List.getElem_cons_zero, List.setIfInBounds_toArray, List.set_cons_zero, List.set_cons_succ]
          refine wpAnyH_take (i := 4) (v := .int .i64 y) rfl (by kernel_rfl) (by kernel_rfl) (by kernel_rfl) (fun _ _ _ h => h) (Or.inl ⟨by rfl, ?_⟩) hS0 ?_
          · intro w hSw; have s1 := gr_cell hSw hc0; go_simp
          try simp only [Act.put, List.getElem_toArray, List.getElem_cons_succ, List.getElem_cons_zero, List.setIfInBounds_toArray, List.set_cons_zero, List.set_cons_succ]
          refine wpAnyH_take (i := 5) (v := .pointer (some ⟨p3, 0, none⟩)) rfl (by kernel_rfl) (by kernel_rfl) (by kernel_rfl) (fun _ _ _ h => h) (Or.inl ⟨by rfl, ?_⟩) hS0 ?_
          · intro w hSw; go_simp
          try simp only [Act.put, List.getElem_toArray, List.getElem_cons_succ, List.getElem_cons_zero, List.setIfInBounds_toArray, List.set_cons_zero, List.set_cons_succ]
          refine wpAnyH_take (i := 6) (v := .int .i64 y) rfl (by kernel_rfl) (by kernel_rfl) (by kernel_rfl) (fun _ _ _ h => h) (Or.inl ⟨by rfl, ?_⟩) hS0 ?_
          · intro w hSw; have s1 := gr_cell hSw hb0; go_simp
          try simp only [Act.put, List.getElem_toArray, List.getElem_cons_succ, List.getElem_cons_zero, List.setIfInBounds_toArray, List.set_cons_zero, List.set_cons_succ]
          refine wpAnyH_take (i := 7) (v := .bool false) rfl (by kernel_rfl) (by kernel_rfl) (by kernel_rfl) (fun _ _ _ h => h) (Or.inl ⟨by rfl, ?_⟩) hS0 ?_
          · intro w hSw; go_simp; try (simp; omega)
          try simp only [Act.put, List.getElem_toArray, List.getElem_cons_succ, List.getElem_cons_zero, List.setIfInBounds_toArray, List.set_cons_zero, List.set_cons_succ]
          refine wpAnyH_done (by kernel_rfl) ?_ _
          obtain ⟨u3, hwd⟩ : ∃ W, W = u1.drew := ⟨_, rfl⟩
          rw [← hwd]
          have hgd : Gr u1 u3 := by rw [hwd]; exact (Gr.refl _).drew
          have HO := Lib.hid (HO.out.gr hgd)
          have HG := Lib.hid (HG.out.trans hgd)
          clear hwd hgd hS0
          clear hb0 hb1 hc0 hc1
          go_wp2
          go_roundw
          case rel => exact ⟨j + 1, true, _, _, by go_num, rfl, by omega, HO, HK, HG, HX2⟩
          case measure => simp [intOf]; omega
        · have hne : (y == x) = false := by simpa using heq
          have HX2 := Lib.hid (show (xs ++ [(y, Lj)]) ++ withF (x, L) true (l.drop (j + 1)) = R by
            have h := HX.out
            rw [HS.out] at h
            simpa [heq] using h)
          clear HX HS
          go_wp2_with fail
          have hb0 := gr_cell HG.out HB.out.1
          have hb1 := gr_cell HG.out HB.out.2
          have hc0 := gr_cell HG.out HE.out.1
          have hc1 := gr_cell HG.out HE.out.2
          have hS0 : (fun w' : World => Gr wr w') wr.drew := (Gr.refl _).drew
          refine wp_region_held (S := fun w' : World => Gr wr w') (by kernel_rfl) ?_
          change wpAnyH _ _ _ _ _ _ _ _ wr.drew
          refine wpAnyH_take (i := 0) (v := .bool true) rfl (by kernel_rfl) (by kernel_rfl) (by kernel_rfl) (fun _ _ _ h => h) (Or.inl ⟨by rfl, ?_⟩) hS0 ?_
          · intro w hSw; go_simp
          try simp only [Act.put, List.getElem_toArray, List.getElem_cons_succ, List.getElem_cons_zero, List.setIfInBounds_toArray, List.set_cons_zero, List.set_cons_succ]
          refine wpAnyH_take (i := 1) (v := .bool false) rfl (by kernel_rfl) (by kernel_rfl) (by kernel_rfl) (fun _ _ _ h => h) (Or.inl ⟨by rfl, ?_⟩) hS0 ?_
          · intro w hSw; go_simp
          try simp only [Act.put, List.getElem_toArray, List.getElem_cons_succ, List.getElem_cons_zero, List.setIfInBounds_toArray, List.set_cons_zero, List.set_cons_succ]
          refine wpAnyH_take (i := 2) (v := .bool false) rfl (by kernel_rfl) (by kernel_rfl) (by kernel_rfl) (fun _ _ _ h => h) (Or.inl ⟨by rfl, ?_⟩) hS0 ?_
          · intro w hSw; go_simp
          try simp only [Act.put, List.getElem_toArray, List.getElem_cons_succ, List.getElem_cons_zero, List.setIfInBounds_toArray, List.set_cons_zero, List.set_cons_succ]
          refine wpAnyH_take (i := 3) (v := undef) rfl (by kernel_rfl) (by kernel_rfl) (by kernel_rfl) (fun _ _ _ h => h) (Or.inr ⟨by kernel_rfl, rfl⟩) hS0 ?_
          try simp only [Act.put, List.getElem_toArray, List.getElem_cons_succ, List.getElem_cons_zero, List.setIfInBounds_toArray, List.set_cons_zero, List.set_cons_succ]
          refine wpAnyH_take (i := 4) (v := undef) rfl (by kernel_rfl) (by kernel_rfl) (by kernel_rfl) (fun _ _ _ h => h) (Or.inr ⟨by kernel_rfl, rfl⟩) hS0 ?_
          try simp only [Act.put, List.getElem_toArray, List.getElem_cons_succ, List.getElem_cons_zero, List.setIfInBounds_toArray, List.set_cons_zero, List.set_cons_succ]
          refine wpAnyH_take (i := 5) (v := undef) rfl (by kernel_rfl) (by kernel_rfl) (by kernel_rfl) (fun _ _ _ h => h) (Or.inr ⟨by kernel_rfl, rfl⟩) hS0 ?_
          try simp only [Act.put, List.getElem_toArray, List.getElem_cons_succ, List.getElem_cons_zero, List.setIfInBounds_toArray, List.set_cons_zero, List.set_cons_succ]
          refine wpAnyH_take (i := 6) (v := undef) rfl (by kernel_rfl) (by kernel_rfl) (by kernel_rfl) (fun _ _ _ h => h) (Or.inr ⟨by kernel_rfl, rfl⟩) hS0 ?_
          try simp only [Act.put, List.getElem_toArray, List.getElem_cons_succ, List.getElem_cons_zero, List.setIfInBounds_toArray, List.set_cons_zero, List.set_cons_succ]
          refine wpAnyH_take (i := 7) (v := undef) rfl (by kernel_rfl) (by kernel_rfl) (by kernel_rfl) (fun _ _ _ h => h) (Or.inr ⟨by kernel_rfl, rfl⟩) hS0 ?_
          try simp only [Act.put, List.getElem_toArray, List.getElem_cons_succ, List.getElem_cons_zero, List.setIfInBounds_toArray, List.set_cons_zero, List.set_cons_succ]
          refine wpAnyH_take (i := 8) (v := undef) rfl (by kernel_rfl) (by kernel_rfl) (by kernel_rfl) (fun _ _ _ h => h) (Or.inr ⟨by kernel_rfl, rfl⟩) hS0 ?_
          try simp only [Act.put, List.getElem_toArray, List.getElem_cons_succ, List.getElem_cons_zero, List.setIfInBounds_toArray, List.set_cons_zero, List.set_cons_succ]
          refine wpAnyH_take (i := 9) (v := undef) rfl (by kernel_rfl) (by kernel_rfl) (by kernel_rfl) (fun _ _ _ h => h) (Or.inr ⟨by kernel_rfl, rfl⟩) hS0 ?_
          try simp only [Act.put, List.getElem_toArray, List.getElem_cons_succ, List.getElem_cons_zero, List.setIfInBounds_toArray, List.set_cons_zero, List.set_cons_succ]
          refine wpAnyH_take (i := 10) (v := undef) rfl (by kernel_rfl) (by kernel_rfl) (by kernel_rfl) (fun _ _ _ h => h) (Or.inr ⟨by kernel_rfl, rfl⟩) hS0 ?_
          try simp only [Act.put, List.getElem_toArray, List.getElem_cons_succ, List.getElem_cons_zero, List.setIfInBounds_toArray, List.set_cons_zero, List.set_cons_succ]
          refine wpAnyH_take (i := 11) (v := .bool false) rfl (by kernel_rfl) (by kernel_rfl) (by kernel_rfl) (fun _ _ _ h => h) (Or.inl ⟨by rfl, ?_⟩) hS0 ?_
          · intro w hSw; go_simp
          try simp only [Act.put, List.getElem_toArray, List.getElem_cons_succ, List.getElem_cons_zero, List.setIfInBounds_toArray, List.set_cons_zero, List.set_cons_succ]
          refine wpAnyH_done (by kernel_rfl) ?_ _
          obtain ⟨u1, hwd⟩ : ∃ W, W = wr.drew := ⟨_, rfl⟩
          rw [← hwd]
          have hgd : Gr wr u1 := by rw [hwd]; exact (Gr.refl _).drew
          have HO := Lib.hid (HO.out.gr hgd)
          have HG := Lib.hid (HG.out.trans hgd)
          clear hwd hgd hS0
          clear hb0 hb1 hc0 hc1
          go_wp2_with fail
          have hb0 := gr_cell HG.out HB.out.1
          have hb1 := gr_cell HG.out HB.out.2
          have hc0 := gr_cell HG.out HE.out.1
          have hc1 := gr_cell HG.out HE.out.2
          have hS0 : (fun w' : World => Gr u1 w') u1.drew := (Gr.refl _).drew
          refine wp_region_held (S := fun w' : World => Gr u1 w') (by kernel_rfl) ?_
          change wpAnyH _ _ _ _ _ _ _ _ u1.drew
          refine wpAnyH_take (i := 0) (v := .slice (some ⟨b, o, none⟩) n cap) rfl (by kernel_rfl) (by kernel_rfl) (by kernel_rfl) (fun _ _ _ h => h) (Or.inl ⟨by rfl, ?_⟩) hS0 ?_
          · intro w hSw; go_simp
          try simp only [Act.put, List.getElem_toArray, List.getElem_cons_succ, List.getElem_cons_zero, List.setIfInBounds_toArray, List.set_cons_zero, List.set_cons_succ]
          refine wpAnyH_take (i := 1) (v := .int .i64 j) rfl (by kernel_rfl) (by kernel_rfl) (by kernel_rfl) (fun _ _ _ h => h) (Or.inl ⟨by rfl, ?_⟩) hS0 ?_
          · intro w hSw; go_simp
          try simp only [Act.put, List.getElem_toArray, List.getElem_cons_succ, List.getElem_cons_zero, List.setIfInBounds_toArray, List.set_cons_zero, List.set_cons_succ]
          refine wpAnyH_take (i := 2) (v := .pointer (some ⟨b, o + j * 2, none⟩)) rfl (by kernel_rfl) (by kernel_rfl) (by kernel_rfl) (fun _ _ _ h => h) (Or.inl ⟨by rfl, ?_⟩) hS0 ?_
          · intro w hSw; go_simp
          try simp only [Act.put, List.getElem_toArray, List.getElem_cons_succ, List.getElem_cons_zero, List.setIfInBounds_toArray, List.set_cons_zero, List.set_cons_succ]
          refine wpAnyH_take (i := 3) (v := .pointer (some ⟨b, o + j * 2, none⟩)) rfl (by kernel_rfl) (by kernel_rfl) (by kernel_rfl) (fun _ _ _ h => h) (Or.inl ⟨by rfl, ?_⟩) hS0 ?_
          · intro w hSw; go_simp
          try simp only [Act.put, List.getElem_toArray, List.getElem_cons_succ, List.getElem_cons_zero, List.setIfInBounds_toArray, List.set_cons_zero, List.set_cons_succ]
          refine wpAnyH_take (i := 4) (v := .int .i64 y) rfl (by kernel_rfl) (by kernel_rfl) (by kernel_rfl) (fun _ _ _ h => h) (Or.inl ⟨by rfl, ?_⟩) hS0 ?_
          · intro w hSw; have s1 := gr_cell hSw hc0; go_simp
          try simp only [Act.put, List.getElem_toArray, List.getElem_cons_succ, List.getElem_cons_zero, List.setIfInBounds_toArray, List.set_cons_zero, List.set_cons_succ]
          refine wpAnyH_take (i := 5) (v := .pointer (some ⟨p3, 0, none⟩)) rfl (by kernel_rfl) (by kernel_rfl) (by kernel_rfl) (fun _ _ _ h => h) (Or.inl ⟨by rfl, ?_⟩) hS0 ?_
          · intro w hSw; go_simp
          try simp only [Act.put, List.getElem_toArray, List.getElem_cons_succ, List.getElem_cons_zero, List.setIfInBounds_toArray, List.set_cons_zero, List.set_cons_succ]
          refine wpAnyH_take (i := 6) (v := .int .i64 x) rfl (by kernel_rfl) (by kernel_rfl) (by kernel_rfl) (fun _ _ _ h => h) (Or.inl ⟨by rfl, ?_⟩) hS0 ?_
          · intro w hSw; have s1 := gr_cell hSw hb0; go_simp
          try simp only [Act.put, List.getElem_toArray, List.getElem_cons_succ, List.getElem_cons_zero, List.setIfInBounds_toArray, List.set_cons_zero, List.set_cons_succ]
          refine wpAnyH_take (i := 7) (v := .bool true) rfl (by kernel_rfl) (by kernel_rfl) (by kernel_rfl) (fun _ _ _ h => h) (Or.inl ⟨by rfl, ?_⟩) hS0 ?_
          · intro w hSw; go_simp; try (simp; omega)
          try simp only [Act.put, List.getElem_toArray, List.getElem_cons_succ, List.getElem_cons_zero, List.setIfInBounds_toArray, List.set_cons_zero, List.set_cons_succ]
          refine wpAnyH_done (by kernel_rfl) ?_ _
          obtain ⟨u3, hwd⟩ : ∃ W, W = u1.drew := ⟨_, rfl⟩
          rw [← hwd]
          have hgd : Gr u1 u3 := by rw [hwd]; exact (Gr.refl _).drew
          have HO := Lib.hid (HO.out.gr hgd)
          have HG := Lib.hid (HG.out.trans hgd)
          clear hwd hgd hS0
          clear hb0 hb1 hc0 hc1
          obtain ⟨u4a, hwa⟩ : ∃ W, W = u3.alloc (.cells #[.int .i64 y, .slice c' m' cp'] 25) := ⟨_, rfl⟩
          have hga : Gr u3 u4a := by rw [hwa]; exact (Gr.refl _).alloc _
          obtain ⟨hd0, hd1⟩ := show u4a.cell? ⟨u3.heap.size, 0, none⟩ = some _ ∧ u4a.cell? ⟨u3.heap.size, 1, none⟩ = some _ by rw [hwa]; exact box2 _ _ _ _
          have HY := Lib.hid (show RdGV u4a (some ⟨u3.heap.size, 0, none⟩) [(y, c', m', cp')] from fun j hj => by
            have : j = 0 := by simp at hj; omega
            subst this
            exact ⟨u3.heap.size, 0, rfl, by simpa using hd0, by simpa [gsl] using hd1⟩)
          clear hd0 hd1
          have HWA := Lib.hid hwa
          have HGA := Lib.hid (HG.out.trans hga)
          have HOA := Lib.hid (HO.out.gr hga)
          clear hwa hga
          have hb0 := gr_cell HG.out HB.out.1
          have hb1 := gr_cell HG.out HB.out.2
          have hc0 := gr_cell HG.out HE.out.1
          have hc1 := gr_cell HG.out HE.out.2
          go_wp2_with (at_builtin; rw [← HWA.out]; refine join_g hi hz0 hz1 hz2 rfl _ _ rfl _ K rfl HOA.out HGA.out.size (some ⟨u3.heap.size, 0, none⟩) [(y, c', m', cp')] 1 rfl HY.out (Or.inr ⟨_, _, rfl⟩) (by simp; omega) ?_; rintro v_u4 u4 HON hbn -; have HG := Lib.hid (show Gr w1 u4 from Below.trans HGA.out hbn); have HO := HON; have HK := Lib.hid (HK.out.app (ChL.one HEV.out)); clear hbn HON HY HWA HGA HOA hb0 hb1 hc0 hc1)
          go_roundw
          case rel => exact ⟨j + 1, true, _, _, by go_num, rfl, by omega, HO, HK, HG, HX2⟩
          case measure => simp [intOf]; omega
    · have HXe := Lib.hid HX.out
      rw [List.drop_eq_nil_of_le (by rw [← HN.out]; omega), withF_end] at HXe
      have hKl : K.length ≤ 3000 := by
        have h1 := congrArg List.length HX.out
        have h2 := HK.out.1
        rw [List.length_append] at h1
        have := HRL.out
        omega
      clear HX
      cases d'
      · obtain ⟨u9a, hwa⟩ : ∃ W, W = wr.alloc (.cells #[.int .i64 x, .slice c m cp] 25) := ⟨_, rfl⟩
        have hga : Gr wr u9a := by rw [hwa]; exact (Gr.refl _).alloc _
        obtain ⟨hd0, hd1⟩ := show u9a.cell? ⟨wr.heap.size, 0, none⟩ = some _ ∧ u9a.cell? ⟨wr.heap.size, 1, none⟩ = some _ by rw [hwa]; exact box2 _ _ _ _
        have HY := Lib.hid (show RdGV u9a (some ⟨wr.heap.size, 0, none⟩) [(x, c, m, cp)] from fun j hj => by
          have : j = 0 := by simp at hj; omega
          subst this
          exact ⟨wr.heap.size, 0, rfl, by simpa using hd0, by simpa [gsl] using hd1⟩)
        clear hd0 hd1
        have HWA := Lib.hid hwa
        have HGA := Lib.hid (HG.out.trans hga)
        have HOA := Lib.hid (HO.out.gr hga)
        clear hwa hga
        have hb0 := gr_cell HG.out HB.out.1
        have hb1 := gr_cell HG.out HB.out.2
        go_wp2_with (at_builtin; rw [← HWA.out]; refine join_g hi hz0 hz1 hz2 rfl _ _ rfl _ K rfl HOA.out HGA.out.size (some ⟨wr.heap.size, 0, none⟩) [(x, c, m, cp)] 1 rfl HY.out (Or.inr ⟨_, _, rfl⟩) (by simp; omega) ?_; rintro v_u9 u9 HON hbn -; have HG := Lib.hid (show Gr w1 u9 from Below.trans HGA.out hbn); have HO := HON; have HK := Lib.hid (HK.out.app (ChL.one HGV.out)); clear hbn HON HY HWA HGA HOA hb0 hb1)
        go_ret
        exact ⟨⟨_, rfl, (OwnV.low HO.out HG1.out.size).tb (by have h := HXe.out; have h2 : xs ++ [(x, L)] = R := (by simpa using h); rw [← h2]; exact HK.out.gr HG.out)⟩, HG1.out.trans HG.out⟩
      · go_wp2
        go_ret
        exact ⟨⟨_, rfl, (OwnV.low HO.out HG1.out.size).tb (by have h := HXe.out; have h2 : xs = R := (by simpa using h); rw [← h2]; exact HK.out.gr HG.out)⟩, HG1.out.trans HG.out⟩
end Go.Proofs.Ytmcngnnbfmjajaa
