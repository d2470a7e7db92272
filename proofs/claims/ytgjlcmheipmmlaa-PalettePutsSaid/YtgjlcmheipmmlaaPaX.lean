/- Law 15: given, Contains of parameters, PaletteKeeps. -/
import Derived.Test.YtgjlcmheipmmlaaPaT
import Derived.Test.YtgjlcmheipmmlaaPaY
set_option linter.unusedVariables false
set_option linter.unusedSimpArgs false
namespace Go.Proofs.Ytgjlcmheipmmlaa
open Go.RowKit
open Z
set_option maxRecDepth 100000 in
set_option maxHeartbeats 1000000 in
theorem l15_given {al : Option Addr} {l : List Pl} {cl : Nat} {ae : Option Addr} {es : List En} {ce : Nat} (w : World) (hr : RdP w al l) (hlen : l.length ≤ 9223372036854775807) (hin : ∀ g ∈ l, g.2.length ≤ 9223372036854775807) (he : Rd shE w ae es) (hle : es.length ≤ 9223372036854775807) :
    Calls Try.prog 37 #[.slice al l.length cl, .slice ae es.length ce] w fun e w' => e = .returned (.bool (decide (fewB l = true ∧ es.length ≤ 200 ∧ bothR l es = 0))) ∧ Gr w w' := by
  have HF1 := Lib.hid (r15_Few (cap := cl) w hr (by omega))
  have HB := Lib.hid (r15_Both (cl := cl) (ce := ce) w hr hlen hin he hle)
  clear hr hin he
  obtain ⟨D, hD⟩ : ∃ D, decide (fewB l = true ∧ es.length ≤ 200 ∧ bothR l es = 0) = D := ⟨_, rfl⟩
  rw [hD]
  generalize fewB l = B1 at *
  generalize bothR l es = EB at *
  generalize es.length = me at *
  generalize l.length = ml at *
  cases B1
  · rw [decide_eq_false (fun h => by cases h.1)] at hD
    subst hD
    go_enter Try.func37, Try.ntmps37
    go_wp2_with fail
    refine HF1.out.mono ?_; rintro e w2 ⟨rfl, rfl⟩
    go_wp2
    go_ret
    exact ⟨rfl, Gr.refl _⟩
  · by_cases h2 : me ≤ 200
    · by_cases h3 : EB = 0
      · rw [decide_eq_true ⟨rfl, h2, h3⟩] at hD
        subst hD h3
        go_enter Try.func37, Try.ntmps37
        go_wp2_with fail
        refine HF1.out.mono ?_; rintro e w2 ⟨rfl, rfl⟩
        go_wp2_with fail
        refine HB.out.mono ?_; rintro e w3 ⟨rfl, hg3⟩
        have HG3 := Lib.hid hg3
        clear hg3
        go_wp2
        go_ret
        exact ⟨rfl, HG3.out⟩
      · rw [decide_eq_false (fun h => h3 h.2.2)] at hD
        have hz : (EB == 0) = false := by simp [h3]
        subst hD
        clear h3
        go_enter Try.func37, Try.ntmps37
        go_wp2_with fail
        refine HF1.out.mono ?_; rintro e w2 ⟨rfl, rfl⟩
        go_wp2_with fail
        refine HB.out.mono ?_; rintro e w3 ⟨rfl, hg3⟩
        have HG3 := Lib.hid hg3
        clear hg3
        go_wp2
        go_ret
        exact ⟨rfl, HG3.out⟩
    · rw [decide_eq_false (fun h => h2 h.2.1)] at hD
      subst hD
      go_enter Try.func37, Try.ntmps37
      go_wp2_with fail
      refine HF1.out.mono ?_; rintro e w2 ⟨rfl, rfl⟩
      go_wp2
      go_ret
      exact ⟨rfl, Gr.refl _⟩
set_option maxHeartbeats 2000000 in
set_option maxRecDepth 100000 in
theorem sl_IndexR {a : Option Addr} {l : List Pr} {cap : Nat} (c at1 : Int) (w : World) (hr : Rd shR w a l) (hlen : l.length ≤ 9223372036854775807) :
    Calls Try.prog 77 #[.slice a l.length cap, .agg #[.int .i64 c, .int .i64 at1]] w fun e w' => (∃ i : Int, e = .returned (.int .i64 i) ∧ decide (0 ≤ i) = decide ((c, at1) ∈ l)) ∧ Gr w w' := by
  obtain ⟨V, hV⟩ : ∃ V, decide ((c, at1) ∈ l) = V := ⟨_, rfl⟩
  rw [hV]
  have HV := Lib.hid hV
  obtain ⟨w2, hw2⟩ : ∃ w2, w2 = w.alloc (.cells #[.int .i64 c, .int .i64 at1] 55) := ⟨_, rfl⟩
  obtain ⟨p, hp⟩ : ∃ p, p = w.heap.size := ⟨_, rfl⟩
  have hG2 : Gr w w2 := by rw [hw2]; exact (Gr.refl w).alloc _
  have HE0 := Lib.hid (show w2.cell? ⟨p, 0, none⟩ = some (.int .i64 c) by rw [hw2, hp]; exact fresh w [.int .i64 c, .int .i64 at1] _ (k := 0) rfl)
  have HE1 := Lib.hid (show w2.cell? ⟨p, 1, none⟩ = some (.int .i64 at1) by rw [hw2, hp]; exact fresh w [.int .i64 c, .int .i64 at1] _ (k := 1) rfl)
  have HR := Lib.hid (hr.gr hG2)
  have HG2 := Lib.hid hG2
  obtain ⟨n, hn⟩ : ∃ n, n = l.length := ⟨_, rfl⟩
  have HN := Lib.hid hn
  rw [← hn] at hlen ⊢
  clear hn hV hr hG2
  go_enter Try.func77, Try.ntmps77
  go_wp2
  rw [← hw2, ← hp]
  clear hw2 hp
  go_loopw [8] (fun i wr => ∃ j : Nat, i = .int .i64 j ∧ j ≤ n ∧ Hid (∀ k (h : k < l.length), k < j → l[k] ≠ (c, at1)) ∧ Hid (Gr w2 wr)) (fun i _ => n - (intOf i).toNat)
  case atStart => exact ⟨0, rfl, Nat.zero_le _, Lib.hid (fun k _ h => absurd h (by omega)), Lib.hid (Gr.refl _)⟩
  case round =>
    obtain ⟨j, rfl, hj, HP, HG⟩ := hrel
    have e0 := gr_cell HG.out HE0.out
    have e1 := gr_cell HG.out HE1.out
    by_cases hlt : j < n
    · have hjl : j < l.length := by rw [← HN.out]; exact hlt
      obtain ⟨b, o, rfl, c0, c1⟩ := pr_cells (HR.out.gr HG.out) hjl
      by_cases he : l[j] = (c, at1)
      · have hv : V = true := by rw [← HV.out, decide_eq_true_eq, ← he]; exact List.getElem_mem hjl
        subst hv
        rw [he] at c0 c1
        clear he HP HV
        go_wp2_with fail
        have hS0 : (fun w' : World => Gr wr w') wr.drew := (Gr.refl _).drew
        refine wp_region_held (S := fun w' : World => Gr wr w') (by kernel_rfl) ?_
        change wpAnyH _ _ _ _ _ _ _ _ wr.drew
        refine wpAnyH_take (i := 0) (v := .agg #[.int .i64 c, .int .i64 at1]) rfl (by kernel_rfl) (by kernel_rfl) (by kernel_rfl) (fun _ _ _ h => h) (Or.inl ⟨by rfl, ?_⟩) hS0 ?_
        · intro w hSw; have s0 := gr_cell hSw e0; have s1 := gr_cell hSw e1; go_simp
        try simp only [Act.put, List.getElem_toArray, List.getElem_cons_succ, List.getElem_cons_zero, List.setIfInBounds_toArray, List.set_cons_zero, List.set_cons_succ]
        refine wpAnyH_take (i := 1) (v := .slice (some ⟨b, o, none⟩) n cap) rfl (by kernel_rfl) (by kernel_rfl) (by kernel_rfl) (fun _ _ _ h => h) (Or.inl ⟨by rfl, ?_⟩) hS0 ?_
        · intro w hSw; go_simp
        try simp only [Act.put, List.getElem_toArray, List.getElem_cons_succ, List.getElem_cons_zero, List.setIfInBounds_toArray, List.set_cons_zero, List.set_cons_succ]
        refine wpAnyH_take (i := 2) (v := .int .i64 j) rfl (by kernel_rfl) (by kernel_rfl) (by kernel_rfl) (fun _ _ _ h => h) (Or.inl ⟨by rfl, ?_⟩) hS0 ?_
        · intro w hSw; go_simp
        try simp only [Act.put, List.getElem_toArray, List.getElem_cons_succ, List.getElem_cons_zero, List.setIfInBounds_toArray, List.set_cons_zero, List.set_cons_succ]
        refine wpAnyH_take (i := 3) (v := .pointer (some ⟨b, o + j * 2, none⟩)) rfl (by kernel_rfl) (by kernel_rfl) (by kernel_rfl) (fun _ _ _ h => h) (Or.inl ⟨by rfl, ?_⟩) hS0 ?_
        · intro w hSw; go_simp
        try simp only [Act.put, List.getElem_toArray, List.getElem_cons_succ, List.getElem_cons_zero, List.setIfInBounds_toArray, List.set_cons_zero, List.set_cons_succ]
        refine wpAnyH_take (i := 4) (v := .agg #[.int .i64 c, .int .i64 at1]) rfl (by kernel_rfl) (by kernel_rfl) (by kernel_rfl) (fun _ _ _ h => h) (Or.inl ⟨by rfl, ?_⟩) hS0 ?_
        · intro w hSw; have s0 := gr_cell hSw c0; have s1 := gr_cell hSw c1; go_simp
        try simp only [Act.put, List.getElem_toArray, List.getElem_cons_succ, List.getElem_cons_zero, List.setIfInBounds_toArray, List.set_cons_zero, List.set_cons_succ]
        refine wpAnyH_take (i := 5) (v := .bool true) rfl (by kernel_rfl) (by kernel_rfl) (by kernel_rfl) (fun _ _ _ h => h) (Or.inl ⟨by rfl, ?_⟩) hS0 ?_
        · intro w hSw; go_simp
        try simp only [Act.put, List.getElem_toArray, List.getElem_cons_succ, List.getElem_cons_zero, List.setIfInBounds_toArray, List.set_cons_zero, List.set_cons_succ]
        refine wpAnyH_done (by kernel_rfl) ?_ _
        have HG3 := Lib.hid (HG2.out.trans (HG.out.trans hS0))
        go_wp2
        go_ret
        exact ⟨⟨j, rfl, by simp⟩, HG3.out⟩
      · have HP2 : Hid (∀ k (h : k < l.length), k < j + 1 → l[k] ≠ (c, at1)) := Lib.hid fun k h hkj => by
          by_cases e : k = j
          · subst e; exact he
          · exact HP.out k h (by omega)
        generalize l[j] = x at *
        obtain ⟨x0, x1⟩ := x
        simp only at c0 c1
        have hne : ¬ (c = x0 ∧ at1 = x1) := fun h => he (by rw [h.1, h.2])
        clear HP he
        go_wp2_with fail
        have hS0 : (fun w' : World => Gr wr w') wr.drew := (Gr.refl _).drew
        refine wp_region_held (S := fun w' : World => Gr wr w') (by kernel_rfl) ?_
        change wpAnyH _ _ _ _ _ _ _ _ wr.drew
        refine wpAnyH_take (i := 0) (v := .agg #[.int .i64 c, .int .i64 at1]) rfl (by kernel_rfl) (by kernel_rfl) (by kernel_rfl) (fun _ _ _ h => h) (Or.inl ⟨by rfl, ?_⟩) hS0 ?_
        · intro w hSw; have s0 := gr_cell hSw e0; have s1 := gr_cell hSw e1; go_simp
        try simp only [Act.put, List.getElem_toArray, List.getElem_cons_succ, List.getElem_cons_zero, List.setIfInBounds_toArray, List.set_cons_zero, List.set_cons_succ]
        refine wpAnyH_take (i := 1) (v := .slice (some ⟨b, o, none⟩) n cap) rfl (by kernel_rfl) (by kernel_rfl) (by kernel_rfl) (fun _ _ _ h => h) (Or.inl ⟨by rfl, ?_⟩) hS0 ?_
        · intro w hSw; go_simp
        try simp only [Act.put, List.getElem_toArray, List.getElem_cons_succ, List.getElem_cons_zero, List.setIfInBounds_toArray, List.set_cons_zero, List.set_cons_succ]
        refine wpAnyH_take (i := 2) (v := .int .i64 j) rfl (by kernel_rfl) (by kernel_rfl) (by kernel_rfl) (fun _ _ _ h => h) (Or.inl ⟨by rfl, ?_⟩) hS0 ?_
        · intro w hSw; go_simp
        try simp only [Act.put, List.getElem_toArray, List.getElem_cons_succ, List.getElem_cons_zero, List.setIfInBounds_toArray, List.set_cons_zero, List.set_cons_succ]
        refine wpAnyH_take (i := 3) (v := .pointer (some ⟨b, o + j * 2, none⟩)) rfl (by kernel_rfl) (by kernel_rfl) (by kernel_rfl) (fun _ _ _ h => h) (Or.inl ⟨by rfl, ?_⟩) hS0 ?_
        · intro w hSw; go_simp
        try simp only [Act.put, List.getElem_toArray, List.getElem_cons_succ, List.getElem_cons_zero, List.setIfInBounds_toArray, List.set_cons_zero, List.set_cons_succ]
        refine wpAnyH_take (i := 4) (v := .agg #[.int .i64 x0, .int .i64 x1]) rfl (by kernel_rfl) (by kernel_rfl) (by kernel_rfl) (fun _ _ _ h => h) (Or.inl ⟨by rfl, ?_⟩) hS0 ?_
        · intro w hSw; have s0 := gr_cell hSw c0; have s1 := gr_cell hSw c1; go_simp
        try simp only [Act.put, List.getElem_toArray, List.getElem_cons_succ, List.getElem_cons_zero, List.setIfInBounds_toArray, List.set_cons_zero, List.set_cons_succ]
        refine wpAnyH_take (i := 5) (v := .bool false) rfl (by kernel_rfl) (by kernel_rfl) (by kernel_rfl) (fun _ _ _ h => h) (Or.inl ⟨by rfl, ?_⟩) hS0 ?_
        · intro w hSw; go_simp <;> first | omega | (intros; simp_all) | (intro h; exact hne (by simpa using h))
        try simp only [Act.put, List.getElem_toArray, List.getElem_cons_succ, List.getElem_cons_zero, List.setIfInBounds_toArray, List.set_cons_zero, List.set_cons_succ]
        refine wpAnyH_done (by kernel_rfl) ?_ _
        have HG3 := Lib.hid (HG.out.trans hS0)
        go_wp2
        go_roundw
        case rel => exact ⟨j + 1, by go_num, by omega, HP2, HG3⟩
        case measure => simp [intOf]; omega
    · have hv : V = false := by
        rw [← HV.out, decide_eq_false_iff_not]
        intro h
        obtain ⟨k, hk, e⟩ := List.getElem_of_mem h
        exact HP.out k hk (by rw [← HN.out] at hk; omega) e
      subst hv
      clear HP HV
      have HG3 := Lib.hid (HG2.out.trans HG.out)
      go_wp2
      go_ret
      exact ⟨⟨-1, rfl, rfl⟩, HG3.out⟩
set_option maxRecDepth 100000 in
theorem sl_ContainsR {a : Option Addr} {l : List Pr} {cap : Nat} (c at1 : Int) (w : World) (hr : Rd shR w a l) (hlen : l.length ≤ 9223372036854775807) :
    Calls Try.prog 38 #[.slice a l.length cap, .agg #[.int .i64 c, .int .i64 at1]] w fun e w' => e = .returned (.bool (decide ((c, at1) ∈ l))) ∧ Gr w w' := by
  have hg : Gr w (w.alloc (.cells #[.int .i64 c, .int .i64 at1] 55)) := (Gr.refl w).alloc _
  have HI := Lib.hid (sl_IndexR (cap := cap) c at1 _ (hr.gr hg) hlen)
  have HG0 := Lib.hid hg
  clear hr hlen hg
  generalize l.length = n at *
  generalize decide ((c, at1) ∈ l) = V at *
  go_enter Try.func38, Try.ntmps38
  go_wp2_with fail
  refine HI.out.mono ?_; rintro e w1 ⟨⟨i, rfl, hi⟩, hg1⟩
  have HG := Lib.hid (HG0.out.trans hg1)
  clear hg1 HI
  cases V
  all_goals
    have HI2 := Lib.hid hi
    clear hi
    go_wp2
    go_ret
    exact ⟨ret_bool HI2.out, HG.out⟩
end Go.Proofs.Ytgjlcmheipmmlaa
