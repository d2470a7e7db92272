/- Law 14: SameTable. -/
import Derived.Test.YtmcngnnbfmjajaaGqD
set_option linter.unusedVariables false
set_option linter.unusedSimpArgs false
namespace Go.Proofs.Ytmcngnnbfmjajaa
open Go.RowKit
open Z
set_option maxRecDepth 100000 in
set_option maxHeartbeats 2000000 in
theorem r14_SameTable {a a' : Option Addr} {l r : List Gp} {ca cb : Nat} (w : World) (hl : RdG w a l) (hr : RdG w a' r) (h1 : l.length ≤ 1000000000) (h2 : r.length ≤ 1000000000) :
    Calls Try.prog 25 #[.slice a l.length ca, .slice a' r.length cb] w fun e w' => e = .returned (.bool (decide (l = r))) ∧ Gr w w' := by
  have HL := Lib.hid hl
  have HR := Lib.hid hr
  clear hl hr
  by_cases hlm : l.length = r.length
  · obtain ⟨n, hn⟩ : ∃ n, l.length = n := ⟨_, rfl⟩
    have HN := Lib.hid hn
    have HN2 := Lib.hid (hlm.symm.trans hn)
    rw [hn] at h1
    rw [hn, hlm.symm.trans hn]
    clear hlm hn h2
    obtain ⟨V, hV⟩ : ∃ V, decide (l = r) = V := ⟨_, rfl⟩
    rw [hV]
    have HV := Lib.hid hV
    clear hV
    go_enter Try.func25, Try.ntmps25
    go_wp2
    go_loopw [5] (fun i wr => ∃ j : Nat, i = .int .i64 j ∧ j ≤ n ∧ Hid (∀ k (h : k < l.length) (h' : k < r.length), k < j → l[k] = r[k]) ∧ Hid (Gr w wr)) (fun i _ => n - (intOf i).toNat)
    case atStart => exact ⟨0, rfl, Nat.zero_le _, Lib.hid (fun k _ _ h => absurd h (by omega)), Lib.hid (Gr.refl w)⟩
    case round =>
      obtain ⟨j, rfl, hj, HP, HG⟩ := hrel
      by_cases hlt : j < n
      · have j1 : j < l.length := by rw [HN.out]; exact hlt
        have j2 : j < r.length := by rw [HN2.out]; exact hlt
        obtain ⟨b, o, c, cp, rfl, hc0, hc1, hv⟩ := (HL.out.gr HG.out).gpv j1
        obtain ⟨b', o', c', cp', rfl, hd0, hd1, hu⟩ := (HR.out.gr HG.out).gpv j2
        have HX := Lib.hid (fun W (hW : Gr wr W) => r14_Same l[j] r[j] W (hv.gr hW) (hu.gr hW))
        clear hv hu
        have HP2 : Hid (l[j] = r[j] → ∀ k (h : k < l.length) (h' : k < r.length), k < j + 1 → l[k] = r[k]) := Lib.hid fun he k h h' hkj => by
          by_cases e : k = j
          · subst e; exact he
          · exact HP.out k h h' (by omega)
        have HVf : Hid (l[j] ≠ r[j] → V = false) := Lib.hid fun he => by rw [← HV.out, decide_eq_false_iff_not]; rintro rfl; exact he rfl
        clear HP
        by_cases he : l[j] = r[j]
        · have HP3 := Lib.hid (HP2.out he)
          rw [decide_eq_true he] at HX
          clear HP2 HVf he
          generalize l[j].2.length = gm at *
          generalize l[j].1 = gx at *
          generalize r[j].2.length = hm at *
          generalize r[j].1 = hx at *
          go_wp2_with fail
          have hS0 : (fun w' : World => Gr wr w') wr.drew := (Gr.refl _).drew
          refine wp_region_held (S := fun w' : World => Gr wr w') (by kernel_rfl) ?_
          change wpAnyH _ _ _ _ _ _ _ _ wr.drew
          refine wpAnyH_take (i := 0) (v := .slice (some ⟨b, o, none⟩) n ca) rfl (by kernel_rfl) (by kernel_rfl) (by kernel_rfl) (fun _ _ _ h => h) (Or.inl ⟨by rfl, ?_⟩) hS0 ?_
          · intro w hSw; go_simp
          try simp only [Act.put, List.getElem_toArray, List.getElem_cons_succ, List.getElem_cons_zero, List.setIfInBounds_toArray, List.set_cons_zero, List.set_cons_succ]
          refine wpAnyH_take (i := 1) (v := .int .i64 j) rfl (by kernel_rfl) (by kernel_rfl) (by kernel_rfl) (fun _ _ _ h => h) (Or.inl ⟨by rfl, ?_⟩) hS0 ?_
          · intro w hSw; go_simp
          try simp only [Act.put, List.getElem_toArray, List.getElem_cons_succ, List.getElem_cons_zero, List.setIfInBounds_toArray, List.set_cons_zero, List.set_cons_succ]
          refine wpAnyH_take (i := 2) (v := .pointer (some ⟨b, o + j * 2, none⟩)) rfl (by kernel_rfl) (by kernel_rfl) (by kernel_rfl) (fun _ _ _ h => h) (Or.inl ⟨by rfl, ?_⟩) hS0 ?_
          · intro w hSw; go_simp
          try simp only [Act.put, List.getElem_toArray, List.getElem_cons_succ, List.getElem_cons_zero, List.setIfInBounds_toArray, List.set_cons_zero, List.set_cons_succ]
          refine wpAnyH_take (i := 3) (v := (.agg #[.int .i64 gx, .slice c gm cp])) rfl (by kernel_rfl) (by kernel_rfl) (by kernel_rfl) (fun _ _ _ h => h) (Or.inl ⟨by rfl, ?_⟩) hS0 ?_
          · intro w hSw; have s1 := gr_cell hSw hc0; have s2 := gr_cell hSw hc1; go_simp
          try simp only [Act.put, List.getElem_toArray, List.getElem_cons_succ, List.getElem_cons_zero, List.setIfInBounds_toArray, List.set_cons_zero, List.set_cons_succ]
          refine wpAnyH_take (i := 4) (v := (.slice (some ⟨b', o', none⟩) n cb)) rfl (by kernel_rfl) (by kernel_rfl) (by kernel_rfl) (fun _ _ _ h => h) (Or.inl ⟨by rfl, ?_⟩) hS0 ?_
          · intro w hSw; go_simp
          try simp only [Act.put, List.getElem_toArray, List.getElem_cons_succ, List.getElem_cons_zero, List.setIfInBounds_toArray, List.set_cons_zero, List.set_cons_succ]
          refine wpAnyH_take (i := 5) (v := .int .i64 j) rfl (by kernel_rfl) (by kernel_rfl) (by kernel_rfl) (fun _ _ _ h => h) (Or.inl ⟨by rfl, ?_⟩) hS0 ?_
          · intro w hSw; go_simp
          try simp only [Act.put, List.getElem_toArray, List.getElem_cons_succ, List.getElem_cons_zero, List.setIfInBounds_toArray, List.set_cons_zero, List.set_cons_succ]
          refine wpAnyH_take (i := 6) (v := (.pointer (some ⟨b', o' + j * 2, none⟩))) rfl (by kernel_rfl) (by kernel_rfl) (by kernel_rfl) (fun _ _ _ h => h) (Or.inl ⟨by rfl, ?_⟩) hS0 ?_
          · intro w hSw; go_simp
          try simp only [Act.put, List.getElem_toArray, List.getElem_cons_succ, List.getElem_cons_zero, List.setIfInBounds_toArray, List.set_cons_zero, List.set_cons_succ]
          refine wpAnyH_take (i := 7) (v := (.agg #[.int .i64 hx, .slice c' hm cp'])) rfl (by kernel_rfl) (by kernel_rfl) (by kernel_rfl) (fun _ _ _ h => h) (Or.inl ⟨by rfl, ?_⟩) hS0 ?_
          · intro w hSw; have s1 := gr_cell hSw hd0; have s2 := gr_cell hSw hd1; go_simp
          try simp only [Act.put, List.getElem_toArray, List.getElem_cons_succ, List.getElem_cons_zero, List.setIfInBounds_toArray, List.set_cons_zero, List.set_cons_succ]
          refine wpAnyH_ready (rs := [8]) (by kernel_rfl) (by simp) (AllReadyH.cons rfl (fun K' hK' => ?_) AllReadyH.nil)
          go_simp
          refine (HX.out _ hS0).mono ?_; rintro e w6 ⟨rfl, hg6⟩
          refine hK'.out _ _ (hS0.trans hg6) (fun hS1 => ?_)
          clear hK' K'
          try simp only [Act.put, List.getElem_toArray, List.getElem_cons_succ, List.getElem_cons_zero, List.setIfInBounds_toArray, List.set_cons_zero, List.set_cons_succ]
          refine wpAnyH_take (i := 9) (v := .bool false) rfl (by kernel_rfl) (by kernel_rfl) (by kernel_rfl) (fun _ _ _ h => h) (Or.inl ⟨by rfl, ?_⟩) hS1 ?_
          · intro w hSw; go_simp
          try simp only [Act.put, List.getElem_toArray, List.getElem_cons_succ, List.getElem_cons_zero, List.setIfInBounds_toArray, List.set_cons_zero, List.set_cons_succ]
          refine wpAnyH_done (by kernel_rfl) ?_ _
          have HG3 := Lib.hid (HG.out.trans hS1)
          clear hS0 hc0 hc1 hd0 hd1 HX
          go_wp2
          go_roundw
          case rel => exact ⟨j + 1, by go_num, by omega, HP3, HG3⟩
          case measure => simp [intOf]; omega
        · have hv : V = false := HVf.out he
          subst hv
          rw [decide_eq_false he] at HX
          clear HP2 HVf he
          generalize l[j].2.length = gm at *
          generalize l[j].1 = gx at *
          generalize r[j].2.length = hm at *
          generalize r[j].1 = hx at *
          go_wp2_with fail
          have hS0 : (fun w' : World => Gr wr w') wr.drew := (Gr.refl _).drew
          refine wp_region_held (S := fun w' : World => Gr wr w') (by kernel_rfl) ?_
          change wpAnyH _ _ _ _ _ _ _ _ wr.drew
          refine wpAnyH_take (i := 0) (v := .slice (some ⟨b, o, none⟩) n ca) rfl (by kernel_rfl) (by kernel_rfl) (by kernel_rfl) (fun _ _ _ h => h) (Or.inl ⟨by rfl, ?_⟩) hS0 ?_
          · intro w hSw; go_simp
          try simp only [Act.put, List.getElem_toArray, List.getElem_cons_succ, List.getElem_cons_zero, List.setIfInBounds_toArray, List.set_cons_zero, List.set_cons_succ]
          refine wpAnyH_take (i := 1) (v := .int .i64 j) rfl (by kernel_rfl) (by kernel_rfl) (by kernel_rfl) (fun _ _ _ h => h) (Or.inl ⟨by rfl, ?_⟩) hS0 ?_
          · intro w hSw; go_simp
          try simp only [Act.put, List.getElem_toArray, List.getElem_cons_succ, List.getElem_cons_zero, List.setIfInBounds_toArray, List.set_cons_zero, List.set_cons_succ]
          refine wpAnyH_take (i := 2) (v := .pointer (some ⟨b, o + j * 2, none⟩)) rfl (by kernel_rfl) (by kernel_rfl) (by kernel_rfl) (fun _ _ _ h => h) (Or.inl ⟨by rfl, ?_⟩) hS0 ?_
          · intro w hSw; go_simp
          try simp only [Act.put, List.getElem_toArray, List.getElem_cons_succ, List.getElem_cons_zero, List.setIfInBounds_toArray, List.set_cons_zero, List.set_cons_succ]
          refine wpAnyH_take (i := 3) (v := (.agg #[.int .i64 gx, .slice c gm cp])) rfl (by kernel_rfl) (by kernel_rfl) (by kernel_rfl) (fun _ _ _ h => h) (Or.inl ⟨by rfl, ?_⟩) hS0 ?_
          · intro w hSw; have s1 := gr_cell hSw hc0; have s2 := gr_cell hSw hc1; go_simp
          try simp only [Act.put, List.getElem_toArray, List.getElem_cons_succ, List.getElem_cons_zero, List.setIfInBounds_toArray, List.set_cons_zero, List.set_cons_succ]
          refine wpAnyH_take (i := 4) (v := (.slice (some ⟨b', o', none⟩) n cb)) rfl (by kernel_rfl) (by kernel_rfl) (by kernel_rfl) (fun _ _ _ h => h) (Or.inl ⟨by rfl, ?_⟩) hS0 ?_
          · intro w hSw; go_simp
          try simp only [Act.put, List.getElem_toArray, List.getElem_cons_succ, List.getElem_cons_zero, List.setIfInBounds_toArray, List.set_cons_zero, List.set_cons_succ]
          refine wpAnyH_take (i := 5) (v := .int .i64 j) rfl (by kernel_rfl) (by kernel_rfl) (by kernel_rfl) (fun _ _ _ h => h) (Or.inl ⟨by rfl, ?_⟩) hS0 ?_
          · intro w hSw; go_simp
          try simp only [Act.put, List.getElem_toArray, List.getElem_cons_succ, List.getElem_cons_zero, List.setIfInBounds_toArray, List.set_cons_zero, List.set_cons_succ]
          refine wpAnyH_take (i := 6) (v := (.pointer (some ⟨b', o' + j * 2, none⟩))) rfl (by kernel_rfl) (by kernel_rfl) (by kernel_rfl) (fun _ _ _ h => h) (Or.inl ⟨by rfl, ?_⟩) hS0 ?_
          · intro w hSw; go_simp
          try simp only [Act.put, List.getElem_toArray, List.getElem_cons_succ, List.getElem_cons_zero, List.setIfInBounds_toArray, List.set_cons_zero, List.set_cons_succ]
          refine wpAnyH_take (i := 7) (v := (.agg #[.int .i64 hx, .slice c' hm cp'])) rfl (by kernel_rfl) (by kernel_rfl) (by kernel_rfl) (fun _ _ _ h => h) (Or.inl ⟨by rfl, ?_⟩) hS0 ?_
          · intro w hSw; have s1 := gr_cell hSw hd0; have s2 := gr_cell hSw hd1; go_simp
          try simp only [Act.put, List.getElem_toArray, List.getElem_cons_succ, List.getElem_cons_zero, List.setIfInBounds_toArray, List.set_cons_zero, List.set_cons_succ]
          refine wpAnyH_ready (rs := [8]) (by kernel_rfl) (by simp) (AllReadyH.cons rfl (fun K' hK' => ?_) AllReadyH.nil)
          go_simp
          refine (HX.out _ hS0).mono ?_; rintro e w6 ⟨rfl, hg6⟩
          refine hK'.out _ _ (hS0.trans hg6) (fun hS1 => ?_)
          clear hK' K'
          try simp only [Act.put, List.getElem_toArray, List.getElem_cons_succ, List.getElem_cons_zero, List.setIfInBounds_toArray, List.set_cons_zero, List.set_cons_succ]
          refine wpAnyH_take (i := 9) (v := .bool true) rfl (by kernel_rfl) (by kernel_rfl) (by kernel_rfl) (fun _ _ _ h => h) (Or.inl ⟨by rfl, ?_⟩) hS1 ?_
          · intro w hSw; go_simp
          try simp only [Act.put, List.getElem_toArray, List.getElem_cons_succ, List.getElem_cons_zero, List.setIfInBounds_toArray, List.set_cons_zero, List.set_cons_succ]
          refine wpAnyH_done (by kernel_rfl) ?_ _
          have HG3 := Lib.hid (HG.out.trans hS1)
          clear hS0 hc0 hc1 hd0 hd1 HX
          go_wp2
          go_ret
          exact ⟨rfl, HG3.out⟩
      · have hv : V = true := by
          rw [← HV.out, decide_eq_true_iff]
          refine List.ext_getElem (HN.out.trans HN2.out.symm) fun k h1 h2 => HP.out k h1 h2 ?_
          have := HN.out; omega
        subst hv
        clear HP HV
        go_wp2
        go_ret
        exact ⟨rfl, HG.out⟩
  · rw [decide_eq_false (fun e => hlm (by rw [e]))]
    generalize l.length = n at *
    generalize r.length = m at *
    go_enter Try.func25, Try.ntmps25
    go_wp2
    go_ret
    exact ⟨rfl, Gr.refl w⟩
theorem tb_same {u v : Value} {l : List Gp} (w : World) (hu : TbV w u l) (hv : TbV w v l) (h : l.length ≤ 1000000000) : Calls Try.prog 25 #[u, v] w fun e w' => e = .returned (.bool true) ∧ Gr w w' := by
  obtain ⟨a, ca, rfl, ra, -⟩ := hu
  obtain ⟨b, cb, rfl, rb, -⟩ := hv
  have := r14_SameTable (ca := ca) (cb := cb) w ra rb h h
  rwa [decide_eq_true rfl] at this
theorem gp_same {u v : Value} (g : Gp) (w : World) (hu : GpV w u g) (hv : GpV w v g) : Calls Try.prog 14 #[u, v] w fun e w' => e = .returned (.bool true) ∧ Gr w w' := by
  have := r14_Same g g w hu hv
  rwa [decide_eq_true rfl] at this
end Go.Proofs.Ytmcngnnbfmjajaa
