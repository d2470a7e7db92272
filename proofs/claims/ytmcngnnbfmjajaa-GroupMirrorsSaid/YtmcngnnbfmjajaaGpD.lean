/- Law 14: the reference's Check; Table. -/
import Derived.Test.YtmcngnnbfmjajaaGpC
set_option linter.unusedVariables false
set_option linter.unusedSimpArgs false
namespace Go.Proofs.Ytmcngnnbfmjajaa
open Go.RowKit
open Z
theorem Gr.drewN {a w : World} (h : Gr a w) (n : Nat) : Gr a (w.drewN n) := h.trans (below_drewN (Gr.refl w) n)
set_option maxHeartbeats 2000000 in
set_option maxRecDepth 100000 in
theorem r14_Check {v : Value} (g : Gp) (w : World) (hv : GpV w v g) :
    Calls Try.prog 16 #[v] w fun e w' => e = .returned (.int .i64 (gpR g)) ∧ Gr w w' := by
  obtain ⟨a, cap, rfl, ra, la, ma⟩ := hv
  unfold maxLen at ma
  obtain ⟨x, l⟩ := g
  simp only at ra la ⊢
  obtain ⟨E, hE⟩ : ∃ E, gpR (x, l) = E := ⟨_, rfl⟩
  rw [hE]
  unfold gpR at hE
  simp only at hE
  have HG1 := Lib.hid ((Gr.refl w).alloc (.cells #[.int .i64 x, .slice a l.length cap] 25))
  have HB := Lib.hid (box2 w (.int .i64 x) (.slice a l.length cap) 25)
  have HR := Lib.hid (ra.gr HG1.out)
  clear ra
  by_cases hx : 1 ≤ x ∧ x ≤ 1048576
  · rw [if_pos hx] at hE
    obtain ⟨hx1, hx2⟩ := hx
    obtain ⟨n, hn⟩ : ∃ n, n = l.length := ⟨_, rfl⟩
    have HN := Lib.hid hn
    rw [← hn] at hE HG1 HB HR la ⊢
    clear hn
    by_cases h256 : 256 < n
    · rw [if_pos h256] at hE
      subst hE
      go_enter Try.func16, Try.ntmps16
      go_wp2
      go_ret
      exact ⟨rfl, HG1.out⟩
    · rw [if_neg h256] at hE
      have HE := Lib.hid hE
      clear hE
      obtain ⟨w1, hw1⟩ : ∃ w1, w1 = w.alloc (.cells #[.int .i64 x, .slice a n cap] 25) := ⟨_, rfl⟩
      rw [← hw1] at HG1 HB HR
      go_enter Try.func16, Try.ntmps16
      go_wp2
      rw [← hw1]
      obtain ⟨hb0, hb1⟩ := HB.out
      clear hw1
      go_loopw [3] (fun i wr => ∃ j : Nat, i = .int .i64 j ∧ j ≤ n ∧ Hid (chF (l.take j) (l.drop j) = E) ∧ Hid (Gr w1 wr)) (fun i _ => n - (intOf i).toNat)
      case atStart => exact ⟨0, rfl, Nat.zero_le _, HE, Lib.hid (Gr.refl _)⟩
      case round =>
        obtain ⟨j, rfl, hj, HE, HG⟩ := hrel
        have hb1r := gr_cell HG.out hb1
        by_cases hlt : j < n
        · have hjl : j < l.length := by rw [← HN.out]; exact hlt
          have HE2 := Lib.hid ((chF_step hjl).symm.trans HE.out)
          obtain ⟨b, o, rfl, hc⟩ := (HR.out.gr HG.out) j hjl
          have HC : Hid (∀ W, Gr w1 W → Calls Try.prog 42 #[.slice (some ⟨b, o, none⟩) j cap, .int .i64 l[j]] W fun e w' => e = .returned (.bool ((l.take j).contains l[j])) ∧ w' = W) := Lib.hid (fun W hW => by
            have := r14_occurs (cap := cap) l[j] W ((HR.out.gr hW).take j) (by rw [List.length_take, ← HN.out]; omega)
            rw [show (l.take j).length = j by rw [List.length_take]; omega] at this
            exact this.mono fun _ _ h => ⟨h.1, h.2.symm⟩)
          generalize l[j] = c at *
          clear HE
          by_cases hc9 : 1 ≤ c ∧ c ≤ 999
          · have HE3 : Hid ((if (l.take j).contains c = true then 7 else chF (l.take (j + 1)) (l.drop (j + 1))) = E) := Lib.hid (by have := HE2.out; rwa [if_pos hc9] at this)
            obtain ⟨hc1, hc2⟩ := hc9
            clear HE2
            generalize (l.take j).contains c = V at *
            cases V
            · have HE4 := Lib.hid (show chF (l.take (j + 1)) (l.drop (j + 1)) = E by have := HE3.out; rwa [if_neg (by simp)] at this)
              clear HE3
              go_wp2_with fail
              have hS0 : (fun w' : World => Gr wr w') wr.drew := (Gr.refl _).drew
              refine wp_region_held (S := fun w' : World => Gr wr w') (by kernel_rfl) ?_
              change wpAnyH _ _ _ _ _ _ _ _ wr.drew
              refine wpAnyH_take (i := 0) (v := .pointer (some ⟨w.heap.size, 1, none⟩)) rfl (by kernel_rfl) (by kernel_rfl) (by kernel_rfl) (fun _ _ _ h => h) (Or.inl ⟨by rfl, ?_⟩) hS0 ?_
              · intro w hSw; go_simp
              try simp only [Act.put, List.getElem_toArray, List.getElem_cons_succ, List.getElem_cons_zero, List.setIfInBounds_toArray, List.set_cons_zero, List.set_cons_succ]
              refine wpAnyH_take (i := 1) (v := .slice (some ⟨b, o, none⟩) n cap) rfl (by kernel_rfl) (by kernel_rfl) (by kernel_rfl) (fun _ _ _ h => h) (Or.inl ⟨by rfl, ?_⟩) hS0 ?_
              · intro w hSw; have s1 := gr_cell hSw hb1r; go_simp
              try simp only [Act.put, List.getElem_toArray, List.getElem_cons_succ, List.getElem_cons_zero, List.setIfInBounds_toArray, List.set_cons_zero, List.set_cons_succ]
              refine wpAnyH_take (i := 2) (v := .int .i64 j) rfl (by kernel_rfl) (by kernel_rfl) (by kernel_rfl) (fun _ _ _ h => h) (Or.inl ⟨by rfl, ?_⟩) hS0 ?_
              · intro w hSw; go_simp
              try simp only [Act.put, List.getElem_toArray, List.getElem_cons_succ, List.getElem_cons_zero, List.setIfInBounds_toArray, List.set_cons_zero, List.set_cons_succ]
              refine wpAnyH_take (i := 3) (v := .slice (some ⟨b, o, none⟩) j cap) rfl (by kernel_rfl) (by kernel_rfl) (by kernel_rfl) (fun _ _ _ h => h) (Or.inl ⟨by rfl, ?_⟩) hS0 ?_
              · intro w hSw; go_simp; intro hh; omega
              try simp only [Act.put, List.getElem_toArray, List.getElem_cons_succ, List.getElem_cons_zero, List.setIfInBounds_toArray, List.set_cons_zero, List.set_cons_succ]
              refine wpAnyH_take (i := 4) (v := .pointer (some ⟨w.heap.size, 1, none⟩)) rfl (by kernel_rfl) (by kernel_rfl) (by kernel_rfl) (fun _ _ _ h => h) (Or.inl ⟨by rfl, ?_⟩) hS0 ?_
              · intro w hSw; go_simp
              try simp only [Act.put, List.getElem_toArray, List.getElem_cons_succ, List.getElem_cons_zero, List.setIfInBounds_toArray, List.set_cons_zero, List.set_cons_succ]
              refine wpAnyH_take (i := 5) (v := .slice (some ⟨b, o, none⟩) n cap) rfl (by kernel_rfl) (by kernel_rfl) (by kernel_rfl) (fun _ _ _ h => h) (Or.inl ⟨by rfl, ?_⟩) hS0 ?_
              · intro w hSw; have s1 := gr_cell hSw hb1r; go_simp
              try simp only [Act.put, List.getElem_toArray, List.getElem_cons_succ, List.getElem_cons_zero, List.setIfInBounds_toArray, List.set_cons_zero, List.set_cons_succ]
              refine wpAnyH_take (i := 6) (v := .int .i64 j) rfl (by kernel_rfl) (by kernel_rfl) (by kernel_rfl) (fun _ _ _ h => h) (Or.inl ⟨by rfl, ?_⟩) hS0 ?_
              · intro w hSw; go_simp
              try simp only [Act.put, List.getElem_toArray, List.getElem_cons_succ, List.getElem_cons_zero, List.setIfInBounds_toArray, List.set_cons_zero, List.set_cons_succ]
              refine wpAnyH_take (i := 7) (v := .pointer (some ⟨b, o + j, none⟩)) rfl (by kernel_rfl) (by kernel_rfl) (by kernel_rfl) (fun _ _ _ h => h) (Or.inl ⟨by rfl, ?_⟩) hS0 ?_
              · intro w hSw; go_simp
              try simp only [Act.put, List.getElem_toArray, List.getElem_cons_succ, List.getElem_cons_zero, List.setIfInBounds_toArray, List.set_cons_zero, List.set_cons_succ]
              refine wpAnyH_take (i := 8) (v := .int .i64 c) rfl (by kernel_rfl) (by kernel_rfl) (by kernel_rfl) (fun _ _ _ h => h) (Or.inl ⟨by rfl, ?_⟩) hS0 ?_
              · intro w hSw; have s1 := gr_cell hSw hc; go_simp
              try simp only [Act.put, List.getElem_toArray, List.getElem_cons_succ, List.getElem_cons_zero, List.setIfInBounds_toArray, List.set_cons_zero, List.set_cons_succ]
              refine wpAnyH_ready (rs := [9]) (by kernel_rfl) (by simp) (AllReadyH.cons rfl (fun K' hK' => ?_) AllReadyH.nil)
              go_simp
              refine (HC.out _ (HG.out.trans hS0)).mono ?_; rintro e w6 ⟨rfl, rfl⟩
              refine hK'.out _ _ hS0 (fun hS1 => ?_)
              clear hK' K'
              try simp only [Act.put, List.getElem_toArray, List.getElem_cons_succ, List.getElem_cons_zero, List.setIfInBounds_toArray, List.set_cons_zero, List.set_cons_succ]
              refine wpAnyH_done (by kernel_rfl) ?_ _
              have HG2 := Lib.hid (HG.out.trans hS1)
              clear hS0 hS1 HG HC
              go_wp2
              go_roundw
              case rel => exact ⟨j + 1, by go_num, by omega, HE4, HG2⟩
              case measure => simp [intOf]; omega
            · have hv : E = 7 := by have := HE3.out; rw [if_pos rfl] at this; exact this.symm
              subst hv
              clear HE3
              go_wp2_with fail
              have hS0 : (fun w' : World => Gr wr w') wr.drew := (Gr.refl _).drew
              refine wp_region_held (S := fun w' : World => Gr wr w') (by kernel_rfl) ?_
              change wpAnyH _ _ _ _ _ _ _ _ wr.drew
              refine wpAnyH_take (i := 0) (v := .pointer (some ⟨w.heap.size, 1, none⟩)) rfl (by kernel_rfl) (by kernel_rfl) (by kernel_rfl) (fun _ _ _ h => h) (Or.inl ⟨by rfl, ?_⟩) hS0 ?_
              · intro w hSw; go_simp
              try simp only [Act.put, List.getElem_toArray, List.getElem_cons_succ, List.getElem_cons_zero, List.setIfInBounds_toArray, List.set_cons_zero, List.set_cons_succ]
              refine wpAnyH_take (i := 1) (v := .slice (some ⟨b, o, none⟩) n cap) rfl (by kernel_rfl) (by kernel_rfl) (by kernel_rfl) (fun _ _ _ h => h) (Or.inl ⟨by rfl, ?_⟩) hS0 ?_
              · intro w hSw; have s1 := gr_cell hSw hb1r; go_simp
              try simp only [Act.put, List.getElem_toArray, List.getElem_cons_succ, List.getElem_cons_zero, List.setIfInBounds_toArray, List.set_cons_zero, List.set_cons_succ]
              refine wpAnyH_take (i := 2) (v := .int .i64 j) rfl (by kernel_rfl) (by kernel_rfl) (by kernel_rfl) (fun _ _ _ h => h) (Or.inl ⟨by rfl, ?_⟩) hS0 ?_
              · intro w hSw; go_simp
              try simp only [Act.put, List.getElem_toArray, List.getElem_cons_succ, List.getElem_cons_zero, List.setIfInBounds_toArray, List.set_cons_zero, List.set_cons_succ]
              refine wpAnyH_take (i := 3) (v := .slice (some ⟨b, o, none⟩) j cap) rfl (by kernel_rfl) (by kernel_rfl) (by kernel_rfl) (fun _ _ _ h => h) (Or.inl ⟨by rfl, ?_⟩) hS0 ?_
              · intro w hSw; go_simp; intro hh; omega
              try simp only [Act.put, List.getElem_toArray, List.getElem_cons_succ, List.getElem_cons_zero, List.setIfInBounds_toArray, List.set_cons_zero, List.set_cons_succ]
              refine wpAnyH_take (i := 4) (v := .pointer (some ⟨w.heap.size, 1, none⟩)) rfl (by kernel_rfl) (by kernel_rfl) (by kernel_rfl) (fun _ _ _ h => h) (Or.inl ⟨by rfl, ?_⟩) hS0 ?_
              · intro w hSw; go_simp
              try simp only [Act.put, List.getElem_toArray, List.getElem_cons_succ, List.getElem_cons_zero, List.setIfInBounds_toArray, List.set_cons_zero, List.set_cons_succ]
              refine wpAnyH_take (i := 5) (v := .slice (some ⟨b, o, none⟩) n cap) rfl (by kernel_rfl) (by kernel_rfl) (by kernel_rfl) (fun _ _ _ h => h) (Or.inl ⟨by rfl, ?_⟩) hS0 ?_
              · intro w hSw; have s1 := gr_cell hSw hb1r; go_simp
              try simp only [Act.put, List.getElem_toArray, List.getElem_cons_succ, List.getElem_cons_zero, List.setIfInBounds_toArray, List.set_cons_zero, List.set_cons_succ]
              refine wpAnyH_take (i := 6) (v := .int .i64 j) rfl (by kernel_rfl) (by kernel_rfl) (by kernel_rfl) (fun _ _ _ h => h) (Or.inl ⟨by rfl, ?_⟩) hS0 ?_
              · intro w hSw; go_simp
              try simp only [Act.put, List.getElem_toArray, List.getElem_cons_succ, List.getElem_cons_zero, List.setIfInBounds_toArray, List.set_cons_zero, List.set_cons_succ]
              refine wpAnyH_take (i := 7) (v := .pointer (some ⟨b, o + j, none⟩)) rfl (by kernel_rfl) (by kernel_rfl) (by kernel_rfl) (fun _ _ _ h => h) (Or.inl ⟨by rfl, ?_⟩) hS0 ?_
              · intro w hSw; go_simp
              try simp only [Act.put, List.getElem_toArray, List.getElem_cons_succ, List.getElem_cons_zero, List.setIfInBounds_toArray, List.set_cons_zero, List.set_cons_succ]
              refine wpAnyH_take (i := 8) (v := .int .i64 c) rfl (by kernel_rfl) (by kernel_rfl) (by kernel_rfl) (fun _ _ _ h => h) (Or.inl ⟨by rfl, ?_⟩) hS0 ?_
              · intro w hSw; have s1 := gr_cell hSw hc; go_simp
              try simp only [Act.put, List.getElem_toArray, List.getElem_cons_succ, List.getElem_cons_zero, List.setIfInBounds_toArray, List.set_cons_zero, List.set_cons_succ]
              refine wpAnyH_ready (rs := [9]) (by kernel_rfl) (by simp) (AllReadyH.cons rfl (fun K' hK' => ?_) AllReadyH.nil)
              go_simp
              refine (HC.out _ (HG.out.trans hS0)).mono ?_; rintro e w6 ⟨rfl, rfl⟩
              refine hK'.out _ _ hS0 (fun hS1 => ?_)
              clear hK' K'
              try simp only [Act.put, List.getElem_toArray, List.getElem_cons_succ, List.getElem_cons_zero, List.setIfInBounds_toArray, List.set_cons_zero, List.set_cons_succ]
              refine wpAnyH_done (by kernel_rfl) ?_ _
              have HG2 := Lib.hid (HG1.out.trans (HG.out.trans hS1))
              clear hS0 hS1 HG HC
              go_wp2
              go_ret
              exact ⟨rfl, HG2.out⟩
          · have hv : E = 2 := by have := HE2.out; rw [if_neg hc9] at this; exact this.symm
            subst hv
            have hor : c < 1 ∨ (¬ c < 1 ∧ 999 < c) := by omega
            clear HE2 HC hc9
            rcases hor with h1 | ⟨h1, h2⟩
            all_goals
              go_wp2
              go_ret
              exact ⟨rfl, HG1.out.trans HG.out⟩
        · have hv : E = 0 := by
            have := HE.out
            rw [List.drop_eq_nil_of_le (by rw [← HN.out]; omega)] at this
            exact this.symm
          subst hv
          clear HE
          go_wp2
          go_ret
          exact ⟨rfl, HG1.out.trans HG.out⟩
  · rw [if_neg hx] at hE
    subst hE
    have hor : x < 1 ∨ (¬ x < 1 ∧ 1048576 < x) := by omega
    clear hx
    generalize l.length = n at *
    rcases hor with h1 | ⟨h1, h2⟩
    all_goals
      go_enter Try.func16, Try.ntmps16
      go_wp2
      go_ret
      exact ⟨rfl, HG1.out⟩
end Go.Proofs.Ytmcngnnbfmjajaa
