/- Law 14: Check, Table and Few. -/
import Derived.Test.YtmcngnnbfmjajaaGpB
set_option linter.unusedVariables false
set_option linter.unusedSimpArgs false
namespace Go.Proofs.Ytmcngnnbfmjajaa
open Go.RowKit
open Z
theorem box2 (w : World) (p q : Value) (t : TypeId) : (w.alloc (.cells #[p, q] t)).cell? ⟨w.heap.size, 0, none⟩ = some p ∧ (w.alloc (.cells #[p, q] t)).cell? ⟨w.heap.size, 1, none⟩ = some q := by
  have h := heap_alloc_last w (.cells #[p, q] t)
  exact ⟨by rw [cell_of_row _ _ _ _ _ _ h]; rfl, by rw [cell_of_row _ _ _ _ _ _ h]; rfl⟩
theorem in_yes {n a b : Int} (h : a ≤ n ∧ n ≤ b) (w : World) : Calls Try.prog 40 #[.int .i64 n, .int .i64 a, .int .i64 b] w fun e w' => e = .returned (.bool true) ∧ w = w' := by
  have := gp_inRange n a b w
  rw [decide_eq_true h.1, decide_eq_true h.2] at this
  exact this.mono fun _ _ h => ⟨h.1, h.2.symm⟩
theorem in_no {n a b : Int} (h : ¬ (a ≤ n ∧ n ≤ b)) (w : World) : Calls Try.prog 40 #[.int .i64 n, .int .i64 a, .int .i64 b] w fun e w' => e = .returned (.bool false) ∧ w = w' := by
  have := gp_inRange n a b w
  rw [show (decide (a ≤ n) && decide (n ≤ b)) = false by rw [Bool.eq_false_iff]; intro h2; simp at h2; exact h h2] at this
  exact this.mono fun _ _ h => ⟨h.1, h.2.symm⟩
set_option maxHeartbeats 2000000 in
set_option maxRecDepth 100000 in
theorem gp_Check {v : Value} (g : Gp) (w : World) (hv : GpV w v g) :
    Calls Try.prog 15 #[v] w fun e w' => e = .returned (.int .i64 (gpR g)) ∧ Gr w w' := by
  obtain ⟨a, cap, rfl, ra, la, ma⟩ := hv
  unfold maxLen at ma
  obtain ⟨x, l⟩ := g
  simp only at ra la ⊢
  obtain ⟨E, hE⟩ : ∃ E, gpR (x, l) = E := ⟨_, rfl⟩
  rw [hE]
  unfold gpR at hE
  simp only at hE
  have HG1 := Lib.hid ((Gr.refl w).alloc (.cells #[.int .i64 x, .slice a l.length cap] 25))
  have HB := Lib.hid (box2 w (.int .i64 x) (.slice a l.length cap) 25)
  have HR := Lib.hid (ra.gr HG1.out)
  clear ra
  by_cases hx : 1 ≤ x ∧ x ≤ 1048576
  · rw [if_pos hx] at hE
    have HI := Lib.hid (fun w => in_yes hx w)
    clear hx
    obtain ⟨n, hn⟩ : ∃ n, n = l.length := ⟨_, rfl⟩
    have HN := Lib.hid hn
    rw [← hn] at hE HG1 HB HR la ⊢
    clear hn
    by_cases h256 : 256 < n
    · rw [if_pos h256] at hE
      subst hE
      go_enter Try.func15, Try.ntmps15
      go_wp2_with fail
      refine (HI.out _).mono ?_; rintro e w' ⟨rfl, rfl⟩
      go_wp2
      go_ret
      exact ⟨rfl, HG1.out⟩
    · rw [if_neg h256] at hE
      have HE := Lib.hid hE
      clear hE
      obtain ⟨w1, hw1⟩ : ∃ w1, w1 = w.alloc (.cells #[.int .i64 x, .slice a n cap] 25) := ⟨_, rfl⟩
      rw [← hw1] at HG1 HB HR
      have HW := Lib.hid hw1
      go_enter Try.func15, Try.ntmps15
      go_wp2_with fail
      rw [← hw1]
      refine (HI.out _).mono ?_; rintro e w' ⟨rfl, rfl⟩
      obtain ⟨hb0, hb1⟩ := HB.out
      clear hw1
      go_wp2
      go_loopw [18] (fun i wr => ∃ j : Nat, i = .int .i64 j ∧ j ≤ n ∧ Hid (chF (l.take j) (l.drop j) = E) ∧ Hid (Gr w1 wr)) (fun i _ => n - (intOf i).toNat)
      case atStart => exact ⟨0, rfl, Nat.zero_le _, HE, Lib.hid (Gr.refl _)⟩
      case round =>
        obtain ⟨j, rfl, hj, HE, HG⟩ := hrel
        have hb1r := gr_cell HG.out hb1
        by_cases hlt : j < n
        · have hjl : j < l.length := by rw [← HN.out]; exact hlt
          have HE2 := Lib.hid ((chF_step hjl).symm.trans HE.out)
          obtain ⟨b, o, rfl, hc⟩ := (HR.out.gr HG.out) j hjl
          have HC := Lib.hid (sl_Contains (cap := cap) l[j] wr ((HR.out.gr HG.out).take j) (by rw [List.length_take, ← HN.out]; omega))
          have hlt2 : (l.take j).length = j := by rw [List.length_take]; omega
          rw [hlt2] at HC
          generalize l[j] = c at *
          clear hlt2 HE
          by_cases hc9 : 1 ≤ c ∧ c ≤ 999
          · have HI9 := Lib.hid (fun w => in_yes hc9 w)
            have HE3 : Hid ((if (l.take j).contains c = true then 7 else chF (l.take (j + 1)) (l.drop (j + 1))) = E) := Lib.hid (by have := HE2.out; rwa [if_pos hc9] at this)
            clear hc9 HE2
            generalize (l.take j).contains c = V at *
            cases V
            · have HE4 := Lib.hid (show chF (l.take (j + 1)) (l.drop (j + 1)) = E by have := HE3.out; rwa [if_neg (by simp)] at this)
              clear HE3
              go_wp2_with fail
              refine (HI9.out _).mono ?_; rintro e w' ⟨rfl, rfl⟩
              go_wp2_with fail
              refine HC.out.mono ?_; rintro e w2 ⟨rfl, hg2⟩
              have HG2 := Lib.hid (HG.out.trans hg2)
              clear hg2 HG HC
              go_wp2
              go_roundw
              case rel => exact ⟨j + 1, by go_num, by omega, HE4, HG2⟩
              case measure => simp [intOf]; omega
            · have hv : E = 7 := by have := HE3.out; rw [if_pos rfl] at this; exact this.symm
              subst hv
              clear HE3
              go_wp2_with fail
              refine (HI9.out _).mono ?_; rintro e w' ⟨rfl, rfl⟩
              go_wp2_with fail
              refine HC.out.mono ?_; rintro e w2 ⟨rfl, hg2⟩
              have HG2 := Lib.hid (HG1.out.trans (HG.out.trans hg2))
              clear hg2 HG HC
              go_wp2
              go_ret
              exact ⟨rfl, HG2.out⟩
          · have HI9 := Lib.hid (fun w => in_no hc9 w)
            have hv : E = 2 := by have := HE2.out; rw [if_neg hc9] at this; exact this.symm
            subst hv
            clear hc9 HE2 HC
            go_wp2_with fail
            refine (HI9.out _).mono ?_; rintro e w' ⟨rfl, rfl⟩
            go_wp2
            go_ret
            exact ⟨rfl, HG1.out.trans HG.out⟩
        · have hv : E = 0 := by
            have := HE.out
            rw [List.drop_eq_nil_of_le (by rw [← HN.out]; omega)] at this
            exact this.symm
          subst hv
          clear HE
          go_wp2
          go_ret
          exact ⟨rfl, HG1.out.trans HG.out⟩
  · rw [if_neg hx] at hE
    subst hE
    have HI := Lib.hid (fun w => in_no hx w)
    clear hx
    generalize l.length = n at *
    go_enter Try.func15, Try.ntmps15
    go_wp2_with fail
    refine (HI.out _).mono ?_; rintro e w' ⟨rfl, rfl⟩
    go_wp2
    go_ret
    exact ⟨rfl, HG1.out⟩
end Go.Proofs.Ytmcngnnbfmjajaa
