/- Law 6: the reference's Make, Of. -/
import Derived.Test.YtifccpdkpgfnlaaDoorRbK
set_option linter.unusedVariables false
set_option linter.unusedSimpArgs false
namespace Go.Proofs.YtifccpdkpgfnlaaDoor
open Go.RowKit Go.Shelf
open Z
set_option maxRecDepth 100000 in
set_option maxHeartbeats 2000000 in
theorem r6_Make (a : Option Addr) (R : List (Int × Int)) (cap : Nat) (w : World) (hR : RngAt w a R) (hlen : R.length ≤ 10000000000000) :
    Calls Tryd.prog 23 #[.slice a R.length cap] w fun e w' => ∃ v, e = .returned (.tuple #[v, .int .i64 (makeR R).2]) ∧ OwnF w.heap.size w' v (makeR R).1 ∧ Gr w w' := by
  have HR := Lib.hid hR
  obtain ⟨V, hV⟩ : ∃ V, makeR R = V := ⟨_, rfl⟩
  rw [hV]
  have HV := Lib.hid hV
  clear hV
  have HMO : Hid (R.length ≤ 256 → (∀ r ∈ R, isRg r = true) → ∀ w', Gr w w' → Calls Tryd.prog 54 #[.slice a R.length cap] w' fun e w2 => ∃ b, e = .returned (.slice (some ⟨b, 0, none⟩) 1001 1001) ∧ TruAt w2 b (inR R) ∧ w'.heap.size ≤ b ∧ Gr w' w2) :=
    Lib.hid fun h1 h2 w' hg => r6_Members a R cap w' (hR.gr hg) (by omega) h2
  obtain ⟨len, hl⟩ : ∃ len, R.length = len := ⟨_, rfl⟩
  have HE := Lib.hid hl
  rw [hl] at hlen HMO ⊢
  clear hR hl
  have hv := HV.out
  unfold makeR at hv
  rw [HE.out] at hv
  by_cases hm : 256 < len
  · rw [if_pos hm] at hv
    subst hv
    clear HV HMO HR HE
    go_enter Tryd.func23, Tryd.ntmps23
    go_wp2
    go_ret2
    exact ⟨_, rfl, OwnF.nil _ _, Gr.refl w⟩
  · rw [if_neg hm] at hv
    clear HV
    have HV := Lib.hid hv
    clear hv
    go_enter Tryd.func23, Tryd.ntmps23
    go_wp2
    go_loopw [4] (fun i wr => ∃ j : Nat, i = .int .i64 j ∧ j ≤ len ∧ Hid (∀ k (h : k < R.length), k < j → isRg R[k] = true) ∧ Hid (Gr w wr)) (fun i _ => len - (intOf i).toNat)
    case atStart => exact ⟨0, rfl, Nat.zero_le _, Lib.hid (fun k _ h => absurd h (by omega)), Lib.hid (Gr.refl w)⟩
    case round =>
      obtain ⟨j, rfl, hj, HP, HG⟩ := hrel
      by_cases hlt : j < len
      · have hltR : j < R.length := by rw [HE.out]; exact hlt
        obtain ⟨b, off, rfl, d0, d1⟩ := (HR.out.gr HG.out).at hltR
        have HP2 : Hid (isRg R[j] = true → ∀ k (h : k < R.length), k < j + 1 → isRg R[k] = true) := Lib.hid fun h k hk hkj => by
          by_cases e : k = j
          · subst e; exact h
          · exact HP.out k hk (by omega)
        have HBad : Hid (isRg R[j] = false → V = ([], 2)) := Lib.hid fun h => by
          have := HV.out
          rw [if_neg] at this
          · exact this.symm
          · rw [List.all_eq_true]; intro hx
            have := hx _ (List.getElem_mem hltR)
            rw [h] at this; cases this
        have HIS := Lib.hid (fun w => r6_right R[j].1 R[j].2 w)
        generalize hx : R[j] = x at *
        obtain ⟨f, t⟩ := x
        simp only at d0 d1 HIS
        cases hi : isRg (f, t)
        · rw [hi] at HIS
          have hv := HBad.out hi
          subst hv
          clear HBad HP2 HP hx HMO HV
          go_wp2_with fail
          refine (HIS.out _).mono ?_; rintro e w2 ⟨rfl, hg2⟩
          have HG2 := Lib.hid (Gr.trans HG.out hg2)
          clear hg2
          go_wp2
          go_ret2
          exact ⟨_, rfl, OwnF.nil _ _, HG2.out⟩
        · rw [hi] at HIS
          have HP3 := Lib.hid (HP2.out hi)
          clear HP2 HP HBad hx HMO
          go_wp2_with fail
          refine (HIS.out _).mono ?_; rintro e w2 ⟨rfl, hg2⟩
          have HG2 := Lib.hid (Gr.trans HG.out hg2)
          clear hg2
          go_wp2
          go_roundw
          case rel => exact ⟨j + 1, by go_num, by omega, HP3, HG2⟩
          case measure => simp [intOf]; omega
      · have hall : ∀ r ∈ R, isRg r = true := fun r hr => by
          obtain ⟨k, hk, rfl⟩ := List.mem_iff_getElem.1 hr
          exact HP.out k hk (by have := HE.out; omega)
        have HG0 := Lib.hid (inR_zero hall)
        have hv := HV.out
        rw [if_pos (List.all_eq_true.2 hall)] at hv
        subst hv
        have HM := Lib.hid (HMO.out (by omega) hall wr HG.out)
        clear HV HMO HP hall HR
        obtain ⟨g, hgE⟩ : ∃ g, inR R = g := ⟨_, rfl⟩
        rw [hgE] at HG0 HM
        have HGE := Lib.hid hgE
        clear hgE
        go_wp2_with fail
        refine HM.out.mono ?_; rintro e w2 ⟨mb, rfl, ht, hb, hg2⟩
        have HG2 := Lib.hid (Gr.trans HG.out hg2)
        have HS := Lib.hid (r6_Ranges mb g w2 ht HG0.out)
        clear hg2 HM HG ht
        go_wp2_with fail
        refine HS.out.mono ?_; rintro e w4 ⟨v, rfl, ho, hg⟩
        have HO := Lib.hid ho
        have HG4 := Lib.hid (Gr.trans HG2.out hg)
        clear ho hg HS
        go_wp2
        go_ret2
        exact ⟨v, rfl, by show OwnF _ _ _ (setS (inR R) 1000); rw [HGE.out]; exact HO.out.low HG2.out.size, HG4.out⟩
set_option maxRecDepth 100000 in
set_option maxHeartbeats 2000000 in
theorem r6_Of (a : Option Addr) (L : List Int) (cap : Nat) (w : World) (hR : IntsAt w a L) (hlen : L.length ≤ 10000000000000) :
    Calls Tryd.prog 25 #[.slice a L.length cap] w fun e w' => ∃ v, e = .returned (.tuple #[v, .int .i64 (ofR L).2]) ∧ OwnF w.heap.size w' v (ofR L).1 ∧ Gr w w' := by
  have HR := Lib.hid hR
  obtain ⟨V, hV⟩ : ∃ V, ofR L = V := ⟨_, rfl⟩
  rw [hV]
  have HV := Lib.hid hV
  clear hV
  have HMO : Hid (L.length ≤ 4096 → (∀ x ∈ L, isCh x = true) → ∀ w', Gr w w' → Calls Tryd.prog 56 #[.slice a L.length cap] w' fun e w2 => ∃ v, e = .returned v ∧ OwnF w'.heap.size w2 v (setS (ofL L) 1000) ∧ Gr w' w2) :=
    Lib.hid fun h1 h2 w' hg => r6_Set a L cap w' (hR.gr hg) (by omega) h2
  obtain ⟨len, hl⟩ : ∃ len, L.length = len := ⟨_, rfl⟩
  have HE := Lib.hid hl
  rw [hl] at hlen HMO ⊢
  clear hR hl
  have hv := HV.out
  unfold ofR at hv
  rw [HE.out] at hv
  by_cases hm : 4096 < len
  · rw [if_pos hm] at hv
    subst hv
    clear HV HMO HR HE
    go_enter Tryd.func25, Tryd.ntmps25
    go_wp2
    go_ret2
    exact ⟨_, rfl, OwnF.nil _ _, Gr.refl w⟩
  · rw [if_neg hm] at hv
    clear HV
    have HV := Lib.hid hv
    clear hv
    go_enter Tryd.func25, Tryd.ntmps25
    go_wp2
    go_loopw [4] (fun i wr => ∃ j : Nat, i = .int .i64 j ∧ j ≤ len ∧ Hid (∀ k (h : k < L.length), k < j → isCh L[k] = true) ∧ wr = w) (fun i _ => len - (intOf i).toNat)
    case atStart => exact ⟨0, rfl, Nat.zero_le _, Lib.hid (fun k _ h => absurd h (by omega)), rfl⟩
    case round =>
      obtain ⟨j, rfl, hj, HP, rfl⟩ := hrel
      by_cases hlt : j < len
      · have hltR : j < L.length := by rw [HE.out]; exact hlt
        obtain ⟨b, off, rfl, d0⟩ := HR.out.at hltR
        have HP2 : Hid (isCh L[j] = true → ∀ k (h : k < L.length), k < j + 1 → isCh L[k] = true) := Lib.hid fun h k hk hkj => by
          by_cases e : k = j
          · subst e; exact h
          · exact HP.out k hk (by omega)
        have HBad : Hid (isCh L[j] = false → V = ([], 2)) := Lib.hid fun h => by
          have := HV.out
          rw [if_neg] at this
          · exact this.symm
          · rw [List.all_eq_true]; intro hx
            have := hx _ (List.getElem_mem hltR)
            rw [h] at this; cases this
        generalize hx : L[j] = x at *
        by_cases h0 : x < 1
        · have k0 : decide (x < 1) = true := decide_eq_true h0
          have hv := HBad.out (by rw [Bool.eq_false_iff, Ne, isCh_iff]; omega)
          subst hv
          clear HBad HP2 HP hx HV HMO
          go_wp2
          go_ret2
          exact ⟨_, rfl, OwnF.nil _ _, Gr.refl _⟩
        · have k0 : decide (x < 1) = false := decide_eq_false h0
          by_cases h1 : 999 < x
          · have k1 : decide (999 < x) = true := decide_eq_true h1
            have hv := HBad.out (by rw [Bool.eq_false_iff, Ne, isCh_iff]; omega)
            subst hv
            clear HBad HP2 HP hx HV HMO
            go_wp2
            go_ret2
            exact ⟨_, rfl, OwnF.nil _ _, Gr.refl _⟩
          · have k1 : decide (999 < x) = false := decide_eq_false h1
            have HP3 := Lib.hid (HP2.out ((isCh_iff _).2 (by omega)))
            clear HP2 HP HBad hx HMO
            go_wp2
            go_roundw
            case rel => exact ⟨j + 1, by go_num, by omega, HP3, trivial⟩
            case measure => simp [intOf]; omega
      · have hall : ∀ x ∈ L, isCh x = true := fun r hr => by
          obtain ⟨k, hk, rfl⟩ := List.mem_iff_getElem.1 hr
          exact HP.out k hk (by have := HE.out; omega)
        have hv := HV.out
        rw [if_pos (List.all_eq_true.2 hall)] at hv
        subst hv
        have HS := Lib.hid (HMO.out (by omega) hall wr (Gr.refl _))
        clear HV HP hall HR HMO
        obtain ⟨Y, hY⟩ : ∃ Y, setS (ofL L) 1000 = Y := ⟨_, rfl⟩
        rw [hY] at HS
        have HY := Lib.hid hY
        clear hY
        go_wp2_with fail
        refine HS.out.mono ?_; rintro e w4 ⟨v, rfl, ho, hg⟩
        have HO := Lib.hid ho
        have HG4 := Lib.hid hg
        clear ho hg HS
        go_wp2
        go_ret2
        exact ⟨v, rfl, by show OwnF _ _ _ (setS (ofL L) 1000); rw [HY.out]; exact HO.out, HG4.out⟩
end Go.Proofs.YtifccpdkpgfnlaaDoor
