/- Law 11: the reference's Check. -/
import Derived.Test.YtipfofdjngnkpaaCoN
set_option linter.unusedVariables false
set_option linter.unusedSimpArgs false
namespace Go.Proofs.Ytipfofdjngnkpaa
open Go.RowKit
open Z
set_option maxRecDepth 100000 in
set_option maxHeartbeats 4000000 in
theorem rf_Check {a : Option Addr} {l : List Int} {cap : Nat} (w : World) (hr : RdI w a l) (hcap : l.length ≤ cap) (hmax : cap ≤ maxLen) :
    Calls Try.prog 14 #[.slice a l.length cap] w fun e w' => e = .returned (.int .i64 (palR l)) ∧ Gr w w' := by
  have HR := Lib.hid hr
  obtain ⟨E, hE⟩ : ∃ E, palR l = E := ⟨_, rfl⟩
  rw [hE]
  unfold palR at hE
  have hlen : l.length ≤ maxLen := Nat.le_trans hcap hmax
  by_cases h15 : 15 < l.length
  · rw [if_pos h15] at hE
    subst hE
    have hd : decide ((15 : Int) < (l.length : Int)) = true := decide_eq_true (by omega)
    generalize l.length = n at *
    unfold maxLen at hlen hmax
    go_enter Try.func14, Try.ntmps14
    go_wp2
    go_ret
    exact ⟨rfl, Gr.refl _⟩
  · rw [if_neg h15] at hE
    have HE := Lib.hid hE
    clear hE
    have HA : Hid (∀ w1, Gr w w1 → Calls Try.prog 24 #[.slice a l.length cap] w1 fun e w' => e = .returned (.bool (addi l)) ∧ w' = w1) := Lib.hid fun w1 h => rf_Additive (cap := cap) w1 (hr.gr h) hlen
    have HB : Hid (∀ w1, Gr w w1 → Calls Try.prog 35 #[.slice a l.length cap, .int .i64 8, .int .i64 9, .int .i64 10] w1 fun e w' => e = .returned (.bool (subt l)) ∧ w' = w1) := Lib.hid fun w1 h => rf_has (cap := cap) 8 9 10 w1 (hr.gr h) hlen
    obtain ⟨n, hn⟩ : ∃ n, n = l.length := ⟨_, rfl⟩
    have HN := Lib.hid hn
    rw [← hn] at hlen h15 hcap HA HB ⊢
    have hm2 : cap ≤ 9223372036854775807 := hmax
    clear hn hr hmax hlen
    go_enter Try.func14, Try.ntmps14
    go_wp2
    go_loopw [3] (fun i wr => ∃ k : Nat, i = .int .i64 k ∧ k ≤ n ∧ Hid (Gr w wr) ∧ Hid (palF (l.take k) (l.drop k) = E)) (fun i _ => n - (intOf i).toNat)
    case atStart => exact ⟨0, rfl, Nat.zero_le _, Gr.refl w, HE.out⟩
    case round =>
      obtain ⟨k, rfl, hk, HG, HK⟩ := hrel
      by_cases hlt : k < n
      · have hkl : k < l.length := by rw [← HN.out]; exact hlt
        obtain ⟨b, o, rfl, hc⟩ := (HR.out.gr HG.out) k hkl
        have HK1 := Lib.hid ((palF_step hkl).symm.trans HK.out)
        have HT : Hid (RdI wr (some ⟨b, o, none⟩) (l.take k)) := Lib.hid fun j hj => by
          have hj2 : j < l.length := by simp at hj; omega
          obtain ⟨b2, o2, h1, h2⟩ := (HR.out.gr HG.out) j hj2
          refine ⟨b2, o2, h1, ?_⟩
          rw [h2, List.getElem_take]
        generalize hx : l[k] = x at *
        clear hx
        by_cases h3 : 3 ≤ x
        · by_cases h10 : x ≤ 10
          · have d1 : decide (x < 3) = false := decide_eq_false (by omega)
            have d2 : decide (10 < x) = false := decide_eq_false (by omega)
            have HV : Hid ((if (l.take k).contains x = true then 7 else palF (l.take (k + 1)) (l.drop (k + 1))) = E) := Lib.hid (by have h := HK1.out; rwa [if_pos ⟨h3, h10⟩] at h)
            have HPL : Hid (∀ w1, RdI w1 (some ⟨b, o, none⟩) (l.take k) → Calls Try.prog 34 #[.slice (some ⟨b, o, none⟩) k cap, .int .i64 x] w1 fun e w' => e = .returned (.int .i64 (placeR (l.take k) x)) ∧ w' = w1) := Lib.hid fun w1 h => by
              have hl : (l.take k).length = k := by simp; omega
              have h2 := rf_place (cap := cap) x w1 h (by rw [hl]; show k ≤ 9223372036854775807; omega)
              rwa [hl] at h2
            have hy := placeR_nonneg (l.take k) x
            generalize placeR (l.take k) x = P at *
            generalize (l.take k).contains x = y at *
            clear HK HK1
            have z1 : (0 : Int) ≤ (k : Int) := by omega
            have z2 : (k : Int) < (n : Int) := by omega
            have z3 : (k : Int) ≤ (cap : Int) := by omega
            cases y
            · have hv := HV.out
              rw [if_neg (by simp)] at hv
              have HV2 := Lib.hid hv
              clear hv HV
              go_wp2_with fail
              have hS0 : (fun w' : World => w'.cell? ⟨b, o + k, none⟩ = some (.int .i64 x) ∧ RdI w' (some ⟨b, o, none⟩) (l.take k) ∧ Gr w w') wr.drew := ⟨hc, HT.out.gr (Gr.refl _).drew, HG.out.drew⟩
              refine wp_region_held (S := fun w' : World => w'.cell? ⟨b, o + k, none⟩ = some (.int .i64 x) ∧ RdI w' (some ⟨b, o, none⟩) (l.take k) ∧ Gr w w') (by kernel_rfl) ?_
              refine wpAnyH_take (i := 0) (v := .slice (some ⟨b, o, none⟩) n cap) rfl (by kernel_rfl) (by kernel_rfl) (by kernel_rfl) (fun _ _ _ h => h) (Or.inl ⟨by rfl, ?_⟩) hS0 ?_
              · intro w hSw; go_simp
              try simp only [Act.put, List.getElem_toArray, List.getElem_cons_succ, List.getElem_cons_zero, List.setIfInBounds_toArray, List.set_cons_zero, List.set_cons_succ]
              refine wpAnyH_take (i := 1) (v := .int .i64 k) rfl (by kernel_rfl) (by kernel_rfl) (by kernel_rfl) (fun _ _ _ h => h) (Or.inl ⟨by rfl, ?_⟩) hS0 ?_
              · intro w hSw; go_simp
              try simp only [Act.put, List.getElem_toArray, List.getElem_cons_succ, List.getElem_cons_zero, List.setIfInBounds_toArray, List.set_cons_zero, List.set_cons_succ]
              refine wpAnyH_take (i := 2) (v := .slice (some ⟨b, o, none⟩) k cap) rfl (by kernel_rfl) (by kernel_rfl) (by kernel_rfl) (fun _ _ _ h => h) (Or.inl ⟨by rfl, ?_⟩) hS0 ?_
              · intro w hSw; go_simp
              try simp only [Act.put, List.getElem_toArray, List.getElem_cons_succ, List.getElem_cons_zero, List.setIfInBounds_toArray, List.set_cons_zero, List.set_cons_succ]
              refine wpAnyH_take (i := 3) (v := .slice (some ⟨b, o, none⟩) n cap) rfl (by kernel_rfl) (by kernel_rfl) (by kernel_rfl) (fun _ _ _ h => h) (Or.inl ⟨by rfl, ?_⟩) hS0 ?_
              · intro w hSw; go_simp
              try simp only [Act.put, List.getElem_toArray, List.getElem_cons_succ, List.getElem_cons_zero, List.setIfInBounds_toArray, List.set_cons_zero, List.set_cons_succ]
              refine wpAnyH_take (i := 4) (v := .int .i64 k) rfl (by kernel_rfl) (by kernel_rfl) (by kernel_rfl) (fun _ _ _ h => h) (Or.inl ⟨by rfl, ?_⟩) hS0 ?_
              · intro w hSw; go_simp
              try simp only [Act.put, List.getElem_toArray, List.getElem_cons_succ, List.getElem_cons_zero, List.setIfInBounds_toArray, List.set_cons_zero, List.set_cons_succ]
              refine wpAnyH_take (i := 5) (v := .pointer (some ⟨b, o + k, none⟩)) rfl (by kernel_rfl) (by kernel_rfl) (by kernel_rfl) (fun _ _ _ h => h) (Or.inl ⟨by rfl, ?_⟩) hS0 ?_
              · intro w hSw; go_simp
              try simp only [Act.put, List.getElem_toArray, List.getElem_cons_succ, List.getElem_cons_zero, List.setIfInBounds_toArray, List.set_cons_zero, List.set_cons_succ]
              refine wpAnyH_take (i := 6) (v := .int .i64 x) rfl (by kernel_rfl) (by kernel_rfl) (by kernel_rfl) (fun _ _ _ h => h) (Or.inl ⟨by rfl, ?_⟩) hS0 ?_
              · intro w hSw; obtain ⟨s1, s2⟩ := hSw; go_simp
              try simp only [Act.put, List.getElem_toArray, List.getElem_cons_succ, List.getElem_cons_zero, List.setIfInBounds_toArray, List.set_cons_zero, List.set_cons_succ]
              refine wpAnyH_ready (rs := [7]) (by kernel_rfl) (by simp) (AllReadyH.cons rfl (fun K' hK' => ?_) AllReadyH.nil)
              go_simp
              refine (HPL.out _ hS0.2.1).mono ?_; rintro e w6 ⟨rfl, hw6⟩; rw [hw6]
              refine hK'.out _ _ hS0 (fun hS1 => ?_)
              clear hK' K'
              try simp only [Act.put, List.getElem_toArray, List.getElem_cons_succ, List.getElem_cons_zero, List.setIfInBounds_toArray, List.set_cons_zero, List.set_cons_succ]
              refine wpAnyH_take (i := 8) (v := .bool false) rfl (by kernel_rfl) (by kernel_rfl) (by kernel_rfl) (fun _ _ _ h => h) (Or.inl ⟨by rfl, ?_⟩) hS1 ?_
              · intro w hSw; go_simp; try exact hy
              try simp only [Act.put, List.getElem_toArray, List.getElem_cons_succ, List.getElem_cons_zero, List.setIfInBounds_toArray, List.set_cons_zero, List.set_cons_succ]
              refine wpAnyH_done (by kernel_rfl) ?_ _
              clear hS0 HT HPL hc
              have HGn := Lib.hid hS1.2.2
              clear hS1
              go_wp2
              go_roundw
              case rel => exact ⟨k + 1, by go_num, by omega, HGn.out, HV2.out⟩
              case measure => simp [intOf]; omega
            · have hv := HV.out
              rw [if_pos rfl] at hv
              subst hv
              clear HV
              go_wp2_with fail
              have hS0 : (fun w' : World => w'.cell? ⟨b, o + k, none⟩ = some (.int .i64 x) ∧ RdI w' (some ⟨b, o, none⟩) (l.take k) ∧ Gr w w') wr.drew := ⟨hc, HT.out.gr (Gr.refl _).drew, HG.out.drew⟩
              refine wp_region_held (S := fun w' : World => w'.cell? ⟨b, o + k, none⟩ = some (.int .i64 x) ∧ RdI w' (some ⟨b, o, none⟩) (l.take k) ∧ Gr w w') (by kernel_rfl) ?_
              refine wpAnyH_take (i := 0) (v := .slice (some ⟨b, o, none⟩) n cap) rfl (by kernel_rfl) (by kernel_rfl) (by kernel_rfl) (fun _ _ _ h => h) (Or.inl ⟨by rfl, ?_⟩) hS0 ?_
              · intro w hSw; go_simp
              try simp only [Act.put, List.getElem_toArray, List.getElem_cons_succ, List.getElem_cons_zero, List.setIfInBounds_toArray, List.set_cons_zero, List.set_cons_succ]
              refine wpAnyH_take (i := 1) (v := .int .i64 k) rfl (by kernel_rfl) (by kernel_rfl) (by kernel_rfl) (fun _ _ _ h => h) (Or.inl ⟨by rfl, ?_⟩) hS0 ?_
              · intro w hSw; go_simp
              try simp only [Act.put, List.getElem_toArray, List.getElem_cons_succ, List.getElem_cons_zero, List.setIfInBounds_toArray, List.set_cons_zero, List.set_cons_succ]
              refine wpAnyH_take (i := 2) (v := .slice (some ⟨b, o, none⟩) k cap) rfl (by kernel_rfl) (by kernel_rfl) (by kernel_rfl) (fun _ _ _ h => h) (Or.inl ⟨by rfl, ?_⟩) hS0 ?_
              · intro w hSw; go_simp
              try simp only [Act.put, List.getElem_toArray, List.getElem_cons_succ, List.getElem_cons_zero, List.setIfInBounds_toArray, List.set_cons_zero, List.set_cons_succ]
              refine wpAnyH_take (i := 3) (v := .slice (some ⟨b, o, none⟩) n cap) rfl (by kernel_rfl) (by kernel_rfl) (by kernel_rfl) (fun _ _ _ h => h) (Or.inl ⟨by rfl, ?_⟩) hS0 ?_
              · intro w hSw; go_simp
              try simp only [Act.put, List.getElem_toArray, List.getElem_cons_succ, List.getElem_cons_zero, List.setIfInBounds_toArray, List.set_cons_zero, List.set_cons_succ]
              refine wpAnyH_take (i := 4) (v := .int .i64 k) rfl (by kernel_rfl) (by kernel_rfl) (by kernel_rfl) (fun _ _ _ h => h) (Or.inl ⟨by rfl, ?_⟩) hS0 ?_
              · intro w hSw; go_simp
              try simp only [Act.put, List.getElem_toArray, List.getElem_cons_succ, List.getElem_cons_zero, List.setIfInBounds_toArray, List.set_cons_zero, List.set_cons_succ]
              refine wpAnyH_take (i := 5) (v := .pointer (some ⟨b, o + k, none⟩)) rfl (by kernel_rfl) (by kernel_rfl) (by kernel_rfl) (fun _ _ _ h => h) (Or.inl ⟨by rfl, ?_⟩) hS0 ?_
              · intro w hSw; go_simp
              try simp only [Act.put, List.getElem_toArray, List.getElem_cons_succ, List.getElem_cons_zero, List.setIfInBounds_toArray, List.set_cons_zero, List.set_cons_succ]
              refine wpAnyH_take (i := 6) (v := .int .i64 x) rfl (by kernel_rfl) (by kernel_rfl) (by kernel_rfl) (fun _ _ _ h => h) (Or.inl ⟨by rfl, ?_⟩) hS0 ?_
              · intro w hSw; obtain ⟨s1, s2⟩ := hSw; go_simp
              try simp only [Act.put, List.getElem_toArray, List.getElem_cons_succ, List.getElem_cons_zero, List.setIfInBounds_toArray, List.set_cons_zero, List.set_cons_succ]
              refine wpAnyH_ready (rs := [7]) (by kernel_rfl) (by simp) (AllReadyH.cons rfl (fun K' hK' => ?_) AllReadyH.nil)
              go_simp
              refine (HPL.out _ hS0.2.1).mono ?_; rintro e w6 ⟨rfl, hw6⟩; rw [hw6]
              refine hK'.out _ _ hS0 (fun hS1 => ?_)
              clear hK' K'
              try simp only [Act.put, List.getElem_toArray, List.getElem_cons_succ, List.getElem_cons_zero, List.setIfInBounds_toArray, List.set_cons_zero, List.set_cons_succ]
              refine wpAnyH_take (i := 8) (v := .bool true) rfl (by kernel_rfl) (by kernel_rfl) (by kernel_rfl) (fun _ _ _ h => h) (Or.inl ⟨by rfl, ?_⟩) hS1 ?_
              · intro w hSw; go_simp; try exact hy
              try simp only [Act.put, List.getElem_toArray, List.getElem_cons_succ, List.getElem_cons_zero, List.setIfInBounds_toArray, List.set_cons_zero, List.set_cons_succ]
              refine wpAnyH_done (by kernel_rfl) ?_ _
              have HGn := Lib.hid hS1.2.2
              clear hS1
              go_wp2
              go_ret
              exact ⟨rfl, HGn.out⟩
          · have hv := HK1.out
            rw [if_neg (by omega)] at hv
            subst hv
            have d1 : decide (x < 3) = false := decide_eq_false (by omega)
            have d2 : decide (10 < x) = true := decide_eq_true (by omega)
            clear HK HK1
            go_wp2
            go_ret
            exact ⟨rfl, HG.out⟩
        · have hv := HK1.out
          rw [if_neg (by omega)] at hv
          subst hv
          have d1 : decide (x < 3) = true := decide_eq_true (by omega)
          clear HK HK1
          go_wp2
          go_ret
          exact ⟨rfl, HG.out⟩
      · have hkn : k = l.length := by have := HN.out; omega
        have hv := HK.out
        rw [hkn, palF_end] at hv
        clear hkn HK
        generalize addi l = ad at *
        generalize subt l = sb at *
        cases ad
        · cases sb
          · rw [if_neg (by simp)] at hv
            subst hv
            go_wp2_with fail
            refine (HA.out _ HG.out).mono ?_; rintro e w1 ⟨rfl, hw1⟩
            rw [hw1]
            go_wp2_with fail
            refine (HB.out _ HG.out).mono ?_; rintro e w2 ⟨rfl, hw2⟩
            rw [hw2]
            go_wp2
            go_ret
            exact ⟨rfl, HG.out⟩
          · rw [if_pos (by simp)] at hv
            subst hv
            go_wp2_with fail
            refine (HA.out _ HG.out).mono ?_; rintro e w1 ⟨rfl, hw1⟩
            rw [hw1]
            go_wp2_with fail
            refine (HB.out _ HG.out).mono ?_; rintro e w2 ⟨rfl, hw2⟩
            rw [hw2]
            go_wp2
            go_ret
            exact ⟨rfl, HG.out⟩
        · rw [if_pos (by simp)] at hv
          subst hv
          go_wp2_with fail
          refine (HA.out _ HG.out).mono ?_; rintro e w1 ⟨rfl, hw1⟩
          rw [hw1]
          go_wp2
          go_ret
          exact ⟨rfl, HG.out⟩
end Go.Proofs.Ytipfofdjngnkpaa
