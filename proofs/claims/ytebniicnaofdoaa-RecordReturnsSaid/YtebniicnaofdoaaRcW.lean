/- Records: the law RecordReturns. -/
import Derived.Test.YtebniicnaofdoaaRcU
import Derived.Test.YtebniicnaofdoaaRcR
import Derived.Test.YtebniicnaofdoaaRcQ
import Derived.Test.YtebniicnaofdoaaRcH
import Derived.Test.YtebniicnaofdoaaRcS
set_option linter.unusedVariables false
set_option linter.unusedSimpArgs false
namespace Go.Proofs.Ytebniicnaofdoaa
open Go.RowKit
open Z Rc

theorem small_ok {l : List E} (h : smallB l = true) : l.length ≤ 20 ∧ (∀ x ∈ l, chkE x = 0) ∧ (joB l).length ≤ 305 * l.length := by
  unfold smallB at h
  simp only [Bool.and_eq_true, decide_eq_true_eq, List.all_eq_true, Bool.not_eq_true'] at h
  obtain ⟨h1, h2⟩ := h
  have hx : ∀ x ∈ l, chkE x = 0 ∧ x.2.size ≤ 300 := fun x hx => by
    have := h2 x hx
    unfold badE at this
    simp only [Bool.or_eq_false_iff, decide_eq_false_iff_not] at this
    exact ⟨chkE_ok.2 ⟨⟨by omega, by omega⟩, by omega⟩, by omega⟩
  refine ⟨h1, fun x hxl => (hx x hxl).1, ?_⟩
  clear h1 h2
  induction l with
  | nil => simp [joB]
  | cons x l ih =>
    have a1 := (hx x (by simp)).2
    have a2 := ih (fun y hy => hx y (by simp [hy]))
    rw [joB_cons, List.length_append, pkE_len, List.length_cons]; omega
theorem RdE.take {w : World} {a : Option Addr} {l : List E} (h : RdE w a l) (j : Nat) : RdE w a (l.take j) := fun k hk => by
  rw [List.length_take] at hk
  obtain ⟨b, o, e, hat⟩ := h k (by omega)
  exact ⟨b, o, e, by rw [List.getElem_take]; exact hat⟩
set_option maxHeartbeats 4000000 in
set_option maxRecDepth 100000 in
theorem l8_RecordReturns (a : Option Addr) (l : List E) (cap : Nat) (cut : Int) (w : World) (hr : RdE w a l) (hl : l.length ≤ cap) (hc : cap ≤ maxLen) (hz : ∀ x ∈ l, x.2.size ≤ maxLen) (hcut : 0 ≤ cut ∧ cut ≤ 65535) :
    Calls Try.prog 8 #[.slice a l.length cap, .int .u16 cut] w fun e w' => e = .returned (.bool true) ∧ Gr w w' := by
  have HA := Lib.hid l8_awake
  have HR := Lib.hid hr
  have CS := Lib.hid (l8_small a l cap w hr hl hc hz)
  cases hsm : smallB l
  · rw [hsm] at CS
    unfold maxLen at hc
    clear hz hr
    go_enter Try.func8, Try.ntmps8
    go_wp2_with fail
    refine CS.out.mono ?_; rintro e w0 ⟨rfl, hg0⟩
    have HG0 := Lib.hid hg0; clear hg0
    go_wp2_with fail
    refine (HA.out _).mono ?_; rintro e w1 ⟨rfl, hg1⟩
    have HG1 := Lib.hid (Gr.trans HG0.out hg1); clear hg1
    go_wp2
    go_ret
    exact ⟨rfl, HG1.out⟩
  · rw [hsm] at CS
    obtain ⟨hl20, hok, hjl⟩ := small_ok hsm
    have J1 := Lib.hid (fun w (hr : RdE w a l) => rc_Join a l cap w hr hl20 hz)
    have hje : joinE l = (joB l, 0) := by unfold joinE; rw [joE_ok.2 hok, if_neg (by decide)]
    rw [hje] at J1
    unfold xV at J1
    simp only [] at J1
    have hjl2 : (joB l).length ≤ 6100 := by omega
    have hSz : (str (joB l)).size = (joB l).length := str_sz _
    have hSd : (str (joB l)).data.toList = joB l := data_str _
    have CA := Lib.hid (fun w => rc_All (str (joB l)) w (by omega))
    rw [hSd, al_join0 l hok] at CA
    simp only [] at CA
    have CO := Lib.hid (fun w a' c' (hr : RdE w a' l) => l8_own (cap := c') w hr (by omega))
    have CQ := Lib.hid (fun w a1 c1 a2 c2 (h1 : RdE w a1 l) (h2 : RdE w a2 l) => r8_Same (ca := c1) (cb := c2) w h1 h2 (by omega))
    rw [decide_eq_true (rfl : l = l)] at CQ
    obtain ⟨k, hk⟩ : ∃ k : Nat, cut % ((joB l).length + 1 : Int) = k := ⟨(cut % ((joB l).length + 1 : Int)).toNat, by rw [Int.toNat_of_nonneg]; exact Int.emod_nonneg _ (by omega)⟩
    have hkt : cut.tmod ((joB l).length + 1 : Int) = k := by rw [Int.tmod_eq_emod_of_nonneg hcut.1]; exact hk
    have hkl : k ≤ (joB l).length := by
      have := Int.emod_lt_of_pos cut (show (0 : Int) < (joB l).length + 1 by omega)
      omega
    obtain ⟨j, hj, hjb, hal⟩ := al_torn l hok k hkl
    have hS2 : ((str (joB l)).extract 0 k).data.toList = (joB l).take k := by rw [Lib.extract_data, hSd, List.drop_zero, Nat.sub_zero]
    have CT := Lib.hid (fun w => rc_All ((str (joB l)).extract 0 k) w (by rw [ByteArray.size_extract]; omega))
    rw [hS2, hal] at CT
    simp only [List.length_take, Nat.min_eq_left hj] at CT
    have hlt : (l.take j).length = j := by rw [List.length_take]; omega
    have CO2 := Lib.hid (fun w a' c' (hr : RdE w a' (l.take j)) => l8_own (cap := c') w hr (by omega))
    have CQ2 := Lib.hid (fun w a1 c1 a2 c2 (h1 : RdE w a1 (l.take j)) (h2 : RdE w a2 (l.take j)) => r8_Same (ca := c1) (cb := c2) w h1 h2 (by omega))
    rw [decide_eq_true (rfl : l.take j = l.take j)] at CQ2
    rw [hlt] at CO2 CQ2
    obtain ⟨P, hP⟩ : ∃ P, (joB (l.take j)).length = P := ⟨_, rfl⟩
    rw [hP] at CT hjb
    obtain ⟨N, hN⟩ : ∃ N, (joB l).length = N := ⟨_, rfl⟩
    rw [hN] at CA hSz hk hkt hkl hjl2
    unfold maxLen at hc
    clear hz hr hsm hok hjl hje hSd hS2 hal hP hN
    generalize str (joB l) = S at *
    go_enter Try.func8, Try.ntmps8
    go_wp2_with fail
    refine CS.out.mono ?_; rintro e w0 ⟨rfl, hg0⟩
    have HG0 := Lib.hid hg0
    have R0 := Lib.hid (HR.out.gr hg0); clear hg0
    go_wp2_with fail
    refine (J1.out _ R0.out).mono ?_; rintro e w1 ⟨rfl, hg1⟩
    have HG1 := Lib.hid (Gr.trans HG0.out hg1)
    have R1 := Lib.hid (R0.out.gr hg1); clear hg1 R0
    go_wp2_with fail
    refine (CA.out _).mono ?_; rintro e w2 ⟨⟨a2, c2, rfl, r2, -, -⟩, hg2⟩
    have HG2 := Lib.hid (Gr.trans HG1.out hg2)
    have R2 := Lib.hid (R1.out.gr hg2)
    have Q2 := Lib.hid r2; clear hg2 R1 r2
    go_wp2_with fail
    refine (CO.out _ _ _ R2.out).mono ?_; rintro e w3 ⟨⟨a3, c3, rfl, r3⟩, hg3⟩
    have HG3 := Lib.hid (Gr.trans HG2.out hg3)
    have R3 := Lib.hid (R2.out.gr hg3)
    have Q3 := Lib.hid (Q2.out.gr hg3)
    have S3 := Lib.hid r3; clear hg3 R2 Q2 r3
    go_wp2_with fail
    refine (CO.out _ _ _ Q3.out).mono ?_; rintro e w4 ⟨⟨a4, c4, rfl, r4⟩, hg4⟩
    have HG4 := Lib.hid (Gr.trans HG3.out hg4)
    have R4 := Lib.hid (R3.out.gr hg4)
    have S4 := Lib.hid (S3.out.gr hg4)
    have Q4 := Lib.hid r4; clear hg4 R3 S3 Q3 r4
    go_wp2_with fail
    refine (CQ.out _ _ _ _ _ S4.out Q4.out).mono ?_; rintro e w5 ⟨rfl, hg5⟩
    have HG5 := Lib.hid (Gr.trans HG4.out hg5)
    have R5 := Lib.hid (R4.out.gr hg5); clear hg5 R4 S4 Q4
    have u1 : (0 : Int) ≤ (k : Int) := by omega
    have u2 : (k : Int) ≤ (S.size : Int) := by omega
    go_wp2_with fail
    refine (CT.out _).mono ?_; rintro e w6 ⟨⟨a6, c6, rfl, r6, -, -⟩, hg6⟩
    have HG6 := Lib.hid (Gr.trans HG5.out hg6)
    have R6 := Lib.hid ((R5.out.gr hg6).take j)
    have Q6 := Lib.hid r6; clear hg6 R5 r6
    have hjl : ¬ (l.length : Int) < (j : Int) := by omega
    have hj1 : (j : Int) ≤ (cap : Int) := by omega
    have hj0 : (0 : Int) ≤ (j : Int) := by omega
    have hpk : ¬ (k : Int) < (P : Int) := by omega
    have hjd : decide ((l.length : Int) < (j : Int)) = false := decide_eq_false hjl
    have hjd2 : decide (l.length < j) = false := decide_eq_false (by omega)
    have hpd : decide ((k : Int) < (P : Int)) = false := decide_eq_false hpk
    have hpd2 : decide (k < P) = false := decide_eq_false (by omega)
    obtain ⟨E6, hE6⟩ : ∃ e : Int, (if P = k then (0 : Int) else 20) = e := ⟨_, rfl⟩
    have g0 : Gr w6 w6.drew := (Gr.refl w6).drew
    go_wp2_with fail
    have Q6d := Lib.hid (Q6.out.gr g0)
    have R6d := Lib.hid (R6.out.gr g0)
    have HG6d := Lib.hid (Gr.trans HG6.out g0)
    clear Q6 R6 HG6 g0 HG0 HG1 HG2 HG3 HG4 HG5
    have hS0 : True := trivial
    refine wp_region_held (S := fun _ : World => True) (by kernel_rfl) ?_
    change wpAnyH _ _ _ _ _ _ _ _ (World.drew _)
    generalize w6.drew = W6 at *
    refine wpAnyH_take (i := 0) (v := (.slice a6 j c6)) rfl (by kernel_rfl) (by kernel_rfl) (by kernel_rfl) (fun _ _ _ h => h) (Or.inl ⟨by rfl, ?_⟩) hS0 ?_
    · intro w hSw; go_simp
    try simp only [Act.put, List.getElem_toArray, List.getElem_cons_succ, List.getElem_cons_zero, List.setIfInBounds_toArray, List.set_cons_zero, List.set_cons_succ]
    refine wpAnyH_take (i := 1) (v := (.int .i64 (j : Int))) rfl (by kernel_rfl) (by kernel_rfl) (by kernel_rfl) (fun _ _ _ h => h) (Or.inl ⟨by rfl, ?_⟩) hS0 ?_
    · intro w hSw; go_simp
    try simp only [Act.put, List.getElem_toArray, List.getElem_cons_succ, List.getElem_cons_zero, List.setIfInBounds_toArray, List.set_cons_zero, List.set_cons_succ]
    refine wpAnyH_take (i := 2) (v := (.slice a l.length cap)) rfl (by kernel_rfl) (by kernel_rfl) (by kernel_rfl) (fun _ _ _ h => h) (Or.inl ⟨by rfl, ?_⟩) hS0 ?_
    · intro w hSw; go_simp
    try simp only [Act.put, List.getElem_toArray, List.getElem_cons_succ, List.getElem_cons_zero, List.setIfInBounds_toArray, List.set_cons_zero, List.set_cons_succ]
    refine wpAnyH_take (i := 3) (v := (.int .i64 (l.length : Int))) rfl (by kernel_rfl) (by kernel_rfl) (by kernel_rfl) (fun _ _ _ h => h) (Or.inl ⟨by rfl, ?_⟩) hS0 ?_
    · intro w hSw; go_simp
    try simp only [Act.put, List.getElem_toArray, List.getElem_cons_succ, List.getElem_cons_zero, List.setIfInBounds_toArray, List.set_cons_zero, List.set_cons_succ]
    refine wpAnyH_take (i := 4) (v := (.bool false)) rfl (by kernel_rfl) (by kernel_rfl) (by kernel_rfl) (fun _ _ _ h => h) (Or.inl ⟨by rfl, ?_⟩) hS0 ?_
    · intro w hSw; go_simp
    try simp only [Act.put, List.getElem_toArray, List.getElem_cons_succ, List.getElem_cons_zero, List.setIfInBounds_toArray, List.set_cons_zero, List.set_cons_succ]
    refine wpAnyH_take (i := 5) (v := (.bool false)) rfl (by kernel_rfl) (by kernel_rfl) (by kernel_rfl) (fun _ _ _ h => h) (Or.inl ⟨by rfl, ?_⟩) hS0 ?_
    · intro w hSw; go_simp
    try simp only [Act.put, List.getElem_toArray, List.getElem_cons_succ, List.getElem_cons_zero, List.setIfInBounds_toArray, List.set_cons_zero, List.set_cons_succ]
    refine wpAnyH_take (i := 6) (v := (.slice a6 j c6)) rfl (by kernel_rfl) (by kernel_rfl) (by kernel_rfl) (fun _ _ _ h => h) (Or.inl ⟨by rfl, ?_⟩) hS0 ?_
    · intro w hSw; go_simp
    try simp only [Act.put, List.getElem_toArray, List.getElem_cons_succ, List.getElem_cons_zero, List.setIfInBounds_toArray, List.set_cons_zero, List.set_cons_succ]
    refine wpAnyH_take (i := 8) (v := (.slice a l.length cap)) rfl (by kernel_rfl) (by kernel_rfl) (by kernel_rfl) (fun _ _ _ h => h) (Or.inl ⟨by rfl, ?_⟩) hS0 ?_
    · intro w hSw; go_simp
    try simp only [Act.put, List.getElem_toArray, List.getElem_cons_succ, List.getElem_cons_zero, List.setIfInBounds_toArray, List.set_cons_zero, List.set_cons_succ]
    refine wpAnyH_take (i := 9) (v := (.slice a6 j c6)) rfl (by kernel_rfl) (by kernel_rfl) (by kernel_rfl) (fun _ _ _ h => h) (Or.inl ⟨by rfl, ?_⟩) hS0 ?_
    · intro w hSw; go_simp
    try simp only [Act.put, List.getElem_toArray, List.getElem_cons_succ, List.getElem_cons_zero, List.setIfInBounds_toArray, List.set_cons_zero, List.set_cons_succ]
    refine wpAnyH_take (i := 10) (v := (.int .i64 (j : Int))) rfl (by kernel_rfl) (by kernel_rfl) (by kernel_rfl) (fun _ _ _ h => h) (Or.inl ⟨by rfl, ?_⟩) hS0 ?_
    · intro w hSw; go_simp
    try simp only [Act.put, List.getElem_toArray, List.getElem_cons_succ, List.getElem_cons_zero, List.setIfInBounds_toArray, List.set_cons_zero, List.set_cons_succ]
    refine wpAnyH_take (i := 11) (v := (.slice a j cap)) rfl (by kernel_rfl) (by kernel_rfl) (by kernel_rfl) (fun _ _ _ h => h) (Or.inl ⟨by rfl, ?_⟩) hS0 ?_
    · intro w hSw; go_simp
    try simp only [Act.put, List.getElem_toArray, List.getElem_cons_succ, List.getElem_cons_zero, List.setIfInBounds_toArray, List.set_cons_zero, List.set_cons_succ]
    refine wpAnyH_ready (rs := [7]) (by kernel_rfl) (by simp) (AllReadyH.cons rfl (fun K' hK' => ?_) AllReadyH.nil)
    go_simp
    refine (CO2.out _ a6 c6 Q6d.out).mono ?_; rintro e w7 ⟨⟨a7, c7, rfl, r7⟩, h7⟩
    have R7 := Lib.hid r7
    have R6e := Lib.hid (R6d.out.gr h7)
    have HG7 := Lib.hid (Gr.trans HG6d.out h7)
    clear r7 h7 Q6d R6d HG6d
    refine hK'.out _ _ trivial (fun hS1 => ?_)
    clear hK' K'
    try simp only [Act.put, List.getElem_toArray, List.getElem_cons_succ, List.getElem_cons_zero, List.setIfInBounds_toArray, List.set_cons_zero, List.set_cons_succ]
    refine wpAnyH_ready (rs := [12]) (by kernel_rfl) (by simp) (AllReadyH.cons rfl (fun K' hK' => ?_) AllReadyH.nil)
    go_simp
    refine (CO2.out _ a cap R6e.out).mono ?_; rintro e w8 ⟨⟨a8, c8, rfl, r8⟩, h8⟩
    have R8 := Lib.hid r8
    have R7e := Lib.hid (R7.out.gr h8)
    have HG8 := Lib.hid (Gr.trans HG7.out h8)
    clear r8 h8 R7 R6e HG7
    refine hK'.out _ _ trivial (fun hS2 => ?_)
    clear hK' K'
    try simp only [Act.put, List.getElem_toArray, List.getElem_cons_succ, List.getElem_cons_zero, List.setIfInBounds_toArray, List.set_cons_zero, List.set_cons_succ]
    refine wpAnyH_ready (rs := [13]) (by kernel_rfl) (by simp) (AllReadyH.cons rfl (fun K' hK' => ?_) AllReadyH.nil)
    go_simp
    refine (CQ2.out _ _ _ _ _ R7e.out R8.out).mono ?_; rintro e w9 ⟨rfl, h9⟩
    have HG9 := Lib.hid (Gr.trans HG8.out h9)
    clear h9 R8 R7e HG8
    refine hK'.out _ _ trivial (fun hS3 => ?_)
    clear hK' K'
    try simp only [Act.put, List.getElem_toArray, List.getElem_cons_succ, List.getElem_cons_zero, List.setIfInBounds_toArray, List.set_cons_zero, List.set_cons_succ]
    refine wpAnyH_take (i := 14) (v := (.bool false)) rfl (by kernel_rfl) (by kernel_rfl) (by kernel_rfl) (fun _ _ _ h => h) (Or.inl ⟨by rfl, ?_⟩) hS3 ?_
    · intro w hSw; go_simp
    try simp only [Act.put, List.getElem_toArray, List.getElem_cons_succ, List.getElem_cons_zero, List.setIfInBounds_toArray, List.set_cons_zero, List.set_cons_succ]
    refine wpAnyH_take (i := 15) (v := (.bool false)) rfl (by kernel_rfl) (by kernel_rfl) (by kernel_rfl) (fun _ _ _ h => h) (Or.inl ⟨by rfl, ?_⟩) hS3 ?_
    · intro w hSw; go_simp
    try simp only [Act.put, List.getElem_toArray, List.getElem_cons_succ, List.getElem_cons_zero, List.setIfInBounds_toArray, List.set_cons_zero, List.set_cons_succ]
    refine wpAnyH_take (i := 16) (v := (.bool false)) rfl (by kernel_rfl) (by kernel_rfl) (by kernel_rfl) (fun _ _ _ h => h) (Or.inl ⟨by rfl, ?_⟩) hS3 ?_
    · intro w hSw; go_simp
    try simp only [Act.put, List.getElem_toArray, List.getElem_cons_succ, List.getElem_cons_zero, List.setIfInBounds_toArray, List.set_cons_zero, List.set_cons_succ]
    refine wpAnyH_take (i := 17) (v := (.int .i64 (P : Int))) rfl (by kernel_rfl) (by kernel_rfl) (by kernel_rfl) (fun _ _ _ h => h) (Or.inl ⟨by rfl, ?_⟩) hS3 ?_
    · intro w hSw; go_simp
    try simp only [Act.put, List.getElem_toArray, List.getElem_cons_succ, List.getElem_cons_zero, List.setIfInBounds_toArray, List.set_cons_zero, List.set_cons_succ]
    refine wpAnyH_take (i := 18) (v := (.int .i64 (k : Int))) rfl (by kernel_rfl) (by kernel_rfl) (by kernel_rfl) (fun _ _ _ h => h) (Or.inl ⟨by rfl, ?_⟩) hS3 ?_
    · intro w hSw; go_simp
    try simp only [Act.put, List.getElem_toArray, List.getElem_cons_succ, List.getElem_cons_zero, List.setIfInBounds_toArray, List.set_cons_zero, List.set_cons_succ]
    refine wpAnyH_take (i := 19) (v := (.bool false)) rfl (by kernel_rfl) (by kernel_rfl) (by kernel_rfl) (fun _ _ _ h => h) (Or.inl ⟨by rfl, ?_⟩) hS3 ?_
    · intro w hSw; go_simp
    try simp only [Act.put, List.getElem_toArray, List.getElem_cons_succ, List.getElem_cons_zero, List.setIfInBounds_toArray, List.set_cons_zero, List.set_cons_succ]
    refine wpAnyH_take (i := 20) (v := (.bool false)) rfl (by kernel_rfl) (by kernel_rfl) (by kernel_rfl) (fun _ _ _ h => h) (Or.inl ⟨by rfl, ?_⟩) hS3 ?_
    · intro w hSw; go_simp
    try simp only [Act.put, List.getElem_toArray, List.getElem_cons_succ, List.getElem_cons_zero, List.setIfInBounds_toArray, List.set_cons_zero, List.set_cons_succ]
    refine wpAnyH_done (by kernel_rfl) ?_ _
    by_cases hPk : P = k
    · rw [if_pos hPk] at hE6
      subst hE6
      subst hPk
      clear hpd hpd2 hpk
      go_wp2_with fail
      refine (HA.out _).mono ?_; rintro e w10 ⟨rfl, hg10⟩
      have HG10 := Lib.hid (Gr.trans HG9.out hg10); clear hg10
      go_wp2
      go_ret
      exact ⟨rfl, HG10.out⟩
    · rw [if_neg hPk] at hE6
      subst hE6
      have hPkb : ((P : Int) == (k : Int)) = false := by rw [beq_eq_false_iff_ne]; omega
      go_wp2_with fail
      refine (HA.out _).mono ?_; rintro e w10 ⟨rfl, hg10⟩
      have HG10 := Lib.hid (Gr.trans HG9.out hg10); clear hg10
      go_wp2
      go_ret
      exact ⟨rfl, HG10.out⟩
end Go.Proofs.Ytebniicnaofdoaa
