/- Law 15: what is found: palettes by their numbers, hues by their keys (the program). -/
import Derived.Test.YtgjlcmheipmmlaaPaD
import Derived.Test.YtgjlcmheipmmlaaRsB
set_option linter.unusedVariables false
set_option linter.unusedSimpArgs false
namespace Go.Proofs.Ytgjlcmheipmmlaa
open Go.RowKit
open Z
/-- what is found lies at i -/
def HuF (l : List Hu) (i : Nat) (V : Option Int) : Prop := ∀ v, V = some v → ∃ h : i < l.length, l[i].2.2 = v
theorem cmp_ltB {x y : Int} : decide (cmpI x y < 0) = decide (x < y) := by rw [Bool.eq_iff_iff, decide_eq_true_eq, decide_eq_true_eq]; exact cmpI_lt
theorem cmp_eqB {x y : Int} : (cmpI x y == 0) = decide (x = y) := by rw [Bool.eq_iff_iff, beq_iff_eq, decide_eq_true_eq]; exact cmpI_zero
set_option maxRecDepth 100000 in
set_option maxHeartbeats 1000000 in
theorem pl_place1 (x : Int) (c : Option Addr) (m cp : Nat) (n : Int) (w : World) :
    Calls Try.prog 85 #[.agg #[.int .i64 x, .slice c m cp], .int .i64 n] w fun e w' => e = .returned (.int .i64 (cmpI x n)) ∧ Gr w w' := by
  have HC := Lib.hid (fun w => cmp_Compare x n w)
  generalize cmpI x n = E at *
  have HG := Lib.hid ((Gr.refl w).alloc (.cells #[.int .i64 x, .slice c m cp] 39))
  go_enter Try.func85, Try.ntmps85
  go_wp2_with fail
  refine (HC.out _).mono ?_; rintro e w1 ⟨rfl, rfl⟩
  go_wp2
  go_ret
  exact ⟨rfl, HG.out⟩
set_option maxRecDepth 100000 in
set_option maxHeartbeats 2000000 in
theorem sl_SearchP {a : Option Addr} {l : List Pl} {cap : Nat} (n : Int) (w : World) (hr : RdP w a l) (ha : asc l) (hlen : l.length ≤ 100) :
    Calls Try.prog 84 #[.slice a l.length cap, .int .i64 n, .func (.func 85) #[] #[]] w fun e w' => (∃ i : Nat, e = .returned (.tuple #[.int .i64 i, .bool (hasN l n)]) ∧ LoAt l i n) ∧ Gr w w' := by
  have HR := Lib.hid hr
  have HA := Lib.hid ha
  obtain ⟨m, hm⟩ : ∃ m, m = l.length := ⟨_, rfl⟩
  have HM := Lib.hid hm
  rw [← hm] at hlen ⊢
  clear hm hr ha
  obtain ⟨V, hV⟩ : ∃ V, hasN l n = V := ⟨_, rfl⟩
  rw [hV]
  have HV := Lib.hid hV
  clear hV
  go_enter Try.func84, Try.ntmps84
  go_wp2
  go_loopw [9, 10] (fun p q wr => ∃ i j : Nat, p = .int .i64 i ∧ q = .int .i64 j ∧ i ≤ j ∧ j ≤ m ∧ Hid (∀ k (h : k < l.length), k < i → l[k].1 < n) ∧ Hid (∀ k (h : k < l.length), j ≤ k → n ≤ l[k].1) ∧ Hid (Gr w wr)) (fun p q _ => (intOf q).toNat - (intOf p).toNat)
  case atStart => exact ⟨0, m, rfl, rfl, by omega, by omega, Lib.hid (fun k h hk => absurd hk (by omega)), Lib.hid (fun k h hk => absurd h (by rw [← HM.out]; omega)), Lib.hid (Gr.refl _)⟩
  case round =>
    obtain ⟨i, j, rfl, rfl, hij, hj, HI, HJ, HG⟩ := hrel
    by_cases hlt : i < j
    · obtain ⟨h, hh⟩ : ∃ h, (i + j) / 2 = h := ⟨_, rfl⟩
      have hhi : i ≤ h := by omega
      have hhj : h < j := by omega
      have hhl : h < l.length := by rw [← HM.out]; omega
      obtain ⟨b, o, c, cp, rfl, hc0, hc1, hv⟩ := (HR.out.gr HG.out).at hhl
      have HX := Lib.hid (fun w => pl_place1 l[h].1 c l[h].2.length cp n w)
      have hcl := cmp_ltB (x := l[h].1) (y := n)
      have HI2 : Hid (l[h].1 < n → ∀ k (hk : k < l.length), k < h + 1 → l[k].1 < n) := Lib.hid fun h1 k hk hkh => by
        by_cases e : k = h
        · subst e; exact h1
        · have := asc_lt HA.out hhl (show k < h by omega); omega
      have HJ2 : Hid (¬ l[h].1 < n → ∀ k (hk : k < l.length), h ≤ k → n ≤ l[k].1) := Lib.hid fun h1 k hk hkh => by
        by_cases e : k = h
        · subst e; omega
        · have := asc_lt HA.out hk (show h < k by omega); omega
      clear hv
      generalize l[h].2.length = ml at *
      generalize l[h].1 = x at *
      generalize cmpI x n = C at *
      have HHH := Lib.hid hh
      clear hh
      have hsh : ((i : Int) + (j : Int)) / 2 = (h : Int) := by have := HHH.out; omega
      go_wp2_with fail
      refine (HX.out _).mono ?_; rintro e w2 ⟨rfl, hg2⟩
      have HG2 := Lib.hid (HG.out.trans hg2)
      clear hg2 HG hc0 hc1 HX hsh
      by_cases hx : x < n
      · have hC : C < 0 := by rw [decide_eq_true hx] at hcl; simpa using hcl
        have HI3 := Lib.hid (HI2.out hx)
        clear hcl HI2 HJ2
        go_wp2
        go_roundw
        case rel => exact ⟨h + 1, j, by go_num, rfl, by omega, by omega, HI3, HJ, HG2⟩
        case measure => simp [intOf]; omega
      · have hC : ¬ C < 0 := by rw [decide_eq_false hx] at hcl; simpa using hcl
        have HJ3 := Lib.hid (HJ2.out (by omega))
        clear hcl HI2 HJ2
        go_wp2
        go_roundw
        case rel => exact ⟨i, h, rfl, rfl, by omega, by omega, HI, HJ3, HG2⟩
        case measure => simp [intOf]; omega
    · have hij2 : i = j := by omega
      subst hij2
      have HLO := Lib.hid (show LoAt l i n from ⟨by rw [← HM.out]; exact hj, HI.out, HJ.out⟩)
      clear HI HJ
      by_cases him : i < m
      · have hil : i < l.length := by rw [← HM.out]; exact him
        obtain ⟨b, o, c, cp, rfl, hc0, hc1, hv⟩ := (HR.out.gr HG.out).at hil
        have HX := Lib.hid (fun w => pl_place1 l[i].1 c l[i].2.length cp n w)
        have hcl := cmp_eqB (x := l[i].1) (y := n)
        have hVe : V = decide (l[i].1 = n) := by
          rw [← HV.out, Bool.eq_iff_iff, HLO.out.has HA.out, decide_eq_true_eq]
          exact ⟨fun ⟨_, e⟩ => e, fun e => ⟨hil, e⟩⟩
        have HVE := Lib.hid hVe
        clear hv hVe
        generalize l[i].2.length = ml at *
        generalize l[i].1 = x at *
        generalize cmpI x n = C at *
        generalize decide (x = n) = D at *
        clear HV
        go_wp2_with fail
        refine (HX.out _).mono ?_; rintro e w2 ⟨rfl, hg2⟩
        have HG2 := Lib.hid (HG.out.trans hg2)
        clear hg2 HG hc0 hc1 HX
        go_wp2
        go_ret2
        exact ⟨⟨i, by rw [HVE.out]; rfl, HLO.out⟩, HG2.out⟩
      · have hVf : V = false := by
          rw [← HV.out, Bool.eq_false_iff]
          intro h
          obtain ⟨hi, -⟩ := (HLO.out.has HA.out).1 h
          have := HM.out; omega
        subst hVf
        clear HV
        go_wp2
        go_ret2
        exact ⟨⟨i, rfl, HLO.out⟩, HG.out⟩
set_option maxRecDepth 100000 in
set_option maxHeartbeats 1000000 in
theorem pl_place {a : Option Addr} {l : List Pl} {cap : Nat} (n : Int) (w : World) (hr : RdP w a l) (ha : asc l) (hlen : l.length ≤ 100) :
    Calls Try.prog 59 #[.slice a l.length cap, .int .i64 n] w fun e w' => (∃ i : Nat, e = .returned (.tuple #[.int .i64 i, .bool (hasN l n)]) ∧ LoAt l i n) ∧ Gr w w' := by
  have HS := Lib.hid (sl_SearchP (cap := cap) n w hr ha hlen)
  clear hr ha
  generalize l.length = m at *
  generalize hasN l n = V at *
  go_enter Try.func59, Try.ntmps59
  go_wp2_with fail
  refine HS.out.mono ?_; rintro e w1 ⟨⟨i, rfl, hlo⟩, hg⟩
  have HL := Lib.hid hlo
  have HG := Lib.hid hg
  clear hlo hg HS
  go_wp2
  go_ret2
  exact ⟨⟨i, rfl, HL.out⟩, HG.out⟩
set_option maxRecDepth 100000 in
set_option maxHeartbeats 1000000 in
theorem pl_hueAt1 (c a v pc pa : Int) (w : World) : Calls Try.prog 106 #[.agg #[.int .i64 c, .int .i64 a, .int .i64 v], .agg #[.int .i64 pc, .int .i64 pa]] w fun e w' => e = .returned (.int .i64 (pcmp (c, a) (pc, pa))) ∧ Gr w w' := by
  obtain ⟨p, hp⟩ : ∃ p, p = w.heap.size := ⟨_, rfl⟩
  obtain ⟨w2, hw2⟩ : ∃ w2, w2 = (w.alloc (.cells #[.int .i64 c, .int .i64 a, .int .i64 v] 110)).alloc (.cells #[.int .i64 pc, .int .i64 pa] 55) := ⟨_, rfl⟩
  have hG2 : Gr w w2 := by rw [hw2]; exact ((Gr.refl w).alloc _).alloc _
  have hc0 : w2.cell? ⟨p, 0, none⟩ = some (.int .i64 c) := by rw [hw2, hp]; exact gr_cell ((Gr.refl _).alloc _) (fresh w [.int .i64 c, .int .i64 a, .int .i64 v] _ (k := 0) rfl)
  have hc1 : w2.cell? ⟨p, 1, none⟩ = some (.int .i64 a) := by rw [hw2, hp]; exact gr_cell ((Gr.refl _).alloc _) (fresh w [.int .i64 c, .int .i64 a, .int .i64 v] _ (k := 1) rfl)
  have hc2 : w2.cell? ⟨p, 2, none⟩ = some (.int .i64 v) := by rw [hw2, hp]; exact gr_cell ((Gr.refl _).alloc _) (fresh w [.int .i64 c, .int .i64 a, .int .i64 v] _ (k := 2) rfl)
  have hd0 : w2.cell? ⟨p + 1, 0, none⟩ = some (.int .i64 pc) := by
    have := fresh (w.alloc (.cells #[.int .i64 c, .int .i64 a, .int .i64 v] 110)) [.int .i64 pc, .int .i64 pa] 55 (k := 0) rfl
    rw [World.size_alloc] at this
    rw [hw2, hp]; exact this
  have hd1 : w2.cell? ⟨p + 1, 1, none⟩ = some (.int .i64 pa) := by
    have := fresh (w.alloc (.cells #[.int .i64 c, .int .i64 a, .int .i64 v] 110)) [.int .i64 pc, .int .i64 pa] 55 (k := 1) rfl
    rw [World.size_alloc] at this
    rw [hw2, hp]; exact this
  have HX := Lib.hid (fun W => pm_Compare c a pc pa W)
  generalize pcmp (c, a) (pc, pa) = C at *
  have HG2 := Lib.hid hG2
  go_enter Try.func106, Try.ntmps106
  go_wp2_with fail
  rw [← hw2, ← hp]
  clear hw2 hp
  have hS0 : (fun w' : World => Gr w2 w') w2.drew := (Gr.refl _).drew
  refine wp_region_held (S := fun w' : World => Gr w2 w') (by kernel_rfl) ?_
  change wpAnyH _ _ _ _ _ _ _ _ w2.drew
  refine wpAnyH_take (i := 0) (v := .agg #[.int .i64 c, .int .i64 a, .int .i64 v]) rfl (by kernel_rfl) (by kernel_rfl) (by kernel_rfl) (fun _ _ _ h => h) (Or.inl ⟨by rfl, ?_⟩) hS0 ?_
  · intro w hSw; have s0 := gr_cell hSw hc0; have s1 := gr_cell hSw hc1; have s2 := gr_cell hSw hc2; go_simp
  try simp only [Act.put, List.getElem_toArray, List.getElem_cons_succ, List.getElem_cons_zero, List.setIfInBounds_toArray, List.set_cons_zero, List.set_cons_succ]
  refine wpAnyH_take (i := 2) (v := .agg #[.int .i64 pc, .int .i64 pa]) rfl (by kernel_rfl) (by kernel_rfl) (by kernel_rfl) (fun _ _ _ h => h) (Or.inl ⟨by rfl, ?_⟩) hS0 ?_
  · intro w hSw; have s0 := gr_cell hSw hd0; have s1 := gr_cell hSw hd1; go_simp
  try simp only [Act.put, List.getElem_toArray, List.getElem_cons_succ, List.getElem_cons_zero, List.setIfInBounds_toArray, List.set_cons_zero, List.set_cons_succ]
  refine wpAnyH_ready (rs := [1]) (by kernel_rfl) (by simp) (AllReadyH.cons rfl (fun K' hK' => ?_) AllReadyH.nil)
  go_simp
  refine (pl_keyOf c a v _).mono ?_; rintro e w3 ⟨rfl, hg3⟩
  refine hK'.out _ _ (hS0.trans hg3) (fun hS1 => ?_)
  clear hK' K'
  try simp only [Act.put, List.getElem_toArray, List.getElem_cons_succ, List.getElem_cons_zero, List.setIfInBounds_toArray, List.set_cons_zero, List.set_cons_succ]
  refine wpAnyH_ready (rs := [3]) (by kernel_rfl) (by simp) (AllReadyH.cons rfl (fun K' hK' => ?_) AllReadyH.nil)
  go_simp
  refine (HX.out _).mono ?_; rintro e w4 ⟨rfl, hg4⟩
  refine hK'.out _ _ (hS1.trans hg4) (fun hS2 => ?_)
  clear hK' K'
  try simp only [Act.put, List.getElem_toArray, List.getElem_cons_succ, List.getElem_cons_zero, List.setIfInBounds_toArray, List.set_cons_zero, List.set_cons_succ]
  refine wpAnyH_take (i := 4) (v := .int .i64 C) rfl (by kernel_rfl) (by kernel_rfl) (by kernel_rfl) (fun _ _ _ h => h) (Or.inl ⟨by rfl, ?_⟩) hS2 ?_
  · intro w hSw; go_simp
  try simp only [Act.put, List.getElem_toArray, List.getElem_cons_succ, List.getElem_cons_zero, List.setIfInBounds_toArray, List.set_cons_zero, List.set_cons_succ]
  refine wpAnyH_done (by kernel_rfl) ?_ _
  have HG3 := Lib.hid (HG2.out.trans hS2)
  go_wp2
  go_ret
  exact ⟨rfl, HG3.out⟩
theorem pcmp_ltB {p q : Pr} : decide (pcmp p q < 0) = bef p q := by rw [Bool.eq_iff_iff, decide_eq_true_eq]; exact pcmp_lt
theorem pcmp_eqB {p q : Pr} : (pcmp p q == 0) = decide (p = q) := by rw [Bool.eq_iff_iff, beq_iff_eq, decide_eq_true_eq]; exact pcmp_zero
set_option maxRecDepth 100000 in
set_option maxHeartbeats 4000000 in
theorem sl_SearchH {a : Option Addr} {l : List Hu} {cap : Nat} (pc pa : Int) (w : World) (hr : Rd shH w a l) (ha : l.Pairwise fun x y => bef (huK x) (huK y) = true) (hlen : l.length ≤ 300) :
    Calls Try.prog 105 #[.slice a l.length cap, .agg #[.int .i64 pc, .int .i64 pa], .func (.func 106) #[] #[]] w fun e w' => (∃ i : Nat, e = .returned (.tuple #[.int .i64 i, .bool (hueX l pc pa).isSome]) ∧ HuF l i (hueX l pc pa)) ∧ Gr w w' := by
  have HR := Lib.hid hr
  have HA := Lib.hid ha
  obtain ⟨m, hm⟩ : ∃ m, m = l.length := ⟨_, rfl⟩
  have HM := Lib.hid hm
  rw [← hm] at hlen ⊢
  clear hm hr ha
  obtain ⟨V, hV⟩ : ∃ V, hueX l pc pa = V := ⟨_, rfl⟩
  rw [hV]
  have HV := Lib.hid hV
  clear hV
  obtain ⟨w1, hw1⟩ : ∃ w1, w1 = w.alloc (.cells #[.int .i64 pc, .int .i64 pa] 55) := ⟨_, rfl⟩
  obtain ⟨p, hp⟩ : ∃ p, p = w.heap.size := ⟨_, rfl⟩
  have hg1 : Gr w w1 := by rw [hw1]; exact (Gr.refl w).alloc _
  have HG1 := Lib.hid hg1
  have HE0 := Lib.hid (show w1.cell? ⟨p, 0, none⟩ = some (.int .i64 pc) by rw [hw1, hp]; exact fresh w [.int .i64 pc, .int .i64 pa] _ (k := 0) rfl)
  have HE1 := Lib.hid (show w1.cell? ⟨p, 1, none⟩ = some (.int .i64 pa) by rw [hw1, hp]; exact fresh w [.int .i64 pc, .int .i64 pa] _ (k := 1) rfl)
  clear hg1
  go_enter Try.func105, Try.ntmps105
  go_wp2
  rw [← hw1, ← hp]
  clear hw1 hp
  go_loopw [9, 10] (fun p q wr => ∃ i j : Nat, p = .int .i64 i ∧ q = .int .i64 j ∧ i ≤ j ∧ j ≤ m ∧ Hid (∀ k (h : k < l.length), k < i → bef (huK l[k]) (pc, pa) = true) ∧ Hid (∀ k (h : k < l.length), j ≤ k → bef (huK l[k]) (pc, pa) = false) ∧ Hid (Gr w1 wr)) (fun p q _ => (intOf q).toNat - (intOf p).toNat)
  case atStart => exact ⟨0, m, rfl, rfl, by omega, by omega, Lib.hid (fun k h hk => absurd hk (by omega)), Lib.hid (fun k h hk => absurd h (by rw [← HM.out]; omega)), Lib.hid (Gr.refl _)⟩
  case round =>
    obtain ⟨i, j, rfl, rfl, hij, hj, HI, HJ, HG⟩ := hrel
    have e0 := gr_cell HG.out HE0.out
    have e1 := gr_cell HG.out HE1.out
    by_cases hlt : i < j
    · obtain ⟨h, hh⟩ : ∃ h, (i + j) / 2 = h := ⟨_, rfl⟩
      have hhi : i ≤ h := by omega
      have hhj : h < j := by omega
      have hhm : h < m := by omega
      have hhl : h < l.length := by rw [← HM.out]; omega
      obtain ⟨b, o, rfl, hc0, hc1, hc2⟩ := hu_cells (HR.out.gr (HG1.out.trans HG.out)) hhl
      have HX := Lib.hid (fun w => pl_hueAt1 l[h].1 l[h].2.1 l[h].2.2 pc pa w)
      have hcl : decide (pcmp (l[h].1, l[h].2.1) (pc, pa) < 0) = bef (huK l[h]) (pc, pa) := pcmp_ltB
      have HI2 : Hid (bef (huK l[h]) (pc, pa) = true → ∀ k (hk : k < l.length), k < h + 1 → bef (huK l[k]) (pc, pa) = true) := Lib.hid fun h1 k hk hkh => by
        by_cases e : k = h
        · subst e; exact h1
        · exact bef_tr ((List.pairwise_iff_getElem.1 HA.out) k h hk hhl (by omega)) h1
      have HJ2 : Hid (bef (huK l[h]) (pc, pa) = false → ∀ k (hk : k < l.length), h ≤ k → bef (huK l[k]) (pc, pa) = false) := Lib.hid fun h1 k hk hkh => by
        by_cases e : k = h
        · subst e; exact h1
        · rw [Bool.eq_false_iff]
          intro h2
          have := bef_tr ((List.pairwise_iff_getElem.1 HA.out) h k hhl hk (by omega)) h2
          rw [h1] at this; cases this
      generalize bef (huK l[h]) (pc, pa) = B at *
      generalize pcmp (l[h].1, l[h].2.1) (pc, pa) = C at *
      generalize l[h].1 = x at *
      generalize l[h].2.1 = y at *
      generalize l[h].2.2 = z at *
      have HHH := Lib.hid hh
      clear hh
      have hsh : ((i : Int) + (j : Int)) / 2 = (h : Int) := by have := HHH.out; omega
      go_wp2_with fail
      clear hsh
      cases B
      · have hC : ¬ C < 0 := by simpa using hcl
        have HJ3 := Lib.hid (HJ2.out rfl)
        clear hcl HI2 HJ2
        have hS0 : (fun w' : World => Gr wr w') wr.drew := (Gr.refl _).drew
        refine wp_region_held (S := fun w' : World => Gr wr w') (by kernel_rfl) ?_
        change wpAnyH _ _ _ _ _ _ _ _ wr.drew
        refine wpAnyH_take (i := 0) (v := .func (.func 106) #[] #[]) rfl (by kernel_rfl) (by kernel_rfl) (by kernel_rfl) (fun _ _ _ h => h) (Or.inl ⟨by rfl, ?_⟩) hS0 ?_
        · intro w hSw; go_simp
        try simp only [Act.put, List.getElem_toArray, List.getElem_cons_succ, List.getElem_cons_zero, List.setIfInBounds_toArray, List.set_cons_zero, List.set_cons_succ]
        refine wpAnyH_take (i := 1) (v := .slice (some ⟨b, o, none⟩) m cap) rfl (by kernel_rfl) (by kernel_rfl) (by kernel_rfl) (fun _ _ _ h => h) (Or.inl ⟨by rfl, ?_⟩) hS0 ?_
        · intro w hSw; go_simp
        try simp only [Act.put, List.getElem_toArray, List.getElem_cons_succ, List.getElem_cons_zero, List.setIfInBounds_toArray, List.set_cons_zero, List.set_cons_succ]
        refine wpAnyH_take (i := 2) (v := .int .i64 h) rfl (by kernel_rfl) (by kernel_rfl) (by kernel_rfl) (fun _ _ _ h => h) (Or.inl ⟨by rfl, ?_⟩) hS0 ?_
        · intro w hSw; go_simp
        try simp only [Act.put, List.getElem_toArray, List.getElem_cons_succ, List.getElem_cons_zero, List.setIfInBounds_toArray, List.set_cons_zero, List.set_cons_succ]
        refine wpAnyH_take (i := 3) (v := .pointer (some ⟨b, o + h * 3, none⟩)) rfl (by kernel_rfl) (by kernel_rfl) (by kernel_rfl) (fun _ _ _ h => h) (Or.inl ⟨by rfl, ?_⟩) hS0 ?_
        · intro w hSw; go_simp
        try simp only [Act.put, List.getElem_toArray, List.getElem_cons_succ, List.getElem_cons_zero, List.setIfInBounds_toArray, List.set_cons_zero, List.set_cons_succ]
        refine wpAnyH_take (i := 4) (v := .agg #[.int .i64 x, .int .i64 y, .int .i64 z]) rfl (by kernel_rfl) (by kernel_rfl) (by kernel_rfl) (fun _ _ _ h => h) (Or.inl ⟨by rfl, ?_⟩) hS0 ?_
        · intro w hSw; have s0 := gr_cell hSw hc0; have s1 := gr_cell hSw hc1; have s2 := gr_cell hSw hc2; go_simp
        try simp only [Act.put, List.getElem_toArray, List.getElem_cons_succ, List.getElem_cons_zero, List.setIfInBounds_toArray, List.set_cons_zero, List.set_cons_succ]
        refine wpAnyH_take (i := 5) (v := .agg #[.int .i64 pc, .int .i64 pa]) rfl (by kernel_rfl) (by kernel_rfl) (by kernel_rfl) (fun _ _ _ h => h) (Or.inl ⟨by rfl, ?_⟩) hS0 ?_
        · intro w hSw; have s0 := gr_cell hSw e0; have s1 := gr_cell hSw e1; go_simp
        try simp only [Act.put, List.getElem_toArray, List.getElem_cons_succ, List.getElem_cons_zero, List.setIfInBounds_toArray, List.set_cons_zero, List.set_cons_succ]
        refine wpAnyH_ready (rs := [6]) (by kernel_rfl) (by simp) (AllReadyH.cons rfl (fun K' hK' => ?_) AllReadyH.nil)
        go_simp
        refine (HX.out _).mono ?_; rintro e w5 ⟨rfl, hg5⟩
        refine hK'.out _ _ (hS0.trans hg5) (fun hS1 => ?_)
        clear hK' K'
        try simp only [Act.put, List.getElem_toArray, List.getElem_cons_succ, List.getElem_cons_zero, List.setIfInBounds_toArray, List.set_cons_zero, List.set_cons_succ]
        refine wpAnyH_take (i := 7) (v := .bool false) rfl (by kernel_rfl) (by kernel_rfl) (by kernel_rfl) (fun _ _ _ h => h) (Or.inl ⟨by rfl, ?_⟩) hS1 ?_
        · intro w hSw; go_simp
        try simp only [Act.put, List.getElem_toArray, List.getElem_cons_succ, List.getElem_cons_zero, List.setIfInBounds_toArray, List.set_cons_zero, List.set_cons_succ]
        refine wpAnyH_done (by kernel_rfl) ?_ _
        have HG2 := Lib.hid (HG.out.trans hS1)
        clear HG hc0 hc1 hc2 HX e0 e1
        go_wp2
        go_roundw
        case rel => exact ⟨i, h, rfl, rfl, by omega, by omega, HI, HJ3, HG2⟩
        case measure => simp [intOf]; omega
      · have hC : C < 0 := by simpa using hcl
        have HI3 := Lib.hid (HI2.out rfl)
        clear hcl HI2 HJ2
        have hS0 : (fun w' : World => Gr wr w') wr.drew := (Gr.refl _).drew
        refine wp_region_held (S := fun w' : World => Gr wr w') (by kernel_rfl) ?_
        change wpAnyH _ _ _ _ _ _ _ _ wr.drew
        refine wpAnyH_take (i := 0) (v := .func (.func 106) #[] #[]) rfl (by kernel_rfl) (by kernel_rfl) (by kernel_rfl) (fun _ _ _ h => h) (Or.inl ⟨by rfl, ?_⟩) hS0 ?_
        · intro w hSw; go_simp
        try simp only [Act.put, List.getElem_toArray, List.getElem_cons_succ, List.getElem_cons_zero, List.setIfInBounds_toArray, List.set_cons_zero, List.set_cons_succ]
        refine wpAnyH_take (i := 1) (v := .slice (some ⟨b, o, none⟩) m cap) rfl (by kernel_rfl) (by kernel_rfl) (by kernel_rfl) (fun _ _ _ h => h) (Or.inl ⟨by rfl, ?_⟩) hS0 ?_
        · intro w hSw; go_simp
        try simp only [Act.put, List.getElem_toArray, List.getElem_cons_succ, List.getElem_cons_zero, List.setIfInBounds_toArray, List.set_cons_zero, List.set_cons_succ]
        refine wpAnyH_take (i := 2) (v := .int .i64 h) rfl (by kernel_rfl) (by kernel_rfl) (by kernel_rfl) (fun _ _ _ h => h) (Or.inl ⟨by rfl, ?_⟩) hS0 ?_
        · intro w hSw; go_simp
        try simp only [Act.put, List.getElem_toArray, List.getElem_cons_succ, List.getElem_cons_zero, List.setIfInBounds_toArray, List.set_cons_zero, List.set_cons_succ]
        refine wpAnyH_take (i := 3) (v := .pointer (some ⟨b, o + h * 3, none⟩)) rfl (by kernel_rfl) (by kernel_rfl) (by kernel_rfl) (fun _ _ _ h => h) (Or.inl ⟨by rfl, ?_⟩) hS0 ?_
        · intro w hSw; go_simp
        try simp only [Act.put, List.getElem_toArray, List.getElem_cons_succ, List.getElem_cons_zero, List.setIfInBounds_toArray, List.set_cons_zero, List.set_cons_succ]
        refine wpAnyH_take (i := 4) (v := .agg #[.int .i64 x, .int .i64 y, .int .i64 z]) rfl (by kernel_rfl) (by kernel_rfl) (by kernel_rfl) (fun _ _ _ h => h) (Or.inl ⟨by rfl, ?_⟩) hS0 ?_
        · intro w hSw; have s0 := gr_cell hSw hc0; have s1 := gr_cell hSw hc1; have s2 := gr_cell hSw hc2; go_simp
        try simp only [Act.put, List.getElem_toArray, List.getElem_cons_succ, List.getElem_cons_zero, List.setIfInBounds_toArray, List.set_cons_zero, List.set_cons_succ]
        refine wpAnyH_take (i := 5) (v := .agg #[.int .i64 pc, .int .i64 pa]) rfl (by kernel_rfl) (by kernel_rfl) (by kernel_rfl) (fun _ _ _ h => h) (Or.inl ⟨by rfl, ?_⟩) hS0 ?_
        · intro w hSw; have s0 := gr_cell hSw e0; have s1 := gr_cell hSw e1; go_simp
        try simp only [Act.put, List.getElem_toArray, List.getElem_cons_succ, List.getElem_cons_zero, List.setIfInBounds_toArray, List.set_cons_zero, List.set_cons_succ]
        refine wpAnyH_ready (rs := [6]) (by kernel_rfl) (by simp) (AllReadyH.cons rfl (fun K' hK' => ?_) AllReadyH.nil)
        go_simp
        refine (HX.out _).mono ?_; rintro e w5 ⟨rfl, hg5⟩
        refine hK'.out _ _ (hS0.trans hg5) (fun hS1 => ?_)
        clear hK' K'
        try simp only [Act.put, List.getElem_toArray, List.getElem_cons_succ, List.getElem_cons_zero, List.setIfInBounds_toArray, List.set_cons_zero, List.set_cons_succ]
        refine wpAnyH_take (i := 7) (v := .bool true) rfl (by kernel_rfl) (by kernel_rfl) (by kernel_rfl) (fun _ _ _ h => h) (Or.inl ⟨by rfl, ?_⟩) hS1 ?_
        · intro w hSw; go_simp
        try simp only [Act.put, List.getElem_toArray, List.getElem_cons_succ, List.getElem_cons_zero, List.setIfInBounds_toArray, List.set_cons_zero, List.set_cons_succ]
        refine wpAnyH_done (by kernel_rfl) ?_ _
        have HG2 := Lib.hid (HG.out.trans hS1)
        clear HG hc0 hc1 hc2 HX e0 e1
        go_wp2
        go_roundw
        case rel => exact ⟨h + 1, j, by go_num, rfl, by omega, by omega, HI3, HJ, HG2⟩
        case measure => simp [intOf]; omega
    · have hij2 : i = j := by omega
      subst hij2
      have HLO := Lib.hid (show HuAt l i (pc, pa) from ⟨by rw [← HM.out]; exact hj, HI.out, HJ.out⟩)
      clear HI HJ
      by_cases him : i < m
      · have hil : i < l.length := by rw [← HM.out]; exact him
        obtain ⟨b, o, rfl, hc0, hc1, hc2⟩ := hu_cells (HR.out.gr (HG1.out.trans HG.out)) hil
        have HX := Lib.hid (fun w => pl_hueAt1 l[i].1 l[i].2.1 l[i].2.2 pc pa w)
        have hcl : (pcmp (l[i].1, l[i].2.1) (pc, pa) == 0) = decide (huK l[i] = (pc, pa)) := pcmp_eqB
        have HVE : Hid (V.isSome = decide (huK l[i] = (pc, pa)) ∧ HuF l i V) := Lib.hid (by
          rw [← HV.out]
          by_cases e : huK l[i] = (pc, pa)
          · rw [decide_eq_true e, HLO.out.yes hil e]
            exact ⟨rfl, fun v hv => ⟨hil, Option.some.inj hv⟩⟩
          · rw [decide_eq_false e, HLO.out.no HA.out (fun _ => e)]
            exact ⟨rfl, fun v hv => by cases hv⟩)
        generalize decide (huK l[i] = (pc, pa)) = D at *
        generalize pcmp (l[i].1, l[i].2.1) (pc, pa) = C at *
        have HD := Lib.hid hcl
        clear HV hcl
        have HVE2 : Hid (HuF l i V) := Lib.hid HVE.out.2
        have HVE1 : Hid (V.isSome = D) := Lib.hid HVE.out.1
        clear HVE
        generalize l[i].1 = x at *
        generalize l[i].2.1 = y at *
        obtain ⟨z, hz⟩ : ∃ z, l[i].2.2 = z := ⟨_, rfl⟩
        rw [hz] at hc2 HX
        have HZ := Lib.hid hz
        clear hz
        go_wp2_with fail
        cases D
        · have hC : (C == 0) = false := HD.out
          clear HD
          have hS0 : (fun w' : World => Gr wr w') wr.drew := (Gr.refl _).drew
          refine wp_region_held (S := fun w' : World => Gr wr w') (by kernel_rfl) ?_
          change wpAnyH _ _ _ _ _ _ _ _ wr.drew
          refine wpAnyH_take (i := 0) (v := .int .i64 i) rfl (by kernel_rfl) (by kernel_rfl) (by kernel_rfl) (fun _ _ _ h => h) (Or.inl ⟨by rfl, ?_⟩) hS0 ?_
          · intro w hSw; go_simp
          try simp only [Act.put, List.getElem_toArray, List.getElem_cons_succ, List.getElem_cons_zero, List.setIfInBounds_toArray, List.set_cons_zero, List.set_cons_succ]
          refine wpAnyH_take (i := 1) (v := .int .i64 i) rfl (by kernel_rfl) (by kernel_rfl) (by kernel_rfl) (fun _ _ _ h => h) (Or.inl ⟨by rfl, ?_⟩) hS0 ?_
          · intro w hSw; go_simp
          try simp only [Act.put, List.getElem_toArray, List.getElem_cons_succ, List.getElem_cons_zero, List.setIfInBounds_toArray, List.set_cons_zero, List.set_cons_succ]
          refine wpAnyH_take (i := 2) (v := .int .i64 m) rfl (by kernel_rfl) (by kernel_rfl) (by kernel_rfl) (fun _ _ _ h => h) (Or.inl ⟨by rfl, ?_⟩) hS0 ?_
          · intro w hSw; go_simp
          try simp only [Act.put, List.getElem_toArray, List.getElem_cons_succ, List.getElem_cons_zero, List.setIfInBounds_toArray, List.set_cons_zero, List.set_cons_succ]
          refine wpAnyH_take (i := 3) (v := .bool true) rfl (by kernel_rfl) (by kernel_rfl) (by kernel_rfl) (fun _ _ _ h => h) (Or.inl ⟨by rfl, ?_⟩) hS0 ?_
          · intro w hSw; go_simp
          try simp only [Act.put, List.getElem_toArray, List.getElem_cons_succ, List.getElem_cons_zero, List.setIfInBounds_toArray, List.set_cons_zero, List.set_cons_succ]
          refine wpAnyH_take (i := 4) (v := .bool true) rfl (by kernel_rfl) (by kernel_rfl) (by kernel_rfl) (fun _ _ _ h => h) (Or.inl ⟨by rfl, ?_⟩) hS0 ?_
          · intro w hSw; go_simp
          try simp only [Act.put, List.getElem_toArray, List.getElem_cons_succ, List.getElem_cons_zero, List.setIfInBounds_toArray, List.set_cons_zero, List.set_cons_succ]
          refine wpAnyH_take (i := 5) (v := .func (.func 106) #[] #[]) rfl (by kernel_rfl) (by kernel_rfl) (by kernel_rfl) (fun _ _ _ h => h) (Or.inl ⟨by rfl, ?_⟩) hS0 ?_
          · intro w hSw; go_simp
          try simp only [Act.put, List.getElem_toArray, List.getElem_cons_succ, List.getElem_cons_zero, List.setIfInBounds_toArray, List.set_cons_zero, List.set_cons_succ]
          refine wpAnyH_take (i := 6) (v := .slice (some ⟨b, o, none⟩) m cap) rfl (by kernel_rfl) (by kernel_rfl) (by kernel_rfl) (fun _ _ _ h => h) (Or.inl ⟨by rfl, ?_⟩) hS0 ?_
          · intro w hSw; go_simp
          try simp only [Act.put, List.getElem_toArray, List.getElem_cons_succ, List.getElem_cons_zero, List.setIfInBounds_toArray, List.set_cons_zero, List.set_cons_succ]
          refine wpAnyH_take (i := 7) (v := .int .i64 i) rfl (by kernel_rfl) (by kernel_rfl) (by kernel_rfl) (fun _ _ _ h => h) (Or.inl ⟨by rfl, ?_⟩) hS0 ?_
          · intro w hSw; go_simp
          try simp only [Act.put, List.getElem_toArray, List.getElem_cons_succ, List.getElem_cons_zero, List.setIfInBounds_toArray, List.set_cons_zero, List.set_cons_succ]
          refine wpAnyH_take (i := 8) (v := .pointer (some ⟨b, o + i * 3, none⟩)) rfl (by kernel_rfl) (by kernel_rfl) (by kernel_rfl) (fun _ _ _ h => h) (Or.inl ⟨by rfl, ?_⟩) hS0 ?_
          · intro w hSw; go_simp
          try simp only [Act.put, List.getElem_toArray, List.getElem_cons_succ, List.getElem_cons_zero, List.setIfInBounds_toArray, List.set_cons_zero, List.set_cons_succ]
          refine wpAnyH_take (i := 9) (v := .agg #[.int .i64 x, .int .i64 y, .int .i64 z]) rfl (by kernel_rfl) (by kernel_rfl) (by kernel_rfl) (fun _ _ _ h => h) (Or.inl ⟨by rfl, ?_⟩) hS0 ?_
          · intro w hSw; have s0 := gr_cell hSw hc0; have s1 := gr_cell hSw hc1; have s2 := gr_cell hSw hc2; go_simp
          try simp only [Act.put, List.getElem_toArray, List.getElem_cons_succ, List.getElem_cons_zero, List.setIfInBounds_toArray, List.set_cons_zero, List.set_cons_succ]
          refine wpAnyH_take (i := 10) (v := .agg #[.int .i64 pc, .int .i64 pa]) rfl (by kernel_rfl) (by kernel_rfl) (by kernel_rfl) (fun _ _ _ h => h) (Or.inl ⟨by rfl, ?_⟩) hS0 ?_
          · intro w hSw; have s0 := gr_cell hSw e0; have s1 := gr_cell hSw e1; go_simp
          try simp only [Act.put, List.getElem_toArray, List.getElem_cons_succ, List.getElem_cons_zero, List.setIfInBounds_toArray, List.set_cons_zero, List.set_cons_succ]
          refine wpAnyH_ready (rs := [11]) (by kernel_rfl) (by simp) (AllReadyH.cons rfl (fun K' hK' => ?_) AllReadyH.nil)
          go_simp
          refine (HX.out _).mono ?_; rintro e w5 ⟨rfl, hg5⟩
          refine hK'.out _ _ (hS0.trans hg5) (fun hS1 => ?_)
          clear hK' K'
          try simp only [Act.put, List.getElem_toArray, List.getElem_cons_succ, List.getElem_cons_zero, List.setIfInBounds_toArray, List.set_cons_zero, List.set_cons_succ]
          refine wpAnyH_take (i := 12) (v := .bool false) rfl (by kernel_rfl) (by kernel_rfl) (by kernel_rfl) (fun _ _ _ h => h) (Or.inl ⟨by rfl, ?_⟩) hS1 ?_
          · intro w hSw; go_simp
          try simp only [Act.put, List.getElem_toArray, List.getElem_cons_succ, List.getElem_cons_zero, List.setIfInBounds_toArray, List.set_cons_zero, List.set_cons_succ]
          refine wpAnyH_take (i := 13) (v := .bool false) rfl (by kernel_rfl) (by kernel_rfl) (by kernel_rfl) (fun _ _ _ h => h) (Or.inl ⟨by rfl, ?_⟩) hS1 ?_
          · intro w hSw; go_simp
          try simp only [Act.put, List.getElem_toArray, List.getElem_cons_succ, List.getElem_cons_zero, List.setIfInBounds_toArray, List.set_cons_zero, List.set_cons_succ]
          refine wpAnyH_take (i := 14) (v := .int .i64 i) rfl (by kernel_rfl) (by kernel_rfl) (by kernel_rfl) (fun _ _ _ h => h) (Or.inl ⟨by rfl, ?_⟩) hS1 ?_
          · intro w hSw; go_simp
          try simp only [Act.put, List.getElem_toArray, List.getElem_cons_succ, List.getElem_cons_zero, List.setIfInBounds_toArray, List.set_cons_zero, List.set_cons_succ]
          refine wpAnyH_take (i := 15) (v := .bool false) rfl (by kernel_rfl) (by kernel_rfl) (by kernel_rfl) (fun _ _ _ h => h) (Or.inl ⟨by rfl, ?_⟩) hS1 ?_
          · intro w hSw; go_simp
          try simp only [Act.put, List.getElem_toArray, List.getElem_cons_succ, List.getElem_cons_zero, List.setIfInBounds_toArray, List.set_cons_zero, List.set_cons_succ]
          refine wpAnyH_done (by kernel_rfl) ?_ _
          have HG2 := Lib.hid (HG1.out.trans (HG.out.trans hS1))
          go_wp2
          go_ret2
          exact ⟨⟨i, by rw [HVE1.out]; rfl, HVE2.out⟩, HG2.out⟩
        · have hC : C = 0 := by have := HD.out; simpa using this
          clear HD
          have hS0 : (fun w' : World => Gr wr w') wr.drew := (Gr.refl _).drew
          refine wp_region_held (S := fun w' : World => Gr wr w') (by kernel_rfl) ?_
          change wpAnyH _ _ _ _ _ _ _ _ wr.drew
          refine wpAnyH_take (i := 0) (v := .int .i64 i) rfl (by kernel_rfl) (by kernel_rfl) (by kernel_rfl) (fun _ _ _ h => h) (Or.inl ⟨by rfl, ?_⟩) hS0 ?_
          · intro w hSw; go_simp
          try simp only [Act.put, List.getElem_toArray, List.getElem_cons_succ, List.getElem_cons_zero, List.setIfInBounds_toArray, List.set_cons_zero, List.set_cons_succ]
          refine wpAnyH_take (i := 1) (v := .int .i64 i) rfl (by kernel_rfl) (by kernel_rfl) (by kernel_rfl) (fun _ _ _ h => h) (Or.inl ⟨by rfl, ?_⟩) hS0 ?_
          · intro w hSw; go_simp
          try simp only [Act.put, List.getElem_toArray, List.getElem_cons_succ, List.getElem_cons_zero, List.setIfInBounds_toArray, List.set_cons_zero, List.set_cons_succ]
          refine wpAnyH_take (i := 2) (v := .int .i64 m) rfl (by kernel_rfl) (by kernel_rfl) (by kernel_rfl) (fun _ _ _ h => h) (Or.inl ⟨by rfl, ?_⟩) hS0 ?_
          · intro w hSw; go_simp
          try simp only [Act.put, List.getElem_toArray, List.getElem_cons_succ, List.getElem_cons_zero, List.setIfInBounds_toArray, List.set_cons_zero, List.set_cons_succ]
          refine wpAnyH_take (i := 3) (v := .bool true) rfl (by kernel_rfl) (by kernel_rfl) (by kernel_rfl) (fun _ _ _ h => h) (Or.inl ⟨by rfl, ?_⟩) hS0 ?_
          · intro w hSw; go_simp
          try simp only [Act.put, List.getElem_toArray, List.getElem_cons_succ, List.getElem_cons_zero, List.setIfInBounds_toArray, List.set_cons_zero, List.set_cons_succ]
          refine wpAnyH_take (i := 4) (v := .bool true) rfl (by kernel_rfl) (by kernel_rfl) (by kernel_rfl) (fun _ _ _ h => h) (Or.inl ⟨by rfl, ?_⟩) hS0 ?_
          · intro w hSw; go_simp
          try simp only [Act.put, List.getElem_toArray, List.getElem_cons_succ, List.getElem_cons_zero, List.setIfInBounds_toArray, List.set_cons_zero, List.set_cons_succ]
          refine wpAnyH_take (i := 5) (v := .func (.func 106) #[] #[]) rfl (by kernel_rfl) (by kernel_rfl) (by kernel_rfl) (fun _ _ _ h => h) (Or.inl ⟨by rfl, ?_⟩) hS0 ?_
          · intro w hSw; go_simp
          try simp only [Act.put, List.getElem_toArray, List.getElem_cons_succ, List.getElem_cons_zero, List.setIfInBounds_toArray, List.set_cons_zero, List.set_cons_succ]
          refine wpAnyH_take (i := 6) (v := .slice (some ⟨b, o, none⟩) m cap) rfl (by kernel_rfl) (by kernel_rfl) (by kernel_rfl) (fun _ _ _ h => h) (Or.inl ⟨by rfl, ?_⟩) hS0 ?_
          · intro w hSw; go_simp
          try simp only [Act.put, List.getElem_toArray, List.getElem_cons_succ, List.getElem_cons_zero, List.setIfInBounds_toArray, List.set_cons_zero, List.set_cons_succ]
          refine wpAnyH_take (i := 7) (v := .int .i64 i) rfl (by kernel_rfl) (by kernel_rfl) (by kernel_rfl) (fun _ _ _ h => h) (Or.inl ⟨by rfl, ?_⟩) hS0 ?_
          · intro w hSw; go_simp
          try simp only [Act.put, List.getElem_toArray, List.getElem_cons_succ, List.getElem_cons_zero, List.setIfInBounds_toArray, List.set_cons_zero, List.set_cons_succ]
          refine wpAnyH_take (i := 8) (v := .pointer (some ⟨b, o + i * 3, none⟩)) rfl (by kernel_rfl) (by kernel_rfl) (by kernel_rfl) (fun _ _ _ h => h) (Or.inl ⟨by rfl, ?_⟩) hS0 ?_
          · intro w hSw; go_simp
          try simp only [Act.put, List.getElem_toArray, List.getElem_cons_succ, List.getElem_cons_zero, List.setIfInBounds_toArray, List.set_cons_zero, List.set_cons_succ]
          refine wpAnyH_take (i := 9) (v := .agg #[.int .i64 x, .int .i64 y, .int .i64 z]) rfl (by kernel_rfl) (by kernel_rfl) (by kernel_rfl) (fun _ _ _ h => h) (Or.inl ⟨by rfl, ?_⟩) hS0 ?_
          · intro w hSw; have s0 := gr_cell hSw hc0; have s1 := gr_cell hSw hc1; have s2 := gr_cell hSw hc2; go_simp
          try simp only [Act.put, List.getElem_toArray, List.getElem_cons_succ, List.getElem_cons_zero, List.setIfInBounds_toArray, List.set_cons_zero, List.set_cons_succ]
          refine wpAnyH_take (i := 10) (v := .agg #[.int .i64 pc, .int .i64 pa]) rfl (by kernel_rfl) (by kernel_rfl) (by kernel_rfl) (fun _ _ _ h => h) (Or.inl ⟨by rfl, ?_⟩) hS0 ?_
          · intro w hSw; have s0 := gr_cell hSw e0; have s1 := gr_cell hSw e1; go_simp
          try simp only [Act.put, List.getElem_toArray, List.getElem_cons_succ, List.getElem_cons_zero, List.setIfInBounds_toArray, List.set_cons_zero, List.set_cons_succ]
          refine wpAnyH_ready (rs := [11]) (by kernel_rfl) (by simp) (AllReadyH.cons rfl (fun K' hK' => ?_) AllReadyH.nil)
          go_simp
          refine (HX.out _).mono ?_; rintro e w5 ⟨rfl, hg5⟩
          refine hK'.out _ _ (hS0.trans hg5) (fun hS1 => ?_)
          clear hK' K'
          try simp only [Act.put, List.getElem_toArray, List.getElem_cons_succ, List.getElem_cons_zero, List.setIfInBounds_toArray, List.set_cons_zero, List.set_cons_succ]
          refine wpAnyH_take (i := 12) (v := .bool true) rfl (by kernel_rfl) (by kernel_rfl) (by kernel_rfl) (fun _ _ _ h => h) (Or.inl ⟨by rfl, ?_⟩) hS1 ?_
          · intro w hSw; go_simp
          try simp only [Act.put, List.getElem_toArray, List.getElem_cons_succ, List.getElem_cons_zero, List.setIfInBounds_toArray, List.set_cons_zero, List.set_cons_succ]
          refine wpAnyH_take (i := 13) (v := .bool true) rfl (by kernel_rfl) (by kernel_rfl) (by kernel_rfl) (fun _ _ _ h => h) (Or.inl ⟨by rfl, ?_⟩) hS1 ?_
          · intro w hSw; go_simp
          try simp only [Act.put, List.getElem_toArray, List.getElem_cons_succ, List.getElem_cons_zero, List.setIfInBounds_toArray, List.set_cons_zero, List.set_cons_succ]
          refine wpAnyH_take (i := 14) (v := .int .i64 i) rfl (by kernel_rfl) (by kernel_rfl) (by kernel_rfl) (fun _ _ _ h => h) (Or.inl ⟨by rfl, ?_⟩) hS1 ?_
          · intro w hSw; go_simp
          try simp only [Act.put, List.getElem_toArray, List.getElem_cons_succ, List.getElem_cons_zero, List.setIfInBounds_toArray, List.set_cons_zero, List.set_cons_succ]
          refine wpAnyH_take (i := 15) (v := .bool true) rfl (by kernel_rfl) (by kernel_rfl) (by kernel_rfl) (fun _ _ _ h => h) (Or.inl ⟨by rfl, ?_⟩) hS1 ?_
          · intro w hSw; go_simp
          try simp only [Act.put, List.getElem_toArray, List.getElem_cons_succ, List.getElem_cons_zero, List.setIfInBounds_toArray, List.set_cons_zero, List.set_cons_succ]
          refine wpAnyH_done (by kernel_rfl) ?_ _
          have HG2 := Lib.hid (HG1.out.trans (HG.out.trans hS1))
          go_wp2
          go_ret2
          exact ⟨⟨i, by rw [HVE1.out]; rfl, HVE2.out⟩, HG2.out⟩
      · have hVf : V = none := by rw [← HV.out]; exact HLO.out.no HA.out (fun h => absurd h (by rw [← HM.out]; exact him))
        subst hVf
        clear HV
        go_wp2_with fail
        have hS0 : (fun w' : World => Gr wr w') wr.drew := (Gr.refl _).drew
        refine wp_region_held (S := fun w' : World => Gr wr w') (by kernel_rfl) ?_
        change wpAnyH _ _ _ _ _ _ _ _ wr.drew
        refine wpAnyH_take (i := 0) (v := .int .i64 i) rfl (by kernel_rfl) (by kernel_rfl) (by kernel_rfl) (fun _ _ _ h => h) (Or.inl ⟨by rfl, ?_⟩) hS0 ?_
        · intro w hSw; go_simp
        try simp only [Act.put, List.getElem_toArray, List.getElem_cons_succ, List.getElem_cons_zero, List.setIfInBounds_toArray, List.set_cons_zero, List.set_cons_succ]
        refine wpAnyH_take (i := 1) (v := .int .i64 i) rfl (by kernel_rfl) (by kernel_rfl) (by kernel_rfl) (fun _ _ _ h => h) (Or.inl ⟨by rfl, ?_⟩) hS0 ?_
        · intro w hSw; go_simp
        try simp only [Act.put, List.getElem_toArray, List.getElem_cons_succ, List.getElem_cons_zero, List.setIfInBounds_toArray, List.set_cons_zero, List.set_cons_succ]
        refine wpAnyH_take (i := 2) (v := .int .i64 m) rfl (by kernel_rfl) (by kernel_rfl) (by kernel_rfl) (fun _ _ _ h => h) (Or.inl ⟨by rfl, ?_⟩) hS0 ?_
        · intro w hSw; go_simp
        try simp only [Act.put, List.getElem_toArray, List.getElem_cons_succ, List.getElem_cons_zero, List.setIfInBounds_toArray, List.set_cons_zero, List.set_cons_succ]
        refine wpAnyH_take (i := 3) (v := .bool false) rfl (by kernel_rfl) (by kernel_rfl) (by kernel_rfl) (fun _ _ _ h => h) (Or.inl ⟨by rfl, ?_⟩) hS0 ?_
        · intro w hSw; go_simp
        try simp only [Act.put, List.getElem_toArray, List.getElem_cons_succ, List.getElem_cons_zero, List.setIfInBounds_toArray, List.set_cons_zero, List.set_cons_succ]
        refine wpAnyH_take (i := 4) (v := .bool false) rfl (by kernel_rfl) (by kernel_rfl) (by kernel_rfl) (fun _ _ _ h => h) (Or.inl ⟨by rfl, ?_⟩) hS0 ?_
        · intro w hSw; go_simp
        try simp only [Act.put, List.getElem_toArray, List.getElem_cons_succ, List.getElem_cons_zero, List.setIfInBounds_toArray, List.set_cons_zero, List.set_cons_succ]
        refine wpAnyH_take (i := 5) (v := undef) rfl (by kernel_rfl) (by kernel_rfl) (by kernel_rfl) (fun _ _ _ h => h) (Or.inr ⟨by kernel_rfl, rfl⟩) hS0 ?_
        try simp only [Act.put, List.getElem_toArray, List.getElem_cons_succ, List.getElem_cons_zero, List.setIfInBounds_toArray, List.set_cons_zero, List.set_cons_succ]
        refine wpAnyH_take (i := 6) (v := undef) rfl (by kernel_rfl) (by kernel_rfl) (by kernel_rfl) (fun _ _ _ h => h) (Or.inr ⟨by kernel_rfl, rfl⟩) hS0 ?_
        try simp only [Act.put, List.getElem_toArray, List.getElem_cons_succ, List.getElem_cons_zero, List.setIfInBounds_toArray, List.set_cons_zero, List.set_cons_succ]
        refine wpAnyH_take (i := 7) (v := undef) rfl (by kernel_rfl) (by kernel_rfl) (by kernel_rfl) (fun _ _ _ h => h) (Or.inr ⟨by kernel_rfl, rfl⟩) hS0 ?_
        try simp only [Act.put, List.getElem_toArray, List.getElem_cons_succ, List.getElem_cons_zero, List.setIfInBounds_toArray, List.set_cons_zero, List.set_cons_succ]
        refine wpAnyH_take (i := 8) (v := undef) rfl (by kernel_rfl) (by kernel_rfl) (by kernel_rfl) (fun _ _ _ h => h) (Or.inr ⟨by kernel_rfl, rfl⟩) hS0 ?_
        try simp only [Act.put, List.getElem_toArray, List.getElem_cons_succ, List.getElem_cons_zero, List.setIfInBounds_toArray, List.set_cons_zero, List.set_cons_succ]
        refine wpAnyH_take (i := 9) (v := undef) rfl (by kernel_rfl) (by kernel_rfl) (by kernel_rfl) (fun _ _ _ h => h) (Or.inr ⟨by kernel_rfl, rfl⟩) hS0 ?_
        try simp only [Act.put, List.getElem_toArray, List.getElem_cons_succ, List.getElem_cons_zero, List.setIfInBounds_toArray, List.set_cons_zero, List.set_cons_succ]
        refine wpAnyH_take (i := 10) (v := undef) rfl (by kernel_rfl) (by kernel_rfl) (by kernel_rfl) (fun _ _ _ h => h) (Or.inr ⟨by kernel_rfl, rfl⟩) hS0 ?_
        try simp only [Act.put, List.getElem_toArray, List.getElem_cons_succ, List.getElem_cons_zero, List.setIfInBounds_toArray, List.set_cons_zero, List.set_cons_succ]
        refine wpAnyH_take (i := 11) (v := undef) rfl (by kernel_rfl) (by kernel_rfl) (by kernel_rfl) (fun _ _ _ h => h) (Or.inr ⟨by kernel_rfl, rfl⟩) hS0 ?_
        try simp only [Act.put, List.getElem_toArray, List.getElem_cons_succ, List.getElem_cons_zero, List.setIfInBounds_toArray, List.set_cons_zero, List.set_cons_succ]
        refine wpAnyH_take (i := 12) (v := undef) rfl (by kernel_rfl) (by kernel_rfl) (by kernel_rfl) (fun _ _ _ h => h) (Or.inr ⟨by kernel_rfl, rfl⟩) hS0 ?_
        try simp only [Act.put, List.getElem_toArray, List.getElem_cons_succ, List.getElem_cons_zero, List.setIfInBounds_toArray, List.set_cons_zero, List.set_cons_succ]
        refine wpAnyH_take (i := 13) (v := .bool false) rfl (by kernel_rfl) (by kernel_rfl) (by kernel_rfl) (fun _ _ _ h => h) (Or.inl ⟨by rfl, ?_⟩) hS0 ?_
        · intro w hSw; go_simp
        try simp only [Act.put, List.getElem_toArray, List.getElem_cons_succ, List.getElem_cons_zero, List.setIfInBounds_toArray, List.set_cons_zero, List.set_cons_succ]
        refine wpAnyH_take (i := 14) (v := .int .i64 i) rfl (by kernel_rfl) (by kernel_rfl) (by kernel_rfl) (fun _ _ _ h => h) (Or.inl ⟨by rfl, ?_⟩) hS0 ?_
        · intro w hSw; go_simp
        try simp only [Act.put, List.getElem_toArray, List.getElem_cons_succ, List.getElem_cons_zero, List.setIfInBounds_toArray, List.set_cons_zero, List.set_cons_succ]
        refine wpAnyH_take (i := 15) (v := .bool false) rfl (by kernel_rfl) (by kernel_rfl) (by kernel_rfl) (fun _ _ _ h => h) (Or.inl ⟨by rfl, ?_⟩) hS0 ?_
        · intro w hSw; go_simp
        try simp only [Act.put, List.getElem_toArray, List.getElem_cons_succ, List.getElem_cons_zero, List.setIfInBounds_toArray, List.set_cons_zero, List.set_cons_succ]
        refine wpAnyH_done (by kernel_rfl) ?_ _
        have HG2 := Lib.hid (HG1.out.trans (HG.out.trans hS0))
        go_wp2
        go_ret2
        exact ⟨⟨i, rfl, fun v hv => by cases hv⟩, HG2.out⟩
end Go.Proofs.Ytgjlcmheipmmlaa
