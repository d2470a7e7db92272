/- Law 14: GroupChecks. -/
import Derived.Test.YtmcngnnbfmjajaaGpK
set_option linter.unusedVariables false
set_option linter.unusedSimpArgs false
namespace Go.Proofs.Ytmcngnnbfmjajaa
open Go.RowKit
open Z
theorem RdG.one {w : World} {x : Int} {c : Option Addr} {L : List Int} {cap : Nat} (hr : RdI w c L) (h1 : L.length ≤ cap) (h2 : cap ≤ maxLen) : RdG (w.alloc (.cells #[.int .i64 x, .slice c L.length cap] 25)) (some ⟨w.heap.size, 0, none⟩) [(x, L)] := fun k hk => by
  have : k = 0 := by simp at hk; omega
  subst this
  obtain ⟨h3, h4⟩ := box2 w (.int .i64 x) (.slice c L.length cap) 25
  exact ⟨w.heap.size, 0, c, cap, rfl, by simp, by simp, hr.gr ((Gr.refl w).alloc _), h1, h2⟩
theorem few_one {w : World} {x : Int} {c : Option Addr} {L : List Int} {cap : Nat} (hr : RdI w c L) (h1 : L.length ≤ cap) (h2 : cap ≤ maxLen) : Calls Try.prog 11 #[.slice (some ⟨w.heap.size, 0, none⟩) 1 1] (w.alloc (.cells #[.int .i64 x, .slice c L.length cap] 25)) fun e w' => e = .returned (.bool (fewG [(x, L)])) ∧ Gr w w' := by
  have h := r14_Few (cap := 1) _ (RdG.one (x := x) hr h1 h2) (by simp [maxLen])
  refine h.mono ?_
  rintro e w' ⟨rfl, rfl⟩
  exact ⟨rfl, (Gr.refl w).alloc _⟩
theorem exec_loadG {w : World} {g : Nat} {p q : Value} {ev : Operand → Value} (o : Oper) {x : Operand} (ho : o.op = .load 25 x) (hx : ev x = .pointer (some ⟨g, 0, none⟩)) (h0 : w.cell? ⟨g, 0, none⟩ = some p) (h1 : w.cell? ⟨g, 1, none⟩ = some q) : (execOp ev o).run Try.prog w = .ok (.value (.agg #[p, q])) w := by
  unfold execOp
  rw [ho]
  go_simp
set_option maxRecDepth 100000 in
set_option maxHeartbeats 4000000 in
theorem l14_GroupChecks {a : Option Addr} {l : List Gp} {cap : Nat} {u : Value} (g : Gp) (w : World) (hr : RdG w a l) (hlen : l.length ≤ maxLen) (hu : GpV w u g) :
    Calls Try.prog 3 #[.slice a l.length cap, u] w fun e w' => e = .returned (.bool true) ∧ Gr w w' := by
  obtain ⟨c, cp, rfl, rc, lc, mc⟩ := hu
  obtain ⟨x, L⟩ := g
  simp only at rc lc ⊢
  have AW := Lib.hid (fun w => l14_awake w)
  obtain ⟨w1, hw1⟩ : ∃ w1, w1 = w.alloc (.cells #[.int .i64 x, .slice c L.length cp] 25) := ⟨_, rfl⟩
  have hg1 : Gr w w1 := by rw [hw1]; exact (Gr.refl w).alloc _
  have HG1 := Lib.hid hg1
  obtain ⟨hb0, hb1⟩ := show w1.cell? ⟨w.heap.size, 0, none⟩ = some (.int .i64 x) ∧ w1.cell? ⟨w.heap.size, 1, none⟩ = some (.slice c L.length cp) by rw [hw1]; exact box2 _ _ _ _
  have HR := Lib.hid (hr.gr hg1)
  have HC := Lib.hid (rc.gr hg1)
  have HF := Lib.hid (r14_Few (cap := cap) w1 HR.out hlen)
  have HF1 := Lib.hid (few_one (x := x) HC.out lc mc)
  have HSM : Hid (∀ k (hk : k < l.length) W (v : Value), Gr w1 W → GpV W v l[k] → (Calls Try.prog 13 #[v, .agg #[.int .i64 x, .slice c L.length cp]] W fun e w' => e = .returned (.bool (decide (l[k] = (x, L)))) ∧ Gr W w') ∧ (Calls Try.prog 14 #[v, .agg #[.int .i64 x, .slice c L.length cp]] W fun e w' => e = .returned (.bool (decide (l[k] = (x, L)))) ∧ Gr W w')) := Lib.hid fun k hk W v hW hv => ⟨gp_Same _ _ W hv ⟨c, cp, rfl, HC.out.gr hW, lc, mc⟩, r14_Same _ _ W hv ⟨c, cp, rfl, HC.out.gr hW, lc, mc⟩⟩
  have HCK : Hid (∀ W, Gr w1 W → (Calls Try.prog 15 #[.agg #[.int .i64 x, .slice c L.length cp]] W fun e w' => e = .returned (.int .i64 (gpR (x, L))) ∧ Gr W w') ∧ (Calls Try.prog 16 #[.agg #[.int .i64 x, .slice c L.length cp]] W fun e w' => e = .returned (.int .i64 (gpR (x, L))) ∧ Gr W w') ∧ (Calls Try.prog 13 #[.agg #[.int .i64 x, .slice c L.length cp], .agg #[.int .i64 x, .slice c L.length cp]] W fun e w' => e = .returned (.bool true) ∧ Gr W w')) := Lib.hid fun W hW => by
    have hv : GpV W (.agg #[.int .i64 x, .slice c L.length cp]) (x, L) := ⟨c, cp, rfl, HC.out.gr hW, lc, mc⟩
    have h3 := gp_Same (x, L) (x, L) W hv hv
    rw [decide_eq_true rfl] at h3
    exact ⟨gp_Check _ W hv, r14_Check _ W hv, h3⟩
  have HTB : Hid (l.length ≤ 1000000000 → ∀ W, Gr w1 W → (Calls Try.prog 17 #[.slice a l.length cap] W fun e w' => e = .returned (.int .i64 (tbR l)) ∧ Gr W w') ∧ (Calls Try.prog 18 #[.slice a l.length cap] W fun e w' => e = .returned (.int .i64 (tbR l)) ∧ Gr W w')) := Lib.hid fun hl W hW => ⟨gp_Table W (HR.out.gr hW) hl, r14_Table W (HR.out.gr hW) hl⟩
  have HFL : Hid (fewG l = true → l.length ≤ 60) := Lib.hid fun h => by simp only [fewG, Bool.and_eq_true, decide_eq_true_eq] at h; exact h.2
  have HL := Lib.hid (show ∀ k (hk : k < l.length), ∃ b o c' cp', a = some ⟨b, o, none⟩ ∧ w1.cell? ⟨b, o + k * 2, none⟩ = some (.int .i64 l[k].1) ∧ w1.cell? ⟨b, o + k * 2 + 1, none⟩ = some (.slice c' l[k].2.length cp') ∧ GpV w1 (.agg #[.int .i64 l[k].1, .slice c' l[k].2.length cp']) l[k] from fun k hk => HR.out.gpv hk)
  generalize gpR (x, L) = E at *
  generalize tbR l = T at *
  generalize fewG [(x, L)] = f1 at *
  generalize fewG l = f0 at *
  obtain ⟨n, hn⟩ : ∃ n, n = l.length := ⟨_, rfl⟩
  obtain ⟨m, hm⟩ : ∃ m, m = L.length := ⟨_, rfl⟩
  have HN := Lib.hid hn
  rw [← hn] at hlen HF HTB HFL ⊢
  rw [← hm] at hw1 hb1 lc HF1 HSM HCK ⊢
  unfold maxLen at hlen
  clear hn hm hr rc hg1 HC HR
  obtain ⟨p3, hp3⟩ : ∃ p3, p3 = w.heap.size := ⟨_, rfl⟩
  rw [← hp3] at hb0 hb1
  have HW1 := Lib.hid hw1
  have HP3 := Lib.hid hp3
  clear hw1 hp3
  cases f0
  · go_enter Try.func3, Try.ntmps3
    go_wp2_with fail
    rw [← HW1.out]
    refine HF.out.mono ?_; rintro e w' ⟨rfl, rfl⟩
    go_wp2_with fail
    refine (AW.out _).mono ?_; rintro e w3 ⟨rfl, hg3⟩
    have HG3 := Lib.hid (HG1.out.trans hg3)
    clear hg3
    go_wp2
    go_ret
    exact ⟨rfl, HG3.out⟩
  have hn60 := HFL.out rfl
  have HTB := Lib.hid (HTB.out (by omega))
  clear HFL
  cases f1
  · go_enter Try.func3, Try.ntmps3
    go_wp2_with fail
    rw [← HW1.out]
    refine HF.out.mono ?_; rintro e w' ⟨rfl, rfl⟩
    rw [← HP3.out]
    go_wp2_with fail
    refine HF1.out.mono ?_; rintro e w2 ⟨rfl, hg2⟩
    have HG2 := Lib.hid (HG1.out.trans hg2)
    clear hg2
    go_wp2_with fail
    refine (AW.out _).mono ?_; rintro e w3 ⟨rfl, hg3⟩
    have HG3 := Lib.hid (HG2.out.trans hg3)
    clear hg3
    go_wp2
    go_ret
    exact ⟨rfl, HG3.out⟩
  go_enter Try.func3, Try.ntmps3
  go_wp2_with fail
  rw [← HW1.out]
  refine HF.out.mono ?_; rintro e w' ⟨rfl, rfl⟩
  rw [← HP3.out]
  go_wp2_with fail
  refine HF1.out.mono ?_; rintro e w2 ⟨rfl, hg2⟩
  have HG12 := Lib.hid hg2
  clear hg2 HF HF1
  go_wp2_with fail
  go_loopw [19] (fun i wr => ∃ (j : Nat), i = .int .i64 j ∧ j ≤ n ∧ Hid (Gr w1 wr)) (fun i _ => n - (intOf i).toNat)
  case atStart => exact ⟨0, rfl, by omega, HG12⟩
  case round =>
    obtain ⟨j, rfl, hj, HG⟩ := hrel
    have hb0r := gr_cell HG.out hb0
    have hb1r := gr_cell HG.out hb1
    by_cases hlt : j < n
    · have hjl : j < l.length := by rw [← HN.out]; exact hlt
      obtain ⟨b, o, c', cp', rfl, hc0, hc1, hv⟩ := HL.out j hjl
      have hc0r := gr_cell HG.out hc0
      have hc1r := gr_cell HG.out hc1
      obtain ⟨w3, hw3⟩ : ∃ w3, w3 = wr.alloc (.cells #[.int .i64 l[j].1, .slice c' l[j].2.length cp'] 25) := ⟨_, rfl⟩
      have hg3 : Gr wr w3 := by rw [hw3]; exact (Gr.refl wr).alloc _
      obtain ⟨hd0, hd1⟩ := show w3.cell? ⟨wr.heap.size, 0, none⟩ = some (.int .i64 l[j].1) ∧ w3.cell? ⟨wr.heap.size, 1, none⟩ = some (.slice c' l[j].2.length cp') by rw [hw3]; exact box2 _ _ _ _
      have HS2 := Lib.hid (fun W (hW : Gr w1 W) => HSM.out j hjl W _ hW (hv.gr hW))
      clear hv
      generalize l[j].2.length = m' at *
      generalize decide (l[j] = (x, L)) = D at *
      generalize l[j].1 = x' at *
      have HG3 := Lib.hid (HG.out.trans hg3)
      have hb03 := gr_cell hg3 hb0r
      have hb13 := gr_cell hg3 hb1r
      obtain ⟨q, hq⟩ : ∃ q, q = wr.heap.size := ⟨_, rfl⟩
      rw [← hq] at hd0 hd1
      have HW3 := Lib.hid hw3
      have HQ := Lib.hid hq
      clear hw3 hq hg3
      go_wp2_with fail
      rw [← HW3.out]
      try rw [← HQ.out]
      clear hc0 hc1 hc0r hc1r HW3 HQ
      have hS0 : (fun w' : World => Gr w3 w') w3.drew := (Gr.refl _).drew
      refine wp_region_held (S := fun w' : World => Gr w3 w') (by kernel_rfl) ?_
      change wpAnyH _ _ _ _ _ _ _ _ w3.drew
      refine wpAnyH_take (i := 0) (v := (.agg #[.int .i64 x', .slice c' m' cp'])) rfl (by kernel_rfl) (by kernel_rfl) (by kernel_rfl) (fun _ _ _ h => h) (Or.inl ⟨by rfl, ?_⟩) hS0 ?_
      · intro w hSw; exact exec_loadG _ rfl rfl (gr_cell hSw hd0) (gr_cell hSw hd1)
      try simp only [Act.put, List.getElem_toArray, List.getElem_cons_succ, List.getElem_cons_zero, List.setIfInBounds_toArray, List.set_cons_zero, List.set_cons_succ]
      refine wpAnyH_take (i := 1) (v := (.agg #[.int .i64 x, .slice c m cp])) rfl (by kernel_rfl) (by kernel_rfl) (by kernel_rfl) (fun _ _ _ h => h) (Or.inl ⟨by rfl, ?_⟩) hS0 ?_
      · intro w hSw; exact exec_loadG _ rfl rfl (gr_cell hSw hb03) (gr_cell hSw hb13)
      try simp only [Act.put, List.getElem_toArray, List.getElem_cons_succ, List.getElem_cons_zero, List.setIfInBounds_toArray, List.set_cons_zero, List.set_cons_succ]
      refine wpAnyH_take (i := 3) (v := (.agg #[.int .i64 x', .slice c' m' cp'])) rfl (by kernel_rfl) (by kernel_rfl) (by kernel_rfl) (fun _ _ _ h => h) (Or.inl ⟨by rfl, ?_⟩) hS0 ?_
      · intro w hSw; exact exec_loadG _ rfl rfl (gr_cell hSw hd0) (gr_cell hSw hd1)
      try simp only [Act.put, List.getElem_toArray, List.getElem_cons_succ, List.getElem_cons_zero, List.setIfInBounds_toArray, List.set_cons_zero, List.set_cons_succ]
      refine wpAnyH_take (i := 4) (v := (.agg #[.int .i64 x, .slice c m cp])) rfl (by kernel_rfl) (by kernel_rfl) (by kernel_rfl) (fun _ _ _ h => h) (Or.inl ⟨by rfl, ?_⟩) hS0 ?_
      · intro w hSw; exact exec_loadG _ rfl rfl (gr_cell hSw hb03) (gr_cell hSw hb13)
      try simp only [Act.put, List.getElem_toArray, List.getElem_cons_succ, List.getElem_cons_zero, List.setIfInBounds_toArray, List.set_cons_zero, List.set_cons_succ]
      refine wpAnyH_ready (rs := [2]) (by kernel_rfl) (by simp) (AllReadyH.cons rfl (fun K' hK' => ?_) AllReadyH.nil)
      go_simp
      refine ((HS2.out _ (HG3.out.trans hS0)).1).mono ?_; rintro e w6 ⟨rfl, hg6⟩
      refine hK'.out _ _ (hS0.trans hg6) (fun hS1 => ?_)
      clear hK' K'
      try simp only [Act.put, List.getElem_toArray, List.getElem_cons_succ, List.getElem_cons_zero, List.setIfInBounds_toArray, List.set_cons_zero, List.set_cons_succ]
      refine wpAnyH_ready (rs := [5]) (by kernel_rfl) (by simp) (AllReadyH.cons rfl (fun K' hK' => ?_) AllReadyH.nil)
      go_simp
      refine ((HS2.out _ (HG3.out.trans hS1)).2).mono ?_; rintro e w7 ⟨rfl, hg7⟩
      refine hK'.out _ _ (hS1.trans hg7) (fun hS2 => ?_)
      clear hK' K'
      try simp only [Act.put, List.getElem_toArray, List.getElem_cons_succ, List.getElem_cons_zero, List.setIfInBounds_toArray, List.set_cons_zero, List.set_cons_succ]
      refine wpAnyH_take (i := 6) (v := .bool false) rfl (by kernel_rfl) (by kernel_rfl) (by kernel_rfl) (fun _ _ _ h => h) (Or.inl ⟨by rfl, ?_⟩) hS2 ?_
      · intro w hSw; go_simp
      try simp only [Act.put, List.getElem_toArray, List.getElem_cons_succ, List.getElem_cons_zero, List.setIfInBounds_toArray, List.set_cons_zero, List.set_cons_succ]
      refine wpAnyH_done (by kernel_rfl) ?_ _
      have HG4 := Lib.hid (HG3.out.trans hS2)
      clear hS0 hS1 hS2 hd0 hd1 hb03 hb13 HS2 hg6 hg7
      go_wp2
      go_roundw
      case rel => exact ⟨j + 1, by go_num, by omega, HG4⟩
      case measure => simp [intOf]; omega
    · go_wp2_with fail
      have hS0 : (fun w' : World => Gr wr w') wr.drew := (Gr.refl _).drew
      refine wp_region_held (S := fun w' : World => Gr wr w') (by kernel_rfl) ?_
      change wpAnyH _ _ _ _ _ _ _ _ wr.drew
      refine wpAnyH_ready (rs := [0]) (by kernel_rfl) (by simp) (AllReadyH.cons rfl (fun K' hK' => ?_) AllReadyH.nil)
      go_simp
      refine (AW.out _).mono ?_; rintro e wa ⟨rfl, hgwa⟩
      refine hK'.out _ _ (hS0.trans hgwa) (fun hS1 => ?_)
      clear hK' K'
      try simp only [Act.put, List.getElem_toArray, List.getElem_cons_succ, List.getElem_cons_zero, List.setIfInBounds_toArray, List.set_cons_zero, List.set_cons_succ]
      refine wpAnyH_take (i := 1) (v := .bool true) rfl (by kernel_rfl) (by kernel_rfl) (by kernel_rfl) (fun _ _ _ h => h) (Or.inl ⟨by rfl, ?_⟩) hS1 ?_
      · intro w hSw; go_simp
      try simp only [Act.put, List.getElem_toArray, List.getElem_cons_succ, List.getElem_cons_zero, List.setIfInBounds_toArray, List.set_cons_zero, List.set_cons_succ]
      refine wpAnyH_take (i := 2) (v := (.agg #[.int .i64 x, .slice c m cp])) rfl (by kernel_rfl) (by kernel_rfl) (by kernel_rfl) (fun _ _ _ h => h) (Or.inl ⟨by rfl, ?_⟩) hS1 ?_
      · intro w hSw; exact exec_loadG _ rfl rfl (gr_cell hSw hb0r) (gr_cell hSw hb1r)
      try simp only [Act.put, List.getElem_toArray, List.getElem_cons_succ, List.getElem_cons_zero, List.setIfInBounds_toArray, List.set_cons_zero, List.set_cons_succ]
      refine wpAnyH_take (i := 4) (v := (.agg #[.int .i64 x, .slice c m cp])) rfl (by kernel_rfl) (by kernel_rfl) (by kernel_rfl) (fun _ _ _ h => h) (Or.inl ⟨by rfl, ?_⟩) hS1 ?_
      · intro w hSw; exact exec_loadG _ rfl rfl (gr_cell hSw hb0r) (gr_cell hSw hb1r)
      try simp only [Act.put, List.getElem_toArray, List.getElem_cons_succ, List.getElem_cons_zero, List.setIfInBounds_toArray, List.set_cons_zero, List.set_cons_succ]
      refine wpAnyH_ready (rs := [3]) (by kernel_rfl) (by simp) (AllReadyH.cons rfl (fun K' hK' => ?_) AllReadyH.nil)
      go_simp
      refine ((HCK.out _ (HG.out.trans hS1)).1).mono ?_; rintro e wb ⟨rfl, hgwb⟩
      refine hK'.out _ _ (hS1.trans hgwb) (fun hS2 => ?_)
      clear hK' K'
      try simp only [Act.put, List.getElem_toArray, List.getElem_cons_succ, List.getElem_cons_zero, List.setIfInBounds_toArray, List.set_cons_zero, List.set_cons_succ]
      refine wpAnyH_ready (rs := [5]) (by kernel_rfl) (by simp) (AllReadyH.cons rfl (fun K' hK' => ?_) AllReadyH.nil)
      go_simp
      refine ((HCK.out _ (HG.out.trans hS2)).2.1).mono ?_; rintro e wc ⟨rfl, hgwc⟩
      refine hK'.out _ _ (hS2.trans hgwc) (fun hS3 => ?_)
      clear hK' K'
      try simp only [Act.put, List.getElem_toArray, List.getElem_cons_succ, List.getElem_cons_zero, List.setIfInBounds_toArray, List.set_cons_zero, List.set_cons_succ]
      refine wpAnyH_take (i := 6) (v := .bool true) rfl (by kernel_rfl) (by kernel_rfl) (by kernel_rfl) (fun _ _ _ h => h) (Or.inl ⟨by rfl, ?_⟩) hS3 ?_
      · intro w hSw; go_simp
      try simp only [Act.put, List.getElem_toArray, List.getElem_cons_succ, List.getElem_cons_zero, List.setIfInBounds_toArray, List.set_cons_zero, List.set_cons_succ]
      refine wpAnyH_take (i := 7) (v := .bool true) rfl (by kernel_rfl) (by kernel_rfl) (by kernel_rfl) (fun _ _ _ h => h) (Or.inl ⟨by rfl, ?_⟩) hS3 ?_
      · intro w hSw; go_simp
      try simp only [Act.put, List.getElem_toArray, List.getElem_cons_succ, List.getElem_cons_zero, List.setIfInBounds_toArray, List.set_cons_zero, List.set_cons_succ]
      refine wpAnyH_take (i := 8) (v := .bool true) rfl (by kernel_rfl) (by kernel_rfl) (by kernel_rfl) (fun _ _ _ h => h) (Or.inl ⟨by rfl, ?_⟩) hS3 ?_
      · intro w hSw; go_simp
      try simp only [Act.put, List.getElem_toArray, List.getElem_cons_succ, List.getElem_cons_zero, List.setIfInBounds_toArray, List.set_cons_zero, List.set_cons_succ]
      refine wpAnyH_take (i := 9) (v := .slice a n cap) rfl (by kernel_rfl) (by kernel_rfl) (by kernel_rfl) (fun _ _ _ h => h) (Or.inl ⟨by rfl, ?_⟩) hS3 ?_
      · intro w hSw; go_simp
      try simp only [Act.put, List.getElem_toArray, List.getElem_cons_succ, List.getElem_cons_zero, List.setIfInBounds_toArray, List.set_cons_zero, List.set_cons_succ]
      refine wpAnyH_take (i := 11) (v := .slice a n cap) rfl (by kernel_rfl) (by kernel_rfl) (by kernel_rfl) (fun _ _ _ h => h) (Or.inl ⟨by rfl, ?_⟩) hS3 ?_
      · intro w hSw; go_simp
      try simp only [Act.put, List.getElem_toArray, List.getElem_cons_succ, List.getElem_cons_zero, List.setIfInBounds_toArray, List.set_cons_zero, List.set_cons_succ]
      refine wpAnyH_ready (rs := [10]) (by kernel_rfl) (by simp) (AllReadyH.cons rfl (fun K' hK' => ?_) AllReadyH.nil)
      go_simp
      refine ((HTB.out _ (HG.out.trans hS3)).1).mono ?_; rintro e wd ⟨rfl, hgwd⟩
      refine hK'.out _ _ (hS3.trans hgwd) (fun hS4 => ?_)
      clear hK' K'
      try simp only [Act.put, List.getElem_toArray, List.getElem_cons_succ, List.getElem_cons_zero, List.setIfInBounds_toArray, List.set_cons_zero, List.set_cons_succ]
      refine wpAnyH_ready (rs := [12]) (by kernel_rfl) (by simp) (AllReadyH.cons rfl (fun K' hK' => ?_) AllReadyH.nil)
      go_simp
      refine ((HTB.out _ (HG.out.trans hS4)).2).mono ?_; rintro e we ⟨rfl, hgwe⟩
      refine hK'.out _ _ (hS4.trans hgwe) (fun hS5 => ?_)
      clear hK' K'
      try simp only [Act.put, List.getElem_toArray, List.getElem_cons_succ, List.getElem_cons_zero, List.setIfInBounds_toArray, List.set_cons_zero, List.set_cons_succ]
      refine wpAnyH_take (i := 13) (v := .bool true) rfl (by kernel_rfl) (by kernel_rfl) (by kernel_rfl) (fun _ _ _ h => h) (Or.inl ⟨by rfl, ?_⟩) hS5 ?_
      · intro w hSw; go_simp
      try simp only [Act.put, List.getElem_toArray, List.getElem_cons_succ, List.getElem_cons_zero, List.setIfInBounds_toArray, List.set_cons_zero, List.set_cons_succ]
      refine wpAnyH_take (i := 14) (v := .bool true) rfl (by kernel_rfl) (by kernel_rfl) (by kernel_rfl) (fun _ _ _ h => h) (Or.inl ⟨by rfl, ?_⟩) hS5 ?_
      · intro w hSw; go_simp
      try simp only [Act.put, List.getElem_toArray, List.getElem_cons_succ, List.getElem_cons_zero, List.setIfInBounds_toArray, List.set_cons_zero, List.set_cons_succ]
      refine wpAnyH_take (i := 15) (v := .bool true) rfl (by kernel_rfl) (by kernel_rfl) (by kernel_rfl) (fun _ _ _ h => h) (Or.inl ⟨by rfl, ?_⟩) hS5 ?_
      · intro w hSw; go_simp
      try simp only [Act.put, List.getElem_toArray, List.getElem_cons_succ, List.getElem_cons_zero, List.setIfInBounds_toArray, List.set_cons_zero, List.set_cons_succ]
      refine wpAnyH_take (i := 16) (v := (.agg #[.int .i64 x, .slice c m cp])) rfl (by kernel_rfl) (by kernel_rfl) (by kernel_rfl) (fun _ _ _ h => h) (Or.inl ⟨by rfl, ?_⟩) hS5 ?_
      · intro w hSw; exact exec_loadG _ rfl rfl (gr_cell hSw hb0r) (gr_cell hSw hb1r)
      try simp only [Act.put, List.getElem_toArray, List.getElem_cons_succ, List.getElem_cons_zero, List.setIfInBounds_toArray, List.set_cons_zero, List.set_cons_succ]
      refine wpAnyH_take (i := 17) (v := (.agg #[.int .i64 x, .slice c m cp])) rfl (by kernel_rfl) (by kernel_rfl) (by kernel_rfl) (fun _ _ _ h => h) (Or.inl ⟨by rfl, ?_⟩) hS5 ?_
      · intro w hSw; exact exec_loadG _ rfl rfl (gr_cell hSw hb0r) (gr_cell hSw hb1r)
      try simp only [Act.put, List.getElem_toArray, List.getElem_cons_succ, List.getElem_cons_zero, List.setIfInBounds_toArray, List.set_cons_zero, List.set_cons_succ]
      refine wpAnyH_ready (rs := [18]) (by kernel_rfl) (by simp) (AllReadyH.cons rfl (fun K' hK' => ?_) AllReadyH.nil)
      go_simp
      refine ((HCK.out _ (HG.out.trans hS5)).2.2).mono ?_; rintro e wf ⟨rfl, hgwf⟩
      refine hK'.out _ _ (hS5.trans hgwf) (fun hS6 => ?_)
      clear hK' K'
      try simp only [Act.put, List.getElem_toArray, List.getElem_cons_succ, List.getElem_cons_zero, List.setIfInBounds_toArray, List.set_cons_zero, List.set_cons_succ]
      refine wpAnyH_take (i := 19) (v := .bool true) rfl (by kernel_rfl) (by kernel_rfl) (by kernel_rfl) (fun _ _ _ h => h) (Or.inl ⟨by rfl, ?_⟩) hS6 ?_
      · intro w hSw; go_simp
      try simp only [Act.put, List.getElem_toArray, List.getElem_cons_succ, List.getElem_cons_zero, List.setIfInBounds_toArray, List.set_cons_zero, List.set_cons_succ]
      refine wpAnyH_take (i := 20) (v := .bool true) rfl (by kernel_rfl) (by kernel_rfl) (by kernel_rfl) (fun _ _ _ h => h) (Or.inl ⟨by rfl, ?_⟩) hS6 ?_
      · intro w hSw; go_simp
      try simp only [Act.put, List.getElem_toArray, List.getElem_cons_succ, List.getElem_cons_zero, List.setIfInBounds_toArray, List.set_cons_zero, List.set_cons_succ]
      refine wpAnyH_done (by kernel_rfl) ?_ _
      have HG4 := Lib.hid (HG1.out.trans (HG.out.trans hS6))
      clear hS0
      go_wp2
      go_ret
      exact ⟨rfl, HG4.out⟩
end Go.Proofs.Ytmcngnnbfmjajaa
