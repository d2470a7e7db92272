/- Law 15: Place, exact, Hue, Find, Told and Level of the reference. -/
import Derived.Test.YtgjlcmheipmmlaaPaJ
set_option linter.unusedVariables false
set_option linter.unusedSimpArgs false
namespace Go.Proofs.Ytgjlcmheipmmlaa
open Go.RowKit
open Z
set_option maxRecDepth 100000 in
set_option maxHeartbeats 1000000 in
theorem r15_Place {a : Option Addr} {l : List Pl} {cap : Nat} (n : Int) (w : World) (hr : RdP w a l) (hlen : l.length ≤ 9223372036854775807) :
    Calls Try.prog 60 #[.slice a l.length cap, .int .i64 n] w fun e w' => e = .returned (.int .i64 (idF l n)) ∧ w = w' := by
  have HR := Lib.hid hr
  obtain ⟨V, hV⟩ : ∃ V, idF l n = V := ⟨_, rfl⟩
  rw [hV]
  have HV := Lib.hid hV
  obtain ⟨m, hm⟩ : ∃ m, m = l.length := ⟨_, rfl⟩
  have HM := Lib.hid hm
  rw [← hm] at hlen ⊢
  clear hm hV hr
  go_enter Try.func60, Try.ntmps60
  go_wp2
  go_loop [5] (fun i => ∃ j : Nat, i = .int .i64 j ∧ j ≤ m ∧ Hid (∀ k (h : k < l.length), k < j → l[k].1 ≠ n)) (fun i => m - (intOf i).toNat)
  case atStart => exact ⟨0, rfl, Nat.zero_le _, Lib.hid (fun k _ h => absurd h (by omega))⟩
  case round =>
    obtain ⟨j, rfl, hj, HP⟩ := hrel
    by_cases hlt : j < m
    · have hjl : j < l.length := by rw [← HM.out]; exact hlt
      obtain ⟨b, o, c, cp, rfl, hc0, hc1, hv, -⟩ := HR.out.at hjl
      by_cases he : l[j].1 = n
      · have hv2 : V = (j : Int) := by rw [← HV.out]; exact idF_yes hjl HP.out he
        subst hv2
        rw [he] at hc0
        clear he HP HV hc1 hv
        go_wp2
        go_ret
        exact ⟨rfl, rfl⟩
      · have HP2 : Hid (∀ k (h : k < l.length), k < j + 1 → l[k].1 ≠ n) := Lib.hid fun k h hkj => by
          by_cases e : k = j
          · subst e; exact he
          · exact HP.out k h (by omega)
        clear hv hc1
        generalize l[j].1 = x at *
        have hf : (x == n) = false := by simp [he]
        clear HP he
        go_wp2
        go_round
        case rel => exact ⟨j + 1, by go_num, by omega, HP2⟩
        case measure => simp [intOf]; omega
    · have hv2 : V = -1 := by rw [← HV.out]; exact idF_no fun k hk => HP.out k hk (by rw [← HM.out] at hk; omega)
      subst hv2
      clear HP HV
      go_wp2
      go_ret
      exact ⟨rfl, rfl⟩
set_option maxRecDepth 100000 in
set_option maxHeartbeats 1000000 in
theorem r15_exact {a : Option Addr} {l : List Hu} {cap : Nat} (c at1 : Int) (w : World) (hr : Rd shH w a l) (hlen : l.length ≤ 9223372036854775807) :
    Calls Try.prog 92 #[.slice a l.length cap, .int .i64 c, .int .i64 at1] w fun e w' => e = .returned (.tuple #[.int .i64 ((hueX l c at1).getD 0), .bool (hueX l c at1).isSome]) ∧ w = w' := by
  have HR := Lib.hid hr
  obtain ⟨V, hV⟩ : ∃ V, hueX l c at1 = V := ⟨_, rfl⟩
  rw [hV]
  have HV := Lib.hid hV
  obtain ⟨m, hm⟩ : ∃ m, m = l.length := ⟨_, rfl⟩
  have HM := Lib.hid hm
  rw [← hm] at hlen ⊢
  clear hm hV hr
  go_enter Try.func92, Try.ntmps92
  go_wp2
  go_loop [8] (fun i => ∃ j : Nat, i = .int .i64 j ∧ j ≤ m ∧ Hid (∀ k (h : k < l.length), k < j → ¬ (l[k].1 = c ∧ l[k].2.1 = at1))) (fun i => m - (intOf i).toNat)
  case atStart => exact ⟨0, rfl, Nat.zero_le _, Lib.hid (fun k _ h => absurd h (by omega))⟩
  case round =>
    obtain ⟨j, rfl, hj, HP⟩ := hrel
    by_cases hlt : j < m
    · have hjl : j < l.length := by rw [← HM.out]; exact hlt
      obtain ⟨b, o, rfl, c0, c1, c2⟩ := hu_cells HR.out hjl
      by_cases he : l[j].1 = c
      · by_cases he2 : l[j].2.1 = at1
        · have hv2 : V = some l[j].2.2 := by rw [← HV.out]; exact hueX_yes hjl HP.out ⟨he, he2⟩
          rw [he] at c0
          rw [he2] at c1
          clear he he2 HP HV
          generalize l[j].2.2 = z at *
          subst hv2
          go_wp2
          go_ret2
          exact ⟨rfl, rfl⟩
        · have HP2 : Hid (∀ k (h : k < l.length), k < j + 1 → ¬ (l[k].1 = c ∧ l[k].2.1 = at1)) := Lib.hid fun k h hkj hh => by
            by_cases e : k = j
            · subst e; exact he2 hh.2
            · exact HP.out k h (by omega) hh
          rw [he] at c0
          generalize l[j].2.1 = x at *
          have hf : (x == at1) = false := by simp [he2]
          clear HP he he2
          go_wp2
          go_round
          case rel => exact ⟨j + 1, by go_num, by omega, HP2⟩
          case measure => simp [intOf]; omega
      · have HP2 : Hid (∀ k (h : k < l.length), k < j + 1 → ¬ (l[k].1 = c ∧ l[k].2.1 = at1)) := Lib.hid fun k h hkj hh => by
          by_cases e : k = j
          · subst e; exact he hh.1
          · exact HP.out k h (by omega) hh
        generalize l[j].1 = x at *
        have hf : (x == c) = false := by simp [he]
        clear HP he
        go_wp2
        go_round
        case rel => exact ⟨j + 1, by go_num, by omega, HP2⟩
        case measure => simp [intOf]; omega
    · have hv2 : V = none := by rw [← HV.out]; exact hueX_no fun k hk => HP.out k hk (by rw [← HM.out] at hk; omega)
      subst hv2
      clear HP HV
      go_wp2
      go_ret2
      exact ⟨rfl, rfl⟩
theorem idF_find {l : List Pl} {n : Int} : (idF l n < 0 ∧ l.find? (fun g => decide (g.1 = n)) = none) ∨ ∃ (k : Nat) (h : k < l.length), idF l n = k ∧ l.find? (fun g => decide (g.1 = n)) = some l[k] := by
  unfold idF
  cases h : l.findIdx? (fun g => decide (g.1 = n)) with
  | none =>
    rw [List.findIdx?_eq_none_iff] at h
    exact .inl ⟨by simp, List.find?_eq_none.2 fun x hx => by simpa using h x hx⟩
  | some k =>
    obtain ⟨hk, h1, h2⟩ := List.findIdx?_eq_some_iff_getElem.1 h
    exact .inr ⟨k, hk, rfl, List.find?_eq_some_iff_getElem.2 ⟨h1, k, hk, rfl, fun j hj => by simpa using h2 j hj⟩⟩
set_option maxRecDepth 100000 in
set_option maxHeartbeats 4000000 in
theorem r15_Hue {a : Option Addr} {l : List Pl} {cap : Nat} (n pc pa : Int) (w : World) (hr : RdP w a l) (hlen : l.length ≤ 9223372036854775807) (hin : ∀ g ∈ l, g.2.length ≤ 9223372036854775807) :
    Calls Try.prog 75 #[.slice a l.length cap, .int .i64 n, .agg #[.int .i64 pc, .int .i64 pa]] w fun e w' => e = .returned (.tuple #[.int .i64 ((hueL l n pc pa).getD 0), .bool (hueL l n pc pa).isSome]) ∧ Gr w w' := by
  obtain ⟨w2, hw2⟩ : ∃ w2, w2 = w.alloc (.cells #[.int .i64 pc, .int .i64 pa] 55) := ⟨_, rfl⟩
  obtain ⟨p, hp⟩ : ∃ p, p = w.heap.size := ⟨_, rfl⟩
  have hG2 : Gr w w2 := by rw [hw2]; exact (Gr.refl w).alloc _
  have e0 : w2.cell? ⟨p, 0, none⟩ = some (.int .i64 pc) := by rw [hw2, hp]; exact fresh w [.int .i64 pc, .int .i64 pa] _ (k := 0) rfl
  have e1 : w2.cell? ⟨p, 1, none⟩ = some (.int .i64 pa) := by rw [hw2, hp]; exact fresh w [.int .i64 pc, .int .i64 pa] _ (k := 1) rfl
  have HP := Lib.hid (r15_Place (cap := cap) n w2 (hr.gr hG2) hlen)
  have HR := Lib.hid (hr.gr hG2)
  have HG2 := Lib.hid hG2
  have HIN := Lib.hid hin
  obtain ⟨V, hV⟩ : ∃ V, hueL l n pc pa = V := ⟨_, rfl⟩
  rw [hV]
  unfold hueL at hV
  obtain ⟨m, hm⟩ : ∃ m, m = l.length := ⟨_, rfl⟩
  have HM := Lib.hid hm
  rw [← hm] at hlen HP ⊢
  clear hm hr hin hG2
  rcases idF_find (l := l) (n := n) with ⟨h1, h2⟩ | ⟨k, hk, h1, h2⟩
  · rw [h2] at hV
    have hv : V = none := hV.symm
    subst hv
    generalize idF l n = J at *
    clear h2 hV
    go_enter Try.func75, Try.ntmps75
    go_wp2_with fail
    rw [← hw2]
    refine HP.out.mono ?_; rintro e w' ⟨rfl, rfl⟩
    clear hw2
    go_wp2
    go_ret2
    exact ⟨rfl, HG2.out⟩
  · rw [h2] at hV
    rw [h1] at HP
    obtain ⟨b, o, hc, hcap, rfl, -, c1, hrh, hlh, hmh, -⟩ := HR.out.at hk
    have hkm : k < m := by rw [HM.out]; exact hk
    have HX := Lib.hid (fun W (hW : Gr w2 W) => r15_exact (cap := hcap) pc pa W (hrh.gr hW) (HIN.out _ (List.getElem_mem hk)))
    have HY := Lib.hid (fun W (hW : Gr w2 W) => r15_exact (cap := hcap) 0 pa W (hrh.gr hW) (HIN.out _ (List.getElem_mem hk)))
    have HV : Hid ((match hueX l[k].2 pc pa with | some v => some v | none => hueX l[k].2 0 pa) = V) := Lib.hid hV
    clear hV h1 h2 hrh
    unfold maxLen at hmh
    generalize l[k].2.length = hm at *
    generalize hueX l[k].2 pc pa = X at *
    generalize hueX l[k].2 0 pa = Y at *
    go_enter Try.func75, Try.ntmps75
    go_wp2_with fail
    rw [← hw2, ← hp]
    refine HP.out.mono ?_; rintro e w' ⟨rfl, rfl⟩
    clear hw2 hp HP
    go_wp2_with fail
    cases X with
    | some z =>
      have hv : V = some z := HV.out.symm
      subst hv
      clear HV HY
      have hS0 : (fun w' : World => Gr w2 w') w2.drew := (Gr.refl _).drew
      refine wp_region_held (S := fun w' : World => Gr w2 w') (by kernel_rfl) ?_
      change wpAnyH _ _ _ _ _ _ _ _ w2.drew
      refine wpAnyH_take (i := 0) (v := .slice (some ⟨b, o, none⟩) m cap) rfl (by kernel_rfl) (by kernel_rfl) (by kernel_rfl) (fun _ _ _ h => h) (Or.inl ⟨by rfl, ?_⟩) hS0 ?_
      · intro w hSw; go_simp
      try simp only [Act.put, List.getElem_toArray, List.getElem_cons_succ, List.getElem_cons_zero, List.setIfInBounds_toArray, List.set_cons_zero, List.set_cons_succ]
      refine wpAnyH_take (i := 1) (v := .int .i64 k) rfl (by kernel_rfl) (by kernel_rfl) (by kernel_rfl) (fun _ _ _ h => h) (Or.inl ⟨by rfl, ?_⟩) hS0 ?_
      · intro w hSw; go_simp
      try simp only [Act.put, List.getElem_toArray, List.getElem_cons_succ, List.getElem_cons_zero, List.setIfInBounds_toArray, List.set_cons_zero, List.set_cons_succ]
      refine wpAnyH_take (i := 2) (v := .pointer (some ⟨b, o + k * 2, none⟩)) rfl (by kernel_rfl) (by kernel_rfl) (by kernel_rfl) (fun _ _ _ h => h) (Or.inl ⟨by rfl, ?_⟩) hS0 ?_
      · intro w hSw; go_simp
      try simp only [Act.put, List.getElem_toArray, List.getElem_cons_succ, List.getElem_cons_zero, List.setIfInBounds_toArray, List.set_cons_zero, List.set_cons_succ]
      refine wpAnyH_take (i := 3) (v := .pointer (some ⟨b, o + k * 2 + 1, none⟩)) rfl (by kernel_rfl) (by kernel_rfl) (by kernel_rfl) (fun _ _ _ h => h) (Or.inl ⟨by rfl, ?_⟩) hS0 ?_
      · intro w hSw; go_simp
      try simp only [Act.put, List.getElem_toArray, List.getElem_cons_succ, List.getElem_cons_zero, List.setIfInBounds_toArray, List.set_cons_zero, List.set_cons_succ]
      refine wpAnyH_take (i := 4) (v := .slice hc hm hcap) rfl (by kernel_rfl) (by kernel_rfl) (by kernel_rfl) (fun _ _ _ h => h) (Or.inl ⟨by rfl, ?_⟩) hS0 ?_
      · intro w hSw; have s0 := gr_cell hSw c1; go_simp
      try simp only [Act.put, List.getElem_toArray, List.getElem_cons_succ, List.getElem_cons_zero, List.setIfInBounds_toArray, List.set_cons_zero, List.set_cons_succ]
      refine wpAnyH_take (i := 5) (v := .pointer (some ⟨p, 0, none⟩)) rfl (by kernel_rfl) (by kernel_rfl) (by kernel_rfl) (fun _ _ _ h => h) (Or.inl ⟨by rfl, ?_⟩) hS0 ?_
      · intro w hSw; go_simp
      try simp only [Act.put, List.getElem_toArray, List.getElem_cons_succ, List.getElem_cons_zero, List.setIfInBounds_toArray, List.set_cons_zero, List.set_cons_succ]
      refine wpAnyH_take (i := 6) (v := .int .i64 pc) rfl (by kernel_rfl) (by kernel_rfl) (by kernel_rfl) (fun _ _ _ h => h) (Or.inl ⟨by rfl, ?_⟩) hS0 ?_
      · intro w hSw; have s0 := gr_cell hSw e0; go_simp
      try simp only [Act.put, List.getElem_toArray, List.getElem_cons_succ, List.getElem_cons_zero, List.setIfInBounds_toArray, List.set_cons_zero, List.set_cons_succ]
      refine wpAnyH_take (i := 7) (v := .pointer (some ⟨p, 1, none⟩)) rfl (by kernel_rfl) (by kernel_rfl) (by kernel_rfl) (fun _ _ _ h => h) (Or.inl ⟨by rfl, ?_⟩) hS0 ?_
      · intro w hSw; go_simp
      try simp only [Act.put, List.getElem_toArray, List.getElem_cons_succ, List.getElem_cons_zero, List.setIfInBounds_toArray, List.set_cons_zero, List.set_cons_succ]
      refine wpAnyH_take (i := 8) (v := .int .i64 pa) rfl (by kernel_rfl) (by kernel_rfl) (by kernel_rfl) (fun _ _ _ h => h) (Or.inl ⟨by rfl, ?_⟩) hS0 ?_
      · intro w hSw; have s0 := gr_cell hSw e1; go_simp
      try simp only [Act.put, List.getElem_toArray, List.getElem_cons_succ, List.getElem_cons_zero, List.setIfInBounds_toArray, List.set_cons_zero, List.set_cons_succ]
      refine wpAnyH_ready (rs := [9]) (by kernel_rfl) (by simp) (AllReadyH.cons rfl (fun K' hK' => ?_) AllReadyH.nil)
      go_simp
      refine (HX.out _ hS0).mono ?_; rintro e w3 ⟨rfl, hw3⟩
      refine hK'.out _ _ (hw3 ▸ hS0) (fun hS1 => ?_)
      clear hK' K'
      try simp only [Act.put, List.getElem_toArray, List.getElem_cons_succ, List.getElem_cons_zero, List.setIfInBounds_toArray, List.set_cons_zero, List.set_cons_succ]
      refine wpAnyH_take (i := 10) (v := .tuple #[.int .i64 z, .bool true]) rfl (by kernel_rfl) (by kernel_rfl) (by kernel_rfl) (fun _ _ _ h => h) (Or.inl ⟨by rfl, ?_⟩) hS1 ?_
      · intro w hSw; go_simp
      try simp only [Act.put, List.getElem_toArray, List.getElem_cons_succ, List.getElem_cons_zero, List.setIfInBounds_toArray, List.set_cons_zero, List.set_cons_succ]
      refine wpAnyH_take (i := 11) (v := .int .i64 z) rfl (by kernel_rfl) (by kernel_rfl) (by kernel_rfl) (fun _ _ _ h => h) (Or.inl ⟨by rfl, ?_⟩) hS1 ?_
      · intro w hSw; go_simp
      try simp only [Act.put, List.getElem_toArray, List.getElem_cons_succ, List.getElem_cons_zero, List.setIfInBounds_toArray, List.set_cons_zero, List.set_cons_succ]
      refine wpAnyH_take (i := 12) (v := .bool true) rfl (by kernel_rfl) (by kernel_rfl) (by kernel_rfl) (fun _ _ _ h => h) (Or.inl ⟨by rfl, ?_⟩) hS1 ?_
      · intro w hSw; go_simp
      try simp only [Act.put, List.getElem_toArray, List.getElem_cons_succ, List.getElem_cons_zero, List.setIfInBounds_toArray, List.set_cons_zero, List.set_cons_succ]
      refine wpAnyH_take (i := 13) (v := .int .i64 z) rfl (by kernel_rfl) (by kernel_rfl) (by kernel_rfl) (fun _ _ _ h => h) (Or.inl ⟨by rfl, ?_⟩) hS1 ?_
      · intro w hSw; go_simp
      try simp only [Act.put, List.getElem_toArray, List.getElem_cons_succ, List.getElem_cons_zero, List.setIfInBounds_toArray, List.set_cons_zero, List.set_cons_succ]
      refine wpAnyH_take (i := 14) (v := .bool true) rfl (by kernel_rfl) (by kernel_rfl) (by kernel_rfl) (fun _ _ _ h => h) (Or.inl ⟨by rfl, ?_⟩) hS1 ?_
      · intro w hSw; go_simp
      try simp only [Act.put, List.getElem_toArray, List.getElem_cons_succ, List.getElem_cons_zero, List.setIfInBounds_toArray, List.set_cons_zero, List.set_cons_succ]
      refine wpAnyH_done (by kernel_rfl) ?_ _
      have HG3 := Lib.hid (HG2.out.trans hS1)
      go_wp2
      go_ret2
      exact ⟨rfl, HG3.out⟩
    | none =>
      have hv : V = Y := HV.out.symm
      subst hv
      clear HV
      have hS0 : (fun w' : World => Gr w2 w') w2.drew := (Gr.refl _).drew
      refine wp_region_held (S := fun w' : World => Gr w2 w') (by kernel_rfl) ?_
      change wpAnyH _ _ _ _ _ _ _ _ w2.drew
      refine wpAnyH_take (i := 0) (v := .slice (some ⟨b, o, none⟩) m cap) rfl (by kernel_rfl) (by kernel_rfl) (by kernel_rfl) (fun _ _ _ h => h) (Or.inl ⟨by rfl, ?_⟩) hS0 ?_
      · intro w hSw; go_simp
      try simp only [Act.put, List.getElem_toArray, List.getElem_cons_succ, List.getElem_cons_zero, List.setIfInBounds_toArray, List.set_cons_zero, List.set_cons_succ]
      refine wpAnyH_take (i := 1) (v := .int .i64 k) rfl (by kernel_rfl) (by kernel_rfl) (by kernel_rfl) (fun _ _ _ h => h) (Or.inl ⟨by rfl, ?_⟩) hS0 ?_
      · intro w hSw; go_simp
      try simp only [Act.put, List.getElem_toArray, List.getElem_cons_succ, List.getElem_cons_zero, List.setIfInBounds_toArray, List.set_cons_zero, List.set_cons_succ]
      refine wpAnyH_take (i := 2) (v := .pointer (some ⟨b, o + k * 2, none⟩)) rfl (by kernel_rfl) (by kernel_rfl) (by kernel_rfl) (fun _ _ _ h => h) (Or.inl ⟨by rfl, ?_⟩) hS0 ?_
      · intro w hSw; go_simp
      try simp only [Act.put, List.getElem_toArray, List.getElem_cons_succ, List.getElem_cons_zero, List.setIfInBounds_toArray, List.set_cons_zero, List.set_cons_succ]
      refine wpAnyH_take (i := 3) (v := .pointer (some ⟨b, o + k * 2 + 1, none⟩)) rfl (by kernel_rfl) (by kernel_rfl) (by kernel_rfl) (fun _ _ _ h => h) (Or.inl ⟨by rfl, ?_⟩) hS0 ?_
      · intro w hSw; go_simp
      try simp only [Act.put, List.getElem_toArray, List.getElem_cons_succ, List.getElem_cons_zero, List.setIfInBounds_toArray, List.set_cons_zero, List.set_cons_succ]
      refine wpAnyH_take (i := 4) (v := .slice hc hm hcap) rfl (by kernel_rfl) (by kernel_rfl) (by kernel_rfl) (fun _ _ _ h => h) (Or.inl ⟨by rfl, ?_⟩) hS0 ?_
      · intro w hSw; have s0 := gr_cell hSw c1; go_simp
      try simp only [Act.put, List.getElem_toArray, List.getElem_cons_succ, List.getElem_cons_zero, List.setIfInBounds_toArray, List.set_cons_zero, List.set_cons_succ]
      refine wpAnyH_take (i := 5) (v := .pointer (some ⟨p, 0, none⟩)) rfl (by kernel_rfl) (by kernel_rfl) (by kernel_rfl) (fun _ _ _ h => h) (Or.inl ⟨by rfl, ?_⟩) hS0 ?_
      · intro w hSw; go_simp
      try simp only [Act.put, List.getElem_toArray, List.getElem_cons_succ, List.getElem_cons_zero, List.setIfInBounds_toArray, List.set_cons_zero, List.set_cons_succ]
      refine wpAnyH_take (i := 6) (v := .int .i64 pc) rfl (by kernel_rfl) (by kernel_rfl) (by kernel_rfl) (fun _ _ _ h => h) (Or.inl ⟨by rfl, ?_⟩) hS0 ?_
      · intro w hSw; have s0 := gr_cell hSw e0; go_simp
      try simp only [Act.put, List.getElem_toArray, List.getElem_cons_succ, List.getElem_cons_zero, List.setIfInBounds_toArray, List.set_cons_zero, List.set_cons_succ]
      refine wpAnyH_take (i := 7) (v := .pointer (some ⟨p, 1, none⟩)) rfl (by kernel_rfl) (by kernel_rfl) (by kernel_rfl) (fun _ _ _ h => h) (Or.inl ⟨by rfl, ?_⟩) hS0 ?_
      · intro w hSw; go_simp
      try simp only [Act.put, List.getElem_toArray, List.getElem_cons_succ, List.getElem_cons_zero, List.setIfInBounds_toArray, List.set_cons_zero, List.set_cons_succ]
      refine wpAnyH_take (i := 8) (v := .int .i64 pa) rfl (by kernel_rfl) (by kernel_rfl) (by kernel_rfl) (fun _ _ _ h => h) (Or.inl ⟨by rfl, ?_⟩) hS0 ?_
      · intro w hSw; have s0 := gr_cell hSw e1; go_simp
      try simp only [Act.put, List.getElem_toArray, List.getElem_cons_succ, List.getElem_cons_zero, List.setIfInBounds_toArray, List.set_cons_zero, List.set_cons_succ]
      refine wpAnyH_ready (rs := [9]) (by kernel_rfl) (by simp) (AllReadyH.cons rfl (fun K' hK' => ?_) AllReadyH.nil)
      go_simp
      refine (HX.out _ hS0).mono ?_; rintro e w3 ⟨rfl, hw3⟩
      refine hK'.out _ _ (hw3 ▸ hS0) (fun hS1 => ?_)
      clear hK' K'
      try simp only [Act.put, List.getElem_toArray, List.getElem_cons_succ, List.getElem_cons_zero, List.setIfInBounds_toArray, List.set_cons_zero, List.set_cons_succ]
      refine wpAnyH_take (i := 10) (v := .tuple #[.int .i64 0, .bool false]) rfl (by kernel_rfl) (by kernel_rfl) (by kernel_rfl) (fun _ _ _ h => h) (Or.inl ⟨by rfl, ?_⟩) hS1 ?_
      · intro w hSw; go_simp
      try simp only [Act.put, List.getElem_toArray, List.getElem_cons_succ, List.getElem_cons_zero, List.setIfInBounds_toArray, List.set_cons_zero, List.set_cons_succ]
      refine wpAnyH_take (i := 11) (v := .int .i64 0) rfl (by kernel_rfl) (by kernel_rfl) (by kernel_rfl) (fun _ _ _ h => h) (Or.inl ⟨by rfl, ?_⟩) hS1 ?_
      · intro w hSw; go_simp
      try simp only [Act.put, List.getElem_toArray, List.getElem_cons_succ, List.getElem_cons_zero, List.setIfInBounds_toArray, List.set_cons_zero, List.set_cons_succ]
      refine wpAnyH_take (i := 12) (v := .bool false) rfl (by kernel_rfl) (by kernel_rfl) (by kernel_rfl) (fun _ _ _ h => h) (Or.inl ⟨by rfl, ?_⟩) hS1 ?_
      · intro w hSw; go_simp
      try simp only [Act.put, List.getElem_toArray, List.getElem_cons_succ, List.getElem_cons_zero, List.setIfInBounds_toArray, List.set_cons_zero, List.set_cons_succ]
      refine wpAnyH_take (i := 13) (v := .int .i64 0) rfl (by kernel_rfl) (by kernel_rfl) (by kernel_rfl) (fun _ _ _ h => h) (Or.inl ⟨by rfl, ?_⟩) hS1 ?_
      · intro w hSw; go_simp
      try simp only [Act.put, List.getElem_toArray, List.getElem_cons_succ, List.getElem_cons_zero, List.setIfInBounds_toArray, List.set_cons_zero, List.set_cons_succ]
      refine wpAnyH_take (i := 14) (v := .bool false) rfl (by kernel_rfl) (by kernel_rfl) (by kernel_rfl) (fun _ _ _ h => h) (Or.inl ⟨by rfl, ?_⟩) hS1 ?_
      · intro w hSw; go_simp
      try simp only [Act.put, List.getElem_toArray, List.getElem_cons_succ, List.getElem_cons_zero, List.setIfInBounds_toArray, List.set_cons_zero, List.set_cons_succ]
      refine wpAnyH_done (by kernel_rfl) ?_ _
      have f1 := gr_cell hS1 c1
      have f2 := gr_cell hS1 e1
      have HG3 := Lib.hid (HG2.out.trans hS1)
      have HY3 := Lib.hid (fun W (hW : Gr w3 W) => HY.out W (Gr.trans hS1 hW))
      clear hS1 hw3 c1 e0 e1 HY HX
      go_wp2_with fail
      have hS0 : (fun w' : World => Gr w3 w') w3.drew := (Gr.refl _).drew
      refine wp_region_held (S := fun w' : World => Gr w3 w') (by kernel_rfl) ?_
      change wpAnyH _ _ _ _ _ _ _ _ w3.drew
      refine wpAnyH_take (i := 0) (v := .slice (some ⟨b, o, none⟩) m cap) rfl (by kernel_rfl) (by kernel_rfl) (by kernel_rfl) (fun _ _ _ h => h) (Or.inl ⟨by rfl, ?_⟩) hS0 ?_
      · intro w hSw; go_simp
      try simp only [Act.put, List.getElem_toArray, List.getElem_cons_succ, List.getElem_cons_zero, List.setIfInBounds_toArray, List.set_cons_zero, List.set_cons_succ]
      refine wpAnyH_take (i := 1) (v := .int .i64 k) rfl (by kernel_rfl) (by kernel_rfl) (by kernel_rfl) (fun _ _ _ h => h) (Or.inl ⟨by rfl, ?_⟩) hS0 ?_
      · intro w hSw; go_simp
      try simp only [Act.put, List.getElem_toArray, List.getElem_cons_succ, List.getElem_cons_zero, List.setIfInBounds_toArray, List.set_cons_zero, List.set_cons_succ]
      refine wpAnyH_take (i := 2) (v := .pointer (some ⟨b, o + k * 2, none⟩)) rfl (by kernel_rfl) (by kernel_rfl) (by kernel_rfl) (fun _ _ _ h => h) (Or.inl ⟨by rfl, ?_⟩) hS0 ?_
      · intro w hSw; go_simp
      try simp only [Act.put, List.getElem_toArray, List.getElem_cons_succ, List.getElem_cons_zero, List.setIfInBounds_toArray, List.set_cons_zero, List.set_cons_succ]
      refine wpAnyH_take (i := 3) (v := .pointer (some ⟨b, o + k * 2 + 1, none⟩)) rfl (by kernel_rfl) (by kernel_rfl) (by kernel_rfl) (fun _ _ _ h => h) (Or.inl ⟨by rfl, ?_⟩) hS0 ?_
      · intro w hSw; go_simp
      try simp only [Act.put, List.getElem_toArray, List.getElem_cons_succ, List.getElem_cons_zero, List.setIfInBounds_toArray, List.set_cons_zero, List.set_cons_succ]
      refine wpAnyH_take (i := 4) (v := .slice hc hm hcap) rfl (by kernel_rfl) (by kernel_rfl) (by kernel_rfl) (fun _ _ _ h => h) (Or.inl ⟨by rfl, ?_⟩) hS0 ?_
      · intro w hSw; have s0 := gr_cell hSw f1; go_simp
      try simp only [Act.put, List.getElem_toArray, List.getElem_cons_succ, List.getElem_cons_zero, List.setIfInBounds_toArray, List.set_cons_zero, List.set_cons_succ]
      refine wpAnyH_take (i := 5) (v := .pointer (some ⟨p, 1, none⟩)) rfl (by kernel_rfl) (by kernel_rfl) (by kernel_rfl) (fun _ _ _ h => h) (Or.inl ⟨by rfl, ?_⟩) hS0 ?_
      · intro w hSw; go_simp
      try simp only [Act.put, List.getElem_toArray, List.getElem_cons_succ, List.getElem_cons_zero, List.setIfInBounds_toArray, List.set_cons_zero, List.set_cons_succ]
      refine wpAnyH_take (i := 6) (v := .int .i64 pa) rfl (by kernel_rfl) (by kernel_rfl) (by kernel_rfl) (fun _ _ _ h => h) (Or.inl ⟨by rfl, ?_⟩) hS0 ?_
      · intro w hSw; have s0 := gr_cell hSw f2; go_simp
      try simp only [Act.put, List.getElem_toArray, List.getElem_cons_succ, List.getElem_cons_zero, List.setIfInBounds_toArray, List.set_cons_zero, List.set_cons_succ]
      refine wpAnyH_ready (rs := [7]) (by kernel_rfl) (by simp) (AllReadyH.cons rfl (fun K' hK' => ?_) AllReadyH.nil)
      go_simp
      refine (HY3.out _ hS0).mono ?_; rintro e w4 ⟨rfl, hw4⟩
      refine hK'.out _ _ (hw4 ▸ hS0) (fun hS1 => ?_)
      clear hK' K'
      try simp only [Act.put, List.getElem_toArray, List.getElem_cons_succ, List.getElem_cons_zero, List.setIfInBounds_toArray, List.set_cons_zero, List.set_cons_succ]
      refine wpAnyH_take (i := 8) (v := .int .i64 (V.getD 0)) rfl (by kernel_rfl) (by kernel_rfl) (by kernel_rfl) (fun _ _ _ h => h) (Or.inl ⟨by rfl, ?_⟩) hS1 ?_
      · intro w hSw; go_simp
      try simp only [Act.put, List.getElem_toArray, List.getElem_cons_succ, List.getElem_cons_zero, List.setIfInBounds_toArray, List.set_cons_zero, List.set_cons_succ]
      refine wpAnyH_take (i := 9) (v := .bool V.isSome) rfl (by kernel_rfl) (by kernel_rfl) (by kernel_rfl) (fun _ _ _ h => h) (Or.inl ⟨by rfl, ?_⟩) hS1 ?_
      · intro w hSw; go_simp
      try simp only [Act.put, List.getElem_toArray, List.getElem_cons_succ, List.getElem_cons_zero, List.setIfInBounds_toArray, List.set_cons_zero, List.set_cons_succ]
      refine wpAnyH_take (i := 10) (v := .int .i64 (V.getD 0)) rfl (by kernel_rfl) (by kernel_rfl) (by kernel_rfl) (fun _ _ _ h => h) (Or.inl ⟨by rfl, ?_⟩) hS1 ?_
      · intro w hSw; go_simp
      try simp only [Act.put, List.getElem_toArray, List.getElem_cons_succ, List.getElem_cons_zero, List.setIfInBounds_toArray, List.set_cons_zero, List.set_cons_succ]
      refine wpAnyH_take (i := 11) (v := .bool V.isSome) rfl (by kernel_rfl) (by kernel_rfl) (by kernel_rfl) (fun _ _ _ h => h) (Or.inl ⟨by rfl, ?_⟩) hS1 ?_
      · intro w hSw; go_simp
      try simp only [Act.put, List.getElem_toArray, List.getElem_cons_succ, List.getElem_cons_zero, List.setIfInBounds_toArray, List.set_cons_zero, List.set_cons_succ]
      refine wpAnyH_done (by kernel_rfl) ?_ _
      have HG4 := Lib.hid (HG3.out.trans hS1)
      go_wp2
      go_ret2
      exact ⟨rfl, HG4.out⟩
set_option maxRecDepth 100000 in
set_option maxHeartbeats 1000000 in
theorem r15_Find {a : Option Addr} {l : List Pl} {cap : Nat} (n : Int) (w : World) (hr : RdP w a l) (hlen : l.length ≤ 9223372036854775807) (hin : ∀ g ∈ l, g.2.length ≤ 9223372036854775807) :
    Calls Try.prog 20 #[.slice a l.length cap, .int .i64 n] w fun e w' => e = .returned (.tuple #[.int .i64 (findI l n), .bool (decide (palR l = 0) && hasN l n), .int .i64 (palR l)]) ∧ Gr w w' := by
  have HC := Lib.hid (r15_Check (cap := cap) w hr hlen hin)
  by_cases h0 : palR l = 0
  · obtain ⟨h32, hall, hasc⟩ := palR_zero.1 h0
    have HP := Lib.hid (fun W (hW : Gr w W) => r15_Place (cap := cap) n W (hr.gr hW) (by omega))
    have hF : findI l n = max (idF l n) 0 := if_pos h0
    rw [h0] at HC ⊢
    rw [hF]
    clear hF
    have HI := Lib.hid (show ∀ i : Nat, LoAt l i n → max (idF l n) 0 = if hasN l n = true then (i : Int) else 0 from fun i hi => by rw [idF_lo hasc hi]; split <;> omega)
    have HI2 := Lib.hid (show idF l n < 0 ↔ hasN l n = false from by
      obtain ⟨i, hi⟩ : ∃ i, LoAt l i n := LoAt.ex hasc
      rw [idF_lo hasc hi]; split <;> simp_all <;> omega)
    have HB := Lib.hid (show -1 ≤ idF l n ∧ idF l n < 100 from by
      obtain ⟨i, hi⟩ : ∃ i, LoAt l i n := LoAt.ex hasc
      rw [idF_lo hasc hi]; have := hi.1; split <;> omega)
    simp only [decide_true, Bool.true_and, if_true]
    clear hr hin hall hasc hlen h32
    generalize l.length = m at *
    generalize hasN l n = V at *
    generalize idF l n = J at *
    obtain ⟨K, hK⟩ : ∃ K, max J 0 = K := ⟨_, rfl⟩
    rw [hK] at HI ⊢
    have HK := Lib.hid hK
    clear hK
    go_enter Try.func20, Try.ntmps20
    go_wp2_with fail
    refine HC.out.mono ?_; rintro e w1 ⟨rfl, hg1⟩
    have HG1 := Lib.hid hg1
    have HP1 := Lib.hid (HP.out w1 hg1)
    clear hg1 HC HP
    go_wp2_with fail
    refine HP1.out.mono ?_; rintro e w2 ⟨rfl, rfl⟩
    clear HP1 HI
    cases V
    · have hJ : J = -1 := by have := HI2.out.2 rfl; have := HB.out; omega
      have hK : K = 0 := by have := HK.out; omega
      subst hJ hK
      clear HK HI2 HB
      go_wp2_with (refine wpl_max2 (x := -1) (y := 0) rfl rfl rfl rfl ?_)
      go_ret3
      exact ⟨rfl, HG1.out⟩
    · have hJ : 0 ≤ J := by have h := HI2.out; simp at h; exact h
      have HJB := Lib.hid HB.out
      clear HI2 HB
      go_wp2_with (refine wpl_max2 (x := J) (y := 0) rfl rfl rfl rfl ?_; rw [HK.out])
      go_ret3
      exact ⟨rfl, HG1.out⟩
  · rw [show findI l n = 0 from if_neg h0, decide_eq_false h0, Bool.false_and]
    have hz : (palR l == 0) = false := by simp [h0]
    clear hr hin hlen h0
    generalize palR l = E at *
    generalize l.length = m at *
    go_enter Try.func20, Try.ntmps20
    go_wp2_with fail
    refine HC.out.mono ?_; rintro e w1 ⟨rfl, hg1⟩
    have HG1 := Lib.hid hg1
    clear hg1 HC
    go_wp2
    go_ret3
    exact ⟨rfl, HG1.out⟩
set_option maxRecDepth 100000 in
set_option maxHeartbeats 2000000 in
theorem r15_Told {al : Option Addr} {l : List Pl} {cap : Nat} (x : En) (home : Int) (w : World) (hr : RdP w al l) (hlen : l.length ≤ 9223372036854775807) (hin : ∀ g ∈ l, g.2.length ≤ 9223372036854775807) :
    Calls Try.prog 68 #[.slice al l.length cap, .agg #[.int .i64 x.2.2.1, .int .i64 x.2.2.2], .agg #[.int .i64 x.1, .int .i64 x.2.1], .int .i64 home] w fun e w' => e = .returned (.int .i64 (toldR l x home)) ∧ Gr w w' := by
  have HH := Lib.hid (fun W (hW : Gr w W) => r15_Hue (cap := cap) x.2.2.1 x.1 x.2.1 W (hr.gr hW) hlen hin)
  have HT := Lib.hid (show toldR l x home = if x.2.2.1 = 0 then x.2.2.2 else (hueL l x.2.2.1 x.1 x.2.1).getD home from rfl)
  generalize toldR l x home = T at *
  obtain ⟨c, a, q, v⟩ := x
  simp only at HH HT ⊢
  clear hr hlen hin
  generalize l.length = m at *
  generalize hueL l q c a = V at *
  have HG2 := Lib.hid (((Gr.refl w).alloc (.cells #[.int .i64 q, .int .i64 v] 23)).alloc (.cells #[.int .i64 c, .int .i64 a] 55))
  by_cases hq : q = 0
  · have hT : T = v := by rw [HT.out, if_pos hq]
    subst hT hq
    clear HT HH
    go_enter Try.func68, Try.ntmps68
    go_wp2
    go_ret
    exact ⟨rfl, HG2.out⟩
  · have hqz : (q == 0) = false := by simp [hq]
    have HH1 := Lib.hid (HH.out _ HG2.out)
    cases V with
    | none =>
      have hT : T = home := by rw [HT.out, if_neg hq]; rfl
      subst hT
      clear HT HH hq
      go_enter Try.func68, Try.ntmps68
      go_wp2_with fail
      refine HH1.out.mono ?_; rintro e w3 ⟨rfl, hg3⟩
      have HG3 := Lib.hid (HG2.out.trans hg3)
      clear hg3
      go_wp2
      go_ret
      exact ⟨rfl, HG3.out⟩
    | some y =>
      have hT : T = y := by rw [HT.out, if_neg hq]; rfl
      subst hT
      clear HT HH hq
      go_enter Try.func68, Try.ntmps68
      go_wp2_with fail
      refine HH1.out.mono ?_; rintro e w3 ⟨rfl, hg3⟩
      have HG3 := Lib.hid (HG2.out.trans hg3)
      clear hg3
      go_wp2
      go_ret
      exact ⟨rfl, HG3.out⟩
set_option maxRecDepth 100000 in
set_option maxHeartbeats 2000000 in
theorem r15_Level {al : Option Addr} {l : List Pl} {cap : Nat} (x : En) (home : Int) (w : World) (hr : RdP w al l) (hlen : l.length ≤ 9223372036854775807) (hin : ∀ g ∈ l, g.2.length ≤ 9223372036854775807) :
    Calls Try.prog 27 #[.slice al l.length cap, .agg #[.int .i64 x.2.2.1, .int .i64 x.2.2.2], .agg #[.int .i64 x.1, .int .i64 x.2.1], .int .i64 home] w fun e w' => e = .returned (.tuple #[.int .i64 (levV l x home), .int .i64 (levE l x home)]) ∧ Gr w w' := by
  have HCH := Lib.hid (fun W (hW : Gr w W) => r15_Check (cap := cap) W (hr.gr hW) hlen hin)
  have HVL := Lib.hid (fun W => r15_Value x.2.2.1 x.2.2.2 W)
  have HPR := Lib.hid (fun W => r15_Param x.1 x.2.1 W)
  have HI := Lib.hid (fun W => r15_IsLevel home W)
  have HTD := Lib.hid (fun W (hW : Gr w W) => r15_Told (cap := cap) x home W (hr.gr hW) hlen hin)
  have HLE := Lib.hid (show levE l x home = if palR l = 0 then (if valR x.2.2.1 x.2.2.2 = 0 then (if parR x.1 x.2.1 = 0 then (if 0 ≤ home ∧ home ≤ 65535 then 0 else 2) else 2) else 2) else palR l from rfl)
  have HLV := Lib.hid (show levV l x home = if levE l x home = 0 then toldR l x home else 0 from rfl)
  have h1 : valR x.2.2.1 x.2.2.2 = 0 ∨ valR x.2.2.1 x.2.2.2 = 2 := by unfold valR; split <;> simp
  have h2 : parR x.1 x.2.1 = 0 ∨ parR x.1 x.2.1 = 2 := by unfold parR; split <;> simp
  clear hr hlen hin
  generalize l.length = m at *
  generalize levV l x home = LV at *
  generalize levE l x home = LE at *
  generalize toldR l x home = T at *
  generalize palR l = P at *
  obtain ⟨c, a, q, v⟩ := x
  simp only at HVL HPR HLE HTD h1 h2 ⊢
  generalize valR q v = Y at *
  generalize parR c a = Z at *
  obtain ⟨w2, hw2⟩ : ∃ w2, w2 = (w.alloc (.cells #[.int .i64 q, .int .i64 v] 23)).alloc (.cells #[.int .i64 c, .int .i64 a] 55) := ⟨_, rfl⟩
  obtain ⟨p, hp⟩ : ∃ p, p = w.heap.size := ⟨_, rfl⟩
  have hG2 : Gr w w2 := by rw [hw2]; exact ((Gr.refl w).alloc _).alloc _
  have hc0 : w2.cell? ⟨p, 0, none⟩ = some (.int .i64 q) := by rw [hw2, hp]; exact gr_cell ((Gr.refl _).alloc _) (fresh w [.int .i64 q, .int .i64 v] _ (k := 0) rfl)
  have hc1 : w2.cell? ⟨p, 1, none⟩ = some (.int .i64 v) := by rw [hw2, hp]; exact gr_cell ((Gr.refl _).alloc _) (fresh w [.int .i64 q, .int .i64 v] _ (k := 1) rfl)
  have hd0 : w2.cell? ⟨p + 1, 0, none⟩ = some (.int .i64 c) := by
    have := fresh (w.alloc (.cells #[.int .i64 q, .int .i64 v] 23)) [.int .i64 c, .int .i64 a] 55 (k := 0) rfl
    rw [World.size_alloc] at this
    rw [hw2, hp]; exact this
  have hd1 : w2.cell? ⟨p + 1, 1, none⟩ = some (.int .i64 a) := by
    have := fresh (w.alloc (.cells #[.int .i64 q, .int .i64 v] 23)) [.int .i64 c, .int .i64 a] 55 (k := 1) rfl
    rw [World.size_alloc] at this
    rw [hw2, hp]; exact this
  have HG2 := Lib.hid hG2
  have HC1 := Lib.hid (HCH.out _ hG2)
  go_enter Try.func27, Try.ntmps27
  go_wp2_with fail
  rw [← hw2, ← hp]
  clear hw2 hp hG2
  refine HC1.out.mono ?_; rintro e w3 ⟨rfl, hg3⟩
  have HG3 := Lib.hid (HG2.out.trans hg3)
  have c0 := gr_cell hg3 hc0
  have c1 := gr_cell hg3 hc1
  have d0 := gr_cell hg3 hd0
  have d1 := gr_cell hg3 hd1
  clear hg3 HG2 HC1 HCH hc0 hc1 hd0 hd1
  by_cases hP : P = 0
  · subst hP
    go_wp2_with fail
    refine (HVL.out _).mono ?_; rintro e w4 ⟨rfl, hg4⟩
    have HG4 := Lib.hid (HG3.out.trans hg4)
    have e0 := gr_cell hg4 c0
    have e1 := gr_cell hg4 c1
    have e2 := gr_cell hg4 d0
    have e3 := gr_cell hg4 d1
    clear hg4 HG3 c0 c1 d0 d1
    by_cases hY : Y = 0
    · subst hY
      go_wp2_with fail
      refine (HPR.out _).mono ?_; rintro e w5 ⟨rfl, hg5⟩
      have HG5 := Lib.hid (HG4.out.trans hg5)
      have f0 := gr_cell hg5 e0
      have f1 := gr_cell hg5 e1
      have f2 := gr_cell hg5 e2
      have f3 := gr_cell hg5 e3
      clear hg5 HG4 e0 e1 e2 e3
      by_cases hZ : Z = 0
      · subst hZ
        by_cases hh : 0 ≤ home ∧ home ≤ 65535
        · rw [decide_eq_true hh] at HI
          have hle : LE = 0 := by rw [HLE.out]; simp [hh]
          have hlv : LV = T := by rw [HLV.out, if_pos hle]
          have HT1 := Lib.hid (HTD.out _ HG5.out)
          subst hle hlv
          clear HLE HLV hh HTD
          go_wp2_with fail
          refine (HI.out _).mono ?_; rintro e w6 ⟨rfl, rfl⟩
          go_wp2_with fail
          refine HT1.out.mono ?_; rintro e w7 ⟨rfl, hg7⟩
          have HG7 := Lib.hid (HG5.out.trans hg7)
          clear hg7 HT1 f0 f1 f2 f3
          go_wp2
          go_ret2
          exact ⟨rfl, HG7.out⟩
        · rw [decide_eq_false hh] at HI
          have hle : LE = 2 := by rw [HLE.out]; simp [hh]
          have hlv : LV = 0 := by rw [HLV.out, hle]; rfl
          subst hle hlv
          clear HLE HLV hh HTD
          go_wp2_with fail
          refine (HI.out _).mono ?_; rintro e w6 ⟨rfl, rfl⟩
          go_wp2
          go_ret2
          exact ⟨rfl, HG5.out⟩
      · have hZ2 : Z = 2 := by omega
        have hle : LE = 2 := by rw [HLE.out]; simp [hZ]
        have hlv : LV = 0 := by rw [HLV.out, hle]; rfl
        subst hle hlv hZ2
        clear HLE HLV HTD hZ
        go_wp2
        go_ret2
        exact ⟨rfl, HG5.out⟩
    · have hY2 : Y = 2 := by omega
      have hle : LE = 2 := by rw [HLE.out]; simp [hY]
      have hlv : LV = 0 := by rw [HLV.out, hle]; rfl
      subst hle hlv hY2
      clear HLE HLV HTD hY
      go_wp2
      go_ret2
      exact ⟨rfl, HG4.out⟩
  · have hle : LE = P := by rw [HLE.out, if_neg hP]
    have hlv : LV = 0 := by rw [HLV.out, if_neg (by rw [hle]; exact hP)]
    have hz : (P == 0) = false := by simp [hP]
    subst hle hlv
    clear HLE HLV HTD hP
    go_wp2
    go_ret2
    exact ⟨rfl, HG3.out⟩
end Go.Proofs.Ytgjlcmheipmmlaa
