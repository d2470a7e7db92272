/- Law 7: LexerPlaces. -/
import Derived.Test.YtfneikldnccepaaDoorLxW
set_option linter.unusedVariables false
set_option linter.unusedSimpArgs false
namespace Go.Proofs.YtfneikldnccepaaDoor
open Go.RowKit Go.Shelf
open Z
set_option maxRecDepth 100000 in
set_option maxHeartbeats 2000000 in
theorem l7_LexerPlaces {s : ByteArray} (hs : s.size ≤ maxLen) (w : World) : Calls Tryd.prog 8 #[.string s] w fun e w' => e = .returned (.bool true) ∧ Gr w w' := by
  have AW := Lib.hid (fun w => l7_awake w)
  unfold maxLen at hs
  by_cases h : 700 < s.size
  · go_enter Tryd.func8, Tryd.ntmps8
    go_wp2_with fail
    refine (AW.out _).mono ?_; rintro e w1 ⟨rfl, hg⟩
    have HG := Lib.hid hg
    clear hg
    go_wp2
    go_ret
    exact ⟨rfl, HG.out⟩
  · have hsz : s.data.toList.length = s.size := by simp
    have h7 : s.size ≤ 700 := by omega
    have A := Lib.hid (fun w => lx_Scan s w)
    have hlen := scanR_len s.data.toList
    have HE := Lib.hid (scan_err (l := s.data.toList))
    have HT := Lib.hid (scan_toks (l := s.data.toList))
    rw [hsz] at HE
    generalize scanR s.data.toList = V at *
    obtain ⟨L, at_, er⟩ := V
    simp only at A hlen HE HT
    by_cases h0 : er = 0
    · subst h0
      have T := Lib.hid (HT.out rfl)
      have hpos := T.out.pos
      obtain ⟨n, hn⟩ : ∃ n, L.length = n := ⟨_, rfl⟩
      have HN := Lib.hid hn
      clear HE HT
      go_enter Tryd.func8, Tryd.ntmps8
      go_wp2_with fail
      refine (A.out _).mono ?_; rintro e w1 ⟨v, rfl, hv, hg⟩
      obtain ⟨a, ca, rfl, ht, -, hcap, hmax, -⟩ := hv.shape
      have HTK := Lib.hid ht
      have HG1 := Lib.hid hg
      clear hv ht hg A
      rw [hn] at hlen hpos hcap ⊢
      clear hn
      unfold maxLen at hmax
      go_wp2
      go_loopw [40, 6] (fun i e wr => ∃ j : Nat, i = .int .i64 (j : Nat) ∧ j ≤ n ∧ e = .int .i64 (kAt s.data.toList j : Nat) ∧ Hid (Gr w1 wr)) (fun i _ _ => n - (intOf i).toNat)
      case atStart => exact ⟨0, rfl, Nat.zero_le _, rfl, Lib.hid (Gr.refl _)⟩
      case round =>
        obtain ⟨j, rfl, hj, rfl, HG⟩ := hrel
        by_cases hlt : j < n
        · have j1 : j < L.length := by rw [HN.out]; exact hlt
          obtain ⟨kd, tx, a0, e1, f1, f2, f3, f4, f5, f6, f7⟩ := place_facts T.out j1
          obtain ⟨p, o, rfl, c0, c1, c2⟩ := (HTK.out.gr HG.out).at j1
          rw [e1] at c0 c1 c2
          simp only at c0 c1 c2
          obtain ⟨k0, hk0⟩ : ∃ k0, kAt s.data.toList j = k0 := ⟨_, rfl⟩
          have HNX := Lib.hid f2
          obtain ⟨tl, htl⟩ : ∃ tl, tx.length = tl := ⟨_, rfl⟩
          rw [htl] at f2
          rw [hk0] at f1 f4
          rw [← f2] at f3 f5
          rw [hsz] at f3
          have hts : (str tx).size = tl := by rw [str_size]; exact htl
          have HTR := Lib.hid (fun w => Tryd.strings_Trim_one (s.extract k0 a0) 32 (by decide) w (by simp; omega))
          rw [cut_str (by omega), trim_blank f4] at HTR
          have HNX : Hid (kAt s.data.toList (j + 1) = a0 + tl) := Lib.hid (by rw [← f2])
          obtain ⟨q, z1, z2⟩ : ∃ q : Bool, (kd == 3) = q ∧ ((j : Int) == ((n - 1 : Nat) : Int)) = q := by
            by_cases hl : j + 1 = n
            · exact ⟨true, by rw [beq_iff_eq]; exact (f6 (by rw [HN.out]; exact hl)).1, by rw [beq_iff_eq]; omega⟩
            · exact ⟨false, by rw [beq_eq_false_iff_ne]; exact f7 (by rw [HN.out]; exact hl), by rw [beq_eq_false_iff_ne]; omega⟩
          have z3 : (q != q) = false := by simp
          have hw : IntKind.i64.wrap ((n : Int) - 1) = ((n - 1 : Nat) : Int) := by rw [IntKind.wrap_i64]; omega
          have hcut : (s.extract a0 (a0 + tl)).data.toList = cutL s.data.toList a0 (a0 + tl) := cut_str (by omega)
          have hqb := ba_beq (s.extract a0 (a0 + tl)) (str tx)
          rw [hcut, show (str tx).data.toList = tx from rfl] at hqb
          have hne := bne_not (s.extract a0 (a0 + tl)).toList (str tx).toList
          rw [hqb] at hne
          have hr7 : (s.extract a0 (a0 + tl)).size ≤ 700 := by simp; omega
          have HF5 := Lib.hid f5
          rw [← hcut] at HF5
          rw [← hcut] at hne
          obtain ⟨n8, hn8⟩ : ∃ n8, wr.heap.size = n8 := ⟨_, rfl⟩
          have HB := Lib.hid (TB.new wr kd (str tx) (a0 : Nat) 31)
          have HG2 := Lib.hid (HG.out.alloc (.cells #[.int .i64 kd, .string (str tx), .int .i64 (a0 : Nat)] 31))
          have HK0 := Lib.hid hk0
          rw [hn8] at HB
          have HN8 := Lib.hid hn8
          obtain ⟨b0, b1, b2, -, -, -⟩ := id HB.out
          have htx : (str tx).data.toList = tx := rfl
          rw [hk0]
          clear e1 f2 f4 f5 f6 f7 htl hqb hk0 hcut
          have HRX := Lib.hid (fun w => Tryd.strings_ToLower_ascii (s.extract a0 (a0 + tl)) w (by omega))
          generalize hhr : s.extract a0 (a0 + tl) = hr at *
          have HTX := Lib.hid htx
          clear htx
          generalize hst : str tx = ts at *
          clear hst
          by_cases hA : hr.data.toList = tx
          · have hrt : hr = ts := ba_ext (by rw [HTX.out]; exact hA)
            subst hrt
            have hq2 : (hr.toList != hr.toList) = false := by simp
            clear hA HF5 HRX HTX hne
            go_wp2_with fail
            refine (HTR.out _).mono ?_; rintro e w3 ⟨rfl, hd⟩
            have hg : Gr (wr.alloc (.cells #[.int .i64 kd, .string hr, .int .i64 (a0 : Nat)] 31)) w3 := by
              rcases hd with rfl | rfl
              · exact Gr.refl _
              · exact (Gr.refl _).drew
            have HB3 := Lib.hid (HB.out.gr hg)
            have HG3 := Lib.hid (Gr.trans HG2.out hg)
            clear hg hd HB HG2 b0 b1 b2 HTR
            obtain ⟨b0, b1, b2, -, -, -⟩ := id HB3.out
            go_wp2_with fail
            go_quiet (fail)
            rename_i nq
            have HB4 := Lib.hid (HB3.out.gr (below_drewN (Gr.refl w3) nq))
            have HG4 := Lib.hid (below_drewN HG3.out nq)
            clear HB3 HG3 b0 b1 b2
            obtain ⟨b0, b1, b2, -, -, -⟩ := id HB4.out
            go_wp2
            go_roundw
            case rel => exact ⟨j + 1, by go_num, by omega, by rw [HNX.out]; go_num, HG4⟩
            case measure => simp [intOf]; omega
          · -- ARM
            rw [decide_eq_false hA] at hne
            have hne : (hr.toList != ts.toList) = true := hne
            have hne3 : ¬ hr.toList = ts.toList := by simpa using hne
            obtain ⟨has, hlow⟩ := HF5.out.resolve_left hA
            have hts2 : (⟨tx.toArray⟩ : ByteArray) = ts := by rw [← HTX.out]
            have HLO : Hid (∀ w, Calls Tryd.prog 30 #[.string hr] w fun e w' => e = .returned (.string ts) ∧ Gr w w') := Lib.hid fun w => by
              have := HRX.out w (fun j b h => has b (List.mem_of_getElem? h))
              rw [hlow, hts2] at this
              exact this
            have hq2 : (ts.toList != ts.toList) = false := by simp
            clear hA HF5 HRX HTX has hlow hts2
            go_wp2_with fail
            refine (HTR.out _).mono ?_; rintro e w3 ⟨rfl, hd⟩
            have hg : Gr (wr.alloc (.cells #[.int .i64 kd, .string ts, .int .i64 (a0 : Nat)] 31)) w3 := by
              rcases hd with rfl | rfl
              · exact Gr.refl _
              · exact (Gr.refl _).drew
            have HB3 := Lib.hid (HB.out.gr hg)
            have HG3 := Lib.hid (Gr.trans HG2.out hg)
            clear hg hd HB HG2 b0 b1 b2 HTR
            obtain ⟨b0, b1, b2, -, -, -⟩ := id HB3.out
            go_wp2_with fail
            have HB4 := Lib.hid (HB3.out.gr (Gr.refl w3).drew)
            have HG4 := Lib.hid (Gr.trans HG3.out (Gr.refl w3).drew)
            have hS0 : (fun w' : World => w'.cell? ⟨n8, 0, none⟩ = some (.int .i64 kd) ∧ w'.cell? ⟨n8, 1, none⟩ = some (.string ts)) w3.drew := ⟨HB4.out.c0, HB4.out.c1⟩
            clear b0 b1 b2 HB3 HG3
            refine wp_region_held (S := fun w' : World => w'.cell? ⟨n8, 0, none⟩ = some (.int .i64 kd) ∧ w'.cell? ⟨n8, 1, none⟩ = some (.string ts)) (by kernel_rfl) ?_
            refine wpAnyH_take (i := 0) (v := .string hr) rfl (by kernel_rfl) (by kernel_rfl) (by kernel_rfl) (fun _ _ _ h => h) (Or.inl ⟨by rfl, ?_⟩) hS0 ?_
            · intro w hSw; obtain ⟨s0, s1⟩ := hSw; go_simp
            try simp only [Act.put, List.getElem_toArray, List.getElem_cons_succ, List.getElem_cons_zero, List.setIfInBounds_toArray, List.set_cons_zero, List.set_cons_succ]
            refine wpAnyH_take (i := 1) (v := .pointer (some ⟨n8, 1, none⟩)) rfl (by kernel_rfl) (by kernel_rfl) (by kernel_rfl) (fun _ _ _ h => h) (Or.inl ⟨by rfl, ?_⟩) hS0 ?_
            · intro w hSw; obtain ⟨s0, s1⟩ := hSw; go_simp
            try simp only [Act.put, List.getElem_toArray, List.getElem_cons_succ, List.getElem_cons_zero, List.setIfInBounds_toArray, List.set_cons_zero, List.set_cons_succ]
            refine wpAnyH_take (i := 2) (v := .string ts) rfl (by kernel_rfl) (by kernel_rfl) (by kernel_rfl) (fun _ _ _ h => h) (Or.inl ⟨by rfl, ?_⟩) hS0 ?_
            · intro w hSw; obtain ⟨s0, s1⟩ := hSw; go_simp
            try simp only [Act.put, List.getElem_toArray, List.getElem_cons_succ, List.getElem_cons_zero, List.setIfInBounds_toArray, List.set_cons_zero, List.set_cons_succ]
            refine wpAnyH_take (i := 3) (v := .bool true) rfl (by kernel_rfl) (by kernel_rfl) (by kernel_rfl) (fun _ _ _ h => h) (Or.inl ⟨by rfl, ?_⟩) hS0 ?_
            · intro w hSw; obtain ⟨s0, s1⟩ := hSw; go_simp; try exact hne3
            try simp only [Act.put, List.getElem_toArray, List.getElem_cons_succ, List.getElem_cons_zero, List.setIfInBounds_toArray, List.set_cons_zero, List.set_cons_succ]
            refine wpAnyH_take (i := 4) (v := .bool true) rfl (by kernel_rfl) (by kernel_rfl) (by kernel_rfl) (fun _ _ _ h => h) (Or.inl ⟨by rfl, ?_⟩) hS0 ?_
            · intro w hSw; obtain ⟨s0, s1⟩ := hSw; go_simp
            try simp only [Act.put, List.getElem_toArray, List.getElem_cons_succ, List.getElem_cons_zero, List.setIfInBounds_toArray, List.set_cons_zero, List.set_cons_succ]
            refine wpAnyH_take (i := 5) (v := .string hr) rfl (by kernel_rfl) (by kernel_rfl) (by kernel_rfl) (fun _ _ _ h => h) (Or.inl ⟨by rfl, ?_⟩) hS0 ?_
            · intro w hSw; obtain ⟨s0, s1⟩ := hSw; go_simp
            try simp only [Act.put, List.getElem_toArray, List.getElem_cons_succ, List.getElem_cons_zero, List.setIfInBounds_toArray, List.set_cons_zero, List.set_cons_succ]
            refine wpAnyH_take (i := 7) (v := .pointer (some ⟨n8, 1, none⟩)) rfl (by kernel_rfl) (by kernel_rfl) (by kernel_rfl) (fun _ _ _ h => h) (Or.inl ⟨by rfl, ?_⟩) hS0 ?_
            · intro w hSw; obtain ⟨s0, s1⟩ := hSw; go_simp
            try simp only [Act.put, List.getElem_toArray, List.getElem_cons_succ, List.getElem_cons_zero, List.setIfInBounds_toArray, List.set_cons_zero, List.set_cons_succ]
            refine wpAnyH_take (i := 8) (v := .string ts) rfl (by kernel_rfl) (by kernel_rfl) (by kernel_rfl) (fun _ _ _ h => h) (Or.inl ⟨by rfl, ?_⟩) hS0 ?_
            · intro w hSw; obtain ⟨s0, s1⟩ := hSw; go_simp
            try simp only [Act.put, List.getElem_toArray, List.getElem_cons_succ, List.getElem_cons_zero, List.setIfInBounds_toArray, List.set_cons_zero, List.set_cons_succ]
            refine wpAnyH_ready (rs := [6]) (by kernel_rfl) (by simp) (AllReadyH.cons rfl (fun K' hK' => ?_) AllReadyH.nil)
            go_simp
            refine (HLO.out _).mono ?_; rintro e w6 ⟨rfl, hg6⟩
            have hS3 : w6.cell? ⟨n8, 0, none⟩ = some (.int .i64 kd) ∧ w6.cell? ⟨n8, 1, none⟩ = some (.string ts) := ⟨cell_gr hg6 hS0.1, cell_gr hg6 hS0.2⟩
            have HB6 := Lib.hid (HB4.out.gr hg6)
            have HG6 := Lib.hid (Gr.trans HG4.out hg6)
            clear hg6
            refine hK'.out _ _ hS3 (fun hS1 => ?_)
            clear hK' K'
            try simp only [Act.put, List.getElem_toArray, List.getElem_cons_succ, List.getElem_cons_zero, List.setIfInBounds_toArray, List.set_cons_zero, List.set_cons_succ]
            refine wpAnyH_take (i := 9) (v := .bool false) rfl (by kernel_rfl) (by kernel_rfl) (by kernel_rfl) (fun _ _ _ h => h) (Or.inl ⟨by rfl, ?_⟩) hS1 ?_
            · intro w hSw; obtain ⟨s0, s1⟩ := hSw; go_simp
            try simp only [Act.put, List.getElem_toArray, List.getElem_cons_succ, List.getElem_cons_zero, List.setIfInBounds_toArray, List.set_cons_zero, List.set_cons_succ]
            refine wpAnyH_take (i := 10) (v := .bool false) rfl (by kernel_rfl) (by kernel_rfl) (by kernel_rfl) (fun _ _ _ h => h) (Or.inl ⟨by rfl, ?_⟩) hS1 ?_
            · intro w hSw; obtain ⟨s0, s1⟩ := hSw; go_simp
            try simp only [Act.put, List.getElem_toArray, List.getElem_cons_succ, List.getElem_cons_zero, List.setIfInBounds_toArray, List.set_cons_zero, List.set_cons_succ]
            refine wpAnyH_take (i := 11) (v := .bool false) rfl (by kernel_rfl) (by kernel_rfl) (by kernel_rfl) (fun _ _ _ h => h) (Or.inl ⟨by rfl, ?_⟩) hS1 ?_
            · intro w hSw; obtain ⟨s0, s1⟩ := hSw; go_simp
            try simp only [Act.put, List.getElem_toArray, List.getElem_cons_succ, List.getElem_cons_zero, List.setIfInBounds_toArray, List.set_cons_zero, List.set_cons_succ]
            refine wpAnyH_take (i := 12) (v := .pointer (some ⟨n8, 0, none⟩)) rfl (by kernel_rfl) (by kernel_rfl) (by kernel_rfl) (fun _ _ _ h => h) (Or.inl ⟨by rfl, ?_⟩) hS1 ?_
            · intro w hSw; obtain ⟨s0, s1⟩ := hSw; go_simp
            try simp only [Act.put, List.getElem_toArray, List.getElem_cons_succ, List.getElem_cons_zero, List.setIfInBounds_toArray, List.set_cons_zero, List.set_cons_succ]
            refine wpAnyH_take (i := 13) (v := .int .i64 kd) rfl (by kernel_rfl) (by kernel_rfl) (by kernel_rfl) (fun _ _ _ h => h) (Or.inl ⟨by rfl, ?_⟩) hS1 ?_
            · intro w hSw; obtain ⟨s0, s1⟩ := hSw; go_simp
            try simp only [Act.put, List.getElem_toArray, List.getElem_cons_succ, List.getElem_cons_zero, List.setIfInBounds_toArray, List.set_cons_zero, List.set_cons_succ]
            refine wpAnyH_take (i := 14) (v := .bool q) rfl (by kernel_rfl) (by kernel_rfl) (by kernel_rfl) (fun _ _ _ h => h) (Or.inl ⟨by rfl, ?_⟩) hS1 ?_
            · intro w hSw; obtain ⟨s0, s1⟩ := hSw; go_simp
            try simp only [Act.put, List.getElem_toArray, List.getElem_cons_succ, List.getElem_cons_zero, List.setIfInBounds_toArray, List.set_cons_zero, List.set_cons_succ]
            refine wpAnyH_take (i := 15) (v := .int .i64 (j : Nat)) rfl (by kernel_rfl) (by kernel_rfl) (by kernel_rfl) (fun _ _ _ h => h) (Or.inl ⟨by rfl, ?_⟩) hS1 ?_
            · intro w hSw; obtain ⟨s0, s1⟩ := hSw; go_simp
            try simp only [Act.put, List.getElem_toArray, List.getElem_cons_succ, List.getElem_cons_zero, List.setIfInBounds_toArray, List.set_cons_zero, List.set_cons_succ]
            refine wpAnyH_take (i := 16) (v := .slice (some ⟨p, o, none⟩) n ca) rfl (by kernel_rfl) (by kernel_rfl) (by kernel_rfl) (fun _ _ _ h => h) (Or.inl ⟨by rfl, ?_⟩) hS1 ?_
            · intro w hSw; obtain ⟨s0, s1⟩ := hSw; go_simp
            try simp only [Act.put, List.getElem_toArray, List.getElem_cons_succ, List.getElem_cons_zero, List.setIfInBounds_toArray, List.set_cons_zero, List.set_cons_succ]
            refine wpAnyH_take (i := 17) (v := .int .i64 (n : Nat)) rfl (by kernel_rfl) (by kernel_rfl) (by kernel_rfl) (fun _ _ _ h => h) (Or.inl ⟨by rfl, ?_⟩) hS1 ?_
            · intro w hSw; obtain ⟨s0, s1⟩ := hSw; go_simp
            try simp only [Act.put, List.getElem_toArray, List.getElem_cons_succ, List.getElem_cons_zero, List.setIfInBounds_toArray, List.set_cons_zero, List.set_cons_succ]
            refine wpAnyH_take (i := 18) (v := .int .i64 ((n - 1 : Nat) : Int)) rfl (by kernel_rfl) (by kernel_rfl) (by kernel_rfl) (fun _ _ _ h => h) (Or.inl ⟨by rfl, ?_⟩) hS1 ?_
            · intro w hSw; obtain ⟨s0, s1⟩ := hSw; go_simp
            try simp only [Act.put, List.getElem_toArray, List.getElem_cons_succ, List.getElem_cons_zero, List.setIfInBounds_toArray, List.set_cons_zero, List.set_cons_succ]
            refine wpAnyH_take (i := 19) (v := .bool q) rfl (by kernel_rfl) (by kernel_rfl) (by kernel_rfl) (fun _ _ _ h => h) (Or.inl ⟨by rfl, ?_⟩) hS1 ?_
            · intro w hSw; obtain ⟨s0, s1⟩ := hSw; go_simp
            try simp only [Act.put, List.getElem_toArray, List.getElem_cons_succ, List.getElem_cons_zero, List.setIfInBounds_toArray, List.set_cons_zero, List.set_cons_succ]
            refine wpAnyH_take (i := 20) (v := .bool false) rfl (by kernel_rfl) (by kernel_rfl) (by kernel_rfl) (fun _ _ _ h => h) (Or.inl ⟨by rfl, ?_⟩) hS1 ?_
            · intro w hSw; obtain ⟨s0, s1⟩ := hSw; go_simp
            try simp only [Act.put, List.getElem_toArray, List.getElem_cons_succ, List.getElem_cons_zero, List.setIfInBounds_toArray, List.set_cons_zero, List.set_cons_succ]
            refine wpAnyH_take (i := 21) (v := .bool false) rfl (by kernel_rfl) (by kernel_rfl) (by kernel_rfl) (fun _ _ _ h => h) (Or.inl ⟨by rfl, ?_⟩) hS1 ?_
            · intro w hSw; obtain ⟨s0, s1⟩ := hSw; go_simp
            try simp only [Act.put, List.getElem_toArray, List.getElem_cons_succ, List.getElem_cons_zero, List.setIfInBounds_toArray, List.set_cons_zero, List.set_cons_succ]
            refine wpAnyH_done (by kernel_rfl) ?_ _
            obtain ⟨b0, b1, b2, -, -, -⟩ := id HB6.out
            clear hS0 hS1 hS3
            go_wp2
            go_roundw
            case rel => exact ⟨j + 1, by go_num, by omega, by rw [HNX.out]; go_num, HG6⟩
            case measure => simp [intOf]; omega
          -- END
        · have hjn : j = n := by omega
          have hn1 : n - 1 < L.length := by rw [HN.out]; omega
          obtain ⟨kd, tx, at0, e1, f1, f2, f3, f4, f5, f6, f7⟩ := place_facts T.out hn1
          have hla := (f6 (by rw [HN.out]; omega)).2
          obtain ⟨p, o, rfl, c0, c1, c2⟩ := (HTK.out.gr HG.out).at hn1
          rw [e1] at c0 c1 c2
          simp only at c0 c1 c2
          rw [hsz] at hla
          subst hla
          have hz : (((n : Nat) : Int) == 0) = false := by rw [beq_eq_false_iff_ne]; omega
          have hw : IntKind.i64.wrap ((n : Int) - 1) = ((n - 1 : Nat) : Int) := by rw [IntKind.wrap_i64]; omega
          have hq : ((s.size : Int) == (s.size : Int)) = true := by simp
          have HGG := Lib.hid (Gr.trans HG1.out HG.out)
          clear e1 f1 f2 f3 f4 f5 f6 f7 c0 c1 hlt
          go_wp2_with fail
          refine (AW.out _).mono ?_; rintro e w3 ⟨rfl, hg⟩
          have HG3 := Lib.hid (Gr.trans HGG.out hg)
          clear hg
          go_wp2
          go_ret
          exact ⟨rfl, HG3.out⟩
    · obtain ⟨k1, k2, k3⟩ := HE.out h0
      subst k1
      have hne : (er != 0) = true := by rw [bne_iff_ne]; exact h0
      clear HE HT
      go_enter Tryd.func8, Tryd.ntmps8
      go_wp2_with fail
      refine (A.out _).mono ?_; rintro e w1 ⟨v, rfl, hv, hg⟩
      obtain ⟨a, ca, rfl, ht, -⟩ := hv.shape
      have HG1 := Lib.hid hg
      clear hv ht hg A
      go_wp2_with fail
      refine (AW.out _).mono ?_; rintro e w3 ⟨rfl, hg⟩
      have HG3 := Lib.hid (Gr.trans HG1.out hg)
      clear hg
      go_wp2
      go_ret
      exact ⟨rfl, HG3.out⟩
end Go.Proofs.YtfneikldnccepaaDoor
