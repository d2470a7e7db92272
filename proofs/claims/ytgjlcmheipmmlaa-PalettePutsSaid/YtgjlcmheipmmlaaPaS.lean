/- Law 15: Missing of the reference; lists that are the same; Few. -/
import Derived.Test.YtgjlcmheipmmlaaPaR
set_option linter.unusedVariables false
set_option linter.unusedSimpArgs false
namespace Go.Proofs.Ytgjlcmheipmmlaa
open Go.RowKit
open Z
set_option maxRecDepth 100000 in
set_option maxHeartbeats 4000000 in
theorem r15_Missing {al : Option Addr} {l : List Pl} {cl : Nat} {ae : Option Addr} {es : List En} {ce : Nat} (w : World) (hr : RdP w al l) (hlen : l.length ≤ 9223372036854775807) (hin : ∀ g ∈ l, g.2.length ≤ 9223372036854775807) (he : Rd shE w ae es) (hlen2 : es.length ≤ 9223372036854775807) :
    Calls Try.prog 33 #[.slice al l.length cl, .slice ae es.length ce] w fun e w' => (∃ v, e = .returned (.tuple #[v, .int .i64 (bothR l es)]) ∧ Own shR w.heap.size w' v (missL l es)) ∧ Gr w w' := by
  have HC1 := Lib.hid (r15_Both (cl := cl) (ce := ce) w hr hlen hin he hlen2)
  by_cases h0 : bothR l es = 0
  · obtain ⟨hp0, he0⟩ := bothR_zero.1 h0
    have h4 := (entR_zero.1 he0).1
    have HE := Lib.hid he
    have HH := Lib.hid (fun (x : En) W (hW : Gr w W) => r15_Hue (cap := cl) x.2.2.1 x.1 x.2.1 W (hr.gr hW) hlen hin)
    have HUL := Lib.hid (show missL l es = _ from if_pos h0)
    rw [HUL.out, h0]
    rw [h0] at HC1
    obtain ⟨n, hn⟩ : ∃ n, n = es.length := ⟨_, rfl⟩
    have HN := Lib.hid hn
    rw [← hn] at h4 HC1 ⊢
    clear hr hlen hin he hlen2 h0 hp0 he0 hn HUL
    generalize l.length = ml at *
    go_enter Try.func33, Try.ntmps33
    go_wp2_with fail
    refine HC1.out.mono ?_; rintro e w1 ⟨rfl, hg1⟩
    have HG1 := Lib.hid hg1
    clear hg1 HC1
    go_wp2
    go_loopw [7, 8] (fun ow i wr => ∃ j : Nat, i = .int .i64 j ∧ j ≤ n ∧ Hid (Own shR w.heap.size wr ow ((((es.take j).filter fun x => decide (0 < x.2.2.1)).filter fun x => (hueL l x.2.2.1 x.1 x.2.1).isNone).map (fun x => (x.1, x.2.1)))) ∧ Hid (Gr w wr)) (fun _ i _ => n - (intOf i).toNat)
    case atStart => exact ⟨0, rfl, Nat.zero_le _, Lib.hid (by simpa using Own.nil shR _ _), HG1⟩
    case round =>
      obtain ⟨j, rfl, hj, HO, HG⟩ := hrel
      by_cases hlt : j < n
      · have hjl : j < es.length := by rw [← HN.out]; exact hlt
        obtain ⟨b, o, rfl, c0, c1, c2, c3⟩ := en_cells (HE.out.gr HG.out) hjl
        have HTK := Lib.hid (show (((es.take (j + 1)).filter fun x => decide (0 < x.2.2.1)).filter fun x => (hueL l x.2.2.1 x.1 x.2.1).isNone).map (fun x => (x.1, x.2.1)) = (((es.take j).filter fun x => decide (0 < x.2.2.1)).filter fun x => (hueL l x.2.2.1 x.1 x.2.1).isNone).map (fun x => (x.1, x.2.1)) ++ (if 0 < es[j].2.2.1 ∧ (hueL l es[j].2.2.1 es[j].1 es[j].2.1).isNone = true then [(es[j].1, es[j].2.1)] else []) by
          rw [List.take_succ_eq_append_getElem hjl, List.filter_append, List.filter_append, List.map_append]
          congr 1
          rw [List.filter_cons]
          by_cases h1 : 0 < es[j].2.2.1
          · rw [if_pos (by simpa using h1), List.filter_nil, List.filter_cons]
            by_cases h2 : (hueL l es[j].2.2.1 es[j].1 es[j].2.1).isNone = true
            · rw [if_pos h2, if_pos ⟨h1, h2⟩]; rfl
            · rw [if_neg h2, if_neg (fun h => h2 h.2)]; rfl
          · rw [if_neg (by simpa using h1), if_neg (fun h => h1 h.1)]; rfl)
        have HLL := Lib.hid (show ((((es.take j).filter fun x => decide (0 < x.2.2.1)).filter fun x => (hueL l x.2.2.1 x.1 x.2.1).isNone).map (fun x => (x.1, x.2.1))).length ≤ 4096 by
          rw [List.length_map]
          exact Nat.le_trans (List.length_filter_le _ _) (Nat.le_trans (List.length_filter_le _ _) (by rw [List.length_take]; omega)))
        have HH1 := Lib.hid (HH.out es[j])
        generalize es[j] = x at *
        generalize hueL l x.2.2.1 x.1 x.2.1 = V at *
        generalize (((es.take j).filter fun x => decide (0 < x.2.2.1)).filter fun x => (hueL l x.2.2.1 x.1 x.2.1).isNone).map (fun x => (x.1, x.2.1)) = xs at *
        obtain ⟨xc, xa, xq, xv⟩ := x
        simp only at c0 c1 c2 c3 HH1 HTK
        have hxl := HLL.out
        have HH2 := Lib.hid (fun W (hW : Gr wr W) => HH1.out W (HG.out.trans hW))
        clear HH1
        go_wp2_with fail
        have hS0 : (fun w' : World => Gr wr w') wr.drew := (Gr.refl _).drew
        refine wp_region_held (S := fun w' : World => Gr wr w') (by kernel_rfl) ?_
        change wpAnyH _ _ _ _ _ _ _ _ wr.drew
        refine wpAnyH_take (i := 0) (v := .slice al ml cl) rfl (by kernel_rfl) (by kernel_rfl) (by kernel_rfl) (fun _ _ _ h => h) (Or.inl ⟨by rfl, ?_⟩) hS0 ?_
        · intro w hSw; go_simp
        try simp only [Act.put, List.getElem_toArray, List.getElem_cons_succ, List.getElem_cons_zero, List.setIfInBounds_toArray, List.set_cons_zero, List.set_cons_succ]
        refine wpAnyH_take (i := 1) (v := .slice (some ⟨b, o, none⟩) n ce) rfl (by kernel_rfl) (by kernel_rfl) (by kernel_rfl) (fun _ _ _ h => h) (Or.inl ⟨by rfl, ?_⟩) hS0 ?_
        · intro w hSw; go_simp
        try simp only [Act.put, List.getElem_toArray, List.getElem_cons_succ, List.getElem_cons_zero, List.setIfInBounds_toArray, List.set_cons_zero, List.set_cons_succ]
        refine wpAnyH_take (i := 2) (v := .int .i64 j) rfl (by kernel_rfl) (by kernel_rfl) (by kernel_rfl) (fun _ _ _ h => h) (Or.inl ⟨by rfl, ?_⟩) hS0 ?_
        · intro w hSw; go_simp
        try simp only [Act.put, List.getElem_toArray, List.getElem_cons_succ, List.getElem_cons_zero, List.setIfInBounds_toArray, List.set_cons_zero, List.set_cons_succ]
        refine wpAnyH_take (i := 3) (v := .pointer (some ⟨b, o + j * 4, none⟩)) rfl (by kernel_rfl) (by kernel_rfl) (by kernel_rfl) (fun _ _ _ h => h) (Or.inl ⟨by rfl, ?_⟩) hS0 ?_
        · intro w hSw; go_simp
        try simp only [Act.put, List.getElem_toArray, List.getElem_cons_succ, List.getElem_cons_zero, List.setIfInBounds_toArray, List.set_cons_zero, List.set_cons_succ]
        refine wpAnyH_take (i := 4) (v := .pointer (some ⟨b, o + j * 4 + 2, none⟩)) rfl (by kernel_rfl) (by kernel_rfl) (by kernel_rfl) (fun _ _ _ h => h) (Or.inl ⟨by rfl, ?_⟩) hS0 ?_
        · intro w hSw; go_simp
        try simp only [Act.put, List.getElem_toArray, List.getElem_cons_succ, List.getElem_cons_zero, List.setIfInBounds_toArray, List.set_cons_zero, List.set_cons_succ]
        refine wpAnyH_take (i := 5) (v := .pointer (some ⟨b, o + j * 4 + 2, none⟩)) rfl (by kernel_rfl) (by kernel_rfl) (by kernel_rfl) (fun _ _ _ h => h) (Or.inl ⟨by rfl, ?_⟩) hS0 ?_
        · intro w hSw; go_simp
        try simp only [Act.put, List.getElem_toArray, List.getElem_cons_succ, List.getElem_cons_zero, List.setIfInBounds_toArray, List.set_cons_zero, List.set_cons_succ]
        refine wpAnyH_take (i := 6) (v := .int .i64 xq) rfl (by kernel_rfl) (by kernel_rfl) (by kernel_rfl) (fun _ _ _ h => h) (Or.inl ⟨by rfl, ?_⟩) hS0 ?_
        · intro w hSw; have s0 := gr_cell hSw c2; go_simp
        try simp only [Act.put, List.getElem_toArray, List.getElem_cons_succ, List.getElem_cons_zero, List.setIfInBounds_toArray, List.set_cons_zero, List.set_cons_succ]
        refine wpAnyH_take (i := 7) (v := .slice (some ⟨b, o, none⟩) n ce) rfl (by kernel_rfl) (by kernel_rfl) (by kernel_rfl) (fun _ _ _ h => h) (Or.inl ⟨by rfl, ?_⟩) hS0 ?_
        · intro w hSw; go_simp
        try simp only [Act.put, List.getElem_toArray, List.getElem_cons_succ, List.getElem_cons_zero, List.setIfInBounds_toArray, List.set_cons_zero, List.set_cons_succ]
        refine wpAnyH_take (i := 8) (v := .int .i64 j) rfl (by kernel_rfl) (by kernel_rfl) (by kernel_rfl) (fun _ _ _ h => h) (Or.inl ⟨by rfl, ?_⟩) hS0 ?_
        · intro w hSw; go_simp
        try simp only [Act.put, List.getElem_toArray, List.getElem_cons_succ, List.getElem_cons_zero, List.setIfInBounds_toArray, List.set_cons_zero, List.set_cons_succ]
        refine wpAnyH_take (i := 9) (v := .pointer (some ⟨b, o + j * 4, none⟩)) rfl (by kernel_rfl) (by kernel_rfl) (by kernel_rfl) (fun _ _ _ h => h) (Or.inl ⟨by rfl, ?_⟩) hS0 ?_
        · intro w hSw; go_simp
        try simp only [Act.put, List.getElem_toArray, List.getElem_cons_succ, List.getElem_cons_zero, List.setIfInBounds_toArray, List.set_cons_zero, List.set_cons_succ]
        refine wpAnyH_take (i := 10) (v := .pointer (some ⟨b, o + j * 4, none⟩)) rfl (by kernel_rfl) (by kernel_rfl) (by kernel_rfl) (fun _ _ _ h => h) (Or.inl ⟨by rfl, ?_⟩) hS0 ?_
        · intro w hSw; go_simp
        try simp only [Act.put, List.getElem_toArray, List.getElem_cons_succ, List.getElem_cons_zero, List.setIfInBounds_toArray, List.set_cons_zero, List.set_cons_succ]
        refine wpAnyH_take (i := 11) (v := .agg #[.int .i64 xc, .int .i64 xa]) rfl (by kernel_rfl) (by kernel_rfl) (by kernel_rfl) (fun _ _ _ h => h) (Or.inl ⟨by rfl, ?_⟩) hS0 ?_
        · intro w hSw; have s0 := gr_cell hSw c0; have s1 := gr_cell hSw c1; go_simp
        try simp only [Act.put, List.getElem_toArray, List.getElem_cons_succ, List.getElem_cons_zero, List.setIfInBounds_toArray, List.set_cons_zero, List.set_cons_succ]
        refine wpAnyH_ready (rs := [12]) (by kernel_rfl) (by simp) (AllReadyH.cons rfl (fun K' hK' => ?_) AllReadyH.nil)
        go_simp
        refine (HH2.out _ hS0).mono ?_; rintro e w5 ⟨rfl, hg5⟩
        refine hK'.out _ _ (hS0.trans hg5) (fun hS1 => ?_)
        clear hK' K'
        try simp only [Act.put, List.getElem_toArray, List.getElem_cons_succ, List.getElem_cons_zero, List.setIfInBounds_toArray, List.set_cons_zero, List.set_cons_succ]
        refine wpAnyH_take (i := 13) (v := .tuple #[.int .i64 (V.getD 0), .bool V.isSome]) rfl (by kernel_rfl) (by kernel_rfl) (by kernel_rfl) (fun _ _ _ h => h) (Or.inl ⟨by rfl, ?_⟩) hS1 ?_
        · intro w hSw; go_simp
        try simp only [Act.put, List.getElem_toArray, List.getElem_cons_succ, List.getElem_cons_zero, List.setIfInBounds_toArray, List.set_cons_zero, List.set_cons_succ]
        refine wpAnyH_take (i := 14) (v := .int .i64 (V.getD 0)) rfl (by kernel_rfl) (by kernel_rfl) (by kernel_rfl) (fun _ _ _ h => h) (Or.inl ⟨by rfl, ?_⟩) hS1 ?_
        · intro w hSw; go_simp
        try simp only [Act.put, List.getElem_toArray, List.getElem_cons_succ, List.getElem_cons_zero, List.setIfInBounds_toArray, List.set_cons_zero, List.set_cons_succ]
        refine wpAnyH_take (i := 15) (v := .bool V.isSome) rfl (by kernel_rfl) (by kernel_rfl) (by kernel_rfl) (fun _ _ _ h => h) (Or.inl ⟨by rfl, ?_⟩) hS1 ?_
        · intro w hSw; go_simp
        try simp only [Act.put, List.getElem_toArray, List.getElem_cons_succ, List.getElem_cons_zero, List.setIfInBounds_toArray, List.set_cons_zero, List.set_cons_succ]
        refine wpAnyH_take (i := 16) (v := .int .i64 (V.getD 0)) rfl (by kernel_rfl) (by kernel_rfl) (by kernel_rfl) (fun _ _ _ h => h) (Or.inl ⟨by rfl, ?_⟩) hS1 ?_
        · intro w hSw; go_simp
        try simp only [Act.put, List.getElem_toArray, List.getElem_cons_succ, List.getElem_cons_zero, List.setIfInBounds_toArray, List.set_cons_zero, List.set_cons_succ]
        refine wpAnyH_take (i := 17) (v := .bool V.isSome) rfl (by kernel_rfl) (by kernel_rfl) (by kernel_rfl) (fun _ _ _ h => h) (Or.inl ⟨by rfl, ?_⟩) hS1 ?_
        · intro w hSw; go_simp
        try simp only [Act.put, List.getElem_toArray, List.getElem_cons_succ, List.getElem_cons_zero, List.setIfInBounds_toArray, List.set_cons_zero, List.set_cons_succ]
        refine wpAnyH_done (by kernel_rfl) ?_ _
        have HG5 := Lib.hid (HG.out.trans hS1)
        have HO5 := Lib.hid (HO.out.gr hS1)
        have d0 := gr_cell hS1 c0
        have d1 := gr_cell hS1 c1
        have d2 := gr_cell hS1 c2
        clear hg5 hS1 HH2 HG HO c0 c1 c2 c3
        by_cases hq : 0 < xq
        · cases V with
          | none =>
            have HT2 := Lib.hid (show _ = xs ++ [(xc, xa)] from HTK.out.trans (by rw [if_pos ⟨hq, rfl⟩]))
            clear HTK
            go_wp2_with (at_builtin; refine push_s shR rfl _ _ rfl _ xs rfl HO5.out HG5.out (xc, xa) _ rfl rfl (by omega) ?_; rintro v6 w6 HO6 hg6; have HG6 := Lib.hid hg6; clear hg6)
            go_roundw
            case rel => exact ⟨j + 1, by go_num, by omega, Lib.hid (by rw [HT2.out]; exact HO6.out), HG6⟩
            case measure => simp [intOf]; omega
          | some v =>
            have HT2 := Lib.hid (show _ = xs from HTK.out.trans (by rw [if_neg (fun h => by cases h.2), List.append_nil]))
            clear HTK
            go_wp2
            go_roundw
            case rel => exact ⟨j + 1, by go_num, by omega, Lib.hid (by rw [HT2.out]; exact HO5.out), HG5⟩
            case measure => simp [intOf]; omega
        · have HT2 := Lib.hid (show _ = xs from HTK.out.trans (by rw [if_neg (fun h => hq h.1), List.append_nil]))
          clear HTK
          go_wp2
          go_roundw
          case rel => exact ⟨j + 1, by go_num, by omega, Lib.hid (by rw [HT2.out]; exact HO5.out), HG5⟩
          case measure => simp [intOf]; omega
      · have hjn : j = es.length := by rw [← HN.out]; omega
        have ho := HO.out
        rw [hjn, List.take_length] at ho
        have HOe := Lib.hid ho
        clear HO ho hjn
        go_wp2
        go_ret2
        exact ⟨⟨_, rfl, HOe.out⟩, HG.out⟩
  · have hul : missL l es = [] := if_neg h0
    have hz : (bothR l es == 0) = false := by simp [h0]
    rw [hul]
    clear hr hlen hin he hlen2 h0 hul
    generalize bothR l es = E at *
    generalize l.length = ml at *
    generalize es.length = me at *
    go_enter Try.func33, Try.ntmps33
    go_wp2_with fail
    refine HC1.out.mono ?_; rintro e w1 ⟨rfl, hg1⟩
    have HG1 := Lib.hid hg1
    clear hg1 HC1
    go_wp2
    go_ret2
    exact ⟨⟨_, rfl, Own.nil _ _ _⟩, HG1.out⟩
set_option maxRecDepth 100000 in
set_option maxHeartbeats 2000000 in
theorem r15_SameEntries {a b : Option Addr} {L M : List En} {ca cb : Nat} (w : World) (hL : Rd shE w a L) (hM : Rd shE w b M) (hl : L.length ≤ 9223372036854775807) (hm : M.length ≤ 9223372036854775807) :
    Calls Try.prog 35 #[.slice a L.length ca, .slice b M.length cb] w fun e w' => e = .returned (.bool (decide (L = M))) ∧ Gr w w' := by
  have HL := Lib.hid hL
  have HM := Lib.hid hM
  clear hL hM
  by_cases hlm : L.length = M.length
  · obtain ⟨n, hn⟩ : ∃ n, L.length = n := ⟨_, rfl⟩
    have HN := Lib.hid hn
    have HN2 := Lib.hid (hlm.symm.trans hn)
    rw [hn] at hl
    rw [hn, hlm.symm.trans hn]
    clear hlm hn hm
    obtain ⟨V, hV⟩ : ∃ V, decide (L = M) = V := ⟨_, rfl⟩
    rw [hV]
    have HV := Lib.hid hV
    clear hV
    go_enter Try.func35, Try.ntmps35
    go_wp2
    go_loopw [5] (fun i wr => ∃ j : Nat, i = .int .i64 j ∧ j ≤ n ∧ Hid (∀ k (h : k < L.length) (h' : k < M.length), k < j → L[k] = M[k]) ∧ Hid (Gr w wr)) (fun i _ => n - (intOf i).toNat)
    case atStart => exact ⟨0, rfl, Nat.zero_le _, Lib.hid (fun k _ _ h => absurd h (by omega)), Lib.hid (Gr.refl w)⟩
    case round =>
      obtain ⟨j, rfl, hj, HP, HG⟩ := hrel
      by_cases hlt : j < n
      · have j1 : j < L.length := by rw [HN.out]; exact hlt
        have j2 : j < M.length := by rw [HN2.out]; exact hlt
        obtain ⟨p, o, rfl, c0, c1, c2, c3⟩ := en_cells (HL.out.gr HG.out) j1
        obtain ⟨q, r, rfl, d0, d1, d2, d3⟩ := en_cells (HM.out.gr HG.out) j2
        by_cases he : L[j] = M[j]
        · have HP3 : Hid (∀ k (h : k < L.length) (h' : k < M.length), k < j + 1 → L[k] = M[k]) := Lib.hid fun k h h' hkj => by
            by_cases e : k = j
            · subst e; exact he
            · exact HP.out k h h' (by omega)
          rw [← he] at d0 d1 d2 d3
          generalize L[j] = x at *
          clear he HP
          go_wp2_with fail
          have hS0 : (fun w' : World => Gr wr w') wr.drew := (Gr.refl _).drew
          refine wp_region_held (S := fun w' : World => Gr wr w') (by kernel_rfl) ?_
          change wpAnyH _ _ _ _ _ _ _ _ wr.drew
          refine wpAnyH_take (i := 0) (v := .slice (some ⟨p, o, none⟩) n ca) rfl (by kernel_rfl) (by kernel_rfl) (by kernel_rfl) (fun _ _ _ h => h) (Or.inl ⟨by rfl, ?_⟩) hS0 ?_
          · intro w hSw; go_simp
          try simp only [Act.put, List.getElem_toArray, List.getElem_cons_succ, List.getElem_cons_zero, List.setIfInBounds_toArray, List.set_cons_zero, List.set_cons_succ]
          refine wpAnyH_take (i := 1) (v := .int .i64 j) rfl (by kernel_rfl) (by kernel_rfl) (by kernel_rfl) (fun _ _ _ h => h) (Or.inl ⟨by rfl, ?_⟩) hS0 ?_
          · intro w hSw; go_simp
          try simp only [Act.put, List.getElem_toArray, List.getElem_cons_succ, List.getElem_cons_zero, List.setIfInBounds_toArray, List.set_cons_zero, List.set_cons_succ]
          refine wpAnyH_take (i := 2) (v := .pointer (some ⟨p, o + j * 4, none⟩)) rfl (by kernel_rfl) (by kernel_rfl) (by kernel_rfl) (fun _ _ _ h => h) (Or.inl ⟨by rfl, ?_⟩) hS0 ?_
          · intro w hSw; go_simp
          try simp only [Act.put, List.getElem_toArray, List.getElem_cons_succ, List.getElem_cons_zero, List.setIfInBounds_toArray, List.set_cons_zero, List.set_cons_succ]
          refine wpAnyH_take (i := 3) (v := .agg #[.int .i64 x.1, .int .i64 x.2.1, .int .i64 x.2.2.1, .int .i64 x.2.2.2]) rfl (by kernel_rfl) (by kernel_rfl) (by kernel_rfl) (fun _ _ _ h => h) (Or.inl ⟨by rfl, ?_⟩) hS0 ?_
          · intro w hSw; have s0 := gr_cell hSw c0; have s1 := gr_cell hSw c1; have s2 := gr_cell hSw c2; have s3 := gr_cell hSw c3; go_simp
          try simp only [Act.put, List.getElem_toArray, List.getElem_cons_succ, List.getElem_cons_zero, List.setIfInBounds_toArray, List.set_cons_zero, List.set_cons_succ]
          refine wpAnyH_take (i := 4) (v := .slice (some ⟨q, r, none⟩) n cb) rfl (by kernel_rfl) (by kernel_rfl) (by kernel_rfl) (fun _ _ _ h => h) (Or.inl ⟨by rfl, ?_⟩) hS0 ?_
          · intro w hSw; go_simp
          try simp only [Act.put, List.getElem_toArray, List.getElem_cons_succ, List.getElem_cons_zero, List.setIfInBounds_toArray, List.set_cons_zero, List.set_cons_succ]
          refine wpAnyH_take (i := 5) (v := .int .i64 j) rfl (by kernel_rfl) (by kernel_rfl) (by kernel_rfl) (fun _ _ _ h => h) (Or.inl ⟨by rfl, ?_⟩) hS0 ?_
          · intro w hSw; go_simp
          try simp only [Act.put, List.getElem_toArray, List.getElem_cons_succ, List.getElem_cons_zero, List.setIfInBounds_toArray, List.set_cons_zero, List.set_cons_succ]
          refine wpAnyH_take (i := 6) (v := .pointer (some ⟨q, r + j * 4, none⟩)) rfl (by kernel_rfl) (by kernel_rfl) (by kernel_rfl) (fun _ _ _ h => h) (Or.inl ⟨by rfl, ?_⟩) hS0 ?_
          · intro w hSw; go_simp
          try simp only [Act.put, List.getElem_toArray, List.getElem_cons_succ, List.getElem_cons_zero, List.setIfInBounds_toArray, List.set_cons_zero, List.set_cons_succ]
          refine wpAnyH_take (i := 7) (v := .agg #[.int .i64 x.1, .int .i64 x.2.1, .int .i64 x.2.2.1, .int .i64 x.2.2.2]) rfl (by kernel_rfl) (by kernel_rfl) (by kernel_rfl) (fun _ _ _ h => h) (Or.inl ⟨by rfl, ?_⟩) hS0 ?_
          · intro w hSw; have s0 := gr_cell hSw d0; have s1 := gr_cell hSw d1; have s2 := gr_cell hSw d2; have s3 := gr_cell hSw d3; go_simp
          try simp only [Act.put, List.getElem_toArray, List.getElem_cons_succ, List.getElem_cons_zero, List.setIfInBounds_toArray, List.set_cons_zero, List.set_cons_succ]
          refine wpAnyH_take (i := 8) (v := .bool false) rfl (by kernel_rfl) (by kernel_rfl) (by kernel_rfl) (fun _ _ _ h => h) (Or.inl ⟨by rfl, ?_⟩) hS0 ?_
          · intro w hSw; go_simp
          try simp only [Act.put, List.getElem_toArray, List.getElem_cons_succ, List.getElem_cons_zero, List.setIfInBounds_toArray, List.set_cons_zero, List.set_cons_succ]
          refine wpAnyH_done (by kernel_rfl) ?_ _
          have HG3 := Lib.hid (HG.out.trans hS0)
          go_wp2
          go_roundw
          case rel => exact ⟨j + 1, by go_num, by omega, HP3, HG3⟩
          case measure => simp [intOf]; omega
        · have hv : V = false := by rw [← HV.out, decide_eq_false_iff_not]; rintro rfl; exact he rfl
          subst hv
          generalize L[j] = x at *
          generalize M[j] = y at *
          clear HP HV
          have hne : ¬ (x.1 = y.1 ∧ x.2.1 = y.2.1 ∧ x.2.2.1 = y.2.2.1 ∧ x.2.2.2 = y.2.2.2) := fun h => he (by
            obtain ⟨x0, x⟩ := x; obtain ⟨y0, y⟩ := y; obtain ⟨x1, x⟩ := x; obtain ⟨y1, y⟩ := y; obtain ⟨x2, x⟩ := x; obtain ⟨y2, y⟩ := y
            simp only at h
            simp [h])
          clear he
          go_wp2_with fail
          have hS0 : (fun w' : World => Gr wr w') wr.drew := (Gr.refl _).drew
          refine wp_region_held (S := fun w' : World => Gr wr w') (by kernel_rfl) ?_
          change wpAnyH _ _ _ _ _ _ _ _ wr.drew
          refine wpAnyH_take (i := 0) (v := .slice (some ⟨p, o, none⟩) n ca) rfl (by kernel_rfl) (by kernel_rfl) (by kernel_rfl) (fun _ _ _ h => h) (Or.inl ⟨by rfl, ?_⟩) hS0 ?_
          · intro w hSw; go_simp
          try simp only [Act.put, List.getElem_toArray, List.getElem_cons_succ, List.getElem_cons_zero, List.setIfInBounds_toArray, List.set_cons_zero, List.set_cons_succ]
          refine wpAnyH_take (i := 1) (v := .int .i64 j) rfl (by kernel_rfl) (by kernel_rfl) (by kernel_rfl) (fun _ _ _ h => h) (Or.inl ⟨by rfl, ?_⟩) hS0 ?_
          · intro w hSw; go_simp
          try simp only [Act.put, List.getElem_toArray, List.getElem_cons_succ, List.getElem_cons_zero, List.setIfInBounds_toArray, List.set_cons_zero, List.set_cons_succ]
          refine wpAnyH_take (i := 2) (v := .pointer (some ⟨p, o + j * 4, none⟩)) rfl (by kernel_rfl) (by kernel_rfl) (by kernel_rfl) (fun _ _ _ h => h) (Or.inl ⟨by rfl, ?_⟩) hS0 ?_
          · intro w hSw; go_simp
          try simp only [Act.put, List.getElem_toArray, List.getElem_cons_succ, List.getElem_cons_zero, List.setIfInBounds_toArray, List.set_cons_zero, List.set_cons_succ]
          refine wpAnyH_take (i := 3) (v := .agg #[.int .i64 x.1, .int .i64 x.2.1, .int .i64 x.2.2.1, .int .i64 x.2.2.2]) rfl (by kernel_rfl) (by kernel_rfl) (by kernel_rfl) (fun _ _ _ h => h) (Or.inl ⟨by rfl, ?_⟩) hS0 ?_
          · intro w hSw; have s0 := gr_cell hSw c0; have s1 := gr_cell hSw c1; have s2 := gr_cell hSw c2; have s3 := gr_cell hSw c3; go_simp
          try simp only [Act.put, List.getElem_toArray, List.getElem_cons_succ, List.getElem_cons_zero, List.setIfInBounds_toArray, List.set_cons_zero, List.set_cons_succ]
          refine wpAnyH_take (i := 4) (v := .slice (some ⟨q, r, none⟩) n cb) rfl (by kernel_rfl) (by kernel_rfl) (by kernel_rfl) (fun _ _ _ h => h) (Or.inl ⟨by rfl, ?_⟩) hS0 ?_
          · intro w hSw; go_simp
          try simp only [Act.put, List.getElem_toArray, List.getElem_cons_succ, List.getElem_cons_zero, List.setIfInBounds_toArray, List.set_cons_zero, List.set_cons_succ]
          refine wpAnyH_take (i := 5) (v := .int .i64 j) rfl (by kernel_rfl) (by kernel_rfl) (by kernel_rfl) (fun _ _ _ h => h) (Or.inl ⟨by rfl, ?_⟩) hS0 ?_
          · intro w hSw; go_simp
          try simp only [Act.put, List.getElem_toArray, List.getElem_cons_succ, List.getElem_cons_zero, List.setIfInBounds_toArray, List.set_cons_zero, List.set_cons_succ]
          refine wpAnyH_take (i := 6) (v := .pointer (some ⟨q, r + j * 4, none⟩)) rfl (by kernel_rfl) (by kernel_rfl) (by kernel_rfl) (fun _ _ _ h => h) (Or.inl ⟨by rfl, ?_⟩) hS0 ?_
          · intro w hSw; go_simp
          try simp only [Act.put, List.getElem_toArray, List.getElem_cons_succ, List.getElem_cons_zero, List.setIfInBounds_toArray, List.set_cons_zero, List.set_cons_succ]
          refine wpAnyH_take (i := 7) (v := .agg #[.int .i64 y.1, .int .i64 y.2.1, .int .i64 y.2.2.1, .int .i64 y.2.2.2]) rfl (by kernel_rfl) (by kernel_rfl) (by kernel_rfl) (fun _ _ _ h => h) (Or.inl ⟨by rfl, ?_⟩) hS0 ?_
          · intro w hSw; have s0 := gr_cell hSw d0; have s1 := gr_cell hSw d1; have s2 := gr_cell hSw d2; have s3 := gr_cell hSw d3; go_simp
          try simp only [Act.put, List.getElem_toArray, List.getElem_cons_succ, List.getElem_cons_zero, List.setIfInBounds_toArray, List.set_cons_zero, List.set_cons_succ]
          refine wpAnyH_take (i := 8) (v := .bool true) rfl (by kernel_rfl) (by kernel_rfl) (by kernel_rfl) (fun _ _ _ h => h) (Or.inl ⟨by rfl, ?_⟩) hS0 ?_
          · intro w hSw; go_simp <;> first | omega | (intros; simp_all) | (intro h; exact hne (by simpa using h))
          try simp only [Act.put, List.getElem_toArray, List.getElem_cons_succ, List.getElem_cons_zero, List.setIfInBounds_toArray, List.set_cons_zero, List.set_cons_succ]
          refine wpAnyH_done (by kernel_rfl) ?_ _
          have HG3 := Lib.hid (HG.out.trans hS0)
          go_wp2
          go_ret
          exact ⟨rfl, HG3.out⟩
      · have hv : V = true := by
          rw [← HV.out, decide_eq_true_iff]
          refine List.ext_getElem (HN.out.trans HN2.out.symm) fun k h1 h2 => HP.out k h1 h2 ?_
          have := HN.out; omega
        subst hv
        clear HP HV
        go_wp2
        go_ret
        exact ⟨rfl, HG.out⟩
  · rw [decide_eq_false (fun e => hlm (by rw [e]))]
    generalize L.length = n at *
    generalize M.length = m at *
    go_enter Try.func35, Try.ntmps35
    go_wp2
    go_ret
    exact ⟨rfl, Gr.refl w⟩
set_option maxRecDepth 100000 in
set_option maxHeartbeats 2000000 in
theorem sl_EqualI {a b : Option Addr} {L M : List Int} {ca cb : Nat} (w : World) (hL : Rd shI w a L) (hM : Rd shI w b M) (hl : L.length ≤ 9223372036854775807) (hm : M.length ≤ 9223372036854775807) :
    Calls Try.prog 34 #[.slice a L.length ca, .slice b M.length cb] w fun e w' => e = .returned (.bool (decide (L = M))) ∧ Gr w w' := by
  have HL := Lib.hid hL
  have HM := Lib.hid hM
  clear hL hM
  by_cases hlm : L.length = M.length
  · obtain ⟨n, hn⟩ : ∃ n, L.length = n := ⟨_, rfl⟩
    have HN := Lib.hid hn
    have HN2 := Lib.hid (hlm.symm.trans hn)
    rw [hn] at hl
    rw [hn, hlm.symm.trans hn]
    clear hlm hn hm
    obtain ⟨V, hV⟩ : ∃ V, decide (L = M) = V := ⟨_, rfl⟩
    rw [hV]
    have HV := Lib.hid hV
    clear hV
    go_enter Try.func34, Try.ntmps34
    go_wp2
    go_loopw [13] (fun i wr => ∃ j : Nat, i = .int .i64 j ∧ j ≤ n ∧ Hid (∀ k (h : k < L.length) (h' : k < M.length), k < j → L[k] = M[k]) ∧ Hid (Gr w wr)) (fun i _ => n - (intOf i).toNat)
    case atStart => exact ⟨0, rfl, Nat.zero_le _, Lib.hid (fun k _ _ h => absurd h (by omega)), Lib.hid (Gr.refl w)⟩
    case round =>
      obtain ⟨j, rfl, hj, HP, HG⟩ := hrel
      by_cases hlt : j < n
      · have j1 : j < L.length := by rw [HN.out]; exact hlt
        have j2 : j < M.length := by rw [HN2.out]; exact hlt
        obtain ⟨p, o, rfl, c0⟩ := int_cells (HL.out.gr HG.out) j1
        obtain ⟨q, r, rfl, d0⟩ := int_cells (HM.out.gr HG.out) j2
        by_cases he : L[j] = M[j]
        · have HP3 : Hid (∀ k (h : k < L.length) (h' : k < M.length), k < j + 1 → L[k] = M[k]) := Lib.hid fun k h h' hkj => by
            by_cases e : k = j
            · subst e; exact he
            · exact HP.out k h h' (by omega)
          rw [← he] at d0
          generalize L[j] = x at *
          clear he HP
          go_wp2_with fail
          have hS0 : (fun w' : World => Gr wr w') wr.drew := (Gr.refl _).drew
          refine wp_region_held (S := fun w' : World => Gr wr w') (by kernel_rfl) ?_
          change wpAnyH _ _ _ _ _ _ _ _ wr.drew
          refine wpAnyH_take (i := 0) (v := .slice (some ⟨p, o, none⟩) n ca) rfl (by kernel_rfl) (by kernel_rfl) (by kernel_rfl) (fun _ _ _ h => h) (Or.inl ⟨by rfl, ?_⟩) hS0 ?_
          · intro w hSw; go_simp
          try simp only [Act.put, List.getElem_toArray, List.getElem_cons_succ, List.getElem_cons_zero, List.setIfInBounds_toArray, List.set_cons_zero, List.set_cons_succ]
          refine wpAnyH_take (i := 1) (v := .int .i64 j) rfl (by kernel_rfl) (by kernel_rfl) (by kernel_rfl) (fun _ _ _ h => h) (Or.inl ⟨by rfl, ?_⟩) hS0 ?_
          · intro w hSw; go_simp
          try simp only [Act.put, List.getElem_toArray, List.getElem_cons_succ, List.getElem_cons_zero, List.setIfInBounds_toArray, List.set_cons_zero, List.set_cons_succ]
          refine wpAnyH_take (i := 2) (v := .pointer (some ⟨p, o + j, none⟩)) rfl (by kernel_rfl) (by kernel_rfl) (by kernel_rfl) (fun _ _ _ h => h) (Or.inl ⟨by rfl, ?_⟩) hS0 ?_
          · intro w hSw; go_simp
          try simp only [Act.put, List.getElem_toArray, List.getElem_cons_succ, List.getElem_cons_zero, List.setIfInBounds_toArray, List.set_cons_zero, List.set_cons_succ]
          refine wpAnyH_take (i := 3) (v := .int .i64 x) rfl (by kernel_rfl) (by kernel_rfl) (by kernel_rfl) (fun _ _ _ h => h) (Or.inl ⟨by rfl, ?_⟩) hS0 ?_
          · intro w hSw; have s0 := gr_cell hSw c0; go_simp
          try simp only [Act.put, List.getElem_toArray, List.getElem_cons_succ, List.getElem_cons_zero, List.setIfInBounds_toArray, List.set_cons_zero, List.set_cons_succ]
          refine wpAnyH_take (i := 4) (v := .slice (some ⟨q, r, none⟩) n cb) rfl (by kernel_rfl) (by kernel_rfl) (by kernel_rfl) (fun _ _ _ h => h) (Or.inl ⟨by rfl, ?_⟩) hS0 ?_
          · intro w hSw; go_simp
          try simp only [Act.put, List.getElem_toArray, List.getElem_cons_succ, List.getElem_cons_zero, List.setIfInBounds_toArray, List.set_cons_zero, List.set_cons_succ]
          refine wpAnyH_take (i := 5) (v := .int .i64 j) rfl (by kernel_rfl) (by kernel_rfl) (by kernel_rfl) (fun _ _ _ h => h) (Or.inl ⟨by rfl, ?_⟩) hS0 ?_
          · intro w hSw; go_simp
          try simp only [Act.put, List.getElem_toArray, List.getElem_cons_succ, List.getElem_cons_zero, List.setIfInBounds_toArray, List.set_cons_zero, List.set_cons_succ]
          refine wpAnyH_take (i := 6) (v := .pointer (some ⟨q, r + j, none⟩)) rfl (by kernel_rfl) (by kernel_rfl) (by kernel_rfl) (fun _ _ _ h => h) (Or.inl ⟨by rfl, ?_⟩) hS0 ?_
          · intro w hSw; go_simp
          try simp only [Act.put, List.getElem_toArray, List.getElem_cons_succ, List.getElem_cons_zero, List.setIfInBounds_toArray, List.set_cons_zero, List.set_cons_succ]
          refine wpAnyH_take (i := 7) (v := .int .i64 x) rfl (by kernel_rfl) (by kernel_rfl) (by kernel_rfl) (fun _ _ _ h => h) (Or.inl ⟨by rfl, ?_⟩) hS0 ?_
          · intro w hSw; have s0 := gr_cell hSw d0; go_simp
          try simp only [Act.put, List.getElem_toArray, List.getElem_cons_succ, List.getElem_cons_zero, List.setIfInBounds_toArray, List.set_cons_zero, List.set_cons_succ]
          refine wpAnyH_take (i := 8) (v := .bool false) rfl (by kernel_rfl) (by kernel_rfl) (by kernel_rfl) (fun _ _ _ h => h) (Or.inl ⟨by rfl, ?_⟩) hS0 ?_
          · intro w hSw; go_simp
          try simp only [Act.put, List.getElem_toArray, List.getElem_cons_succ, List.getElem_cons_zero, List.setIfInBounds_toArray, List.set_cons_zero, List.set_cons_succ]
          refine wpAnyH_done (by kernel_rfl) ?_ _
          have HG3 := Lib.hid (HG.out.trans hS0)
          go_wp2
          go_roundw
          case rel => exact ⟨j + 1, by go_num, by omega, HP3, HG3⟩
          case measure => simp [intOf]; omega
        · have hv : V = false := by rw [← HV.out, decide_eq_false_iff_not]; rintro rfl; exact he rfl
          subst hv
          generalize L[j] = x at *
          generalize M[j] = y at *
          clear HP HV
          have hne : ¬ (x = y) := fun h => he (by
            skip
            skip
            simp [h])
          clear he
          go_wp2_with fail
          have hS0 : (fun w' : World => Gr wr w') wr.drew := (Gr.refl _).drew
          refine wp_region_held (S := fun w' : World => Gr wr w') (by kernel_rfl) ?_
          change wpAnyH _ _ _ _ _ _ _ _ wr.drew
          refine wpAnyH_take (i := 0) (v := .slice (some ⟨p, o, none⟩) n ca) rfl (by kernel_rfl) (by kernel_rfl) (by kernel_rfl) (fun _ _ _ h => h) (Or.inl ⟨by rfl, ?_⟩) hS0 ?_
          · intro w hSw; go_simp
          try simp only [Act.put, List.getElem_toArray, List.getElem_cons_succ, List.getElem_cons_zero, List.setIfInBounds_toArray, List.set_cons_zero, List.set_cons_succ]
          refine wpAnyH_take (i := 1) (v := .int .i64 j) rfl (by kernel_rfl) (by kernel_rfl) (by kernel_rfl) (fun _ _ _ h => h) (Or.inl ⟨by rfl, ?_⟩) hS0 ?_
          · intro w hSw; go_simp
          try simp only [Act.put, List.getElem_toArray, List.getElem_cons_succ, List.getElem_cons_zero, List.setIfInBounds_toArray, List.set_cons_zero, List.set_cons_succ]
          refine wpAnyH_take (i := 2) (v := .pointer (some ⟨p, o + j, none⟩)) rfl (by kernel_rfl) (by kernel_rfl) (by kernel_rfl) (fun _ _ _ h => h) (Or.inl ⟨by rfl, ?_⟩) hS0 ?_
          · intro w hSw; go_simp
          try simp only [Act.put, List.getElem_toArray, List.getElem_cons_succ, List.getElem_cons_zero, List.setIfInBounds_toArray, List.set_cons_zero, List.set_cons_succ]
          refine wpAnyH_take (i := 3) (v := .int .i64 x) rfl (by kernel_rfl) (by kernel_rfl) (by kernel_rfl) (fun _ _ _ h => h) (Or.inl ⟨by rfl, ?_⟩) hS0 ?_
          · intro w hSw; have s0 := gr_cell hSw c0; go_simp
          try simp only [Act.put, List.getElem_toArray, List.getElem_cons_succ, List.getElem_cons_zero, List.setIfInBounds_toArray, List.set_cons_zero, List.set_cons_succ]
          refine wpAnyH_take (i := 4) (v := .slice (some ⟨q, r, none⟩) n cb) rfl (by kernel_rfl) (by kernel_rfl) (by kernel_rfl) (fun _ _ _ h => h) (Or.inl ⟨by rfl, ?_⟩) hS0 ?_
          · intro w hSw; go_simp
          try simp only [Act.put, List.getElem_toArray, List.getElem_cons_succ, List.getElem_cons_zero, List.setIfInBounds_toArray, List.set_cons_zero, List.set_cons_succ]
          refine wpAnyH_take (i := 5) (v := .int .i64 j) rfl (by kernel_rfl) (by kernel_rfl) (by kernel_rfl) (fun _ _ _ h => h) (Or.inl ⟨by rfl, ?_⟩) hS0 ?_
          · intro w hSw; go_simp
          try simp only [Act.put, List.getElem_toArray, List.getElem_cons_succ, List.getElem_cons_zero, List.setIfInBounds_toArray, List.set_cons_zero, List.set_cons_succ]
          refine wpAnyH_take (i := 6) (v := .pointer (some ⟨q, r + j, none⟩)) rfl (by kernel_rfl) (by kernel_rfl) (by kernel_rfl) (fun _ _ _ h => h) (Or.inl ⟨by rfl, ?_⟩) hS0 ?_
          · intro w hSw; go_simp
          try simp only [Act.put, List.getElem_toArray, List.getElem_cons_succ, List.getElem_cons_zero, List.setIfInBounds_toArray, List.set_cons_zero, List.set_cons_succ]
          refine wpAnyH_take (i := 7) (v := .int .i64 y) rfl (by kernel_rfl) (by kernel_rfl) (by kernel_rfl) (fun _ _ _ h => h) (Or.inl ⟨by rfl, ?_⟩) hS0 ?_
          · intro w hSw; have s0 := gr_cell hSw d0; go_simp
          try simp only [Act.put, List.getElem_toArray, List.getElem_cons_succ, List.getElem_cons_zero, List.setIfInBounds_toArray, List.set_cons_zero, List.set_cons_succ]
          refine wpAnyH_take (i := 8) (v := .bool true) rfl (by kernel_rfl) (by kernel_rfl) (by kernel_rfl) (fun _ _ _ h => h) (Or.inl ⟨by rfl, ?_⟩) hS0 ?_
          · intro w hSw; go_simp <;> first | omega | (intros; simp_all) | (intro h; exact hne (by simpa using h))
          try simp only [Act.put, List.getElem_toArray, List.getElem_cons_succ, List.getElem_cons_zero, List.setIfInBounds_toArray, List.set_cons_zero, List.set_cons_succ]
          refine wpAnyH_done (by kernel_rfl) ?_ _
          have HG3 := Lib.hid (HG.out.trans hS0)
          go_wp2
          go_ret
          exact ⟨rfl, HG3.out⟩
      · have hv : V = true := by
          rw [← HV.out, decide_eq_true_iff]
          refine List.ext_getElem (HN.out.trans HN2.out.symm) fun k h1 h2 => HP.out k h1 h2 ?_
          have := HN.out; omega
        subst hv
        clear HP HV
        go_wp2
        go_ret
        exact ⟨rfl, HG.out⟩
  · rw [decide_eq_false (fun e => hlm (by rw [e]))]
    generalize L.length = n at *
    generalize M.length = m at *
    go_enter Try.func34, Try.ntmps34
    go_wp2
    go_ret
    exact ⟨rfl, Gr.refl w⟩
set_option maxRecDepth 100000 in
set_option maxHeartbeats 2000000 in
theorem sl_EqualR {a b : Option Addr} {L M : List Pr} {ca cb : Nat} (w : World) (hL : Rd shR w a L) (hM : Rd shR w b M) (hl : L.length ≤ 9223372036854775807) (hm : M.length ≤ 9223372036854775807) :
    Calls Try.prog 36 #[.slice a L.length ca, .slice b M.length cb] w fun e w' => e = .returned (.bool (decide (L = M))) ∧ Gr w w' := by
  have HL := Lib.hid hL
  have HM := Lib.hid hM
  clear hL hM
  by_cases hlm : L.length = M.length
  · obtain ⟨n, hn⟩ : ∃ n, L.length = n := ⟨_, rfl⟩
    have HN := Lib.hid hn
    have HN2 := Lib.hid (hlm.symm.trans hn)
    rw [hn] at hl
    rw [hn, hlm.symm.trans hn]
    clear hlm hn hm
    obtain ⟨V, hV⟩ : ∃ V, decide (L = M) = V := ⟨_, rfl⟩
    rw [hV]
    have HV := Lib.hid hV
    clear hV
    go_enter Try.func36, Try.ntmps36
    go_wp2
    go_loopw [13] (fun i wr => ∃ j : Nat, i = .int .i64 j ∧ j ≤ n ∧ Hid (∀ k (h : k < L.length) (h' : k < M.length), k < j → L[k] = M[k]) ∧ Hid (Gr w wr)) (fun i _ => n - (intOf i).toNat)
    case atStart => exact ⟨0, rfl, Nat.zero_le _, Lib.hid (fun k _ _ h => absurd h (by omega)), Lib.hid (Gr.refl w)⟩
    case round =>
      obtain ⟨j, rfl, hj, HP, HG⟩ := hrel
      by_cases hlt : j < n
      · have j1 : j < L.length := by rw [HN.out]; exact hlt
        have j2 : j < M.length := by rw [HN2.out]; exact hlt
        obtain ⟨p, o, rfl, c0, c1⟩ := pr_cells (HL.out.gr HG.out) j1
        obtain ⟨q, r, rfl, d0, d1⟩ := pr_cells (HM.out.gr HG.out) j2
        by_cases he : L[j] = M[j]
        · have HP3 : Hid (∀ k (h : k < L.length) (h' : k < M.length), k < j + 1 → L[k] = M[k]) := Lib.hid fun k h h' hkj => by
            by_cases e : k = j
            · subst e; exact he
            · exact HP.out k h h' (by omega)
          rw [← he] at d0 d1
          generalize L[j] = x at *
          clear he HP
          go_wp2_with fail
          have hS0 : (fun w' : World => Gr wr w') wr.drew := (Gr.refl _).drew
          refine wp_region_held (S := fun w' : World => Gr wr w') (by kernel_rfl) ?_
          change wpAnyH _ _ _ _ _ _ _ _ wr.drew
          refine wpAnyH_take (i := 0) (v := .slice (some ⟨p, o, none⟩) n ca) rfl (by kernel_rfl) (by kernel_rfl) (by kernel_rfl) (fun _ _ _ h => h) (Or.inl ⟨by rfl, ?_⟩) hS0 ?_
          · intro w hSw; go_simp
          try simp only [Act.put, List.getElem_toArray, List.getElem_cons_succ, List.getElem_cons_zero, List.setIfInBounds_toArray, List.set_cons_zero, List.set_cons_succ]
          refine wpAnyH_take (i := 1) (v := .int .i64 j) rfl (by kernel_rfl) (by kernel_rfl) (by kernel_rfl) (fun _ _ _ h => h) (Or.inl ⟨by rfl, ?_⟩) hS0 ?_
          · intro w hSw; go_simp
          try simp only [Act.put, List.getElem_toArray, List.getElem_cons_succ, List.getElem_cons_zero, List.setIfInBounds_toArray, List.set_cons_zero, List.set_cons_succ]
          refine wpAnyH_take (i := 2) (v := .pointer (some ⟨p, o + j * 2, none⟩)) rfl (by kernel_rfl) (by kernel_rfl) (by kernel_rfl) (fun _ _ _ h => h) (Or.inl ⟨by rfl, ?_⟩) hS0 ?_
          · intro w hSw; go_simp
          try simp only [Act.put, List.getElem_toArray, List.getElem_cons_succ, List.getElem_cons_zero, List.setIfInBounds_toArray, List.set_cons_zero, List.set_cons_succ]
          refine wpAnyH_take (i := 3) (v := .agg #[.int .i64 x.1, .int .i64 x.2]) rfl (by kernel_rfl) (by kernel_rfl) (by kernel_rfl) (fun _ _ _ h => h) (Or.inl ⟨by rfl, ?_⟩) hS0 ?_
          · intro w hSw; have s0 := gr_cell hSw c0; have s1 := gr_cell hSw c1; go_simp
          try simp only [Act.put, List.getElem_toArray, List.getElem_cons_succ, List.getElem_cons_zero, List.setIfInBounds_toArray, List.set_cons_zero, List.set_cons_succ]
          refine wpAnyH_take (i := 4) (v := .slice (some ⟨q, r, none⟩) n cb) rfl (by kernel_rfl) (by kernel_rfl) (by kernel_rfl) (fun _ _ _ h => h) (Or.inl ⟨by rfl, ?_⟩) hS0 ?_
          · intro w hSw; go_simp
          try simp only [Act.put, List.getElem_toArray, List.getElem_cons_succ, List.getElem_cons_zero, List.setIfInBounds_toArray, List.set_cons_zero, List.set_cons_succ]
          refine wpAnyH_take (i := 5) (v := .int .i64 j) rfl (by kernel_rfl) (by kernel_rfl) (by kernel_rfl) (fun _ _ _ h => h) (Or.inl ⟨by rfl, ?_⟩) hS0 ?_
          · intro w hSw; go_simp
          try simp only [Act.put, List.getElem_toArray, List.getElem_cons_succ, List.getElem_cons_zero, List.setIfInBounds_toArray, List.set_cons_zero, List.set_cons_succ]
          refine wpAnyH_take (i := 6) (v := .pointer (some ⟨q, r + j * 2, none⟩)) rfl (by kernel_rfl) (by kernel_rfl) (by kernel_rfl) (fun _ _ _ h => h) (Or.inl ⟨by rfl, ?_⟩) hS0 ?_
          · intro w hSw; go_simp
          try simp only [Act.put, List.getElem_toArray, List.getElem_cons_succ, List.getElem_cons_zero, List.setIfInBounds_toArray, List.set_cons_zero, List.set_cons_succ]
          refine wpAnyH_take (i := 7) (v := .agg #[.int .i64 x.1, .int .i64 x.2]) rfl (by kernel_rfl) (by kernel_rfl) (by kernel_rfl) (fun _ _ _ h => h) (Or.inl ⟨by rfl, ?_⟩) hS0 ?_
          · intro w hSw; have s0 := gr_cell hSw d0; have s1 := gr_cell hSw d1; go_simp
          try simp only [Act.put, List.getElem_toArray, List.getElem_cons_succ, List.getElem_cons_zero, List.setIfInBounds_toArray, List.set_cons_zero, List.set_cons_succ]
          refine wpAnyH_take (i := 8) (v := .bool false) rfl (by kernel_rfl) (by kernel_rfl) (by kernel_rfl) (fun _ _ _ h => h) (Or.inl ⟨by rfl, ?_⟩) hS0 ?_
          · intro w hSw; go_simp
          try simp only [Act.put, List.getElem_toArray, List.getElem_cons_succ, List.getElem_cons_zero, List.setIfInBounds_toArray, List.set_cons_zero, List.set_cons_succ]
          refine wpAnyH_done (by kernel_rfl) ?_ _
          have HG3 := Lib.hid (HG.out.trans hS0)
          go_wp2
          go_roundw
          case rel => exact ⟨j + 1, by go_num, by omega, HP3, HG3⟩
          case measure => simp [intOf]; omega
        · have hv : V = false := by rw [← HV.out, decide_eq_false_iff_not]; rintro rfl; exact he rfl
          subst hv
          generalize L[j] = x at *
          generalize M[j] = y at *
          clear HP HV
          have hne : ¬ (x.1 = y.1 ∧ x.2 = y.2) := fun h => he (by
            obtain ⟨x0, x⟩ := x; obtain ⟨y0, y⟩ := y
            simp only at h
            simp [h])
          clear he
          go_wp2_with fail
          have hS0 : (fun w' : World => Gr wr w') wr.drew := (Gr.refl _).drew
          refine wp_region_held (S := fun w' : World => Gr wr w') (by kernel_rfl) ?_
          change wpAnyH _ _ _ _ _ _ _ _ wr.drew
          refine wpAnyH_take (i := 0) (v := .slice (some ⟨p, o, none⟩) n ca) rfl (by kernel_rfl) (by kernel_rfl) (by kernel_rfl) (fun _ _ _ h => h) (Or.inl ⟨by rfl, ?_⟩) hS0 ?_
          · intro w hSw; go_simp
          try simp only [Act.put, List.getElem_toArray, List.getElem_cons_succ, List.getElem_cons_zero, List.setIfInBounds_toArray, List.set_cons_zero, List.set_cons_succ]
          refine wpAnyH_take (i := 1) (v := .int .i64 j) rfl (by kernel_rfl) (by kernel_rfl) (by kernel_rfl) (fun _ _ _ h => h) (Or.inl ⟨by rfl, ?_⟩) hS0 ?_
          · intro w hSw; go_simp
          try simp only [Act.put, List.getElem_toArray, List.getElem_cons_succ, List.getElem_cons_zero, List.setIfInBounds_toArray, List.set_cons_zero, List.set_cons_succ]
          refine wpAnyH_take (i := 2) (v := .pointer (some ⟨p, o + j * 2, none⟩)) rfl (by kernel_rfl) (by kernel_rfl) (by kernel_rfl) (fun _ _ _ h => h) (Or.inl ⟨by rfl, ?_⟩) hS0 ?_
          · intro w hSw; go_simp
          try simp only [Act.put, List.getElem_toArray, List.getElem_cons_succ, List.getElem_cons_zero, List.setIfInBounds_toArray, List.set_cons_zero, List.set_cons_succ]
          refine wpAnyH_take (i := 3) (v := .agg #[.int .i64 x.1, .int .i64 x.2]) rfl (by kernel_rfl) (by kernel_rfl) (by kernel_rfl) (fun _ _ _ h => h) (Or.inl ⟨by rfl, ?_⟩) hS0 ?_
          · intro w hSw; have s0 := gr_cell hSw c0; have s1 := gr_cell hSw c1; go_simp
          try simp only [Act.put, List.getElem_toArray, List.getElem_cons_succ, List.getElem_cons_zero, List.setIfInBounds_toArray, List.set_cons_zero, List.set_cons_succ]
          refine wpAnyH_take (i := 4) (v := .slice (some ⟨q, r, none⟩) n cb) rfl (by kernel_rfl) (by kernel_rfl) (by kernel_rfl) (fun _ _ _ h => h) (Or.inl ⟨by rfl, ?_⟩) hS0 ?_
          · intro w hSw; go_simp
          try simp only [Act.put, List.getElem_toArray, List.getElem_cons_succ, List.getElem_cons_zero, List.setIfInBounds_toArray, List.set_cons_zero, List.set_cons_succ]
          refine wpAnyH_take (i := 5) (v := .int .i64 j) rfl (by kernel_rfl) (by kernel_rfl) (by kernel_rfl) (fun _ _ _ h => h) (Or.inl ⟨by rfl, ?_⟩) hS0 ?_
          · intro w hSw; go_simp
          try simp only [Act.put, List.getElem_toArray, List.getElem_cons_succ, List.getElem_cons_zero, List.setIfInBounds_toArray, List.set_cons_zero, List.set_cons_succ]
          refine wpAnyH_take (i := 6) (v := .pointer (some ⟨q, r + j * 2, none⟩)) rfl (by kernel_rfl) (by kernel_rfl) (by kernel_rfl) (fun _ _ _ h => h) (Or.inl ⟨by rfl, ?_⟩) hS0 ?_
          · intro w hSw; go_simp
          try simp only [Act.put, List.getElem_toArray, List.getElem_cons_succ, List.getElem_cons_zero, List.setIfInBounds_toArray, List.set_cons_zero, List.set_cons_succ]
          refine wpAnyH_take (i := 7) (v := .agg #[.int .i64 y.1, .int .i64 y.2]) rfl (by kernel_rfl) (by kernel_rfl) (by kernel_rfl) (fun _ _ _ h => h) (Or.inl ⟨by rfl, ?_⟩) hS0 ?_
          · intro w hSw; have s0 := gr_cell hSw d0; have s1 := gr_cell hSw d1; go_simp
          try simp only [Act.put, List.getElem_toArray, List.getElem_cons_succ, List.getElem_cons_zero, List.setIfInBounds_toArray, List.set_cons_zero, List.set_cons_succ]
          refine wpAnyH_take (i := 8) (v := .bool true) rfl (by kernel_rfl) (by kernel_rfl) (by kernel_rfl) (fun _ _ _ h => h) (Or.inl ⟨by rfl, ?_⟩) hS0 ?_
          · intro w hSw; go_simp <;> first | omega | (intros; simp_all) | (intro h; exact hne (by simpa using h))
          try simp only [Act.put, List.getElem_toArray, List.getElem_cons_succ, List.getElem_cons_zero, List.setIfInBounds_toArray, List.set_cons_zero, List.set_cons_succ]
          refine wpAnyH_done (by kernel_rfl) ?_ _
          have HG3 := Lib.hid (HG.out.trans hS0)
          go_wp2
          go_ret
          exact ⟨rfl, HG3.out⟩
      · have hv : V = true := by
          rw [← HV.out, decide_eq_true_iff]
          refine List.ext_getElem (HN.out.trans HN2.out.symm) fun k h1 h2 => HP.out k h1 h2 ?_
          have := HN.out; omega
        subst hv
        clear HP HV
        go_wp2
        go_ret
        exact ⟨rfl, HG.out⟩
  · rw [decide_eq_false (fun e => hlm (by rw [e]))]
    generalize L.length = n at *
    generalize M.length = m at *
    go_enter Try.func36, Try.ntmps36
    go_wp2
    go_ret
    exact ⟨rfl, Gr.refl w⟩
set_option maxRecDepth 100000 in
theorem r15_FewEntries {a : Option Addr} {l : List En} {cap : Nat} (w : World) (hlen : l.length ≤ 9223372036854775807) : Calls Try.prog 10 #[.slice a l.length cap] w fun e w' => e = .returned (.bool (decide (l.length ≤ 200 ∨ 4096 < l.length))) ∧ w = w' := by
  generalize l.length = n at *
  by_cases h1 : n ≤ 200
  · rw [decide_eq_true (.inl h1)]
    go_enter Try.func10, Try.ntmps10
    go_wp2
    go_ret
    exact ⟨rfl, rfl⟩
  · by_cases h2 : 4096 < n
    · rw [decide_eq_true (.inr h2)]
      go_enter Try.func10, Try.ntmps10
      go_wp2
      go_ret
      exact ⟨ret_bool (by rw [Bool.or_eq_true]; exact .inr (decide_eq_true (by omega))), rfl⟩
    · rw [decide_eq_false (by omega)]
      go_enter Try.func10, Try.ntmps10
      go_wp2
      go_ret
      exact ⟨ret_bool (by rw [decide_eq_false (by omega), decide_eq_false (by omega)]; rfl), rfl⟩
def fewB (l : List Pl) : Bool := decide (l.length ≤ 64 ∧ ∀ g ∈ l, g.2.length ≤ 512)
set_option maxRecDepth 100000 in
set_option maxHeartbeats 2000000 in
theorem r15_Few {a : Option Addr} {l : List Pl} {cap : Nat} (w : World) (hr : RdP w a l) (hlen : l.length ≤ 9223372036854775807) : Calls Try.prog 11 #[.slice a l.length cap] w fun e w' => e = .returned (.bool (fewB l)) ∧ w = w' := by
  have HR := Lib.hid hr
  obtain ⟨V, hV⟩ : ∃ V, fewB l = V := ⟨_, rfl⟩
  rw [hV]
  have HV := Lib.hid hV
  obtain ⟨m, hm⟩ : ∃ m, m = l.length := ⟨_, rfl⟩
  have HM := Lib.hid hm
  rw [← hm] at hlen ⊢
  clear hm hV hr
  by_cases h64 : 64 < m
  · have hv : V = false := by rw [← HV.out, fewB, decide_eq_false]; rintro ⟨h, -⟩; have := HM.out; omega
    subst hv
    clear HV
    go_enter Try.func11, Try.ntmps11
    go_wp2
    go_ret
    exact ⟨rfl, rfl⟩
  · go_enter Try.func11, Try.ntmps11
    go_wp2
    go_loop [3] (fun i => ∃ j : Nat, i = .int .i64 j ∧ j ≤ m ∧ Hid (∀ k (h : k < l.length), k < j → l[k].2.length ≤ 512)) (fun i => m - (intOf i).toNat)
    case atStart => exact ⟨0, rfl, Nat.zero_le _, Lib.hid (fun k _ h => absurd h (by omega))⟩
    case round =>
      obtain ⟨j, rfl, hj, HP⟩ := hrel
      by_cases hlt : j < m
      · have hjl : j < l.length := by rw [← HM.out]; exact hlt
        obtain ⟨b, o, hc, hcap, rfl, -, c1, -, hlh, hmh, -⟩ := HR.out.at hjl
        unfold maxLen at hmh
        by_cases he : l[j].2.length ≤ 512
        · have HP2 : Hid (∀ k (h : k < l.length), k < j + 1 → l[k].2.length ≤ 512) := Lib.hid fun k h hkj => by
            by_cases e : k = j
            · subst e; exact he
            · exact HP.out k h (by omega)
          generalize l[j].2.length = x at *
          clear HP
          go_wp2
          go_round
          case rel => exact ⟨j + 1, by go_num, by omega, HP2⟩
          case measure => simp [intOf]; omega
        · have hv : V = false := by rw [← HV.out, fewB, decide_eq_false]; rintro ⟨-, h⟩; exact he (h _ (List.getElem_mem hjl))
          subst hv
          generalize l[j].2.length = x at *
          clear HP HV
          go_wp2
          go_ret
          exact ⟨rfl, rfl⟩
      · have hv : V = true := by
          rw [← HV.out, fewB, decide_eq_true_eq]
          refine ⟨by have := HM.out; omega, fun g hg => ?_⟩
          obtain ⟨k, hk, rfl⟩ := List.getElem_of_mem hg
          exact HP.out k hk (by rw [← HM.out] at hk; omega)
        subst hv
        clear HP HV
        go_wp2
        go_ret
        exact ⟨rfl, rfl⟩
end Go.Proofs.Ytgjlcmheipmmlaa
