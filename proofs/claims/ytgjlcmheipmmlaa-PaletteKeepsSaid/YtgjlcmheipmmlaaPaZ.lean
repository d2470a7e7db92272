/- Law 15: PaletteKeeps. -/
import Derived.Test.YtgjlcmheipmmlaaPaX
set_option linter.unusedVariables false
set_option linter.unusedSimpArgs false
namespace Go.Proofs.Ytgjlcmheipmmlaa
open Go.RowKit
open Z
theorem u16_wrap {h : Int} (hh : 0 ≤ h ∧ h ≤ 65535) : IntKind.i64.wrap h = h := IntWalk.i64_in _ (by omega)
set_option maxRecDepth 100000 in
set_option maxHeartbeats 8000000 in
theorem l15_PaletteKeeps {al : Option Addr} {l : List Pl} {cl : Nat} {ae : Option Addr} {es : List En} {ce : Nat} {home : Int} (w : World) (hr : RdP w al l) (hlen : l.length ≤ 9223372036854775807) (hin : ∀ g ∈ l, g.2.length ≤ 9223372036854775807) (he : Rd shE w ae es) (hle : es.length ≤ 9223372036854775807) (hh : 0 ≤ home ∧ home ≤ 65535) :
    Calls Try.prog 7 #[.slice al l.length cl, .slice ae es.length ce, .int .u16 home] w fun e w' => e = .returned (.bool true) ∧ Gr w w' := by
  have HAW := Lib.hid (fun W => l15_awake W)
  have HGV := Lib.hid (l15_given (cl := cl) (ce := ce) w hr hlen hin he hle)
  by_cases hD : fewB l = true ∧ es.length ≤ 200 ∧ bothR l es = 0
  · rw [decide_eq_true hD] at HGV
    obtain ⟨-, h200, hb⟩ := hD
    have HFL := Lib.hid (fun W (hW : Gr w W) => pl_Flat (cl := cl) (ce := ce) W (hr.gr hW) hlen hin (he.gr hW) hle)
    have HMS := Lib.hid (fun W (hW : Gr w W) => pl_Missing (cl := cl) (ce := ce) W (hr.gr hW) hlen hin (he.gr hW) hle)
    rw [hb, show flatL l es = es.map (flatE l) from if_pos hb] at HFL
    rw [hb] at HMS
    obtain ⟨hp0, he0⟩ := bothR_zero.1 hb
    have hok := (entR_zero.1 he0).2.1
    have HLV1 := Lib.hid (show ∀ x ∈ es, ∀ W, Gr w W → Calls Try.prog 26 #[.slice al l.length cl, .agg #[.int .i64 x.2.2.1, .int .i64 x.2.2.2], .agg #[.int .i64 x.1, .int .i64 x.2.1], .int .i64 home] W fun e w' => e = .returned (.tuple #[.int .i64 (levV l x home), .int .i64 0]) ∧ Gr W w' from fun x hx W hW => by
      have := pl_Level (cap := cl) x home W (hr.gr hW) hlen hin
      rw [(lev_right hp0 (hok x hx) hh).1] at this
      exact this)
    have HLV2 := Lib.hid (show ∀ x ∈ es, ∀ W, Calls Try.prog 26 #[.slice none 0 0, .agg #[.int .i64 (flatE l x).2.2.1, .int .i64 (flatE l x).2.2.2], .agg #[.int .i64 x.1, .int .i64 x.2.1], .int .i64 home] W fun e w' => e = .returned (.tuple #[.int .i64 (levV l x home), .int .i64 0]) ∧ Gr W w' from fun x hx W => by
      have := pl_Level (al := none) (l := []) (cap := 0) (flatE l x) home W (RdP.nil _ _) (by decide) (fun g hg => by cases hg)
      rw [(lev_flat hp0 (hok x hx) hh).1, (lev_flat hp0 (hok x hx) hh).2, (flatE_par l x).1, (flatE_par l x).2] at this
      exact this)
    have HC := Lib.hid (fun (x : En) (hx : x ∈ es) (h : decide ((x.1, x.2.1) ∈ missL l es) = true) => miss_home (home := home) hb hx (of_decide_eq_true h))
    have HLR := Lib.hid (fun (x : En) (hx : x ∈ es) => (lev_right hp0 (hok x hx) hh).2.1)
    have HFK := Lib.hid (fun (x : En) (hx : x ∈ es) => (flatE_ok hp0 (hok x hx)).2)
    have HE := Lib.hid he
    have HW := Lib.hid (u16_wrap hh)
    obtain ⟨n, hn⟩ : ∃ n, n = es.length := ⟨_, rfl⟩
    have HN := Lib.hid hn
    rw [← hn] at h200 hle HGV HFL HMS ⊢
    clear hr hlen hin he hb hp0 he0 hok hn hh
    generalize l.length = ml at *
    go_enter Try.func7, Try.ntmps7
    go_wp2_with fail
    refine HGV.out.mono ?_; rintro e w1 ⟨rfl, hg1⟩
    have HF1 := Lib.hid (HFL.out w1 hg1)
    have HG1 := Lib.hid hg1
    clear hg1 HGV HFL
    go_wp2_with fail
    refine HF1.out.mono ?_; rintro e w2 ⟨⟨v2, rfl, ho2⟩, hg2⟩
    obtain ⟨a2, c2, rfl, r2, l2, m2, -⟩ := ho2.shape
    rw [List.length_map, ← HN.out] at l2
    have HM2 := Lib.hid (HMS.out w2 (HG1.out.trans hg2))
    have HG2 := Lib.hid (HG1.out.trans hg2)
    have HFR2 := Lib.hid r2
    clear hg2 ho2 HF1 HMS HG1 r2 l2 m2
    rw [List.length_map, ← HN.out]
    go_wp2_with fail
    refine HM2.out.mono ?_; rintro e w3 ⟨⟨v3, rfl, ho3⟩, hg3⟩
    obtain ⟨a3, c3, rfl, r3, l3, m3, -⟩ := ho3.shape
    unfold maxLen at m3
    have hl3 : (missL l es).length ≤ 9223372036854775807 := by omega
    have HFR := Lib.hid (HFR2.out.gr hg3)
    have HG3 := Lib.hid (HG2.out.trans hg3)
    have HCN := Lib.hid (fun (x : En) W (hW : Gr w3 W) => sl_ContainsR (cap := c3) x.1 x.2.1 W (r3.gr hW) hl3)
    clear hg3 ho3 HM2 HG2 HFR2 r3 l3 m3 hl3
    generalize (missL l es).length = nm at *
    go_wp2_with fail
    go_loopw [49] (fun i wr => ∃ j : Nat, i = .int .i64 j ∧ j ≤ n ∧ Hid (Gr w3 wr)) (fun i _ => n - (intOf i).toNat)
    case atStart => exact ⟨0, rfl, Nat.zero_le _, Lib.hid (Gr.refl _)⟩
    case round =>
      obtain ⟨j, rfl, hj, HG⟩ := hrel
      by_cases hlt : j < n
      · have hjl : j < es.length := by rw [← HN.out]; exact hlt
        have hjf : j < (es.map (flatE l)).length := by rw [List.length_map]; exact hjl
        obtain ⟨b, o, rfl, c0, c1, c2, c3⟩ := en_cells (HE.out.gr (HG3.out.trans HG.out)) hjl
        obtain ⟨b2, o2, rfl, d0, d1, d2, d3⟩ := en_cells (HFR.out.gr HG.out) hjf
        rw [List.getElem_map] at d0 d1 d2 d3
        rw [(flatE_par l es[j]).1] at d0
        rw [(flatE_par l es[j]).2] at d1
        have hxm : es[j] ∈ es := List.getElem_mem hjl
        have HL1 := Lib.hid (HLV1.out _ hxm)
        have HL2 := Lib.hid (HLV2.out _ hxm)
        have HK := Lib.hid (HFK.out _ hxm)
        have HCT := Lib.hid (HCN.out es[j])
        have HCX := Lib.hid (HC.out _ hxm)
        rw [← HLR.out _ hxm] at HCX
        have D0 := Lib.hid d0
        have D1 := Lib.hid d1
        have D2 := Lib.hid d2
        have D3 := Lib.hid d3
        clear HC HLV1 HLV2 HLR HFK HCN hxm d0 d1 d2 d3
        generalize es[j] = x at *
        generalize flatE l x = y at *
        generalize levV l x home = V at *
        generalize decide ((x.1, x.2.1) ∈ missL l es) = C at *
        obtain ⟨wa, hwa⟩ : ∃ wa, wa = wr.alloc (.cells #[.int .i64 x.1, .int .i64 x.2.1, .int .i64 x.2.2.1, .int .i64 x.2.2.2] 57) := ⟨_, rfl⟩
        obtain ⟨p, hp⟩ : ∃ p, p = wr.heap.size := ⟨_, rfl⟩
        have hga : Gr wr wa := by rw [hwa]; exact (Gr.refl wr).alloc _
        have HBX := Lib.hid (show Blk shE wa p x by rw [hwa, hp]; exact Blk.new shE wr x)
        have HGa := Lib.hid (HG.out.trans hga)
        have HL3 := Lib.hid (HL1.out wa (HG3.out.trans HGa.out))
        have e0 := HBX.out.cell (k := 0) rfl
        have e1 := HBX.out.cell (k := 1) rfl
        have e2 := HBX.out.cell (k := 2) rfl
        have e3 := HBX.out.cell (k := 3) rfl
        have hwrap := HW.out
        go_wp2_with fail
        rw [← hwa, ← hp]
        go_wp2_with fail
        refine HL3.out.mono ?_; rintro e w5 ⟨rfl, hg5⟩
        have HG5 := Lib.hid (HGa.out.trans hg5)
        have HB5 := Lib.hid (HBX.out.gr hg5)
        have HWA := Lib.hid (hga.trans hg5)
        clear hg5 hwa hp hga HGa HBX HL1 HL3 HG e0 e1 e2 e3 c0 c1 c2 c3
        have e0 := HB5.out.cell (k := 0) rfl
        have e1 := HB5.out.cell (k := 1) rfl
        have d2 := gr_cell HWA.out D2.out
        have d3 := gr_cell HWA.out D3.out
        go_wp2_with fail
        have hS0 : (fun w' : World => Gr w5 w') w5.drew := (Gr.refl _).drew
        refine wp_region_held (S := fun w' : World => Gr w5 w') (by kernel_rfl) ?_
        change wpAnyH _ _ _ _ _ _ _ _ w5.drew
        refine wpAnyH_take (i := 0) (v := .slice (some ⟨b2, o2, none⟩) n c2) rfl (by kernel_rfl) (by kernel_rfl) (by kernel_rfl) (fun _ _ _ h => h) (Or.inl ⟨by rfl, ?_⟩) hS0 ?_
        · intro w hSw; go_simp
        try simp only [Act.put, List.getElem_toArray, List.getElem_cons_succ, List.getElem_cons_zero, List.setIfInBounds_toArray, List.set_cons_zero, List.set_cons_succ]
        refine wpAnyH_take (i := 1) (v := .int .i64 j) rfl (by kernel_rfl) (by kernel_rfl) (by kernel_rfl) (fun _ _ _ h => h) (Or.inl ⟨by rfl, ?_⟩) hS0 ?_
        · intro w hSw; go_simp
        try simp only [Act.put, List.getElem_toArray, List.getElem_cons_succ, List.getElem_cons_zero, List.setIfInBounds_toArray, List.set_cons_zero, List.set_cons_succ]
        refine wpAnyH_take (i := 2) (v := .pointer (some ⟨b2, o2 + j * 4, none⟩)) rfl (by kernel_rfl) (by kernel_rfl) (by kernel_rfl) (fun _ _ _ h => h) (Or.inl ⟨by rfl, ?_⟩) hS0 ?_
        · intro w hSw; go_simp
        try simp only [Act.put, List.getElem_toArray, List.getElem_cons_succ, List.getElem_cons_zero, List.setIfInBounds_toArray, List.set_cons_zero, List.set_cons_succ]
        refine wpAnyH_take (i := 3) (v := .pointer (some ⟨b2, o2 + j * 4 + 2, none⟩)) rfl (by kernel_rfl) (by kernel_rfl) (by kernel_rfl) (fun _ _ _ h => h) (Or.inl ⟨by rfl, ?_⟩) hS0 ?_
        · intro w hSw; go_simp
        try simp only [Act.put, List.getElem_toArray, List.getElem_cons_succ, List.getElem_cons_zero, List.setIfInBounds_toArray, List.set_cons_zero, List.set_cons_succ]
        refine wpAnyH_take (i := 4) (v := .agg #[.int .i64 (y.2.2.1), .int .i64 (y.2.2.2)]) rfl (by kernel_rfl) (by kernel_rfl) (by kernel_rfl) (fun _ _ _ h => h) (Or.inl ⟨by rfl, ?_⟩) hS0 ?_
        · intro w hSw; have s0 := gr_cell hSw d2; have s1 := gr_cell hSw d3; go_simp
        try simp only [Act.put, List.getElem_toArray, List.getElem_cons_succ, List.getElem_cons_zero, List.setIfInBounds_toArray, List.set_cons_zero, List.set_cons_succ]
        refine wpAnyH_take (i := 5) (v := .pointer (some ⟨p, 0, none⟩)) rfl (by kernel_rfl) (by kernel_rfl) (by kernel_rfl) (fun _ _ _ h => h) (Or.inl ⟨by rfl, ?_⟩) hS0 ?_
        · intro w hSw; go_simp
        try simp only [Act.put, List.getElem_toArray, List.getElem_cons_succ, List.getElem_cons_zero, List.setIfInBounds_toArray, List.set_cons_zero, List.set_cons_succ]
        refine wpAnyH_take (i := 6) (v := .agg #[.int .i64 (x.1), .int .i64 (x.2.1)]) rfl (by kernel_rfl) (by kernel_rfl) (by kernel_rfl) (fun _ _ _ h => h) (Or.inl ⟨by rfl, ?_⟩) hS0 ?_
        · intro w hSw; have s0 := gr_cell hSw e0; have s1 := gr_cell hSw e1; go_simp
        try simp only [Act.put, List.getElem_toArray, List.getElem_cons_succ, List.getElem_cons_zero, List.setIfInBounds_toArray, List.set_cons_zero, List.set_cons_succ]
        refine wpAnyH_take (i := 7) (v := .int .u16 home) rfl (by kernel_rfl) (by kernel_rfl) (by kernel_rfl) (fun _ _ _ h => h) (Or.inl ⟨by rfl, ?_⟩) hS0 ?_
        · intro w hSw; go_simp
        try simp only [Act.put, List.getElem_toArray, List.getElem_cons_succ, List.getElem_cons_zero, List.setIfInBounds_toArray, List.set_cons_zero, List.set_cons_succ]
        refine wpAnyH_take (i := 8) (v := .int .i64 home) rfl (by kernel_rfl) (by kernel_rfl) (by kernel_rfl) (fun _ _ _ h => h) (Or.inl ⟨by rfl, ?_⟩) hS0 ?_
        · intro w hSw; go_simp <;> rw [hwrap]
        try simp only [Act.put, List.getElem_toArray, List.getElem_cons_succ, List.getElem_cons_zero, List.setIfInBounds_toArray, List.set_cons_zero, List.set_cons_succ]
        refine wpAnyH_ready (rs := [9]) (by kernel_rfl) (by simp) (AllReadyH.cons rfl (fun K' hK' => ?_) AllReadyH.nil)
        go_simp
        refine (HL2.out _).mono ?_; rintro e w6 ⟨rfl, hg6⟩
        refine hK'.out _ _ (hS0.trans hg6) (fun hS1 => ?_)
        clear hK' K'
        try simp only [Act.put, List.getElem_toArray, List.getElem_cons_succ, List.getElem_cons_zero, List.setIfInBounds_toArray, List.set_cons_zero, List.set_cons_succ]
        refine wpAnyH_take (i := 10) (v := .tuple #[.int .i64 V, .int .i64 0]) rfl (by kernel_rfl) (by kernel_rfl) (by kernel_rfl) (fun _ _ _ h => h) (Or.inl ⟨by rfl, ?_⟩) hS1 ?_
        · intro w hSw; go_simp
        try simp only [Act.put, List.getElem_toArray, List.getElem_cons_succ, List.getElem_cons_zero, List.setIfInBounds_toArray, List.set_cons_zero, List.set_cons_succ]
        refine wpAnyH_take (i := 11) (v := .int .i64 V) rfl (by kernel_rfl) (by kernel_rfl) (by kernel_rfl) (fun _ _ _ h => h) (Or.inl ⟨by rfl, ?_⟩) hS1 ?_
        · intro w hSw; go_simp
        try simp only [Act.put, List.getElem_toArray, List.getElem_cons_succ, List.getElem_cons_zero, List.setIfInBounds_toArray, List.set_cons_zero, List.set_cons_succ]
        refine wpAnyH_take (i := 12) (v := .int .i64 0) rfl (by kernel_rfl) (by kernel_rfl) (by kernel_rfl) (fun _ _ _ h => h) (Or.inl ⟨by rfl, ?_⟩) hS1 ?_
        · intro w hSw; go_simp
        try simp only [Act.put, List.getElem_toArray, List.getElem_cons_succ, List.getElem_cons_zero, List.setIfInBounds_toArray, List.set_cons_zero, List.set_cons_succ]
        refine wpAnyH_take (i := 13) (v := .int .i64 V) rfl (by kernel_rfl) (by kernel_rfl) (by kernel_rfl) (fun _ _ _ h => h) (Or.inl ⟨by rfl, ?_⟩) hS1 ?_
        · intro w hSw; go_simp
        try simp only [Act.put, List.getElem_toArray, List.getElem_cons_succ, List.getElem_cons_zero, List.setIfInBounds_toArray, List.set_cons_zero, List.set_cons_succ]
        refine wpAnyH_take (i := 14) (v := .int .i64 0) rfl (by kernel_rfl) (by kernel_rfl) (by kernel_rfl) (fun _ _ _ h => h) (Or.inl ⟨by rfl, ?_⟩) hS1 ?_
        · intro w hSw; go_simp
        try simp only [Act.put, List.getElem_toArray, List.getElem_cons_succ, List.getElem_cons_zero, List.setIfInBounds_toArray, List.set_cons_zero, List.set_cons_succ]
        refine wpAnyH_done (by kernel_rfl) ?_ _
        have HG6 := Lib.hid (HG5.out.trans hS1)
        have HW6 := Lib.hid (HWA.out.trans hS1)
        have HB6 := Lib.hid (HB5.out.gr hS1)
        clear hg6 hS0 hS1 HG5 HB5 HWA e0 e1 d2 d3 HL2
        have e0 := HB6.out.cell (k := 0) rfl
        have e1 := HB6.out.cell (k := 1) rfl
        have d0 := gr_cell HW6.out D0.out
        have d1 := gr_cell HW6.out D1.out
        have d2 := gr_cell HW6.out D2.out
        have hk := HK.out
        go_wp2_with fail
        have hS0 : (fun w' : World => Gr w6 w') w6.drew := (Gr.refl _).drew
        refine wp_region_held (S := fun w' : World => Gr w6 w') (by kernel_rfl) ?_
        change wpAnyH _ _ _ _ _ _ _ _ w6.drew
        refine wpAnyH_take (i := 0) (v := .int .i64 0) rfl (by kernel_rfl) (by kernel_rfl) (by kernel_rfl) (fun _ _ _ h => h) (Or.inl ⟨by rfl, ?_⟩) hS0 ?_
        · intro w hSw; go_simp
        try simp only [Act.put, List.getElem_toArray, List.getElem_cons_succ, List.getElem_cons_zero, List.setIfInBounds_toArray, List.set_cons_zero, List.set_cons_succ]
        refine wpAnyH_take (i := 1) (v := .bool false) rfl (by kernel_rfl) (by kernel_rfl) (by kernel_rfl) (fun _ _ _ h => h) (Or.inl ⟨by rfl, ?_⟩) hS0 ?_
        · intro w hSw; go_simp
        try simp only [Act.put, List.getElem_toArray, List.getElem_cons_succ, List.getElem_cons_zero, List.setIfInBounds_toArray, List.set_cons_zero, List.set_cons_succ]
        refine wpAnyH_take (i := 2) (v := .bool false) rfl (by kernel_rfl) (by kernel_rfl) (by kernel_rfl) (fun _ _ _ h => h) (Or.inl ⟨by rfl, ?_⟩) hS0 ?_
        · intro w hSw; go_simp
        try simp only [Act.put, List.getElem_toArray, List.getElem_cons_succ, List.getElem_cons_zero, List.setIfInBounds_toArray, List.set_cons_zero, List.set_cons_succ]
        refine wpAnyH_take (i := 3) (v := .int .i64 0) rfl (by kernel_rfl) (by kernel_rfl) (by kernel_rfl) (fun _ _ _ h => h) (Or.inl ⟨by rfl, ?_⟩) hS0 ?_
        · intro w hSw; go_simp
        try simp only [Act.put, List.getElem_toArray, List.getElem_cons_succ, List.getElem_cons_zero, List.setIfInBounds_toArray, List.set_cons_zero, List.set_cons_succ]
        refine wpAnyH_take (i := 4) (v := .bool false) rfl (by kernel_rfl) (by kernel_rfl) (by kernel_rfl) (fun _ _ _ h => h) (Or.inl ⟨by rfl, ?_⟩) hS0 ?_
        · intro w hSw; go_simp
        try simp only [Act.put, List.getElem_toArray, List.getElem_cons_succ, List.getElem_cons_zero, List.setIfInBounds_toArray, List.set_cons_zero, List.set_cons_succ]
        refine wpAnyH_take (i := 5) (v := .bool false) rfl (by kernel_rfl) (by kernel_rfl) (by kernel_rfl) (fun _ _ _ h => h) (Or.inl ⟨by rfl, ?_⟩) hS0 ?_
        · intro w hSw; go_simp
        try simp only [Act.put, List.getElem_toArray, List.getElem_cons_succ, List.getElem_cons_zero, List.setIfInBounds_toArray, List.set_cons_zero, List.set_cons_succ]
        refine wpAnyH_take (i := 6) (v := .bool false) rfl (by kernel_rfl) (by kernel_rfl) (by kernel_rfl) (fun _ _ _ h => h) (Or.inl ⟨by rfl, ?_⟩) hS0 ?_
        · intro w hSw; go_simp
        try simp only [Act.put, List.getElem_toArray, List.getElem_cons_succ, List.getElem_cons_zero, List.setIfInBounds_toArray, List.set_cons_zero, List.set_cons_succ]
        refine wpAnyH_take (i := 7) (v := .int .i64 V) rfl (by kernel_rfl) (by kernel_rfl) (by kernel_rfl) (fun _ _ _ h => h) (Or.inl ⟨by rfl, ?_⟩) hS0 ?_
        · intro w hSw; go_simp
        try simp only [Act.put, List.getElem_toArray, List.getElem_cons_succ, List.getElem_cons_zero, List.setIfInBounds_toArray, List.set_cons_zero, List.set_cons_succ]
        refine wpAnyH_take (i := 8) (v := .int .i64 V) rfl (by kernel_rfl) (by kernel_rfl) (by kernel_rfl) (fun _ _ _ h => h) (Or.inl ⟨by rfl, ?_⟩) hS0 ?_
        · intro w hSw; go_simp
        try simp only [Act.put, List.getElem_toArray, List.getElem_cons_succ, List.getElem_cons_zero, List.setIfInBounds_toArray, List.set_cons_zero, List.set_cons_succ]
        refine wpAnyH_take (i := 9) (v := .bool false) rfl (by kernel_rfl) (by kernel_rfl) (by kernel_rfl) (fun _ _ _ h => h) (Or.inl ⟨by rfl, ?_⟩) hS0 ?_
        · intro w hSw; go_simp
        try simp only [Act.put, List.getElem_toArray, List.getElem_cons_succ, List.getElem_cons_zero, List.setIfInBounds_toArray, List.set_cons_zero, List.set_cons_succ]
        refine wpAnyH_take (i := 10) (v := .bool false) rfl (by kernel_rfl) (by kernel_rfl) (by kernel_rfl) (fun _ _ _ h => h) (Or.inl ⟨by rfl, ?_⟩) hS0 ?_
        · intro w hSw; go_simp
        try simp only [Act.put, List.getElem_toArray, List.getElem_cons_succ, List.getElem_cons_zero, List.setIfInBounds_toArray, List.set_cons_zero, List.set_cons_succ]
        refine wpAnyH_take (i := 11) (v := .bool false) rfl (by kernel_rfl) (by kernel_rfl) (by kernel_rfl) (fun _ _ _ h => h) (Or.inl ⟨by rfl, ?_⟩) hS0 ?_
        · intro w hSw; go_simp
        try simp only [Act.put, List.getElem_toArray, List.getElem_cons_succ, List.getElem_cons_zero, List.setIfInBounds_toArray, List.set_cons_zero, List.set_cons_succ]
        refine wpAnyH_take (i := 12) (v := .slice (some ⟨b2, o2, none⟩) n c2) rfl (by kernel_rfl) (by kernel_rfl) (by kernel_rfl) (fun _ _ _ h => h) (Or.inl ⟨by rfl, ?_⟩) hS0 ?_
        · intro w hSw; go_simp
        try simp only [Act.put, List.getElem_toArray, List.getElem_cons_succ, List.getElem_cons_zero, List.setIfInBounds_toArray, List.set_cons_zero, List.set_cons_succ]
        refine wpAnyH_take (i := 13) (v := .int .i64 j) rfl (by kernel_rfl) (by kernel_rfl) (by kernel_rfl) (fun _ _ _ h => h) (Or.inl ⟨by rfl, ?_⟩) hS0 ?_
        · intro w hSw; go_simp
        try simp only [Act.put, List.getElem_toArray, List.getElem_cons_succ, List.getElem_cons_zero, List.setIfInBounds_toArray, List.set_cons_zero, List.set_cons_succ]
        refine wpAnyH_take (i := 14) (v := .pointer (some ⟨b2, o2 + j * 4, none⟩)) rfl (by kernel_rfl) (by kernel_rfl) (by kernel_rfl) (fun _ _ _ h => h) (Or.inl ⟨by rfl, ?_⟩) hS0 ?_
        · intro w hSw; go_simp
        try simp only [Act.put, List.getElem_toArray, List.getElem_cons_succ, List.getElem_cons_zero, List.setIfInBounds_toArray, List.set_cons_zero, List.set_cons_succ]
        refine wpAnyH_take (i := 15) (v := .pointer (some ⟨b2, o2 + j * 4 + 2, none⟩)) rfl (by kernel_rfl) (by kernel_rfl) (by kernel_rfl) (fun _ _ _ h => h) (Or.inl ⟨by rfl, ?_⟩) hS0 ?_
        · intro w hSw; go_simp
        try simp only [Act.put, List.getElem_toArray, List.getElem_cons_succ, List.getElem_cons_zero, List.setIfInBounds_toArray, List.set_cons_zero, List.set_cons_succ]
        refine wpAnyH_take (i := 16) (v := .pointer (some ⟨b2, o2 + j * 4 + 2, none⟩)) rfl (by kernel_rfl) (by kernel_rfl) (by kernel_rfl) (fun _ _ _ h => h) (Or.inl ⟨by rfl, ?_⟩) hS0 ?_
        · intro w hSw; go_simp
        try simp only [Act.put, List.getElem_toArray, List.getElem_cons_succ, List.getElem_cons_zero, List.setIfInBounds_toArray, List.set_cons_zero, List.set_cons_succ]
        refine wpAnyH_take (i := 17) (v := .int .i64 (y.2.2.1)) rfl (by kernel_rfl) (by kernel_rfl) (by kernel_rfl) (fun _ _ _ h => h) (Or.inl ⟨by rfl, ?_⟩) hS0 ?_
        · intro w hSw; have s0 := gr_cell hSw d2; go_simp
        try simp only [Act.put, List.getElem_toArray, List.getElem_cons_succ, List.getElem_cons_zero, List.setIfInBounds_toArray, List.set_cons_zero, List.set_cons_succ]
        refine wpAnyH_take (i := 18) (v := .bool false) rfl (by kernel_rfl) (by kernel_rfl) (by kernel_rfl) (fun _ _ _ h => h) (Or.inl ⟨by rfl, ?_⟩) hS0 ?_
        · intro w hSw; go_simp <;> omega
        try simp only [Act.put, List.getElem_toArray, List.getElem_cons_succ, List.getElem_cons_zero, List.setIfInBounds_toArray, List.set_cons_zero, List.set_cons_succ]
        refine wpAnyH_take (i := 19) (v := .bool false) rfl (by kernel_rfl) (by kernel_rfl) (by kernel_rfl) (fun _ _ _ h => h) (Or.inl ⟨by rfl, ?_⟩) hS0 ?_
        · intro w hSw; go_simp
        try simp only [Act.put, List.getElem_toArray, List.getElem_cons_succ, List.getElem_cons_zero, List.setIfInBounds_toArray, List.set_cons_zero, List.set_cons_succ]
        refine wpAnyH_take (i := 20) (v := .bool false) rfl (by kernel_rfl) (by kernel_rfl) (by kernel_rfl) (fun _ _ _ h => h) (Or.inl ⟨by rfl, ?_⟩) hS0 ?_
        · intro w hSw; go_simp
        try simp only [Act.put, List.getElem_toArray, List.getElem_cons_succ, List.getElem_cons_zero, List.setIfInBounds_toArray, List.set_cons_zero, List.set_cons_succ]
        refine wpAnyH_take (i := 21) (v := .slice (some ⟨b2, o2, none⟩) n c2) rfl (by kernel_rfl) (by kernel_rfl) (by kernel_rfl) (fun _ _ _ h => h) (Or.inl ⟨by rfl, ?_⟩) hS0 ?_
        · intro w hSw; go_simp
        try simp only [Act.put, List.getElem_toArray, List.getElem_cons_succ, List.getElem_cons_zero, List.setIfInBounds_toArray, List.set_cons_zero, List.set_cons_succ]
        refine wpAnyH_take (i := 22) (v := .int .i64 j) rfl (by kernel_rfl) (by kernel_rfl) (by kernel_rfl) (fun _ _ _ h => h) (Or.inl ⟨by rfl, ?_⟩) hS0 ?_
        · intro w hSw; go_simp
        try simp only [Act.put, List.getElem_toArray, List.getElem_cons_succ, List.getElem_cons_zero, List.setIfInBounds_toArray, List.set_cons_zero, List.set_cons_succ]
        refine wpAnyH_take (i := 23) (v := .pointer (some ⟨b2, o2 + j * 4, none⟩)) rfl (by kernel_rfl) (by kernel_rfl) (by kernel_rfl) (fun _ _ _ h => h) (Or.inl ⟨by rfl, ?_⟩) hS0 ?_
        · intro w hSw; go_simp
        try simp only [Act.put, List.getElem_toArray, List.getElem_cons_succ, List.getElem_cons_zero, List.setIfInBounds_toArray, List.set_cons_zero, List.set_cons_succ]
        refine wpAnyH_take (i := 24) (v := .pointer (some ⟨b2, o2 + j * 4, none⟩)) rfl (by kernel_rfl) (by kernel_rfl) (by kernel_rfl) (fun _ _ _ h => h) (Or.inl ⟨by rfl, ?_⟩) hS0 ?_
        · intro w hSw; go_simp
        try simp only [Act.put, List.getElem_toArray, List.getElem_cons_succ, List.getElem_cons_zero, List.setIfInBounds_toArray, List.set_cons_zero, List.set_cons_succ]
        refine wpAnyH_take (i := 25) (v := .agg #[.int .i64 (x.1), .int .i64 (x.2.1)]) rfl (by kernel_rfl) (by kernel_rfl) (by kernel_rfl) (fun _ _ _ h => h) (Or.inl ⟨by rfl, ?_⟩) hS0 ?_
        · intro w hSw; have s0 := gr_cell hSw d0; have s1 := gr_cell hSw d1; go_simp
        try simp only [Act.put, List.getElem_toArray, List.getElem_cons_succ, List.getElem_cons_zero, List.setIfInBounds_toArray, List.set_cons_zero, List.set_cons_succ]
        refine wpAnyH_take (i := 26) (v := .pointer (some ⟨p, 0, none⟩)) rfl (by kernel_rfl) (by kernel_rfl) (by kernel_rfl) (fun _ _ _ h => h) (Or.inl ⟨by rfl, ?_⟩) hS0 ?_
        · intro w hSw; go_simp
        try simp only [Act.put, List.getElem_toArray, List.getElem_cons_succ, List.getElem_cons_zero, List.setIfInBounds_toArray, List.set_cons_zero, List.set_cons_succ]
        refine wpAnyH_take (i := 27) (v := .agg #[.int .i64 (x.1), .int .i64 (x.2.1)]) rfl (by kernel_rfl) (by kernel_rfl) (by kernel_rfl) (fun _ _ _ h => h) (Or.inl ⟨by rfl, ?_⟩) hS0 ?_
        · intro w hSw; have s0 := gr_cell hSw e0; have s1 := gr_cell hSw e1; go_simp
        try simp only [Act.put, List.getElem_toArray, List.getElem_cons_succ, List.getElem_cons_zero, List.setIfInBounds_toArray, List.set_cons_zero, List.set_cons_succ]
        refine wpAnyH_take (i := 28) (v := .bool false) rfl (by kernel_rfl) (by kernel_rfl) (by kernel_rfl) (fun _ _ _ h => h) (Or.inl ⟨by rfl, ?_⟩) hS0 ?_
        · intro w hSw; go_simp
        try simp only [Act.put, List.getElem_toArray, List.getElem_cons_succ, List.getElem_cons_zero, List.setIfInBounds_toArray, List.set_cons_zero, List.set_cons_succ]
        refine wpAnyH_take (i := 29) (v := .bool false) rfl (by kernel_rfl) (by kernel_rfl) (by kernel_rfl) (fun _ _ _ h => h) (Or.inl ⟨by rfl, ?_⟩) hS0 ?_
        · intro w hSw; go_simp
        try simp only [Act.put, List.getElem_toArray, List.getElem_cons_succ, List.getElem_cons_zero, List.setIfInBounds_toArray, List.set_cons_zero, List.set_cons_succ]
        refine wpAnyH_done (by kernel_rfl) ?_ _
        have HG7 := Lib.hid (HG6.out.trans hS0)
        have HB7 := Lib.hid (HB6.out.gr hS0)
        clear hS0 HG6 HB6 HW6 e0 e1 d0 d1 d2
        have e0 := HB7.out.cell (k := 0) rfl
        have e1 := HB7.out.cell (k := 1) rfl
        go_wp2_with fail
        refine (HCT.out _ HG7.out).mono ?_; rintro e w8 ⟨rfl, hg8⟩
        have HG8 := Lib.hid (HG7.out.trans hg8)
        have HB8 := Lib.hid (HB7.out.gr hg8)
        clear hg8 HG7 HB7 e0 e1
        have e2 := HB8.out.cell (k := 2) rfl
        cases C
        · go_wp2
          go_roundw
          case rel => exact ⟨j + 1, by go_num, by omega, HG8⟩
          case measure => simp [intOf]; omega
        · obtain ⟨hq, hv⟩ := HCX.out rfl
          subst hv
          go_wp2
          go_roundw
          case rel => exact ⟨j + 1, by go_num, by omega, HG8⟩
          case measure => simp [intOf]; omega
      · have HGe := Lib.hid (HG3.out.trans HG.out)
        clear HG
        go_wp2_with fail
        refine (HAW.out _).mono ?_; rintro e w9 ⟨rfl, hg9⟩
        have HG9 := Lib.hid (HGe.out.trans hg9)
        clear hg9
        go_wp2
        go_ret
        exact ⟨rfl, HG9.out⟩
  · rw [decide_eq_false hD] at HGV
    clear hr hlen hin he hD
    generalize l.length = ml at *
    generalize es.length = me at *
    go_enter Try.func7, Try.ntmps7
    go_wp2_with fail
    refine HGV.out.mono ?_; rintro e w1 ⟨rfl, hg1⟩
    have HG1 := Lib.hid hg1
    clear hg1 HGV
    go_wp2_with fail
    refine (HAW.out _).mono ?_; rintro e w9 ⟨rfl, hg9⟩
    have HG9 := Lib.hid (HG1.out.trans hg9)
    clear hg9
    go_wp2
    go_ret
    exact ⟨rfl, HG9.out⟩
end Go.Proofs.Ytgjlcmheipmmlaa
