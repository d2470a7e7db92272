/- Law 15: PaletteChecks, PaletteLevels, PaletteFlattens. -/
import Derived.Test.YtgjlcmheipmmlaaPaT
set_option linter.unusedVariables false
set_option linter.unusedSimpArgs false
namespace Go.Proofs.Ytgjlcmheipmmlaa
open Go.RowKit
open Z
set_option maxRecDepth 100000 in
set_option maxHeartbeats 8000000 in
theorem l15_PaletteChecks {p v : Int} {ae : Option Addr} {es : List En} {ce : Nat} {al : Option Addr} {l : List Pl} {cl : Nat} (w : World) (he : Rd shE w ae es) (hle : es.length ≤ 9223372036854775807) (hr : RdP w al l) (hlen : l.length ≤ 9223372036854775807) (hin : ∀ g ∈ l, g.2.length ≤ 9223372036854775807) :
    Calls Try.prog 3 #[.agg #[.int .i64 p, .int .i64 v], .slice ae es.length ce, .slice al l.length cl] w fun e w' => e = .returned (.bool true) ∧ Gr w w' := by
  have HAW := Lib.hid (fun W => l15_awake W)
  have HF1 := Lib.hid (fun W => r15_FewEntries (a := ae) (l := es) (cap := ce) W (by omega))
  have HF2 := Lib.hid (fun W (hW : Gr w W) => r15_Few (cap := cl) W (hr.gr hW) (by omega))
  have HV1 := Lib.hid (fun W => pl_Value p v W)
  have HV2 := Lib.hid (fun W => r15_Value p v W)
  have HE1 := Lib.hid (fun W (hW : Gr w W) => pl_Entries (cap := ce) W (he.gr hW) hle)
  have HE2 := Lib.hid (fun W (hW : Gr w W) => r15_Entries (cap := ce) W (he.gr hW) hle)
  have HC1 := Lib.hid (fun W (hW : Gr w W) => pl_Check (cap := cl) W (hr.gr hW) hlen hin)
  have HC2 := Lib.hid (fun W (hW : Gr w W) => r15_Check (cap := cl) W (hr.gr hW) hlen hin)
  clear he hr hin
  generalize es.length = me at *
  generalize fewB l = B2 at *
  generalize l.length = ml at *
  generalize decide (me ≤ 200 ∨ 4096 < me) = B1 at *
  generalize valR p v = X at *
  generalize entR es = Y at *
  generalize palR l = Z at *
  obtain ⟨w1, hw1⟩ : ∃ w1, w1 = w.alloc (.cells #[.int .i64 p, .int .i64 v] 23) := ⟨_, rfl⟩
  obtain ⟨q, hq⟩ : ∃ q, q = w.heap.size := ⟨_, rfl⟩
  have HG1 := Lib.hid (show Gr w w1 by rw [hw1]; exact (Gr.refl w).alloc _)
  have c0 : w1.cell? ⟨q, 0, none⟩ = some (.int .i64 p) := by rw [hw1, hq]; exact fresh w [.int .i64 p, .int .i64 v] _ (k := 0) rfl
  have c1 : w1.cell? ⟨q, 1, none⟩ = some (.int .i64 v) := by rw [hw1, hq]; exact fresh w [.int .i64 p, .int .i64 v] _ (k := 1) rfl
  go_enter Try.func3, Try.ntmps3
  go_wp2_with fail
  rw [← hw1, ← hq]
  clear hw1 hq
  refine (HF1.out _).mono ?_; rintro e w2 ⟨rfl, rfl⟩
  cases B1
  · go_wp2_with fail
    refine (HAW.out _).mono ?_; rintro e w3 ⟨rfl, hg3⟩
    have HG3 := Lib.hid (HG1.out.trans hg3)
    clear hg3
    go_wp2
    go_ret
    exact ⟨rfl, HG3.out⟩
  · go_wp2_with fail
    refine (HF2.out _ HG1.out).mono ?_; rintro e w2 ⟨rfl, rfl⟩
    cases B2
    · go_wp2_with fail
      refine (HAW.out _).mono ?_; rintro e w3 ⟨rfl, hg3⟩
      have HG3 := Lib.hid (HG1.out.trans hg3)
      clear hg3
      go_wp2
      go_ret
      exact ⟨rfl, HG3.out⟩
    · go_wp2_with fail
      have hS0 : (fun w' : World => Gr w1 w') w1.drew := (Gr.refl _).drew
      refine wp_region_held (S := fun w' : World => Gr w1 w') (by kernel_rfl) ?_
      change wpAnyH _ _ _ _ _ _ _ _ w1.drew
      refine wpAnyH_take (i := 0) (v := .agg #[.int .i64 p, .int .i64 v]) rfl (by kernel_rfl) (by kernel_rfl) (by kernel_rfl) (fun _ _ _ h => h) (Or.inl ⟨by rfl, ?_⟩) hS0 ?_
      · intro w hSw; have s0 := gr_cell hSw c0; have s1 := gr_cell hSw c1; go_simp
      try simp only [Act.put, List.getElem_toArray, List.getElem_cons_succ, List.getElem_cons_zero, List.setIfInBounds_toArray, List.set_cons_zero, List.set_cons_succ]
      refine wpAnyH_take (i := 2) (v := .agg #[.int .i64 p, .int .i64 v]) rfl (by kernel_rfl) (by kernel_rfl) (by kernel_rfl) (fun _ _ _ h => h) (Or.inl ⟨by rfl, ?_⟩) hS0 ?_
      · intro w hSw; have s0 := gr_cell hSw c0; have s1 := gr_cell hSw c1; go_simp
      try simp only [Act.put, List.getElem_toArray, List.getElem_cons_succ, List.getElem_cons_zero, List.setIfInBounds_toArray, List.set_cons_zero, List.set_cons_succ]
      refine wpAnyH_ready (rs := [1]) (by kernel_rfl) (by simp) (AllReadyH.cons rfl (fun K' hK' => ?_) AllReadyH.nil)
      go_simp
      refine (HV1.out _).mono ?_; rintro e w3 ⟨rfl, hg3⟩
      refine hK'.out _ _ (hS0.trans hg3) (fun hS1 => ?_)
      clear hK' K'
      try simp only [Act.put, List.getElem_toArray, List.getElem_cons_succ, List.getElem_cons_zero, List.setIfInBounds_toArray, List.set_cons_zero, List.set_cons_succ]
      refine wpAnyH_ready (rs := [3]) (by kernel_rfl) (by simp) (AllReadyH.cons rfl (fun K' hK' => ?_) AllReadyH.nil)
      go_simp
      refine (HV2.out _).mono ?_; rintro e w4 ⟨rfl, hg4⟩
      refine hK'.out _ _ (hS1.trans hg4) (fun hS2 => ?_)
      clear hK' K'
      try simp only [Act.put, List.getElem_toArray, List.getElem_cons_succ, List.getElem_cons_zero, List.setIfInBounds_toArray, List.set_cons_zero, List.set_cons_succ]
      refine wpAnyH_take (i := 4) (v := .bool true) rfl (by kernel_rfl) (by kernel_rfl) (by kernel_rfl) (fun _ _ _ h => h) (Or.inl ⟨by rfl, ?_⟩) hS2 ?_
      · intro w hSw; go_simp
      try simp only [Act.put, List.getElem_toArray, List.getElem_cons_succ, List.getElem_cons_zero, List.setIfInBounds_toArray, List.set_cons_zero, List.set_cons_succ]
      refine wpAnyH_take (i := 5) (v := .bool true) rfl (by kernel_rfl) (by kernel_rfl) (by kernel_rfl) (fun _ _ _ h => h) (Or.inl ⟨by rfl, ?_⟩) hS2 ?_
      · intro w hSw; go_simp
      try simp only [Act.put, List.getElem_toArray, List.getElem_cons_succ, List.getElem_cons_zero, List.setIfInBounds_toArray, List.set_cons_zero, List.set_cons_succ]
      refine wpAnyH_take (i := 6) (v := .slice ae me ce) rfl (by kernel_rfl) (by kernel_rfl) (by kernel_rfl) (fun _ _ _ h => h) (Or.inl ⟨by rfl, ?_⟩) hS2 ?_
      · intro w hSw; go_simp
      try simp only [Act.put, List.getElem_toArray, List.getElem_cons_succ, List.getElem_cons_zero, List.setIfInBounds_toArray, List.set_cons_zero, List.set_cons_succ]
      refine wpAnyH_take (i := 8) (v := .slice ae me ce) rfl (by kernel_rfl) (by kernel_rfl) (by kernel_rfl) (fun _ _ _ h => h) (Or.inl ⟨by rfl, ?_⟩) hS2 ?_
      · intro w hSw; go_simp
      try simp only [Act.put, List.getElem_toArray, List.getElem_cons_succ, List.getElem_cons_zero, List.setIfInBounds_toArray, List.set_cons_zero, List.set_cons_succ]
      refine wpAnyH_ready (rs := [7]) (by kernel_rfl) (by simp) (AllReadyH.cons rfl (fun K' hK' => ?_) AllReadyH.nil)
      go_simp
      refine (HE1.out _ (HG1.out.trans hS2)).mono ?_; rintro e w5 ⟨rfl, hg5⟩
      refine hK'.out _ _ (hS2.trans hg5) (fun hS3 => ?_)
      clear hK' K'
      try simp only [Act.put, List.getElem_toArray, List.getElem_cons_succ, List.getElem_cons_zero, List.setIfInBounds_toArray, List.set_cons_zero, List.set_cons_succ]
      refine wpAnyH_ready (rs := [9]) (by kernel_rfl) (by simp) (AllReadyH.cons rfl (fun K' hK' => ?_) AllReadyH.nil)
      go_simp
      refine (HE2.out _ (HG1.out.trans hS3)).mono ?_; rintro e w6 ⟨rfl, hg6⟩
      refine hK'.out _ _ (hS3.trans hg6) (fun hS4 => ?_)
      clear hK' K'
      try simp only [Act.put, List.getElem_toArray, List.getElem_cons_succ, List.getElem_cons_zero, List.setIfInBounds_toArray, List.set_cons_zero, List.set_cons_succ]
      refine wpAnyH_take (i := 10) (v := .bool true) rfl (by kernel_rfl) (by kernel_rfl) (by kernel_rfl) (fun _ _ _ h => h) (Or.inl ⟨by rfl, ?_⟩) hS4 ?_
      · intro w hSw; go_simp
      try simp only [Act.put, List.getElem_toArray, List.getElem_cons_succ, List.getElem_cons_zero, List.setIfInBounds_toArray, List.set_cons_zero, List.set_cons_succ]
      refine wpAnyH_take (i := 11) (v := .bool true) rfl (by kernel_rfl) (by kernel_rfl) (by kernel_rfl) (fun _ _ _ h => h) (Or.inl ⟨by rfl, ?_⟩) hS4 ?_
      · intro w hSw; go_simp
      try simp only [Act.put, List.getElem_toArray, List.getElem_cons_succ, List.getElem_cons_zero, List.setIfInBounds_toArray, List.set_cons_zero, List.set_cons_succ]
      refine wpAnyH_take (i := 12) (v := .bool true) rfl (by kernel_rfl) (by kernel_rfl) (by kernel_rfl) (fun _ _ _ h => h) (Or.inl ⟨by rfl, ?_⟩) hS4 ?_
      · intro w hSw; go_simp
      try simp only [Act.put, List.getElem_toArray, List.getElem_cons_succ, List.getElem_cons_zero, List.setIfInBounds_toArray, List.set_cons_zero, List.set_cons_succ]
      refine wpAnyH_take (i := 13) (v := .slice al ml cl) rfl (by kernel_rfl) (by kernel_rfl) (by kernel_rfl) (fun _ _ _ h => h) (Or.inl ⟨by rfl, ?_⟩) hS4 ?_
      · intro w hSw; go_simp
      try simp only [Act.put, List.getElem_toArray, List.getElem_cons_succ, List.getElem_cons_zero, List.setIfInBounds_toArray, List.set_cons_zero, List.set_cons_succ]
      refine wpAnyH_take (i := 15) (v := .slice al ml cl) rfl (by kernel_rfl) (by kernel_rfl) (by kernel_rfl) (fun _ _ _ h => h) (Or.inl ⟨by rfl, ?_⟩) hS4 ?_
      · intro w hSw; go_simp
      try simp only [Act.put, List.getElem_toArray, List.getElem_cons_succ, List.getElem_cons_zero, List.setIfInBounds_toArray, List.set_cons_zero, List.set_cons_succ]
      refine wpAnyH_ready (rs := [14]) (by kernel_rfl) (by simp) (AllReadyH.cons rfl (fun K' hK' => ?_) AllReadyH.nil)
      go_simp
      refine (HC1.out _ (HG1.out.trans hS4)).mono ?_; rintro e w7 ⟨rfl, hg7⟩
      refine hK'.out _ _ (hS4.trans hg7) (fun hS5 => ?_)
      clear hK' K'
      try simp only [Act.put, List.getElem_toArray, List.getElem_cons_succ, List.getElem_cons_zero, List.setIfInBounds_toArray, List.set_cons_zero, List.set_cons_succ]
      refine wpAnyH_ready (rs := [16]) (by kernel_rfl) (by simp) (AllReadyH.cons rfl (fun K' hK' => ?_) AllReadyH.nil)
      go_simp
      refine (HC2.out _ (HG1.out.trans hS5)).mono ?_; rintro e w8 ⟨rfl, hg8⟩
      refine hK'.out _ _ (hS5.trans hg8) (fun hS6 => ?_)
      clear hK' K'
      try simp only [Act.put, List.getElem_toArray, List.getElem_cons_succ, List.getElem_cons_zero, List.setIfInBounds_toArray, List.set_cons_zero, List.set_cons_succ]
      refine wpAnyH_take (i := 17) (v := .bool true) rfl (by kernel_rfl) (by kernel_rfl) (by kernel_rfl) (fun _ _ _ h => h) (Or.inl ⟨by rfl, ?_⟩) hS6 ?_
      · intro w hSw; go_simp
      try simp only [Act.put, List.getElem_toArray, List.getElem_cons_succ, List.getElem_cons_zero, List.setIfInBounds_toArray, List.set_cons_zero, List.set_cons_succ]
      refine wpAnyH_take (i := 18) (v := .bool true) rfl (by kernel_rfl) (by kernel_rfl) (by kernel_rfl) (fun _ _ _ h => h) (Or.inl ⟨by rfl, ?_⟩) hS6 ?_
      · intro w hSw; go_simp
      try simp only [Act.put, List.getElem_toArray, List.getElem_cons_succ, List.getElem_cons_zero, List.setIfInBounds_toArray, List.set_cons_zero, List.set_cons_succ]
      refine wpAnyH_take (i := 19) (v := .bool true) rfl (by kernel_rfl) (by kernel_rfl) (by kernel_rfl) (fun _ _ _ h => h) (Or.inl ⟨by rfl, ?_⟩) hS6 ?_
      · intro w hSw; go_simp
      try simp only [Act.put, List.getElem_toArray, List.getElem_cons_succ, List.getElem_cons_zero, List.setIfInBounds_toArray, List.set_cons_zero, List.set_cons_succ]
      refine wpAnyH_ready (rs := [20]) (by kernel_rfl) (by simp) (AllReadyH.cons rfl (fun K' hK' => ?_) AllReadyH.nil)
      go_simp
      refine (HAW.out _).mono ?_; rintro e w9 ⟨rfl, hg9⟩
      refine hK'.out _ _ (hS6.trans hg9) (fun hS7 => ?_)
      clear hK' K'
      try simp only [Act.put, List.getElem_toArray, List.getElem_cons_succ, List.getElem_cons_zero, List.setIfInBounds_toArray, List.set_cons_zero, List.set_cons_succ]
      refine wpAnyH_take (i := 21) (v := .bool true) rfl (by kernel_rfl) (by kernel_rfl) (by kernel_rfl) (fun _ _ _ h => h) (Or.inl ⟨by rfl, ?_⟩) hS7 ?_
      · intro w hSw; go_simp
      try simp only [Act.put, List.getElem_toArray, List.getElem_cons_succ, List.getElem_cons_zero, List.setIfInBounds_toArray, List.set_cons_zero, List.set_cons_succ]
      refine wpAnyH_take (i := 22) (v := .bool true) rfl (by kernel_rfl) (by kernel_rfl) (by kernel_rfl) (fun _ _ _ h => h) (Or.inl ⟨by rfl, ?_⟩) hS7 ?_
      · intro w hSw; go_simp
      try simp only [Act.put, List.getElem_toArray, List.getElem_cons_succ, List.getElem_cons_zero, List.setIfInBounds_toArray, List.set_cons_zero, List.set_cons_succ]
      refine wpAnyH_done (by kernel_rfl) ?_ _
      have HGe := Lib.hid (HG1.out.trans hS7)
      go_wp2
      go_ret
      exact ⟨rfl, HGe.out⟩
set_option maxRecDepth 100000 in
set_option maxHeartbeats 4000000 in
theorem l15_PaletteLevels {al : Option Addr} {l : List Pl} {cl : Nat} {x : En} {home : Int} (w : World) (hr : RdP w al l) (hlen : l.length ≤ 9223372036854775807) (hin : ∀ g ∈ l, g.2.length ≤ 9223372036854775807) :
    Calls Try.prog 5 #[.slice al l.length cl, enV x, .int .i64 home] w fun e w' => e = .returned (.bool true) ∧ Gr w w' := by
  have HAW := Lib.hid (fun W => l15_awake W)
  have HF2 := Lib.hid (fun W (hW : Gr w W) => r15_Few (cap := cl) W (hr.gr hW) (by omega))
  have HL1 := Lib.hid (fun W (hW : Gr w W) => pl_Level (cap := cl) x home W (hr.gr hW) hlen hin)
  have HL2 := Lib.hid (fun W (hW : Gr w W) => r15_Level (cap := cl) x home W (hr.gr hW) hlen hin)
  clear hr hin
  generalize fewB l = B2 at *
  generalize levV l x home = V at *
  generalize levE l x home = E at *
  generalize l.length = ml at *
  obtain ⟨c, a, q, v⟩ := x
  simp only at HL1 HL2
  obtain ⟨w1, hw1⟩ : ∃ w1, w1 = w.alloc (.cells #[.int .i64 c, .int .i64 a, .int .i64 q, .int .i64 v] 57) := ⟨_, rfl⟩
  obtain ⟨g, hg⟩ : ∃ g, g = w.heap.size := ⟨_, rfl⟩
  have HG1 := Lib.hid (show Gr w w1 by rw [hw1]; exact (Gr.refl w).alloc _)
  have HB1 := Lib.hid (show Blk shE w1 g (c, a, q, v) by rw [hw1, hg]; exact Blk.new shE w (c, a, q, v))
  go_enter Try.func5, Try.ntmps5
  go_wp2_with fail
  rw [← hw1, ← hg]
  clear hw1 hg
  refine (HF2.out _ HG1.out).mono ?_; rintro e w2 ⟨rfl, rfl⟩
  cases B2
  · go_wp2_with fail
    refine (HAW.out _).mono ?_; rintro e w3 ⟨rfl, hg3⟩
    have HG3 := Lib.hid (HG1.out.trans hg3)
    clear hg3
    go_wp2
    go_ret
    exact ⟨rfl, HG3.out⟩
  · have c0 := HB1.out.cell (k := 0) rfl
    have c1 := HB1.out.cell (k := 1) rfl
    have c2 := HB1.out.cell (k := 2) rfl
    have c3 := HB1.out.cell (k := 3) rfl
    go_wp2_with fail
    refine (HL1.out _ HG1.out).mono ?_; rintro e w3 ⟨rfl, hg3⟩
    have HG3 := Lib.hid (HG1.out.trans hg3)
    have HB3 := HB1.out.gr hg3
    have d0 := HB3.cell (k := 0) rfl
    have d1 := HB3.cell (k := 1) rfl
    have d2 := HB3.cell (k := 2) rfl
    have d3 := HB3.cell (k := 3) rfl
    clear hg3 HB3 HB1 c0 c1 c2 c3 HG1
    go_wp2_with fail
    refine (HL2.out _ HG3.out).mono ?_; rintro e w4 ⟨rfl, hg4⟩
    have HG4 := Lib.hid (HG3.out.trans hg4)
    clear hg4 HG3 d0 d1 d2 d3
    go_wp2_with fail
    refine (HAW.out _).mono ?_; rintro e w5 ⟨rfl, hg5⟩
    have HG5 := Lib.hid (HG4.out.trans hg5)
    clear hg5
    go_wp2
    go_ret
    exact ⟨rfl, HG5.out⟩
end Go.Proofs.Ytgjlcmheipmmlaa
