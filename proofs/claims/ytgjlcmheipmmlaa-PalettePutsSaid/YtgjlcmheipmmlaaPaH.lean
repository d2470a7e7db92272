/- Law 15: hueAt, hueOf, refers, resolved, Find and Level of the program. -/
import Derived.Test.YtgjlcmheipmmlaaPaG
set_option linter.unusedVariables false
set_option linter.unusedSimpArgs false
namespace Go.Proofs.Ytgjlcmheipmmlaa
open Go.RowKit
open Z
/-- what a region leaves, ahead of what stands behind it -/
def CutQ (R : Act → World → Prop) : Exit → Act → World → Prop
  | .normal, a, w => R a w
  | _, _, _ => False
theorem region_cut {P : Program} {c : Code} {Q : Exit → Act → World → Prop} {A : Act} {W : World} (R : Act → Act → World → Prop) (h1 : c.wp P (CutQ (R A)) A W) (h2 : ∀ a w, R A a w → Q .normal a w) : c.wp P Q A W :=
  Code.wp_mono (fun e a w h => by
    cases e
    case normal => exact h2 a w h
    all_goals exact h.elim) h1
abbrev huV (h : Hu) : Value := .agg #[.int .i64 h.1, .int .i64 h.2.1, .int .i64 h.2.2]
/-- a hue is told, and whether there is one -/
def HuRet (e : Ending) (X : Option Int) : Prop := ∃ h : Hu, e = .returned (.tuple #[huV h, .bool X.isSome]) ∧ ∀ v, X = some v → h.2.2 = v
theorem run_loadH {w : World} {g : Nat} {x : Hu} (h : Blk shH w g x) : (loadVar 110 ⟨g, 0, none⟩).run Try.prog w = .ok (huV x) w := run_loadS shH Try.underlying110 h
theorem run_loadE {w : World} {g : Nat} {x : En} (h : Blk shE w g x) : (loadVar 57 ⟨g, 0, none⟩).run Try.prog w = .ok (.agg (shE.enc x).toArray) w := run_loadS shE Try.underlying57 h
set_option maxRecDepth 100000 in
set_option maxHeartbeats 2000000 in
theorem pl_hueAt {a : Option Addr} {l : List Hu} {cap : Nat} (pc pa : Int) (w : World) (hr : Rd shH w a l) (ha : l.Pairwise fun x y => bef (huK x) (huK y) = true) (hlen : l.length ≤ 300) :
    Calls Try.prog 93 #[.slice a l.length cap, .agg #[.int .i64 pc, .int .i64 pa]] w fun e w' => HuRet e (hueX l pc pa) ∧ Gr w w' := by
  obtain ⟨w2, hw2⟩ : ∃ w2, w2 = (w.alloc (.cells #[.int .i64 pc, .int .i64 pa] 55)).alloc (.cells #[.int .i64 0, .int .i64 0, .int .i64 0] 110) := ⟨_, rfl⟩
  obtain ⟨p, hp⟩ : ∃ p, p = w.heap.size := ⟨_, rfl⟩
  have hG2 : Gr w w2 := by rw [hw2]; exact ((Gr.refl w).alloc _).alloc _
  have HB := Lib.hid (show Blk shH w2 (p + 1) (0, 0, 0) by
    have := Blk.new shH (w.alloc (.cells #[.int .i64 pc, .int .i64 pa] 55)) (0, 0, 0)
    rw [World.size_alloc] at this
    rw [hw2, hp]; exact this)
  have hc0 : w2.cell? ⟨p, 0, none⟩ = some (.int .i64 pc) := by rw [hw2, hp]; exact gr_cell ((Gr.refl _).alloc _) (fresh w [.int .i64 pc, .int .i64 pa] _ (k := 0) rfl)
  have hc1 : w2.cell? ⟨p, 1, none⟩ = some (.int .i64 pa) := by rw [hw2, hp]; exact gr_cell ((Gr.refl _).alloc _) (fresh w [.int .i64 pc, .int .i64 pa] _ (k := 1) rfl)
  have HPL := Lib.hid (show w.heap.size ≤ p + 1 by omega)
  have HS := Lib.hid (sl_SearchH (cap := cap) pc pa w2 (hr.gr hG2) ha hlen)
  have HR := Lib.hid (hr.gr hG2)
  have HG2 := Lib.hid hG2
  obtain ⟨n, hn⟩ : ∃ n, n = l.length := ⟨_, rfl⟩
  have HN := Lib.hid hn
  rw [← hn] at hlen HS ⊢
  clear hn hr ha hG2
  generalize hueX l pc pa = V at *
  go_enter Try.func93, Try.ntmps93
  go_wp2_with fail
  rw [← hw2, ← hp]
  clear hw2 hp
  refine HS.out.mono ?_; rintro e w3 ⟨⟨i, rfl, hf⟩, hg3⟩
  have HG3 := Lib.hid (HG2.out.trans hg3)
  have HB3 := Lib.hid (HB.out.gr hg3)
  have HR3 := Lib.hid (HR.out.gr hg3)
  have HF := Lib.hid hf
  clear hg3 hf HS HB HR HG2 hc0 hc1
  cases V with
  | none =>
    go_wp2_with (refine wpl_storeS shH (0, 0, 0) rfl rfl rfl rfl HB3.out ?_)
    refine bodyPost_ret (v := .tuple #[huV (0, 0, 0), .bool false]) ?_ rfl ⟨⟨(0, 0, 0), rfl, fun v hv => by cases hv⟩, HG3.out.row HPL.out _⟩
    rw [results_cell_tmp rfl]
    simp [asAddr, Result.andThen]
    rw [run_loadH (HB3.out.row _)]
  | some v =>
    obtain ⟨hil, hv⟩ := HF.out v rfl
    have hin : i < n := by rw [HN.out]; exact hil
    obtain ⟨b, o, rfl, c0, c1, c2⟩ := hu_cells HR3.out hil
    have HL := Lib.hid hv
    clear hv HF
    generalize l[i] = h at *
    go_wp2_with (refine wpl_storeS shH h rfl rfl rfl rfl HB3.out ?_)
    refine bodyPost_ret (v := .tuple #[huV h, .bool true]) ?_ rfl ⟨⟨h, rfl, fun v' hv' => by cases hv'; exact HL.out⟩, HG3.out.row HPL.out _⟩
    rw [results_cell_tmp rfl]
    simp [asAddr, Result.andThen]
    rw [run_loadH (HB3.out.row _)]
set_option maxRecDepth 100000 in
set_option maxHeartbeats 4000000 in
theorem pl_hueOf {a : Option Addr} {l : List Pl} {cap : Nat} (n pc pa : Int) (w : World) (hr : RdP w a l) (hok : palR l = 0) :
    Calls Try.prog 76 #[.slice a l.length cap, .int .i64 n, .agg #[.int .i64 pc, .int .i64 pa]] w fun e w' => HuRet e (hueL l n pc pa) ∧ Gr w w' := by
  obtain ⟨hlen, hall, hasc⟩ := palR_zero.1 hok
  obtain ⟨w2, hw2⟩ : ∃ w2, w2 = (w.alloc (.cells #[.int .i64 pc, .int .i64 pa] 55)).alloc (.cells #[.int .i64 0, .int .i64 0, .int .i64 0] 110) := ⟨_, rfl⟩
  obtain ⟨p, hp⟩ : ∃ p, p = w.heap.size := ⟨_, rfl⟩
  have hG2 : Gr w w2 := by rw [hw2]; exact ((Gr.refl w).alloc _).alloc _
  have HB := Lib.hid (show Blk shH w2 (p + 1) (0, 0, 0) by
    have := Blk.new shH (w.alloc (.cells #[.int .i64 pc, .int .i64 pa] 55)) (0, 0, 0)
    rw [World.size_alloc] at this
    rw [hw2, hp]; exact this)
  have HC0 := Lib.hid (show w2.cell? ⟨p, 0, none⟩ = some (.int .i64 pc) by rw [hw2, hp]; exact gr_cell ((Gr.refl _).alloc _) (fresh w [.int .i64 pc, .int .i64 pa] _ (k := 0) rfl))
  have HC1 := Lib.hid (show w2.cell? ⟨p, 1, none⟩ = some (.int .i64 pa) by rw [hw2, hp]; exact gr_cell ((Gr.refl _).alloc _) (fresh w [.int .i64 pc, .int .i64 pa] _ (k := 1) rfl))
  have HPL := Lib.hid (show w.heap.size ≤ p + 1 by omega)
  have HS := Lib.hid (pl_place (cap := cap) n w2 (hr.gr hG2) hasc (by omega))
  have HR := Lib.hid hr
  have HG2 := Lib.hid hG2
  have HALL := Lib.hid hall
  have HASC := Lib.hid hasc
  obtain ⟨m, hm⟩ : ∃ m, m = l.length := ⟨_, rfl⟩
  have HM := Lib.hid hm
  rw [← hm] at hlen HS ⊢
  clear hm hr hasc hall hG2 hok
  obtain ⟨V, hV⟩ : ∃ V, hueL l n pc pa = V := ⟨_, rfl⟩
  rw [hV]
  have HV := Lib.hid hV
  clear hV
  go_enter Try.func76, Try.ntmps76
  go_wp2_with fail
  rw [← hw2, ← hp]
  clear hw2 hp
  refine HS.out.mono ?_; rintro e w3 ⟨⟨i, rfl, hlo⟩, hg3⟩
  have HG3 := Lib.hid (HG2.out.trans hg3)
  have HB3 := Lib.hid (HB.out.gr hg3)
  have e0 := gr_cell hg3 HC0.out
  have e1 := gr_cell hg3 HC1.out
  have HLO := Lib.hid hlo
  clear hg3 hlo HS HB HG2 HC0 HC1
  cases hN : hasN l n
  · have hv : V = none := by
      rw [← HV.out]; unfold hueL
      rw [show l.find? (fun g => decide (g.1 = n)) = none by
        rw [List.find?_eq_none]; intro x hx; simp only [decide_eq_true_eq]; intro e
        have := hasN_iff.2 ⟨x, hx, e⟩; rw [hN] at this; cases this]
    subst hv
    clear HV hN HALL HASC HLO HR e0 e1
    go_wp2_with (refine wpl_storeS shH (0, 0, 0) rfl rfl rfl rfl HB3.out ?_)
    refine bodyPost_ret (v := .tuple #[huV (0, 0, 0), .bool false]) ?_ rfl ⟨⟨(0, 0, 0), rfl, fun v hv => by cases hv⟩, HG3.out.row HPL.out _⟩
    rw [results_cell_tmp rfl]
    simp [asAddr, Result.andThen]
    rw [run_loadH (HB3.out.row _)]
  · obtain ⟨hil, hin⟩ := (HLO.out.has HASC.out).1 hN
    have him : i < m := by rw [HM.out]; exact hil
    have hfind : l.find? (fun g => decide (g.1 = n)) = some l[i] := by
      rw [List.find?_eq_some_iff_getElem]
      exact ⟨by simpa using hin, i, hil, rfl, fun j hj => by have := HLO.out.2.1 j (by omega) hj; simp; omega⟩
    obtain ⟨b, o, hc, hcap, rfl, -, c1w, hrh, hlh, hmh, -⟩ := HR.out.at hil
    have c1 := gr_cell HG3.out c1w
    obtain ⟨-, hh⟩ := HALL.out l[i] (List.getElem_mem hil)
    obtain ⟨hl256, -, hsort⟩ := huR_zero.1 hh
    have HA1 := Lib.hid (fun W (hW : Gr w3 W) => pl_hueAt (cap := hcap) pc pa W (hrh.gr (HG3.out.trans hW)) hsort (by omega))
    have HA2 := Lib.hid (fun W (hW : Gr w3 W) => pl_hueAt (cap := hcap) 0 pa W (hrh.gr (HG3.out.trans hW)) hsort (by omega))
    have HVX : Hid (V = match hueX l[i].2 pc pa with | some v => some v | none => hueX l[i].2 0 pa) := Lib.hid (by rw [← HV.out]; unfold hueL; rw [hfind]; rfl)
    clear HV hN HALL HASC HLO HR hh hsort hrh hfind hin
    unfold maxLen at hmh
    generalize l[i].2.length = hm at *
    generalize hueX l[i].2 pc pa = X at *
    generalize hueX l[i].2 0 pa = Y at *
    go_wp2_with fail
    refine region_cut (R := fun A a w' => ∃ (h : Hu) (q : Nat), a = ((((((((((((A.put (some 22) (.slice (some ⟨b, o, none⟩) m cap)).put (some 23) (.int .i64 i)).put (some 24) (.pointer (some ⟨b, o + i * 2, none⟩))).put (some 25) (.pointer (some ⟨b, o + i * 2 + 1, none⟩))).put (some 26) (.slice hc hm hcap)).put (some 27) (.agg #[.int .i64 pc, .int .i64 pa])).put (some 28) (.tuple #[huV h, .bool X.isSome])).put (some 21) (.tuple #[huV h, .bool X.isSome])).put (some 29) (huV h)).put (some 30) (.bool X.isSome)).put (some 10) (.pointer (some ⟨q, 0, none⟩))).put (some 11) (.bool X.isSome)) ∧ (∀ v, X = some v → h.2.2 = v) ∧ Gr w3 w' ∧ w3.heap.size ≤ q ∧ Blk shH w' q h) ?_ ?_
    · have hS0 : (fun w' : World => Gr w3 w') w3.drew := (Gr.refl _).drew
      refine wp_region_held (S := fun w' : World => Gr w3 w') (by kernel_rfl) ?_
      change wpAnyH _ _ _ _ _ _ _ _ w3.drew
      refine wpAnyH_take (i := 0) (v := .slice (some ⟨b, o, none⟩) m cap) rfl (by kernel_rfl) (by kernel_rfl) (by kernel_rfl) (fun _ _ _ h => h) (Or.inl ⟨by rfl, ?_⟩) hS0 ?_
      · intro w hSw; go_simp
      try simp only [Act.put, List.getElem_toArray, List.getElem_cons_succ, List.getElem_cons_zero, List.setIfInBounds_toArray, List.set_cons_zero, List.set_cons_succ]
      refine wpAnyH_take (i := 1) (v := .int .i64 i) rfl (by kernel_rfl) (by kernel_rfl) (by kernel_rfl) (fun _ _ _ h => h) (Or.inl ⟨by rfl, ?_⟩) hS0 ?_
      · intro w hSw; go_simp
      try simp only [Act.put, List.getElem_toArray, List.getElem_cons_succ, List.getElem_cons_zero, List.setIfInBounds_toArray, List.set_cons_zero, List.set_cons_succ]
      refine wpAnyH_take (i := 2) (v := .pointer (some ⟨b, o + i * 2, none⟩)) rfl (by kernel_rfl) (by kernel_rfl) (by kernel_rfl) (fun _ _ _ h => h) (Or.inl ⟨by rfl, ?_⟩) hS0 ?_
      · intro w hSw; go_simp
      try simp only [Act.put, List.getElem_toArray, List.getElem_cons_succ, List.getElem_cons_zero, List.setIfInBounds_toArray, List.set_cons_zero, List.set_cons_succ]
      refine wpAnyH_take (i := 3) (v := .pointer (some ⟨b, o + i * 2 + 1, none⟩)) rfl (by kernel_rfl) (by kernel_rfl) (by kernel_rfl) (fun _ _ _ h => h) (Or.inl ⟨by rfl, ?_⟩) hS0 ?_
      · intro w hSw; go_simp
      try simp only [Act.put, List.getElem_toArray, List.getElem_cons_succ, List.getElem_cons_zero, List.setIfInBounds_toArray, List.set_cons_zero, List.set_cons_succ]
      refine wpAnyH_take (i := 4) (v := .slice hc hm hcap) rfl (by kernel_rfl) (by kernel_rfl) (by kernel_rfl) (fun _ _ _ h => h) (Or.inl ⟨by rfl, ?_⟩) hS0 ?_
      · intro w hSw; have s0 := gr_cell hSw c1; go_simp
      try simp only [Act.put, List.getElem_toArray, List.getElem_cons_succ, List.getElem_cons_zero, List.setIfInBounds_toArray, List.set_cons_zero, List.set_cons_succ]
      refine wpAnyH_take (i := 5) (v := .agg #[.int .i64 pc, .int .i64 pa]) rfl (by kernel_rfl) (by kernel_rfl) (by kernel_rfl) (fun _ _ _ h => h) (Or.inl ⟨by rfl, ?_⟩) hS0 ?_
      · intro w hSw; have s0 := gr_cell hSw e0; have s1 := gr_cell hSw e1; go_simp
      try simp only [Act.put, List.getElem_toArray, List.getElem_cons_succ, List.getElem_cons_zero, List.setIfInBounds_toArray, List.set_cons_zero, List.set_cons_succ]
      refine wpAnyH_ready (rs := [6, 10]) (by kernel_rfl) (by simp) (AllReadyH.cons rfl (fun K' hK' => ?_) (AllReadyH.cons rfl (fun K' hK' => ?_) AllReadyH.nil))
      · go_simp
        refine (HA1.out _ hS0).mono ?_; rintro e w5 ⟨⟨h, rfl, hx⟩, hg5⟩
        refine hK'.out _ _ (hS0.trans hg5) (fun hS1 => ?_)
        clear hK' K'
        try simp only [Act.put, List.getElem_toArray, List.getElem_cons_succ, List.getElem_cons_zero, List.setIfInBounds_toArray, List.set_cons_zero, List.set_cons_succ]
        refine wpAnyH_take (i := 7) (v := .tuple #[huV h, .bool X.isSome]) rfl (by kernel_rfl) (by kernel_rfl) (by kernel_rfl) (fun _ _ _ h => h) (Or.inl ⟨by rfl, ?_⟩) hS1 ?_
        · intro w hSw; go_simp
        try simp only [Act.put, List.getElem_toArray, List.getElem_cons_succ, List.getElem_cons_zero, List.setIfInBounds_toArray, List.set_cons_zero, List.set_cons_succ]
        refine wpAnyH_take (i := 8) (v := huV h) rfl (by kernel_rfl) (by kernel_rfl) (by kernel_rfl) (fun _ _ _ h => h) (Or.inl ⟨by rfl, ?_⟩) hS1 ?_
        · intro w hSw; go_simp
        try simp only [Act.put, List.getElem_toArray, List.getElem_cons_succ, List.getElem_cons_zero, List.setIfInBounds_toArray, List.set_cons_zero, List.set_cons_succ]
        refine wpAnyH_take (i := 9) (v := .bool X.isSome) rfl (by kernel_rfl) (by kernel_rfl) (by kernel_rfl) (fun _ _ _ h => h) (Or.inl ⟨by rfl, ?_⟩) hS1 ?_
        · intro w hSw; go_simp
        try simp only [Act.put, List.getElem_toArray, List.getElem_cons_succ, List.getElem_cons_zero, List.setIfInBounds_toArray, List.set_cons_zero, List.set_cons_succ]
        have hz5 := hS1.size
        refine wpAnyH_ready (rs := [10]) (by kernel_rfl) (by simp) (AllReadyH.cons rfl (fun K' hK' => ?_) AllReadyH.nil)
        go_simp
        refine hK'.out _ _ (hS1.alloc _) (fun hS2 => ?_)
        clear hK' K'
        try simp only [Act.put, List.getElem_toArray, List.getElem_cons_succ, List.getElem_cons_zero, List.setIfInBounds_toArray, List.set_cons_zero, List.set_cons_succ]
        have hb9 := Blk.new shH w5 (0, 0, 0)
        refine wpAnyH_ready (rs := [11]) (by kernel_rfl) (by simp) (AllReadyH.cons rfl (fun K' hK' => ?_) AllReadyH.nil)
        refine wp_storeS shH h rfl rfl rfl hb9 ?_
        refine hK'.out _ _ (hS2.row (by omega) _) (fun hS9 => ?_)
        clear hK' K'
        try simp only [Act.put, List.getElem_toArray, List.getElem_cons_succ, List.getElem_cons_zero, List.setIfInBounds_toArray, List.set_cons_zero, List.set_cons_succ]
        refine wpAnyH_take (i := 12) (v := .bool X.isSome) rfl (by kernel_rfl) (by kernel_rfl) (by kernel_rfl) (fun _ _ _ h => h) (Or.inl ⟨by rfl, ?_⟩) hS9 ?_
        · intro w hSw; go_simp
        try simp only [Act.put, List.getElem_toArray, List.getElem_cons_succ, List.getElem_cons_zero, List.setIfInBounds_toArray, List.set_cons_zero, List.set_cons_succ]
        refine wpAnyH_done (by kernel_rfl) ?_ _
        exact ⟨h, _, rfl, hx, hS9, by omega, hb9.row _⟩
      · go_simp
        refine hK'.out _ _ (hS0.alloc _) (fun hS1 => ?_)
        clear hK' K'
        try simp only [Act.put, List.getElem_toArray, List.getElem_cons_succ, List.getElem_cons_zero, List.setIfInBounds_toArray, List.set_cons_zero, List.set_cons_succ]
        have hb8 := Blk.new shH w3.drew (0, 0, 0)
        refine wpAnyH_ready (rs := [6]) (by kernel_rfl) (by simp) (AllReadyH.cons rfl (fun K' hK' => ?_) AllReadyH.nil)
        go_simp
        refine (HA1.out _ hS1).mono ?_; rintro e w5 ⟨⟨h, rfl, hx⟩, hg5⟩
        have hb9 : Blk shH w5 w3.heap.size (0, 0, 0) := hb8.gr hg5
        refine hK'.out _ _ (hS1.trans hg5) (fun hS2 => ?_)
        clear hK' K'
        try simp only [Act.put, List.getElem_toArray, List.getElem_cons_succ, List.getElem_cons_zero, List.setIfInBounds_toArray, List.set_cons_zero, List.set_cons_succ]
        refine wpAnyH_take (i := 7) (v := .tuple #[huV h, .bool X.isSome]) rfl (by kernel_rfl) (by kernel_rfl) (by kernel_rfl) (fun _ _ _ h => h) (Or.inl ⟨by rfl, ?_⟩) hS2 ?_
        · intro w hSw; go_simp
        try simp only [Act.put, List.getElem_toArray, List.getElem_cons_succ, List.getElem_cons_zero, List.setIfInBounds_toArray, List.set_cons_zero, List.set_cons_succ]
        refine wpAnyH_take (i := 8) (v := huV h) rfl (by kernel_rfl) (by kernel_rfl) (by kernel_rfl) (fun _ _ _ h => h) (Or.inl ⟨by rfl, ?_⟩) hS2 ?_
        · intro w hSw; go_simp
        try simp only [Act.put, List.getElem_toArray, List.getElem_cons_succ, List.getElem_cons_zero, List.setIfInBounds_toArray, List.set_cons_zero, List.set_cons_succ]
        refine wpAnyH_take (i := 9) (v := .bool X.isSome) rfl (by kernel_rfl) (by kernel_rfl) (by kernel_rfl) (fun _ _ _ h => h) (Or.inl ⟨by rfl, ?_⟩) hS2 ?_
        · intro w hSw; go_simp
        try simp only [Act.put, List.getElem_toArray, List.getElem_cons_succ, List.getElem_cons_zero, List.setIfInBounds_toArray, List.set_cons_zero, List.set_cons_succ]
        refine wpAnyH_ready (rs := [11]) (by kernel_rfl) (by simp) (AllReadyH.cons rfl (fun K' hK' => ?_) AllReadyH.nil)
        refine wp_storeS shH h rfl rfl rfl hb9 ?_
        refine hK'.out _ _ (hS2.row (by omega) _) (fun hS9 => ?_)
        clear hK' K'
        try simp only [Act.put, List.getElem_toArray, List.getElem_cons_succ, List.getElem_cons_zero, List.setIfInBounds_toArray, List.set_cons_zero, List.set_cons_succ]
        refine wpAnyH_take (i := 12) (v := .bool X.isSome) rfl (by kernel_rfl) (by kernel_rfl) (by kernel_rfl) (fun _ _ _ h => h) (Or.inl ⟨by rfl, ?_⟩) hS9 ?_
        · intro w hSw; go_simp
        try simp only [Act.put, List.getElem_toArray, List.getElem_cons_succ, List.getElem_cons_zero, List.setIfInBounds_toArray, List.set_cons_zero, List.set_cons_succ]
        refine wpAnyH_done (by kernel_rfl) ?_ _
        exact ⟨h, _, rfl, hx, hS9, by omega, hb9.row _⟩
    · rintro a5 w5 ⟨h, q, rfl, hx, hg5, hq, hb⟩
      have HG5 := Lib.hid (HG3.out.trans hg5)
      have HB5 := Lib.hid (HB3.out.gr hg5)
      have HQ := Lib.hid hb
      have HX := Lib.hid hx
      have e1' := gr_cell hg5 e1
      have c1' := gr_cell hg5 c1
      have HA3 := Lib.hid (fun W (hW : Gr w5 W) => HA2.out W (hg5.trans hW))
      have HNE := Lib.hid (show p + 1 ≠ q by have := HB3.out.lt; omega)
      clear hb hx HG3 HB3 HA1 HA2 e0 e1 c1 hq
      cases X with
      | some v =>
        have hv : V = some v := HVX.out
        have hq0 := HQ.out.cell (k := 0) rfl
        have hq1 := HQ.out.cell (k := 1) rfl
        have hq2 := HQ.out.cell (k := 2) rfl
        subst hv
        clear HVX
        go_wp2_with (refine wpl_storeS shH h rfl rfl rfl rfl HB5.out ?_)
        refine bodyPost_ret (v := .tuple #[huV h, .bool true]) ?_ rfl ⟨⟨h, rfl, HX.out⟩, HG5.out.row HPL.out _⟩
        rw [results_cell_tmp rfl]
        simp [asAddr, Result.andThen]
        rw [run_loadH (HB5.out.row _)]
      | none =>
        have hv : V = Y := HVX.out
        subst hv
        clear HVX HX HQ
        go_wp2_with fail
        have hS0 : (fun w' : World => Gr w w' ∧ w'.cell? ⟨p, 1, none⟩ = some (.int .i64 pa)) w5.drew := ⟨HG5.out.drew, e1'⟩
        refine wp_region_held (S := fun w' : World => Gr w w' ∧ w'.cell? ⟨p, 1, none⟩ = some (.int .i64 pa)) (by kernel_rfl) ?_
        change wpAnyH _ _ _ _ _ _ _ _ w5.drew
        refine wpAnyH_take (i := 0) (v := .slice (some ⟨b, o, none⟩) m cap) rfl (by kernel_rfl) (by kernel_rfl) (by kernel_rfl) (fun _ _ _ h => h) (Or.inl ⟨by rfl, ?_⟩) hS0 ?_
        · intro w hSw; go_simp
        try simp only [Act.put, List.getElem_toArray, List.getElem_cons_succ, List.getElem_cons_zero, List.setIfInBounds_toArray, List.set_cons_zero, List.set_cons_succ]
        refine wpAnyH_take (i := 1) (v := .int .i64 i) rfl (by kernel_rfl) (by kernel_rfl) (by kernel_rfl) (fun _ _ _ h => h) (Or.inl ⟨by rfl, ?_⟩) hS0 ?_
        · intro w hSw; go_simp
        try simp only [Act.put, List.getElem_toArray, List.getElem_cons_succ, List.getElem_cons_zero, List.setIfInBounds_toArray, List.set_cons_zero, List.set_cons_succ]
        refine wpAnyH_take (i := 2) (v := .pointer (some ⟨b, o + i * 2, none⟩)) rfl (by kernel_rfl) (by kernel_rfl) (by kernel_rfl) (fun _ _ _ h => h) (Or.inl ⟨by rfl, ?_⟩) hS0 ?_
        · intro w hSw; go_simp
        try simp only [Act.put, List.getElem_toArray, List.getElem_cons_succ, List.getElem_cons_zero, List.setIfInBounds_toArray, List.set_cons_zero, List.set_cons_succ]
        refine wpAnyH_take (i := 3) (v := .pointer (some ⟨b, o + i * 2 + 1, none⟩)) rfl (by kernel_rfl) (by kernel_rfl) (by kernel_rfl) (fun _ _ _ h => h) (Or.inl ⟨by rfl, ?_⟩) hS0 ?_
        · intro w hSw; go_simp
        try simp only [Act.put, List.getElem_toArray, List.getElem_cons_succ, List.getElem_cons_zero, List.setIfInBounds_toArray, List.set_cons_zero, List.set_cons_succ]
        refine wpAnyH_take (i := 4) (v := .slice hc hm hcap) rfl (by kernel_rfl) (by kernel_rfl) (by kernel_rfl) (fun _ _ _ h => h) (Or.inl ⟨by rfl, ?_⟩) hS0 ?_
        · intro w hSw; have s0 := gr_cell hSw.1 c1w; go_simp
        try simp only [Act.put, List.getElem_toArray, List.getElem_cons_succ, List.getElem_cons_zero, List.setIfInBounds_toArray, List.set_cons_zero, List.set_cons_succ]
        refine wpAnyH_take (i := 5) (v := .pointer (some ⟨p, 1, none⟩)) rfl (by kernel_rfl) (by kernel_rfl) (by kernel_rfl) (fun _ _ _ h => h) (Or.inl ⟨by rfl, ?_⟩) hS0 ?_
        · intro w hSw; go_simp
        try simp only [Act.put, List.getElem_toArray, List.getElem_cons_succ, List.getElem_cons_zero, List.setIfInBounds_toArray, List.set_cons_zero, List.set_cons_succ]
        refine wpAnyH_take (i := 6) (v := .int .i64 pa) rfl (by kernel_rfl) (by kernel_rfl) (by kernel_rfl) (fun _ _ _ h => h) (Or.inl ⟨by rfl, ?_⟩) hS0 ?_
        · intro w hSw; have s1 := hSw.2; go_simp
        try simp only [Act.put, List.getElem_toArray, List.getElem_cons_succ, List.getElem_cons_zero, List.setIfInBounds_toArray, List.set_cons_zero, List.set_cons_succ]
        refine wpAnyH_take (i := 7) (v := .agg #[.int .i64 0, .int .i64 pa]) rfl (by kernel_rfl) (by kernel_rfl) (by kernel_rfl) (fun _ _ _ h => h) (Or.inl ⟨by rfl, ?_⟩) hS0 ?_
        · intro w hSw; go_simp
        try simp only [Act.put, List.getElem_toArray, List.getElem_cons_succ, List.getElem_cons_zero, List.setIfInBounds_toArray, List.set_cons_zero, List.set_cons_succ]
        refine wpAnyH_ready (rs := [8]) (by kernel_rfl) (by simp) (AllReadyH.cons rfl (fun K' hK' => ?_) AllReadyH.nil)
        go_simp
        refine (HA3.out _ (Gr.refl w5).drew).mono ?_; rintro e w6 ⟨⟨h6, rfl, hx6⟩, hg6⟩
        have hg56 : Gr w5 w6 := (Gr.refl w5).drew.trans hg6
        have hb6 : Blk shH w6 (p + 1) (0, 0, 0) := HB5.out.gr hg56
        have hpl := HPL.out
        refine hK'.out _ _ ⟨HG5.out.trans hg56, gr_cell hg56 e1'⟩ (fun hS1 => ?_)
        clear hK' K'
        try simp only [Act.put, List.getElem_toArray, List.getElem_cons_succ, List.getElem_cons_zero, List.setIfInBounds_toArray, List.set_cons_zero, List.set_cons_succ]
        refine wpAnyH_take (i := 9) (v := huV h6) rfl (by kernel_rfl) (by kernel_rfl) (by kernel_rfl) (fun _ _ _ h => h) (Or.inl ⟨by rfl, ?_⟩) hS1 ?_
        · intro w hSw; go_simp
        try simp only [Act.put, List.getElem_toArray, List.getElem_cons_succ, List.getElem_cons_zero, List.setIfInBounds_toArray, List.set_cons_zero, List.set_cons_succ]
        refine wpAnyH_take (i := 10) (v := .bool V.isSome) rfl (by kernel_rfl) (by kernel_rfl) (by kernel_rfl) (fun _ _ _ h => h) (Or.inl ⟨by rfl, ?_⟩) hS1 ?_
        · intro w hSw; go_simp
        try simp only [Act.put, List.getElem_toArray, List.getElem_cons_succ, List.getElem_cons_zero, List.setIfInBounds_toArray, List.set_cons_zero, List.set_cons_succ]
        refine wpAnyH_ready (rs := [11]) (by kernel_rfl) (by simp) (AllReadyH.cons rfl (fun K' hK' => ?_) AllReadyH.nil)
        refine wp_storeS shH h6 rfl rfl rfl hb6 ?_
        refine hK'.out _ _ ⟨hS1.1.row hpl _, ?_⟩ (fun hS2 => ?_)
        · have h1 := hS1.2
          unfold World.cell? at h1 ⊢
          dsimp only at h1 ⊢
          rw [heap_row (by omega)]
          exact h1
        clear hK' K'
        try simp only [Act.put, List.getElem_toArray, List.getElem_cons_succ, List.getElem_cons_zero, List.setIfInBounds_toArray, List.set_cons_zero, List.set_cons_succ]
        refine wpAnyH_take (i := 12) (v := .bool V.isSome) rfl (by kernel_rfl) (by kernel_rfl) (by kernel_rfl) (fun _ _ _ h => h) (Or.inl ⟨by rfl, ?_⟩) hS2 ?_
        · intro w hSw; go_simp
        try simp only [Act.put, List.getElem_toArray, List.getElem_cons_succ, List.getElem_cons_zero, List.setIfInBounds_toArray, List.set_cons_zero, List.set_cons_succ]
        refine wpAnyH_done (by kernel_rfl) ?_ _
        have hbf := hb6.row h6
        have HX6 := Lib.hid hx6
        clear hx6
        go_wp2
        refine bodyPost_ret (v := .tuple #[huV h6, .bool V.isSome]) ?_ rfl ⟨⟨h6, rfl, HX6.out⟩, hS2.1⟩
        rw [results_cell_tmp rfl]
        simp [asAddr, Result.andThen]
        rw [run_loadH hbf]
end Go.Proofs.Ytgjlcmheipmmlaa
