/- Curves: Slope and Flip of the reference; own lists of points. -/
import Derived.Test.YtlbnibicehpobaaGreatDoorCvC
import Derived.Deep.RegionHeld3
import Derived.Deep.WholeRow
set_option linter.unusedVariables false
set_option linter.unusedSimpArgs false
namespace Go.Proofs.YtlbnibicehpobaaGreatDoor
open Go.RowKit Go.Shelf
open Z
set_option maxHeartbeats 1000000 in
theorem r9_Slope (a : Option Addr) (R : Pts) (cap : Nat) (w : World) (hR : PtAt w a R) (hJ : ∀ p ∈ R, isJ p.1 ∧ isJ p.2) (hlen : R.length ≤ 10000000000000) :
    Calls Tryz.prog 24 #[.slice a R.length cap] w fun e w' => e = .returned (.tuple #[.int .i64 (slopeC R).1, .int .i64 (slopeC R).2]) ∧ Gr w w' := by
  have C := Lib.hid (r9_Check a R cap w hR hJ hlen)
  unfold slopeC
  by_cases h : cvC R = 0
  · rw [if_neg (by simp [h])]
    rw [h] at C
    have h2 := cvC_len h
    have D := Lib.hid (fun w' (hg : Gr w w') => r9_Steep a R cap w' (hR.gr hg) (by omega) hlen)
    generalize steepC R = S at *
    generalize R.length = n at *
    clear hR hJ h h2
    go_enter Tryz.func24, Tryz.ntmps24
    go_wp2_with fail
    refine C.out.mono ?_; rintro e w1 ⟨rfl, hg⟩
    have HG1 := Lib.hid hg
    clear hg
    go_wp2_with fail
    refine (D.out _ HG1.out).mono ?_; rintro e w2 ⟨rfl, hg⟩
    have HG2 := Lib.hid (Gr.trans HG1.out hg)
    clear hg
    go_wp2
    go_ret2
    exact ⟨rfl, HG2.out⟩
  · rw [if_pos h]
    generalize cvC R = K at *
    generalize R.length = n at *
    have hk : (K == 0) = false := by rw [beq_eq_false_iff_ne]; exact h
    clear hR hJ
    go_enter Tryz.func24, Tryz.ntmps24
    go_wp2_with fail
    refine C.out.mono ?_; rintro e w1 ⟨rfl, hg⟩
    have HG1 := Lib.hid hg
    clear hg
    go_wp2
    go_ret2
    exact ⟨rfl, HG1.out⟩
theorem cvL_lvl0 : ∀ (l : Pts) (q : Option Int), cvL l q = 0 → ∀ p ∈ l, (0 ≤ p.1 ∧ p.1 ≤ 65535) ∧ 0 ≤ p.2 ∧ p.2 ≤ 65535
  | [], _, _, p, hp => absurd hp (by simp)
  | x :: l, q, h, p, hp => by
    unfold cvL at h
    by_cases hx : (lvl x.1 && lvl x.2) = false
    · rw [if_pos hx] at h; simp at h
    · rw [if_neg hx] at h
      rcases List.mem_cons.1 hp with rfl | hp
      · simp [lvl] at hx
        omega
      · cases q with
        | none => exact cvL_lvl0 l _ (by simpa using h) p hp
        | some y =>
          by_cases hq : x.1 ≤ y
          · simp [hq] at h
          · exact cvL_lvl0 l _ (by simpa [hq] using h) p hp
theorem cvL_lvl {l : Pts} (h : cvC l = 0) (p : Int × Int) (hp : p ∈ l) : (0 ≤ p.1 ∧ p.1 ≤ 65535) ∧ 0 ≤ p.2 ∧ p.2 ≤ 65535 := by
  unfold cvC at h
  split at h
  · simp at h
  · split at h
    · simp at h
    · split at h
      · rename_i h0; exact absurd h h0
      · rename_i h0; exact cvL_lvl0 l none (by simpa using h0) p hp
theorem Tryz.infoPt : (Tryz.prog.info? 52).map (fun i => (i.zero, i.size, i.bytes)) = some (some (.agg #[.int .i64 0, .int .i64 0]), 2, 16) := by kernel_rfl
/-- a slice that owns points -/
def OwnC (B : Nat) (w : World) (v : Value) (l : Pts) : Prop := w.ownsRow B 52 2 v l.length (pv l)
theorem OwnC.gr {B : Nat} {w w' : World} {v : Value} {l : Pts} (h : OwnC B w v l) (hg : Gr w w') : OwnC B w' v l := World.ownsRow.kept h (⟨hg.os, hg.tape, hg.output, hg.size, fun i hi _ => hg.block i hi⟩ : w.grownBy w' none) (by cases hv : v.ownBlock with | none => exact .inl rfl | some k => exact .inr (by simp))
theorem OwnC.nil (B : Nat) (w : World) : OwnC B w (.slice none 0 0) [] := World.ownsRow_nil _ _ _ _
theorem OwnC.shape {B : Nat} {w : World} {v : Value} {l : Pts} (h : OwnC B w v l) : ∃ a cap, v = .slice a l.length cap ∧ PtAt w a l := by
  rcases id h.2 with ⟨rfl, h0⟩ | ⟨g, cap, cur, rfl, _, _, h3, h4, _⟩
  · have : l = [] := List.eq_nil_of_length_eq_zero h0
    subst this
    exact ⟨none, 0, rfl, .inl ⟨trivial, rfl⟩⟩
  · refine ⟨_, cap, rfl, .inr ⟨g, 0, rfl, fun k hk => ?_⟩⟩
    obtain ⟨h0, h1⟩ := pv_get l k hk
    have c : ∀ j u, (pv l)[j]? = some u → w.cell? ⟨g, 0 + j, none⟩ = some u := fun j u hj => by
      have := World.ownsRow.cells h (g := g) rfl j u hj
      rwa [WideShapes.add_plain] at this
    exact ⟨c _ _ h0, c _ _ h1⟩
theorem pt_one {f t : Int} : ∀ u ∈ ([Value.int .i64 f, .int .i64 t] : List Value), u.oneCell' = true := fun u hu => by
  simp only [List.mem_cons, List.not_mem_nil, or_false] at hu
  rcases hu with rfl | rfl <;> rfl
theorem push_cw {i : TypeInfo} (hi : Tryz.prog.info? 52 = some i) (hz0 : i.zero = some (.agg #[.int .i64 0, .int .i64 0])) (hz1 : i.size = 2) (hz2 : i.bytes = 16)
    {o : Oper} {a : Act} {K : Act → World → Prop} {Q : Exit → Act → World → Prop} {w : World} {B : Nat} (s x : Operand)
    (ho : o.op = .call { callee := .builtin .append, args := #[s, x], argTypes := #[22, 22] }) (v : Value) (xs : Pts) (hs : a.eval s = v) (hown : OwnC B w v xs) (hB : B ≤ w.heap.size)
    (f t : Int) (N : Nat) (hN : N = w.heap.size) (hx : a.eval x = .slice (some ⟨N, 0, none⟩) 1 1) (hlen : xs.length + 1 ≤ 1000000)
    (h : ∀ v' w', OwnC B w' v' (xs ++ [(f, t)]) → Below B w w' → K (a.put o.dst v') w') :
    o.wp Tryz.prog a (w.alloc (.cells #[.int .i64 f, .int .i64 t] 52)) K Q := by
  subst hN
  refine wp_append_own _ s x _ ho B 52 i (.agg #[.int .i64 0, .int .i64 0]) 2 16 Tryz.underlying22 hi hz0 hz1 hz2 rfl (by decide) v xs.length (pv xs) hs (World.ownsRow.alloc hown _) ⟨w.heap.size, 0, none⟩ 1 1 [.int .i64 f, .int .i64 t] hx rfl
    (fun j u hj => ?_) pt_one (by unfold maxLen; omega) (by omega) (by simp; omega) (fun v' w' hown' hgrow _ => h v' w' ?_ (Below.grown (Below.alloc (Below.refl B w) hB _) hgrow (by simp; omega) (fun k hk => (World.ownsRow.lt hown k hk).1)))
  · rw [WideShapes.add_plain]
    match j, hj with
    | 0, hj => simp only [List.getElem?_cons_zero, Option.some.injEq] at hj; subst hj; rw [World.cell?_alloc_at _ _ _ _ rfl]; rfl
    | 1, hj => simp only [List.getElem?_cons_succ, List.getElem?_cons_zero, Option.some.injEq] at hj; subst hj; rw [World.cell?_alloc_at _ _ _ _ rfl]; rfl
    | j + 2, hj => simp at hj
  · show World.ownsRow _ _ _ _ _ _ _
    rw [pv_snoc, List.length_append]; exact hown'
theorem pts_set {R : Pts} {b off : Nat} {w : World} (h : PtAt w (some ⟨b, off, none⟩) R) (k : Nat) (hk : k < R.length) : w.cell? ⟨b, off + k * 2, none⟩ = some (.int .i64 R[k].1) ∧ w.cell? ⟨b, off + k * 2 + 1, none⟩ = some (.int .i64 R[k].2) := by
  obtain ⟨b', off', e, hc⟩ := h.block (by omega)
  simp only [Option.some.injEq, Addr.mk.injEq, and_true] at e
  obtain ⟨rfl, rfl⟩ := e
  exact hc k hk
set_option maxRecDepth 100000 in
set_option maxHeartbeats 4000000 in
theorem r9_Flip (a : Option Addr) (R : Pts) (cap : Nat) (w : World) (hR : PtAt w a R) (hJ : ∀ p ∈ R, isJ p.1 ∧ isJ p.2) (hlen : R.length ≤ 10000000000000) :
    Calls Tryz.prog 28 #[.slice a R.length cap] w fun e w' => ∃ v, e = .returned (.tuple #[v, .int .i64 (flipC R).2]) ∧ OwnC w.heap.size w' v (flipC R).1 ∧ Gr w w' := by
  obtain ⟨i0, hi, hz0, hz1, hz2⟩ := info_parts Tryz.infoPt
  have C := Lib.hid (r9_Check a R cap w hR hJ hlen)
  unfold flipC
  by_cases h : cvC R = 0
  · rw [if_neg (by simp [h])]
    rw [h] at C
    have h2 := cvC_len h
    obtain ⟨b, off, rfl, hc⟩ := hR.block (by omega)
    have HC := Lib.hid hc
    have HLV := Lib.hid (fun p hp => cvL_lvl h p hp)
    obtain ⟨n, hn⟩ : ∃ n, R.length = n := ⟨_, rfl⟩
    have HN := Lib.hid hn
    rw [hn] at hlen C ⊢
    have hn16 : n ≤ 16 := by omega
    clear hR hJ h h2 hc hn
    go_enter Tryz.func28, Tryz.ntmps28
    go_wp2_with fail
    refine C.out.mono ?_; rintro e w1 ⟨rfl, hg⟩
    have HG1 := Lib.hid hg
    clear hg C
    go_wp2
    go_loopw [5, 6] (fun v i wr => ∃ j : Nat, i = .int .i64 j ∧ j ≤ n ∧ Hid (OwnC w.heap.size wr v (flipP (R.take j))) ∧ Hid (Gr w wr)) (fun _ i _ => n - (intOf i).toNat)
    case atStart => exact ⟨0, rfl, Nat.zero_le _, Lib.hid (OwnC.nil _ _), HG1⟩
    case round =>
      obtain ⟨j, rfl, hj, HO, HG⟩ := hrel
      by_cases hlt : j < n
      · have l0 : j < R.length := by rw [HN.out]; exact hlt
        obtain ⟨d0, d1⟩ := HC.out j l0
        have ht := (HLV.out _ (List.getElem_mem l0)).2
        have HS : Hid (flipP (R.take (j + 1)) = flipP (R.take j) ++ [(R[j].1, 65535 - R[j].2)]) := Lib.hid (by unfold flipP; rw [List.take_succ_eq_append_getElem l0, List.map_append]; rfl)
        have hxl : (flipP (R.take j)).length + 1 ≤ 1000000 := by simp [flipP]; omega
        generalize flipP (R.take j) = xs at *
        generalize R[j] = x at *
        obtain ⟨f, t⟩ := x
        simp only at d0 d1 ht HS
        have hwr : IntKind.i64.wrap (65535 - t) = 65535 - t := IntWalk.i64_in _ (by omega)
        clear l0
        go_wp2_with fail
        have hS0 : (fun w' : World => Gr w w') wr.drew := HG.out.drew
        refine wp_region_held (S := fun w' : World => Gr w w') (by kernel_rfl) ?_
        change wpAnyH _ _ _ _ _ _ _ _ wr.drew
        refine wpAnyH_take (i := 0) (v := u5) rfl (by kernel_rfl) (by kernel_rfl) (by kernel_rfl) (fun _ _ _ h => h) (Or.inl ⟨by rfl, ?_⟩) hS0 ?_
        · intro w hSw; go_simp
        try simp only [Act.put, List.getElem_toArray, List.getElem_cons_succ, List.getElem_cons_zero, List.setIfInBounds_toArray, List.set_cons_zero, List.set_cons_succ]
        refine wpAnyH_take (i := 1) (v := .slice (some ⟨b, off, none⟩) n cap) rfl (by kernel_rfl) (by kernel_rfl) (by kernel_rfl) (fun _ _ _ h => h) (Or.inl ⟨by rfl, ?_⟩) hS0 ?_
        · intro w hSw; go_simp
        try simp only [Act.put, List.getElem_toArray, List.getElem_cons_succ, List.getElem_cons_zero, List.setIfInBounds_toArray, List.set_cons_zero, List.set_cons_succ]
        refine wpAnyH_take (i := 2) (v := .int .i64 j) rfl (by kernel_rfl) (by kernel_rfl) (by kernel_rfl) (fun _ _ _ h => h) (Or.inl ⟨by rfl, ?_⟩) hS0 ?_
        · intro w hSw; go_simp
        try simp only [Act.put, List.getElem_toArray, List.getElem_cons_succ, List.getElem_cons_zero, List.setIfInBounds_toArray, List.set_cons_zero, List.set_cons_succ]
        refine wpAnyH_take (i := 3) (v := .pointer (some ⟨b, off + j * 2, none⟩)) rfl (by kernel_rfl) (by kernel_rfl) (by kernel_rfl) (fun _ _ _ h => h) (Or.inl ⟨by rfl, ?_⟩) hS0 ?_
        · intro w hSw; go_simp
        try simp only [Act.put, List.getElem_toArray, List.getElem_cons_succ, List.getElem_cons_zero, List.setIfInBounds_toArray, List.set_cons_zero, List.set_cons_succ]
        refine wpAnyH_take (i := 4) (v := .pointer (some ⟨b, off + j * 2, none⟩)) rfl (by kernel_rfl) (by kernel_rfl) (by kernel_rfl) (fun _ _ _ h => h) (Or.inl ⟨by rfl, ?_⟩) hS0 ?_
        · intro w hSw; go_simp
        try simp only [Act.put, List.getElem_toArray, List.getElem_cons_succ, List.getElem_cons_zero, List.setIfInBounds_toArray, List.set_cons_zero, List.set_cons_succ]
        refine wpAnyH_take (i := 5) (v := .int .i64 f) rfl (by kernel_rfl) (by kernel_rfl) (by kernel_rfl) (fun _ _ _ h => h) (Or.inl ⟨by rfl, ?_⟩) hS0 ?_
        · intro w hSw; have s1 := cv_cell hSw d0; go_simp
        try simp only [Act.put, List.getElem_toArray, List.getElem_cons_succ, List.getElem_cons_zero, List.setIfInBounds_toArray, List.set_cons_zero, List.set_cons_succ]
        refine wpAnyH_take (i := 6) (v := .slice (some ⟨b, off, none⟩) n cap) rfl (by kernel_rfl) (by kernel_rfl) (by kernel_rfl) (fun _ _ _ h => h) (Or.inl ⟨by rfl, ?_⟩) hS0 ?_
        · intro w hSw; go_simp
        try simp only [Act.put, List.getElem_toArray, List.getElem_cons_succ, List.getElem_cons_zero, List.setIfInBounds_toArray, List.set_cons_zero, List.set_cons_succ]
        refine wpAnyH_take (i := 7) (v := .int .i64 j) rfl (by kernel_rfl) (by kernel_rfl) (by kernel_rfl) (fun _ _ _ h => h) (Or.inl ⟨by rfl, ?_⟩) hS0 ?_
        · intro w hSw; go_simp
        try simp only [Act.put, List.getElem_toArray, List.getElem_cons_succ, List.getElem_cons_zero, List.setIfInBounds_toArray, List.set_cons_zero, List.set_cons_succ]
        refine wpAnyH_take (i := 8) (v := .pointer (some ⟨b, off + j * 2, none⟩)) rfl (by kernel_rfl) (by kernel_rfl) (by kernel_rfl) (fun _ _ _ h => h) (Or.inl ⟨by rfl, ?_⟩) hS0 ?_
        · intro w hSw; go_simp
        try simp only [Act.put, List.getElem_toArray, List.getElem_cons_succ, List.getElem_cons_zero, List.setIfInBounds_toArray, List.set_cons_zero, List.set_cons_succ]
        refine wpAnyH_take (i := 9) (v := .pointer (some ⟨b, off + j * 2 + 1, none⟩)) rfl (by kernel_rfl) (by kernel_rfl) (by kernel_rfl) (fun _ _ _ h => h) (Or.inl ⟨by rfl, ?_⟩) hS0 ?_
        · intro w hSw; go_simp
        try simp only [Act.put, List.getElem_toArray, List.getElem_cons_succ, List.getElem_cons_zero, List.setIfInBounds_toArray, List.set_cons_zero, List.set_cons_succ]
        refine wpAnyH_take (i := 10) (v := .int .i64 t) rfl (by kernel_rfl) (by kernel_rfl) (by kernel_rfl) (fun _ _ _ h => h) (Or.inl ⟨by rfl, ?_⟩) hS0 ?_
        · intro w hSw; have s1 := cv_cell hSw d1; go_simp
        try simp only [Act.put, List.getElem_toArray, List.getElem_cons_succ, List.getElem_cons_zero, List.setIfInBounds_toArray, List.set_cons_zero, List.set_cons_succ]
        refine wpAnyH_take (i := 11) (v := .int .i64 (65535 - t)) rfl (by kernel_rfl) (by kernel_rfl) (by kernel_rfl) (fun _ _ _ h => h) (Or.inl ⟨by rfl, ?_⟩) hS0 ?_
        · intro w hSw; go_simp
        try simp only [Act.put, List.getElem_toArray, List.getElem_cons_succ, List.getElem_cons_zero, List.setIfInBounds_toArray, List.set_cons_zero, List.set_cons_succ]
        refine wpAnyH_take (i := 12) (v := (.agg #[.int .i64 f, .int .i64 (65535 - t)])) rfl (by kernel_rfl) (by kernel_rfl) (by kernel_rfl) (fun _ _ _ h => h) (Or.inl ⟨by rfl, ?_⟩) hS0 ?_
        · intro w hSw; go_simp
        try simp only [Act.put, List.getElem_toArray, List.getElem_cons_succ, List.getElem_cons_zero, List.setIfInBounds_toArray, List.set_cons_zero, List.set_cons_succ]
        refine wpAnyH_ready (rs := [13]) (by kernel_rfl) (by simp) (AllReadyH.cons rfl (fun K' hK' => ?_) AllReadyH.nil)
        go_simp
        refine hK'.out _ _ (HG.out.drew.alloc _) (fun hS1 => ?_)
        clear hK' K'
        try simp only [Act.put, List.getElem_toArray, List.getElem_cons_succ, List.getElem_cons_zero, List.setIfInBounds_toArray, List.set_cons_zero, List.set_cons_succ]
        refine wpAnyH_ready (rs := [14]) (by kernel_rfl) (by simp) (AllReadyH.cons rfl (fun K' hK' => ?_) AllReadyH.nil)
        rw [if_pos (by rfl)]
        refine push_cw hi hz0 hz1 hz2 _ _ rfl u5 _ rfl (HO.out.gr ((Gr.refl _).drew)) HG.out.drew.size f (65535 - t) wr.heap.size rfl rfl (by omega) ?_
        intro v5 w5 ho5 hb5
        have HO5 := Lib.hid ho5
        have HG5 : Hid (Gr w w5) := Lib.hid (Below.trans HG.out.drew hb5)
        clear ho5 hb5
        refine hK'.out _ _ HG5.out (fun hS2 => ?_)
        clear hK' K'
        try simp only [Act.put, List.getElem_toArray, List.getElem_cons_succ, List.getElem_cons_zero, List.setIfInBounds_toArray, List.set_cons_zero, List.set_cons_succ]
        refine wpAnyH_take (i := 15) (v := v5) rfl (by kernel_rfl) (by kernel_rfl) (by kernel_rfl) (fun _ _ _ h => h) (Or.inl ⟨by rfl, ?_⟩) hS2 ?_
        · intro w hSw; go_simp
        try simp only [Act.put, List.getElem_toArray, List.getElem_cons_succ, List.getElem_cons_zero, List.setIfInBounds_toArray, List.set_cons_zero, List.set_cons_succ]
        refine wpAnyH_done (by kernel_rfl) ?_ _
        go_wp2
        go_roundw
        case rel => exact ⟨j + 1, by go_num, by omega, by rw [HS.out]; exact HO5, HG5⟩
        case measure => simp [intOf]; omega
      · have hjl : j = n := by omega
        subst hjl
        have ho := HO.out
        rw [show R.take j = R by rw [List.take_of_length_le (by rw [HN.out]; exact Nat.le_refl _)]] at ho
        have HO3 := Lib.hid ho
        clear ho HO
        go_wp2
        go_ret2
        exact ⟨_, rfl, HO3.out, HG.out⟩
  · rw [if_pos h]
    generalize cvC R = K at *
    generalize R.length = n at *
    have hk : (K == 0) = false := by rw [beq_eq_false_iff_ne]; exact h
    clear hR hJ
    go_enter Tryz.func28, Tryz.ntmps28
    go_wp2_with fail
    refine C.out.mono ?_; rintro e w1 ⟨rfl, hg⟩
    have HG1 := Lib.hid hg
    clear hg
    go_wp2
    go_ret2
    exact ⟨_, rfl, OwnC.nil _ _, HG1.out⟩
end Go.Proofs.YtlbnibicehpobaaGreatDoor
