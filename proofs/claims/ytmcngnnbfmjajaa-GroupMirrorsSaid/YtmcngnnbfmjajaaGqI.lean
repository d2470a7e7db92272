/- Law 14: Every with a row of its own; Concat of ints; mathematics of Mirrors. -/
import Derived.Test.YtmcngnnbfmjajaaGqH
import Derived.Lib.AppendZerosOnto
import Derived.Laws.AppendOwnNone
import Derived.Test.YtmcngnnbfmjajaaGpO
set_option linter.unusedVariables false
set_option linter.unusedSimpArgs false
namespace Go.Proofs.Ytmcngnnbfmjajaa.Z
open Go
theorem evR_one (l : List Int) : ∀ n j, l.length - j ≤ n → evR l 1 j = l.drop j
  | 0, j, h => by rw [evR_end (by omega), List.drop_eq_nil_of_le (by omega)]
  | n + 1, j, h => by
    by_cases hj : j < l.length
    · rw [evR_step (by omega) hj, evR_one l n (j + 1) (by omega), List.drop_eq_getElem_cons hj]
    · rw [evR_end hj, List.drop_eq_nil_of_le (by omega)]
theorem evR_two (l : List Int) : ∀ n j, l.length - j ≤ n → (evR l 2 j ++ evR l 2 (j + 1)).Perm (l.drop j)
  | 0, j, h => by rw [evR_end (by omega), evR_end (by omega), List.drop_eq_nil_of_le (by omega)]; exact List.Perm.refl _
  | n + 1, j, h => by
    by_cases hj : j < l.length
    · rw [evR_step (by omega) hj, List.drop_eq_getElem_cons hj, List.cons_append]
      refine List.Perm.cons _ ?_
      exact (List.perm_append_comm).trans (evR_two l n (j + 1) (by omega))
    · rw [evR_end hj, evR_end (by omega), List.drop_eq_nil_of_le (by omega)]; exact List.Perm.refl _
theorem srt_eq {a b : List Int} (h : a.Perm b) : (a.mergeSort fun x y => decide (x ≤ y)) = b.mergeSort fun x y => decide (x ≤ y) := by
  have ht : ∀ x y z : Int, decide (x ≤ y) = true → decide (y ≤ z) = true → decide (x ≤ z) = true := fun x y z h1 h2 => by simp at *; omega
  have hto : ∀ x y : Int, (decide (x ≤ y) || decide (y ≤ x)) = true := fun x y => by simp; omega
  refine List.Perm.eq_of_pairwise (le := fun x y => decide (x ≤ y) = true) (fun x y _ _ h1 h2 => by simp at h1 h2; omega) (List.pairwise_mergeSort ht hto a) (List.pairwise_mergeSort ht hto b) ?_
  exact (List.mergeSort_perm _ _).trans (h.trans (List.mergeSort_perm _ _).symm)
theorem gpR_rev {x : Int} {l : List Int} (h : gpR (x, l) = 0) : gpR (x, l.reverse) = 0 := by
  obtain ⟨h1, h2, h3, h4⟩ := gpR_zero.1 h
  exact gpR_zero.2 ⟨h1, by simpa using h2, fun c hc => h3 c (by simpa using hc), (List.reverse_perm l).nodup_iff.2 h4⟩
end Go.Proofs.Ytmcngnnbfmjajaa.Z
namespace Go.Proofs.Ytmcngnnbfmjajaa
open Go.RowKit
open Z
set_option maxRecDepth 100000 in
set_option maxHeartbeats 2000000 in
theorem gp_EveryO {v : Value} (g : Gp) (s f : Nat) (w : World) (hv : GpV w v g) (hg : gpR g = 0) (hs : 1 ≤ s) (hs2 : s ≤ 256) (hf : f ≤ 256) :
    Calls Try.prog 33 #[v, .int .i64 (s : Int), .int .i64 (f : Int)] w fun e w' => (∃ u, e = .returned (.tuple #[.agg #[.int .i64 g.1, u], .int .i64 0]) ∧ OwnI w.heap.size w' u (evR g.2 s f)) ∧ Gr w w' := by
  obtain ⟨i0, hi, hz0, hz1, hz2⟩ := info_parts Try.infoI
  have HCK := Lib.hid (fun (W : World) (hW : Gr w W) => gp_Check g W (hv.gr hW))
  rw [hg] at HCK
  obtain ⟨a, cap, rfl, ra, la, ma⟩ := hv
  unfold maxLen at ma
  have hl256 := (gpR_zero.1 hg).2.1
  obtain ⟨x, l⟩ := g
  simp only at ra la hl256 HCK ⊢
  clear hg
  obtain ⟨n, hn⟩ : ∃ n, n = l.length := ⟨_, rfl⟩
  have HN := Lib.hid hn
  rw [← hn] at la hl256 HCK ⊢
  clear hn
  obtain ⟨E, hE⟩ : ∃ E, evR l s f = E := ⟨_, rfl⟩
  rw [hE]
  have HE := Lib.hid hE
  clear hE
  obtain ⟨w1, hw1⟩ : ∃ w1, w1 = w.alloc (.cells #[.int .i64 x, .slice a n cap] 25) := ⟨_, rfl⟩
  obtain ⟨w2, hw2⟩ : ∃ w2, w2 = w1.alloc (.cells #[.int .i64 0, .slice none 0 0] 25) := ⟨_, rfl⟩
  have hG1 : Gr w w1 := by rw [hw1]; exact (Gr.refl w).alloc _
  have hG2 : Gr w1 w2 := by rw [hw2]; exact (Gr.refl w1).alloc _
  have hB := show w1.cell? ⟨w.heap.size, 0, none⟩ = some (.int .i64 x) ∧ w1.cell? ⟨w.heap.size, 1, none⟩ = some (.slice a n cap) by rw [hw1]; exact box2 _ _ _ _
  have HC6 := Lib.hid (show w2.heap[w.heap.size + 1]? = some (.cells #[.int .i64 0, .slice none 0 0] 25 (0, 0)) by rw [hw2, show w.heap.size + 1 = w1.heap.size by rw [hw1, World.size_alloc]]; exact heap_alloc_last w1 _)
  have HS1 := Lib.hid (show w.heap.size + 1 = w1.heap.size by rw [hw1, World.size_alloc])
  have HCK2 := Lib.hid (HCK.out w2 (hG1.trans hG2))
  have HR := Lib.hid (ra.gr (hG1.trans hG2))
  have HG := Lib.hid (hG1.trans hG2)
  have HG1 := Lib.hid hG1
  have hb0 := gr_cell hG2 hB.1
  have hb1 := gr_cell hG2 hB.2
  clear ra hG1 hG2 hB HCK
  obtain ⟨p3, hp3⟩ : ∃ p3, p3 = w.heap.size := ⟨_, rfl⟩
  rw [← hp3] at hb0 hb1 HC6 HS1
  have I1 := Lib.hid (fun w => in_yes (n := (s : Int)) (a := 1) (b := 256) ⟨by omega, by omega⟩ w)
  have I2 := Lib.hid (fun w => in_yes (n := (f : Int)) (a := 0) (b := 256) ⟨by omega, by omega⟩ w)
  go_enter Try.func33, Try.ntmps33
  go_wp2_with fail
  rw [← hw1, ← hw2]
  clear hw1 hw2
  refine HCK2.out.mono ?_; rintro e w3 ⟨rfl, hg3⟩
  have HG3 := Lib.hid (HG.out.trans hg3)
  have HG23 := Lib.hid hg3
  have hb0 := gr_cell hg3 hb0
  have hb1 := gr_cell hg3 hb1
  have HR3 := Lib.hid (HR.out.gr hg3)
  have HC63 := Lib.hid ((hg3.block _ (cellLt (cell_of_row _ _ 0 _ _ _ HC6.out))).trans HC6.out)
  clear hg3 HR HG HCK2 HC6
  rw [← hp3]
  have HP3 := Lib.hid hp3
  clear hp3
  go_wp2_with fail
  refine (I1.out _).mono ?_; rintro e w' ⟨rfl, rfl⟩
  go_wp2_with fail
  refine (I2.out _).mono ?_; rintro e w' ⟨rfl, rfl⟩
  obtain ⟨q, hq⟩ : ∃ q, q = w3.heap.size := ⟨_, rfl⟩
  obtain ⟨w4, hw4⟩ : ∃ w4, w4 = w3.alloc (.cells #[.int .i64 x, .slice none 0 0] 25) := ⟨_, rfl⟩
  have HS4 := Lib.hid (show SA w3 w4 q x (.slice none 0 0) (.slice none 0 0) [] by
    rw [hw4, hq]
    exact ⟨heap_alloc_last w3 _, OwnI.nil _ _, (Gr.refl _).alloc _, Nat.le_refl _⟩)
  go_wp2_with fail
  rw [← hw4, ← hq]
  have HQ := Lib.hid hq
  clear hw4 hq
  go_loopw [10] (fun i wr => ∃ (j : Nat) (v : Value) (xs : List Int), i = .int .i64 j ∧ j ≤ 512 ∧ Hid (SA w3 wr q x v v xs) ∧ Hid (xs ++ evR l s j = E)) (fun i _ => 512 - (intOf i).toNat)
  case atStart => exact ⟨f, _, [], rfl, by omega, HS4, HE⟩
  case round =>
    obtain ⟨j, v, xs, rfl, hj, HS, HX⟩ := hrel
    have hb0r := gr_cell HS.out.gr hb0
    have hb1r := gr_cell HS.out.gr hb1
    by_cases hlt : j < n
    · have hjl : j < l.length := by rw [← HN.out]; exact hlt
      obtain ⟨b, o, rfl, hc⟩ := HR3.out j hjl
      have HX2 := Lib.hid (show xs ++ (l[j] :: evR l s (j + s)) = E by rw [← evR_step (by omega) hjl]; exact HX.out)
      have hxl : xs.length ≤ 300 := by
        have h1 := congrArg List.length HX.out
        have h2 := congrArg List.length HE.out
        have h3 := evR_len l s (by omega) f
        rw [List.length_append] at h1
        have := HN.out
        omega
      generalize l[j] = c at *
      go_wp2_with fail
      clear HX hb0r hb1r
      have hS0 : (fun w' : World => Gr w3 w') wr.drew := HS.out.gr.drew
      have HD := Lib.hid (HS.out.gr' ((Gr.refl _).drew))
      clear HS
      refine wp_region_held (S := fun w' : World => Gr w3 w') (by kernel_rfl) ?_
      change wpAnyH _ _ _ _ _ _ _ _ wr.drew
      refine wpAnyH_take (i := 0) (v := .pointer (some ⟨q, 1, none⟩)) rfl (by kernel_rfl) (by kernel_rfl) (by kernel_rfl) (fun _ _ _ h => h) (Or.inl ⟨by rfl, ?_⟩) hS0 ?_
      · intro w hSw; go_simp
      try simp only [Act.put, List.getElem_toArray, List.getElem_cons_succ, List.getElem_cons_zero, List.setIfInBounds_toArray, List.set_cons_zero, List.set_cons_succ]
      refine wpAnyH_take (i := 2) (v := .pointer (some ⟨p3, 1, none⟩)) rfl (by kernel_rfl) (by kernel_rfl) (by kernel_rfl) (fun _ _ _ h => h) (Or.inl ⟨by rfl, ?_⟩) hS0 ?_
      · intro w hSw; go_simp
      try simp only [Act.put, List.getElem_toArray, List.getElem_cons_succ, List.getElem_cons_zero, List.setIfInBounds_toArray, List.set_cons_zero, List.set_cons_succ]
      refine wpAnyH_take (i := 3) (v := .slice (some ⟨b, o, none⟩) n cap) rfl (by kernel_rfl) (by kernel_rfl) (by kernel_rfl) (fun _ _ _ h => h) (Or.inl ⟨by rfl, ?_⟩) hS0 ?_
      · intro w hSw; have s1 := gr_cell hSw hb1; go_simp
      try simp only [Act.put, List.getElem_toArray, List.getElem_cons_succ, List.getElem_cons_zero, List.setIfInBounds_toArray, List.set_cons_zero, List.set_cons_succ]
      refine wpAnyH_take (i := 4) (v := .int .i64 j) rfl (by kernel_rfl) (by kernel_rfl) (by kernel_rfl) (fun _ _ _ h => h) (Or.inl ⟨by rfl, ?_⟩) hS0 ?_
      · intro w hSw; go_simp
      try simp only [Act.put, List.getElem_toArray, List.getElem_cons_succ, List.getElem_cons_zero, List.setIfInBounds_toArray, List.set_cons_zero, List.set_cons_succ]
      refine wpAnyH_take (i := 5) (v := .pointer (some ⟨b, o + j, none⟩)) rfl (by kernel_rfl) (by kernel_rfl) (by kernel_rfl) (fun _ _ _ h => h) (Or.inl ⟨by rfl, ?_⟩) hS0 ?_
      · intro w hSw; go_simp
      try simp only [Act.put, List.getElem_toArray, List.getElem_cons_succ, List.getElem_cons_zero, List.setIfInBounds_toArray, List.set_cons_zero, List.set_cons_succ]
      refine wpAnyH_take (i := 6) (v := .int .i64 c) rfl (by kernel_rfl) (by kernel_rfl) (by kernel_rfl) (fun _ _ _ h => h) (Or.inl ⟨by rfl, ?_⟩) hS0 ?_
      · intro w hSw; have s1 := gr_cell hSw hc; go_simp
      try simp only [Act.put, List.getElem_toArray, List.getElem_cons_succ, List.getElem_cons_zero, List.setIfInBounds_toArray, List.set_cons_zero, List.set_cons_succ]
      refine wpAnyH_ready (rs := [1, 7]) (by kernel_rfl) (by simp) (AllReadyH.cons rfl (fun K' hK' => ?_) (AllReadyH.cons rfl (fun K' hK' => ?_) AllReadyH.nil))
      · have s1 := HD.out.c1
        go_simp
        refine hK'.out _ _ HD.out.gr (fun hSa => ?_)
        clear hK' K' s1
        try simp only [Act.put, List.getElem_toArray, List.getElem_cons_succ, List.getElem_cons_zero, List.setIfInBounds_toArray, List.set_cons_zero, List.set_cons_succ]
        refine wpAnyH_ready (rs := [7]) (by kernel_rfl) (by simp) (AllReadyH.cons rfl (fun K' hK' => ?_) AllReadyH.nil)
        go_simp
        have HD2 := Lib.hid (HD.out.gr' ((Gr.refl _).alloc (.cells #[.int .i64 c] 3)))
        refine hK'.out _ _ HD2.out.gr (fun hSb => ?_)
        clear hK' K'
        try simp only [Act.put, List.getElem_toArray, List.getElem_cons_succ, List.getElem_cons_zero, List.setIfInBounds_toArray, List.set_cons_zero, List.set_cons_succ]
        try simp only [Act.put, List.getElem_toArray, List.getElem_cons_succ, List.getElem_cons_zero, List.setIfInBounds_toArray, List.set_cons_zero, List.set_cons_succ]
        refine wpAnyH_ready (rs := [8]) (by kernel_rfl) (by simp) (AllReadyH.cons rfl (fun K' hK' => ?_) AllReadyH.nil)
        rw [if_pos (by rfl)]
        refine push_w hi hz0 hz1 hz2 _ _ rfl v xs rfl HD.out.own HD.out.lt c wr.heap.size rfl rfl (by omega) ?_
        intro v5 w5 ho5 hb5
        obtain ⟨a5, cap5, hv5, -⟩ := ho5.shape
        generalize (xs ++ [c]).length = m5 at hv5
        subst hv5
        have HD3 := Lib.hid (HD.out.push ho5 hb5)
        clear ho5 hb5
        refine hK'.out _ _ HD3.out.gr (fun hSc => ?_)
        clear hK' K'
        try simp only [Act.put, List.getElem_toArray, List.getElem_cons_succ, List.getElem_cons_zero, List.setIfInBounds_toArray, List.set_cons_zero, List.set_cons_succ]
        refine wpAnyH_take (i := 9) (v := .pointer (some ⟨q, 1, none⟩)) rfl (by kernel_rfl) (by kernel_rfl) (by kernel_rfl) (fun _ _ _ h => h) (Or.inl ⟨by rfl, ?_⟩) hSc ?_
        · intro w hSw; go_simp
        try simp only [Act.put, List.getElem_toArray, List.getElem_cons_succ, List.getElem_cons_zero, List.setIfInBounds_toArray, List.set_cons_zero, List.set_cons_succ]
        refine wpAnyH_ready (rs := [10]) (by kernel_rfl) (by simp) (AllReadyH.cons rfl (fun K' hK' => ?_) AllReadyH.nil)
        have s2 := HD3.out.c1
        have s3 := HD3.out.frz
        go_simp
        have HD4 := Lib.hid HD3.out.set
        refine hK'.out _ _ HD4.out.gr (fun hSd => wpAnyH_done (by kernel_rfl) ?_ _)
        clear hK' K' s2 s3
        go_wp2
        go_roundw
        case rel => exact ⟨j + s, _, xs ++ [c], by go_num, by omega, HD4, Lib.hid (by rw [List.append_assoc]; exact HX2.out)⟩
        case measure => simp [intOf]; omega
      · go_simp
        have HD2 := Lib.hid (HD.out.gr' ((Gr.refl _).alloc (.cells #[.int .i64 c] 3)))
        refine hK'.out _ _ HD2.out.gr (fun hSb => ?_)
        clear hK' K'
        try simp only [Act.put, List.getElem_toArray, List.getElem_cons_succ, List.getElem_cons_zero, List.setIfInBounds_toArray, List.set_cons_zero, List.set_cons_succ]
        refine wpAnyH_ready (rs := [1]) (by kernel_rfl) (by simp) (AllReadyH.cons rfl (fun K' hK' => ?_) AllReadyH.nil)
        have s1 := HD.out.c1; have s2 := HD2.out.c1; have s4 := HD.out.lt; have s5 : (wr.alloc (.cells #[.int .i64 c] 3)).cell? ⟨q, 1, none⟩ = some v := HD2.out.c1
        go_simp
        refine hK'.out _ _ HD2.out.gr (fun hSb2 => ?_)
        clear hK' K' s1 s2 s4 s5
        try simp only [Act.put, List.getElem_toArray, List.getElem_cons_succ, List.getElem_cons_zero, List.setIfInBounds_toArray, List.set_cons_zero, List.set_cons_succ]
        try simp only [Act.put, List.getElem_toArray, List.getElem_cons_succ, List.getElem_cons_zero, List.setIfInBounds_toArray, List.set_cons_zero, List.set_cons_succ]
        refine wpAnyH_ready (rs := [8]) (by kernel_rfl) (by simp) (AllReadyH.cons rfl (fun K' hK' => ?_) AllReadyH.nil)
        rw [if_pos (by rfl)]
        refine push_w hi hz0 hz1 hz2 _ _ rfl v xs rfl HD.out.own HD.out.lt c wr.heap.size rfl rfl (by omega) ?_
        intro v5 w5 ho5 hb5
        obtain ⟨a5, cap5, hv5, -⟩ := ho5.shape
        generalize (xs ++ [c]).length = m5 at hv5
        subst hv5
        have HD3 := Lib.hid (HD.out.push ho5 hb5)
        clear ho5 hb5
        refine hK'.out _ _ HD3.out.gr (fun hSc => ?_)
        clear hK' K'
        try simp only [Act.put, List.getElem_toArray, List.getElem_cons_succ, List.getElem_cons_zero, List.setIfInBounds_toArray, List.set_cons_zero, List.set_cons_succ]
        refine wpAnyH_take (i := 9) (v := .pointer (some ⟨q, 1, none⟩)) rfl (by kernel_rfl) (by kernel_rfl) (by kernel_rfl) (fun _ _ _ h => h) (Or.inl ⟨by rfl, ?_⟩) hSc ?_
        · intro w hSw; go_simp
        try simp only [Act.put, List.getElem_toArray, List.getElem_cons_succ, List.getElem_cons_zero, List.setIfInBounds_toArray, List.set_cons_zero, List.set_cons_succ]
        refine wpAnyH_ready (rs := [10]) (by kernel_rfl) (by simp) (AllReadyH.cons rfl (fun K' hK' => ?_) AllReadyH.nil)
        have s2 := HD3.out.c1
        have s3 := HD3.out.frz
        go_simp
        have HD4 := Lib.hid HD3.out.set
        refine hK'.out _ _ HD4.out.gr (fun hSd => wpAnyH_done (by kernel_rfl) ?_ _)
        clear hK' K' s2 s3
        go_wp2
        go_roundw
        case rel => exact ⟨j + s, _, xs ++ [c], by go_num, by omega, HD4, Lib.hid (by rw [List.append_assoc]; exact HX2.out)⟩
        case measure => simp [intOf]; omega
    · have HXe := Lib.hid (show xs = E by have := HX.out; rwa [evR_end (by rw [← HN.out]; exact hlt), List.append_nil] at this)
      have hc0 := HS.out.c0
      have hc1 := HS.out.c1
      have H6 := Lib.hid (show GB wr (p3 + 1) _ _ from (HS.out.gr.block _ (cellLt (cell_of_row _ _ 0 _ _ _ HC63.out))).trans HC63.out)
      go_wp2_with (refine wpl_storeG rfl rfl rfl rfl rfl HS.out.own.one H6.out ?_)
      have hlt6 := cellLt (cell_of_row _ _ 0 _ _ _ HC63.out)
      have hx := HXe.out
      subst hx
      obtain ⟨a', cap', hu, -, hc1', hc2'⟩ := HS.out.own.shape
      have ho := HS.out.own.row (g := p3 + 1) (by have := HQ.out; omega) #[.int .i64 x, v]
      refine bodyPost_ret (v := .tuple #[.agg #[.int .i64 x, v], .int .i64 0]) ?_ rfl ⟨⟨_, rfl, ?_⟩, ?_⟩
      · rw [results_cell_tmp rfl]
        simp [asAddr, Result.andThen]
        rw [run_loadG (H6.out.row _ _)]
      · exact ownI_low ho (by have := HQ.out; have := HG3.out.size; omega)
      · exact (HG3.out.trans HS.out.gr).row (by have := HP3.out; omega) _
theorem join_i {i : TypeInfo} (hi : Try.prog.info? 3 = some i) (hz0 : i.zero = some (.int .i64 0)) (hz1 : i.size = 1) (hz2 : i.bytes = 8)
    {ops : Array Oper} {rest : List Oper} {o : Oper} {a : Act} {Q : Exit → Act → World → Prop} {B : Nat} {w : World} (hgd : o.guard = none) (s x : Operand)
    (ho : o.op = .call { callee := .builtin .append, args := #[s, x], argTypes := #[23, 23] }) (v : Value) (xs : List Int) (hs : a.eval s = v) (hown : OwnI B w v xs) (hB : B ≤ w.heap.size)
    (b : Option Addr) (ys : List Int) (c : Nat) (hx : a.eval x = .slice b ys.length c) (hy : RdI w b ys) (hc : (b = none ∧ c = 0) ∨ ∃ p q, b = some ⟨p, q, none⟩) (hlen : xs.length + ys.length ≤ 1000000)
    (h : ∀ v' w', Hid (OwnI B w' v' (xs ++ ys)) → Below B w w' → wpList Try.prog ops Q rest (a.put o.dst v') w') :
    wpList Try.prog ops Q (o :: rest) a w := by
  rcases hc with ⟨rfl, rfl⟩ | ⟨p, q, rfl⟩
  · have hys : ys = [] := by
      cases ys with
      | nil => rfl
      | cons y t => obtain ⟨_, _, e, -⟩ := hy 0 (by simp); cases e
    subst hys
    refine wpList_append_own_none hgd s x _ ho B 3 i 1 Try.underlying23 hi v xs.length (iv xs) hs hown hx (h v w (Lib.hid (by rw [List.append_nil]; exact hown)) (Below.refl _ _))
  · refine wpList_append_own _ hgd s x _ ho B 3 i (.int .i64 0) 1 8 Try.underlying23 hi hz0 hz1 hz2 rfl (by decide) v xs.length (iv xs) hs hown ⟨p, q, none⟩ ys.length c (iv ys) hx (by simp [iv])
      (fun j u hj => ?_) (fun u hu => by obtain ⟨y, -, rfl⟩ := List.mem_map.1 hu; rfl) (by unfold maxLen; omega) (by omega) hB (fun v' w' hown' hgrow _ => h v' w' ?_ (Below.grown (Below.refl B w) hgrow hB (fun k hk => (World.ownsRow.lt hown k hk).1)))
    · rw [WideShapes.add_plain]
      have hjl : j < ys.length := by
        have := (List.getElem?_eq_some_iff.1 hj).1
        simpa [iv] using this
      obtain ⟨_, _, e, c0⟩ := hy j hjl
      cases e
      simp only [iv, List.getElem?_map, List.getElem?_eq_getElem hjl, Option.map_some, Option.some.injEq] at hj
      subst hj; exact c0
    · show World.ownsRow _ _ _ _ _ _ _
      rw [show iv (xs ++ ys) = iv xs ++ iv ys by simp [iv], List.length_append]; exact hown'
set_option maxRecDepth 100000 in
set_option maxHeartbeats 2000000 in
theorem sl_Grow0I (w : World) : Calls Try.prog 60 #[.slice none 0 0, .int .i64 0] w fun e w' => e = .returned (.slice none 0 0) ∧ w = w' := by
  go_enter Try.func60, Try.ntmps60
  go_wp2
  go_ret
  exact ⟨rfl, rfl⟩
set_option maxRecDepth 100000 in
set_option maxHeartbeats 2000000 in
theorem sl_GrowPI (n : Nat) (w : World) (h0 : 0 < n) (hn : n ≤ 10000) :
    Calls Try.prog 60 #[.slice none 0 0, .int .i64 (n : Int)] w fun e w' => ∃ v, e = .returned v ∧ OwnI w.heap.size w' v [] ∧ Gr w w' := by
  obtain ⟨i0, hi, hz0, hz1, hz2⟩ := info_parts Try.infoI
  have hold : (Builtin.firstCells i0.size 0 (.slice none 0 0)).run Try.prog w.drew = .ok (([] : List Value).toArray) w.drew := run_firstCells_none w.drew i0.size 0 0 0
  have hrz : ∀ ty, (Builtin.append_ #[23, 3] ty #[.slice none 0 0, .int .i64 (n : Int)]).run Try.prog w =
      .ok (.slice (some ⟨w.heap.size, 0, none⟩) n (grownCap w n 0 3)) (w.drew.alloc (.cells ((([] : List Value).toArray) ++ Builtin.zeroCells (Value.int .i64 0).cells n ++ Builtin.zeroCells (Value.int .i64 0).cells (grownCap w n 0 3 - n)) 3)) := fun ty => by
    have h := Lib.run_append_grow_zeros w 23 3 ty 3 i0 (.int .i64 0) .i64 .i64 Try.underlying23 Try.underlying3 hi hz0 none 0 0 [] hold n h0 (by omega) (by omega) (by omega) (by rw [hz2]; omega)
      (growslice_fits (by omega) (by rw [hz2]; omega))
    simpa only [Nat.zero_add] using h
  have hge : n ≤ grownCap w n 0 3 := grownCap_ge w _ _ _
  have hle := grownCap_le_maxLen w n 0 3 (by unfold maxLen; omega)
  generalize grownCap w n 0 3 = C at *
  have HO : Hid (OwnI w.heap.size (w.drew.alloc (.cells ((([] : List Value).toArray) ++ Builtin.zeroCells (Value.int .i64 0).cells n ++ Builtin.zeroCells (Value.int .i64 0).cells (C - n)) 3)) (.slice (some ⟨w.heap.size, 0, none⟩) 0 C) []) := Lib.hid (by
    refine ⟨rfl, .inr ⟨w.heap.size, C, _, rfl, Nat.le_refl _, heap_alloc_last w.drew _, Nat.zero_le _, hle, ?_, rfl⟩⟩
    rw [Array.size_append, Array.size_append, size_zeroCells, size_zeroCells]
    simp [Value.cells]
    omega)
  have HG : Hid (Gr w (w.drew.alloc (.cells ((([] : List Value).toArray) ++ Builtin.zeroCells (Value.int .i64 0).cells n ++ Builtin.zeroCells (Value.int .i64 0).cells (C - n)) 3))) := Lib.hid ((Below.drew (Gr.refl w)).alloc (Nat.le_refl _) _)
  have hC : C ≤ 9223372036854775807 := hle
  generalize (w.drew.alloc (.cells ((([] : List Value).toArray) ++ Builtin.zeroCells (Value.int .i64 0).cells n ++ Builtin.zeroCells (Value.int .i64 0).cells (C - n)) 3)) = W at *
  clear hold
  go_enter Try.func60, Try.ntmps60
  go_wp2_with (at_builtin; refine Lib.wpList_append_run _ rfl _ _ _ _ rfl _ _ rfl rfl _ _ (hrz _) ?_)
  go_ret
  exact ⟨_, rfl, HO.out, HG.out⟩
theorem sl_GrowI (n : Nat) (w : World) (hn : n ≤ 10000) :
    Calls Try.prog 60 #[.slice none 0 0, .int .i64 (n : Int)] w fun e w' => ∃ v, e = .returned v ∧ OwnI w.heap.size w' v [] ∧ Gr w w' := by
  by_cases h0 : n = 0
  · subst h0
    refine (sl_Grow0I w).mono ?_
    rintro e w' ⟨rfl, rfl⟩
    exact ⟨_, rfl, OwnI.nil _ _, Gr.refl _⟩
  · exact sl_GrowPI n w (by omega) hn
/-- slices of groups, one behind the other -/
def PartsAtI (w : World) (p : Nat) (P : List (List Int)) : Prop := ∀ k (h : k < P.length), ∃ a c, w.cell? ⟨p, k, none⟩ = some (.slice a P[k].length c) ∧ RdI w a P[k] ∧ ((a = none ∧ c = 0) ∨ ∃ b o, a = some ⟨b, o, none⟩)
theorem PartsAtI.gr {w w' : World} {p : Nat} {P : List (List Int)} (h : PartsAtI w p P) (hg : Gr w w') : PartsAtI w' p P := fun k hk => by
  obtain ⟨a, c, h1, h2, h3⟩ := h k hk
  exact ⟨a, c, gr_cell hg h1, h2.gr hg, h3⟩
theorem flat_nxtI {P : List (List Int)} {k : Nat} (h : k < P.length) : (P.take (k + 1)).flatten = (P.take k).flatten ++ P[k] := by
  rw [List.take_succ_eq_append_getElem h, List.flatten_append]; simp
theorem flat_lenI (P : List (List Int)) (k : Nat) : (P.take k).flatten.length ≤ P.flatten.length := by
  conv => rhs; rw [← List.take_append_drop k P, List.flatten_append, List.length_append]
  omega
set_option maxRecDepth 100000 in
set_option maxHeartbeats 2000000 in
theorem sl_ConcatI (p : Nat) (P : List (List Int)) (cap : Nat) (w : World) (hP : PartsAtI w p P) (hm : P.length ≤ 10) (h1 : P.flatten.length ≤ 10000) :
    Calls Try.prog 37 #[.slice (some ⟨p, 0, none⟩) P.length cap] w fun e w' => ∃ v, e = .returned v ∧ OwnI w.heap.size w' v P.flatten ∧ Gr w w' := by
  obtain ⟨i0, hi, hz0, hz1, hz2⟩ := info_parts Try.infoI
  have HP := Lib.hid hP
  have HL := Lib.hid (fun k => Nat.le_trans (flat_lenI P k) h1)
  have HGR := Lib.hid (fun w' => sl_GrowI P.flatten.length w' h1)
  obtain ⟨m, hmm⟩ : ∃ m, P.length = m := ⟨_, rfl⟩
  have HM := Lib.hid hmm
  rw [hmm] at hm ⊢
  clear hP hmm
  go_enter Try.func37, Try.ntmps37
  go_wp2
  go_loopw [3, 11] (fun s i wr => ∃ k : Nat, i = .int .i64 k ∧ k ≤ m ∧ s = .int .i64 ((P.take k).flatten.length : Nat) ∧ Hid (Gr w wr)) (fun _ i _ => m - (intOf i).toNat)
  case atStart => exact ⟨0, rfl, by omega, by simp, Lib.hid (Gr.refl w)⟩
  case round =>
    obtain ⟨k, rfl, hk, rfl, HG⟩ := hrel
    by_cases hlt : k < m
    · have hkP : k < P.length := by rw [HM.out]; exact hlt
      obtain ⟨a, c, c0, -, -⟩ := HP.out.gr HG.out k hkP
      have HF := Lib.hid (congrArg List.length (flat_nxtI hkP))
      have hl1 := HL.out (k + 1)
      rw [HF.out, List.length_append] at hl1
      rw [List.length_append] at HF
      generalize (P.take k).flatten.length = s at *
      generalize P[k].length = l at *
      go_wp2
      go_roundw
      case rel => exact ⟨k + 1, by go_num, by omega, by rw [HF.out]; go_num, HG⟩
      case measure => simp [intOf]; omega
    · have hk2 : k = P.length := by rw [HM.out]; omega
      have HT : Hid ((P.take k).flatten.length = P.flatten.length) := Lib.hid (by rw [hk2, List.take_length])
      rw [HT.out]
      clear hk2 HT
      have HGq := Lib.hid (HGR.out wr)
      clear HGR
      generalize P.flatten.length = T at *
      go_wp2_with fail
      refine HGq.out.mono ?_; rintro e w2 ⟨v, rfl, ho, hg⟩
      have HG2 := Lib.hid (Gr.trans HG.out hg)
      have HO := Lib.hid (ownI_low ho HG.out.size)
      clear ho hg HG HGq
      go_wp2
      go_loopw [6, 27] (fun ow i wr => ∃ k : Nat, i = .int .i64 k ∧ k ≤ m ∧ Hid (OwnI w.heap.size wr ow (P.take k).flatten) ∧ Hid (Gr w wr)) (fun _ i _ => m - (intOf i).toNat)
      case atStart => exact ⟨0, rfl, by omega, Lib.hid (by simpa using HO.out), HG2⟩
      case round =>
        obtain ⟨k, rfl, hk, HO, HG⟩ := hrel
        by_cases hlt : k < m
        · have hkP : k < P.length := by rw [HM.out]; exact hlt
          obtain ⟨a, c, c0, hy, hc⟩ := HP.out.gr HG.out k hkP
          have HF := Lib.hid (flat_nxtI hkP)
          have hl1 := HL.out (k + 1)
          rw [HF.out, List.length_append] at hl1
          generalize (P.take k).flatten = xs at *
          generalize P[k] = ys at *
          have HY := Lib.hid hy
          have HC := Lib.hid hc
          clear hy hc
          go_wp2_with (at_builtin; refine join_i hi hz0 hz1 hz2 rfl _ _ rfl _ xs rfl HO.out HG.out.size a ys c rfl HY.out HC.out (by omega) ?_; rintro v5 w5 HO5 hg5; have HG5 := Lib.hid (Below.trans HG.out hg5); clear hg5)
          go_roundw
          case rel => exact ⟨k + 1, by go_num, by omega, Lib.hid (by rw [HF.out]; exact HO5.out), HG5⟩
          case measure => simp [intOf]; omega
        · have hk2 : k = P.length := by rw [HM.out]; omega
          have ho := HO.out
          rw [hk2, List.take_length] at ho
          have HOe := Lib.hid ho
          clear HO ho hk2
          go_wp2
          go_ret
          exact ⟨_, rfl, HOe.out, HG.out⟩
end Go.Proofs.Ytmcngnnbfmjajaa
