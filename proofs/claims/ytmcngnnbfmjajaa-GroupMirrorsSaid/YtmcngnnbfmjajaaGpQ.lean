/- Law 14: Mirror, of both sides. -/
import Derived.Test.YtmcngnnbfmjajaaGpJ
import Derived.Test.YtmcngnnbfmjajaaShelf
import Derived.Sort.OwnSortedInts
set_option linter.unusedVariables false
set_option linter.unusedSimpArgs false
namespace Go.Proofs.Ytmcngnnbfmjajaa
open Go.RowKit Go.Sort
open Z
theorem ownI_map {l : List Int} : iv l = l.map (Value.int .i64) := rfl
theorem sl_Clone {a : Option Addr} {l : List Int} {cap : Nat} (w : World) (hr : RdI w a l) (hl : l.length ≤ 1000000) :
    Calls Try.prog 62 #[.slice a l.length cap] w fun e w' => ∃ v', e = .returned v' ∧ OwnI w.heap.size w' v' l ∧ Gr w w' := by
  cases a with
  | none =>
    have h0 : l = [] := by
      cases l with
      | nil => rfl
      | cons x t => obtain ⟨b, o, h, -⟩ := hr 0 (by simp); cases h
    subst h0
    refine (Try.slices_Clone_int_nil _ cap w).mono ?_
    rintro e w' ⟨rfl, rfl⟩
    exact ⟨_, rfl, OwnI.nil _ _, Gr.refl _⟩
  | some ad =>
    by_cases h0 : l = []
    · subst h0
      refine (Try.slices_Clone_int_zero ad cap w).mono ?_
      rintro e w' ⟨v', rfl, ho, -, hb⟩
      exact ⟨_, rfl, ho, hb⟩
    · have hpos : 0 < l.length := List.length_pos_iff.2 h0
      obtain ⟨b, o, e, -⟩ := hr 0 hpos
      cases e
      refine (Try.slices_Clone_int b o l.length cap l w (Nat.le_refl _) (by omega) (fun j hj => ?_)).mono ?_
      · obtain ⟨b', o', e, hc⟩ := hr j hj
        cases e
        rw [hc]; simp [List.getD, List.getElem?_eq_getElem hj]
      · rintro e w' ⟨v', rfl, ho, -, hb⟩
        rw [List.take_length] at ho
        exact ⟨_, rfl, ho, hb⟩
theorem sl_Reverse {B : Nat} {v : Value} {l : List Int} (w : World) (ho : OwnI B w v l) (hl : l.length ≤ 1000000) :
    Calls Try.prog 56 #[v] w fun e w' => e = .returned (.tuple #[]) ∧ OwnI B w' v l.reverse ∧ w.grownBy w' v.ownBlock := by
  by_cases h0 : l = []
  · subst h0
    obtain ⟨a, cap, rfl, -⟩ := ho.shape
    refine (Try.slices_Reverse_int_empty a cap w).mono ?_
    rintro e w' ⟨rfl, rfl⟩
    exact ⟨rfl, ho, rfl, rfl, rfl, Nat.le_refl _, fun _ _ _ => rfl⟩
  · rcases id ho.2 with ⟨-, h1⟩ | ⟨g, cap, cur, rfl, hb, hg, hn1, hn2, hs, ht⟩
    · exact absurd (List.eq_nil_of_length_eq_zero h1) h0
    · rw [Nat.mul_one] at ht
      refine (Try.slices_Reverse_int g 0 cap l w (holds_of_blockI hg ht) (by omega)).mono ?_
      rintro e w' ⟨rfl, n, rfl⟩
      have h2 := ownsRow_sortedI (w := w) (base := B) (n := n) (os := #[]) (ss := l) (ts := l.reverse) (by simp) hb hg hn1 hn2 hs
      have h3 := grownBy_sortedI (w := w) (g := g) (n := n) (os := #[]) l.reverse.toArray
      rw [grow_empty] at h2 h3
      refine ⟨rfl, ?_, h3⟩
      show World.ownsRow _ _ _ _ _ _ _
      rw [List.length_reverse]
      exact h2
theorem wp_storeG {o : Oper} {a : Act} {w : World} {K : Act → World → Prop} {Q : Exit → Act → World → Prop} {x y : Operand} {g : Nat} {p q p' q' : Value} (ho : o.op = .store 25 x y) (hx : a.eval x = .pointer (some ⟨g, 0, none⟩)) (hy : a.eval y = .agg #[p', q']) (h1 : p'.oneCell' = true) (h2 : q'.oneCell' = true) (hP : GB w g p q)
    (hK : K (a.put o.dst undef) (w.setRow g #[p', q'])) : o.wp Try.prog a w K Q := by
  have hz := (zero_of_info Try.infoG).2
  have h3 : (storeVar 25 ⟨g, 0, none⟩ (.agg #[p', q'])).run Try.prog w = .ok () (w.setRow g #[p', q']) :=
    run_storeVar_row w g _ _ _ _ hP (by rw [hz]; rfl) rfl (by simp [h1, h2])
  unfold Oper.wp execOp
  rw [ho]
  simp only [hx, hy, Instr.storeAt, Instr.sureAddr, Sem.run_bind, Sem.run_pure, Result.andThen, h3]
  rw [Oper.upon_skip]
  exact hK
set_option maxRecDepth 100000 in
set_option maxHeartbeats 2000000 in
theorem gp_copyOf {v : Value} (g : Gp) (w : World) (hv : GpV w v g) (hl : g.2.length ≤ 1000000) :
    Calls Try.prog 44 #[v] w fun e w' => (∃ u, e = .returned (.agg #[.int .i64 g.1, u]) ∧ OwnI w.heap.size w' u g.2) ∧ Gr w w' := by
  obtain ⟨a, cap, rfl, ra, la, ma⟩ := hv
  obtain ⟨x, l⟩ := g
  simp only at ra la hl ⊢
  obtain ⟨w1, hw1⟩ : ∃ w1, w1 = w.alloc (.cells #[.int .i64 x, .slice a l.length cap] 25) := ⟨_, rfl⟩
  obtain ⟨w2, hw2⟩ : ∃ w2, w2 = w1.alloc (.cells #[.int .i64 0, .slice none 0 0] 25) := ⟨_, rfl⟩
  have hG1 : Gr w w1 := by rw [hw1]; exact (Gr.refl w).alloc _
  have hG2 : Gr w1 w2 := by rw [hw2]; exact (Gr.refl w1).alloc _
  obtain ⟨hb0, hb1⟩ := show w1.cell? ⟨w.heap.size, 0, none⟩ = some (.int .i64 x) ∧ w1.cell? ⟨w.heap.size, 1, none⟩ = some (.slice a l.length cap) by rw [hw1]; exact box2 _ _ _ _
  have HS1 := Lib.hid (show w.heap.size + 1 = w1.heap.size by rw [hw1, World.size_alloc])
  have H6 := Lib.hid (show GB w2 (w.heap.size + 1) (.int .i64 0) (.slice none 0 0) by rw [hw2, HS1.out]; exact heap_alloc_last w1 _)
  have HCL : Hid (∀ W, Gr w1 W → Calls Try.prog 62 #[.slice a l.length cap] W fun e w' => ∃ v', e = .returned v' ∧ OwnI W.heap.size w' v' l ∧ Gr W w') := Lib.hid fun W hW => sl_Clone W (ra.gr (hG1.trans hW)) hl
  generalize l.length = n at *
  have HG1 := Lib.hid hG1
  have HG2 := Lib.hid hG2
  clear ra hG1 hG2
  obtain ⟨p, hp⟩ : ∃ p, p = w.heap.size := ⟨_, rfl⟩
  rw [← hp] at hb0 hb1 HS1 H6
  go_enter Try.func44, Try.ntmps44
  go_wp2_with fail
  rw [← hw1, ← hw2, ← hp]
  have HP := Lib.hid hp
  clear hw1 hw2 hp
  have hS0 : (fun w' : World => Gr w1 w') w2.drew := HG2.out.drew
  have H6d := Lib.hid (show GB w2.drew (p + 1) _ _ from H6.out)
  refine wp_region_held (S := fun w' : World => Gr w1 w') (by kernel_rfl) ?_
  change wpAnyH _ _ _ _ _ _ _ _ w2.drew
  refine wpAnyH_take (i := 0) (v := .pointer (some ⟨p, 0, none⟩)) rfl (by kernel_rfl) (by kernel_rfl) (by kernel_rfl) (fun _ _ _ h => h) (Or.inl ⟨by rfl, ?_⟩) hS0 ?_
  · intro w hSw; go_simp
  try simp only [Act.put, List.getElem_toArray, List.getElem_cons_succ, List.getElem_cons_zero, List.setIfInBounds_toArray, List.set_cons_zero, List.set_cons_succ]
  refine wpAnyH_take (i := 1) (v := .int .i64 x) rfl (by kernel_rfl) (by kernel_rfl) (by kernel_rfl) (fun _ _ _ h => h) (Or.inl ⟨by rfl, ?_⟩) hS0 ?_
  · intro w hSw; have s1 := gr_cell hSw hb0; go_simp
  try simp only [Act.put, List.getElem_toArray, List.getElem_cons_succ, List.getElem_cons_zero, List.setIfInBounds_toArray, List.set_cons_zero, List.set_cons_succ]
  refine wpAnyH_take (i := 2) (v := .pointer (some ⟨p, 1, none⟩)) rfl (by kernel_rfl) (by kernel_rfl) (by kernel_rfl) (fun _ _ _ h => h) (Or.inl ⟨by rfl, ?_⟩) hS0 ?_
  · intro w hSw; go_simp
  try simp only [Act.put, List.getElem_toArray, List.getElem_cons_succ, List.getElem_cons_zero, List.setIfInBounds_toArray, List.set_cons_zero, List.set_cons_succ]
  refine wpAnyH_take (i := 3) (v := .slice a n cap) rfl (by kernel_rfl) (by kernel_rfl) (by kernel_rfl) (fun _ _ _ h => h) (Or.inl ⟨by rfl, ?_⟩) hS0 ?_
  · intro w hSw; have s1 := gr_cell hSw hb1; go_simp
  try simp only [Act.put, List.getElem_toArray, List.getElem_cons_succ, List.getElem_cons_zero, List.setIfInBounds_toArray, List.set_cons_zero, List.set_cons_succ]
  refine wpAnyH_ready (rs := [4]) (by kernel_rfl) (by simp) (AllReadyH.cons rfl (fun K' hK' => ?_) AllReadyH.nil)
  go_simp
  refine (HCL.out _ hS0).mono ?_; rintro e w3 ⟨u, rfl, ho, hg3⟩
  have H63 := Lib.hid (show GB w3 (p + 1) _ _ from (hg3.block _ (cellLt (cell_of_row _ _ 0 _ _ _ H6d.out))).trans H6d.out)
  have hlt : p + 1 < w2.drew.heap.size := cellLt (cell_of_row _ _ 0 _ _ _ H6d.out)
  have hlo : w.heap.size ≤ w2.drew.heap.size := Nat.le_trans HG1.out.size hS0.size
  have HO := Lib.hid ho
  obtain ⟨ua, uc, hu, -⟩ := ho.shape
  subst hu
  generalize l.length = n2 at *
  refine hK'.out _ _ (hS0.trans hg3) (fun hS1 => ?_)
  clear hK' K'
  try simp only [Act.put, List.getElem_toArray, List.getElem_cons_succ, List.getElem_cons_zero, List.setIfInBounds_toArray, List.set_cons_zero, List.set_cons_succ]
  refine wpAnyH_take (i := 5) (v := .agg #[.int .i64 x, .slice ua n2 uc]) rfl (by kernel_rfl) (by kernel_rfl) (by kernel_rfl) (fun _ _ _ h => h) (Or.inl ⟨by rfl, ?_⟩) hS1 ?_
  · intro w hSw; go_simp
  try simp only [Act.put, List.getElem_toArray, List.getElem_cons_succ, List.getElem_cons_zero, List.setIfInBounds_toArray, List.set_cons_zero, List.set_cons_succ]
  refine wpAnyH_ready (rs := [6]) (by kernel_rfl) (by simp) (AllReadyH.cons rfl (fun K' hK' => ?_) AllReadyH.nil)
  refine wp_storeG rfl rfl rfl rfl rfl H63.out ?_
  refine hK'.out _ _ (hS1.row (by have := HS1.out; omega) _) (fun hS2 => wpAnyH_done (by kernel_rfl) ?_ _)
  clear hK' K'
  go_wp2
  refine bodyPost_ret (v := .agg #[.int .i64 x, .slice ua n2 uc]) ?_ rfl ⟨⟨_, rfl, ?_⟩, ?_⟩
  · have k0 : (w3.setRow (p + 1) #[.int .i64 x, .slice ua n2 uc]).cell? ⟨p + 1, 0, none⟩ = some (.int .i64 x) := cell_of_row _ _ 0 _ _ _ (H63.out.row _ _)
    have k1 : (w3.setRow (p + 1) #[.int .i64 x, .slice ua n2 uc]).cell? ⟨p + 1, 1, none⟩ = some (.slice ua n2 uc) := cell_of_row _ _ 1 _ _ _ (H63.out.row _ _)
    simp [results, Try.results44, go_sem, k0, k1]
  · exact ownI_low (HO.out.row hlt _) hlo
  · exact (HG1.out.trans hS1).row (by have := HP.out; omega) _
end Go.Proofs.Ytmcngnnbfmjajaa
