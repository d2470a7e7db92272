/- Law 11: the program's palettes: what they mix, and what light they give. -/
import Derived.Test.YtipfofdjngnkpaaCoA
import Derived.Laws.ResultCell
import Derived.Deep.WholeRow
import Derived.Deep.RegionHeld3
set_option linter.unusedVariables false
set_option linter.unusedSimpArgs false
namespace Go.Proofs.Ytipfofdjngnkpaa
open Go.RowKit
open Z
theorem Try.infoPal : (Try.prog.info? 60).map (fun i => (i.zero, i.size)) = some (some (.agg (palA fun _ => false)), 15) := by kernel_rfl
theorem run_loadP {w : World} {g : Nat} {b : Nat → Bool} (hg : w.heap[g]? = some (.cells (palA b) 60 (0, 0))) :
    (loadVar 60 ⟨g, 0, none⟩).run Try.prog w = .ok (.agg (palA b)) w :=
  run_loadVar_row w g _ _ _ (0, 0) _ hg Try.underlying60 rfl (by rw [(zero_of_info Try.infoPal).2]; rfl)
def PalAt (w : World) (g : Nat) (b : Nat → Bool) : Prop := w.heap[g]? = some (.cells (palA b) 60 (0, 0))
theorem PalAt.gr {w w' : World} {g : Nat} {b : Nat → Bool} (h : PalAt w g b) (hg : Gr w w') : PalAt w' g b := (hg.block g (Array.getElem?_eq_some_iff.1 h).1).trans h
theorem PalAt.drew {w : World} {g : Nat} {b : Nat → Bool} (h : PalAt w g b) : PalAt w.drew g b := h
theorem PalAt.new (w : World) (b : Nat → Bool) : PalAt (w.alloc (.cells (palA b) 60)) w.heap.size b := heap_alloc_last w _
theorem exec_loadP {w : World} {g : Nat} {b : Nat → Bool} {ev : Operand → Value} (o : Oper) {x : Operand} (ho : o.op = .load 60 x) (hx : ev x = .pointer (some ⟨g, 0, none⟩)) (hg : PalAt w g b) : (execOp ev o).run Try.prog w = .ok (.value (.agg (palA b))) w := by
  unfold execOp
  rw [ho]
  simp only [hx, Instr.loadAt, Instr.sureAddr, Sem.run_bind, Sem.run_pure, Result.andThen, run_loadP hg]
theorem wp_loadP {o : Oper} {a : Act} {w : World} {K : Act → World → Prop} {Q : Exit → Act → World → Prop} (x : Operand) {g : Nat} {b : Nat → Bool} (ho : o.op = .load 60 x) (hx : a.eval x = .pointer (some ⟨g, 0, none⟩)) (hg : PalAt w g b) (h : K (a.put o.dst (.agg (palA b))) w) : o.wp Try.prog a w K Q := by
  unfold Oper.wp
  rw [exec_loadP o ho hx hg]; exact h
set_option maxRecDepth 100000 in
set_option maxHeartbeats 2000000 in
theorem co_isAdditive (b : Nat → Bool) (w : World) : Calls Try.prog 50 #[.agg (palA b)] w fun e w' => e = .returned (.bool (b 3 && (b 4 && b 5))) ∧ Gr w w' := by
  have HP := Lib.hid (PalAt.new w b)
  have HG := Lib.hid ((Gr.refl w).alloc (.cells (palA b) 60))
  have HA := Lib.hid (fun w => co_has_lights b w)
  have HL := Lib.hid (fun w => co_lights w)
  generalize (b 3 && (b 4 && b 5)) = r at *
  go_enter Try.func50, Try.ntmps50
  go_wp2_with fail
  have hS0 : (fun w' : World => PalAt w' w.heap.size b ∧ Gr w w') (w.alloc (.cells (palA b) 60)).drew := ⟨HP.out.drew, HG.out.drew⟩
  refine wp_region_held (S := fun w' : World => PalAt w' w.heap.size b ∧ Gr w w') (by kernel_rfl) ?_
  refine wpAnyH_take (i := 0) (v := .agg (palA b)) rfl (by kernel_rfl) (by kernel_rfl) (by kernel_rfl) (fun _ _ _ h => h) (Or.inl ⟨by rfl, ?_⟩) hS0 ?_
  · intro w1 hSw; exact exec_loadP _ rfl rfl hSw.1
  try simp only [Act.put, List.getElem_toArray, List.getElem_cons_succ, List.getElem_cons_zero, List.setIfInBounds_toArray, List.set_cons_zero, List.set_cons_succ]
  refine wpAnyH_ready (rs := [1]) (by kernel_rfl) (by simp) (AllReadyH.cons rfl (fun K' hK' => ?_) AllReadyH.nil)
  go_simp
  refine (HL.out _).mono ?_; rintro e w6 ⟨rfl, hg6⟩
  refine hK'.out _ _ ⟨hS0.1.gr hg6, hS0.2.trans hg6⟩ (fun hS1 => ?_)
  clear hK' K'
  try simp only [Act.put, List.getElem_toArray, List.getElem_cons_succ, List.getElem_cons_zero, List.setIfInBounds_toArray, List.set_cons_zero, List.set_cons_succ]
  refine wpAnyH_ready (rs := [2]) (by kernel_rfl) (by simp) (AllReadyH.cons rfl (fun K' hK' => ?_) AllReadyH.nil)
  go_simp
  refine (HA.out _).mono ?_; rintro e w7 ⟨rfl, hg7⟩
  refine hK'.out _ _ ⟨hS1.1.gr hg7, hS1.2.trans hg7⟩ (fun hS2 => ?_)
  clear hK' K'
  try simp only [Act.put, List.getElem_toArray, List.getElem_cons_succ, List.getElem_cons_zero, List.setIfInBounds_toArray, List.set_cons_zero, List.set_cons_succ]
  refine wpAnyH_take (i := 3) (v := .bool r) rfl (by kernel_rfl) (by kernel_rfl) (by kernel_rfl) (fun _ _ _ h => h) (Or.inl ⟨by rfl, ?_⟩) hS2 ?_
  · intro w hSw; go_simp
  refine wpAnyH_done (by kernel_rfl) ?_ _
  go_wp2
  go_ret
  exact ⟨rfl, hS2.2⟩
end Go.Proofs.Ytipfofdjngnkpaa
