/- Curves: rise and width of a segment; the points that Flip and Inverse make. -/
import Derived.Test.YtlbnibicehpobaaGreatDoorCvD
set_option linter.unusedVariables false
set_option linter.unusedSimpArgs false
namespace Go.Proofs.YtlbnibicehpobaaGreatDoor
open Go.RowKit Go.Shelf
open Z
abbrev vSg (a b c d : Int) : Value := .agg #[.int .i64 a, .int .i64 b, .int .i64 c, .int .i64 d]
abbrev oSg (a b c d : Int) : Obj := .cells #[.int .i64 a, .int .i64 b, .int .i64 c, .int .i64 d] 64
theorem sg_new (w : World) (a b c d : Int) : (w.alloc (oSg a b c d)).cell? ⟨w.heap.size, 0, none⟩ = some (.int .i64 a) ∧ (w.alloc (oSg a b c d)).cell? ⟨w.heap.size, 1, none⟩ = some (.int .i64 b) ∧ (w.alloc (oSg a b c d)).cell? ⟨w.heap.size, 2, none⟩ = some (.int .i64 c) ∧ (w.alloc (oSg a b c d)).cell? ⟨w.heap.size, 3, none⟩ = some (.int .i64 d) :=
  ⟨by rw [World.cell?_alloc_at _ _ _ _ rfl]; rfl, by rw [World.cell?_alloc_at _ _ _ _ rfl]; rfl, by rw [World.cell?_alloc_at _ _ _ _ rfl]; rfl, by rw [World.cell?_alloc_at _ _ _ _ rfl]; rfl⟩
set_option maxHeartbeats 1000000 in
theorem cv_rise (a b c d : Int) (w : World) (h : -65535 ≤ b ∧ b ≤ 65535) (h' : -65535 ≤ d ∧ d ≤ 65535) :
    Calls Tryz.prog 45 #[vSg a b c d] w fun e w' => e = .returned (.int .i64 (d - b)) ∧ Gr w w' := by
  obtain ⟨k0, k1, k2, k3⟩ := sg_new w a b c d
  have HG := Lib.hid ((Gr.refl w).alloc (oSg a b c d))
  have hwr : IntKind.i64.wrap (d - b) = d - b := IntWalk.i64_in _ (by omega)
  go_enter Tryz.func45, Tryz.ntmps45
  go_wp2
  go_ret
  exact ⟨rfl, HG.out⟩
set_option maxHeartbeats 1000000 in
theorem cv_width (a b c d : Int) (w : World) (h : -65535 ≤ a ∧ a ≤ 65535) (h' : -65535 ≤ c ∧ c ≤ 65535) :
    Calls Tryz.prog 76 #[vSg a b c d] w fun e w' => e = .returned (.int .i64 (c - a)) ∧ Gr w w' := by
  obtain ⟨k0, k1, k2, k3⟩ := sg_new w a b c d
  have HG := Lib.hid ((Gr.refl w).alloc (oSg a b c d))
  have hwr : IntKind.i64.wrap (c - a) = c - a := IntWalk.i64_in _ (by omega)
  go_enter Tryz.func76, Tryz.ntmps76
  go_wp2
  go_ret
  exact ⟨rfl, HG.out⟩
theorem P2.gr' {w w' : World} {n : Nat} {f t : Int} (h : P2 w n f t) (hg : Gr w w') : P2 w' n f t := ⟨cv_cell hg h.c0, cv_cell hg h.c1⟩
theorem cv_results_one {fn : Func} {p : Tmp} {ty : TypeId} (h : fn.results = #[.cell p ty]) (tmps : Array Value) (P : Program) (w : World) :
    (results fn tmps).run P w = ((asAddr (tmps.getD p undef)).run P w).andThen fun a w₁ => (loadVar ty a).run P w₁ := by
  simp only [results, h]
  first | done | rfl | simp [go_sem]
theorem heap_new2 (w : World) (o : Obj) (cs : Array Value) (ty : TypeId) : ((w.alloc o).alloc (.cells cs ty)).heap[w.heap.size + 1]? = some (.cells cs ty (0, 0)) := by
  show ((w.heap.push o).push (.cells cs ty (0, 0)))[w.heap.size + 1]? = _
  rw [Array.getElem?_push, if_pos (by simp)]
theorem run_loadP {w : World} {g : Nat} {p q : Value} (hg : w.heap[g]? = some (.cells #[p, q] 52 (0, 0))) : (loadVar 52 ⟨g, 0, none⟩).run Tryz.prog w = .ok (.agg #[p, q]) w :=
  run_loadVar_row w g _ _ _ (0, 0) _ hg Tryz.underlying52 rfl (by obtain ⟨i, hi, _, h1, _⟩ := info_parts Tryz.infoPt; rw [hi]; simp [h1])
/-- a block of one point that may be stored -/
structure PF (w : World) (n : Nat) (f t : Int) : Prop where
  c0 : w.cell? ⟨n, 0, none⟩ = some (.int .i64 f)
  c1 : w.cell? ⟨n, 1, none⟩ = some (.int .i64 t)
  f0 : w.frozen? ⟨n, 0, none⟩ = false
  f1 : w.frozen? ⟨n, 1, none⟩ = false
theorem PF.new2 (w : World) (o : Obj) (ty : TypeId) : PF ((w.alloc o).alloc (.cells #[.int .i64 0, .int .i64 0] ty)) (w.heap.size + 1) 0 0 :=
  ⟨by rw [World.cell?_alloc_at _ _ _ _ (by simp)]; rfl, by rw [World.cell?_alloc_at _ _ _ _ (by simp)]; rfl, World.frozen?_alloc_at _ _ _ _ (by simp), World.frozen?_alloc_at _ _ _ _ (by simp)⟩
theorem PF.store {w : World} {n : Nat} {f t : Int} (h : PF w n f t) (f' t' : Int) : PF ((w.setCell ⟨n, 0, none⟩ (.int .i64 f')).setCell ⟨n, 1, none⟩ (.int .i64 t')) n f' t' := by
  have a1 : (w.setCell ⟨n, 0, none⟩ (.int .i64 f')).cell? ⟨n, 1, none⟩ = some (.int .i64 t) := (World.cell?_setCell_other _ _ _ _ (by simp)).trans h.c1
  have a0 : (w.setCell ⟨n, 0, none⟩ (.int .i64 f')).cell? ⟨n, 0, none⟩ = some (.int .i64 f') := World.cell?_setCell_same _ _ _ h.c0
  refine ⟨(World.cell?_setCell_other _ _ _ _ (by simp)).trans a0, World.cell?_setCell_same _ _ _ a1, ?_, ?_⟩
  · rw [World.frozen?_setCell, World.frozen?_setCell]; exact h.f0
  · rw [World.frozen?_setCell, World.frozen?_setCell]; exact h.f1
set_option maxHeartbeats 1000000 in
theorem cv_inv1 (f t : Int) (w : World) :
    Calls Tryz.prog 48 #[.agg #[.int .i64 f, .int .i64 t]] w fun e w' => e = .returned (.agg #[.int .i64 (t), .int .i64 (f)]) ∧ Gr w w' := by
  obtain ⟨k0, k1⟩ := id (P2.new w f t 52)
  have e0 := P2.gr' (P2.new w f t 52) ((Gr.refl _).alloc (.cells #[.int .i64 0, .int .i64 0] 52))
  obtain ⟨m0, m1⟩ := id e0
  have HP := Lib.hid (PF.new2 w (.cells #[.int .i64 f, .int .i64 t] 52) 52)
  obtain ⟨n0, n1, f0, f1⟩ := id HP.out
  have HS := Lib.hid (PF.store HP.out (t) (f))
  have HG := Lib.hid (Gr.trans ((Gr.refl w).alloc (.cells #[.int .i64 f, .int .i64 t] 52)) ((Gr.refl _).alloc (.cells #[.int .i64 0, .int .i64 0] 52)))
  go_enter Tryz.func48, Tryz.ntmps48
  clear n0 n1 f0 f1 HP HS
  go_wp2
  have HH := heap_new2 w (.cells #[.int .i64 f, .int .i64 t] 52) #[.int .i64 (t), .int .i64 (f)] 52
  refine bodyPost_ret (v := .agg #[.int .i64 (t), .int .i64 (f)]) ?_ rfl ⟨rfl, (((Gr.refl w).alloc _).alloc _)⟩
  rw [cv_results_one rfl]
  simp [asAddr, Result.andThen]
  rw [run_loadP HH]
set_option maxHeartbeats 1000000 in
theorem cv_flip1 (f t : Int) (w : World) (h : 0 ≤ t ∧ t ≤ 65535) :
    Calls Tryz.prog 50 #[.agg #[.int .i64 f, .int .i64 t]] w fun e w' => e = .returned (.agg #[.int .i64 (f), .int .i64 (65535 - t)]) ∧ Gr w w' := by
  obtain ⟨k0, k1⟩ := id (P2.new w f t 52)
  have e0 := P2.gr' (P2.new w f t 52) ((Gr.refl _).alloc (.cells #[.int .i64 0, .int .i64 0] 52))
  obtain ⟨m0, m1⟩ := id e0
  have HP := Lib.hid (PF.new2 w (.cells #[.int .i64 f, .int .i64 t] 52) 52)
  obtain ⟨n0, n1, f0, f1⟩ := id HP.out
  have HS := Lib.hid (PF.store HP.out (f) (65535 - t))
  have HG := Lib.hid (Gr.trans ((Gr.refl w).alloc (.cells #[.int .i64 f, .int .i64 t] 52)) ((Gr.refl _).alloc (.cells #[.int .i64 0, .int .i64 0] 52)))
  have hwr : IntKind.i64.wrap (65535 - t) = 65535 - t := IntWalk.i64_in _ (by omega)
  go_enter Tryz.func50, Tryz.ntmps50
  clear n0 n1 f0 f1 HP HS
  go_wp2
  have HH := heap_new2 w (.cells #[.int .i64 f, .int .i64 t] 52) #[.int .i64 (f), .int .i64 (65535 - t)] 52
  refine bodyPost_ret (v := .agg #[.int .i64 (f), .int .i64 (65535 - t)]) ?_ rfl ⟨rfl, (((Gr.refl w).alloc _).alloc _)⟩
  rw [cv_results_one rfl]
  simp [asAddr, Result.andThen]
  rw [run_loadP HH]
end Go.Proofs.YtlbnibicehpobaaGreatDoor
