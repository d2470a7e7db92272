/- The program's rational numbers: the four operations in their map. -/
import Derived.Test.YtjoipfiomeocoabGreatDoorRat14
import Derived.Maps.Own
set_option linter.unusedVariables false
set_option linter.unusedSimpArgs false
namespace Go.Proofs.YtjoipfiomeocoabGreatDoor
open Go.RowKit Go.Shelf
open Z
attribute [local go_sem ↓] Go.wp_at_zero Go.wp_at_succ

section
variable {w0 : World}
set_option maxHeartbeats 2000000 in
set_option maxRecDepth 100000 in
theorem q_clos1 {p q r s n d : ByteArray} {e0 : Int} (H1 : RetG w0 129 #[vFr p q, .func (.func 40) #[] #[], vFr r s] (.tuple #[vFr n d, .int .i64 e0])) :
    RetG w0 128 #[vFr p q, vFr r s] (.tuple #[vFr n d, .int .i64 e0]) := by
  intro w hg
  obtain ⟨g0, f0, f0', f1⟩ := three_boxes w p q r s
  have HG0 := Lib.hid g0
  have HC0 := Lib.hid f1
  have HG := Lib.hid hg
  have HC1 := Lib.hid H1
  clear g0 f0 f0' f1 hg H1
  go_enter Tryz.func128, Tryz.ntmps128
  go_wp2_with fail
  refine (HC1.out _ (Gr.trans HG.out HG0.out)).mono ?_
  rintro e w1 ⟨rfl, hg⟩
  have hC := HC0.out.gr hg
  obtain ⟨k1, k2, k3, k4⟩ := id hC
  have HC := Lib.hid hC
  have HG1 := Lib.hid (Gr.trans HG0.out hg)
  clear hg hC
  go_wp2
  obtain ⟨F, G⟩ := HC.out.store (p' := n) (q' := d) HG1.out (by omega)
  refine bodyPost_ret (v := .tuple #[vFr n d, .int .i64 e0]) (by simp [results, Tryz.results128, go_sem, F.c0, F.c1]) rfl ⟨rfl, G⟩
set_option maxHeartbeats 2000000 in
set_option maxRecDepth 100000 in
theorem q_clos2 {p q r s n d : ByteArray} {e0 : Int} (H1 : RetG w0 129 #[vFr p q, .func (.func 75) #[] #[], vFr r s] (.tuple #[vFr n d, .int .i64 e0])) :
    RetG w0 130 #[vFr p q, vFr r s] (.tuple #[vFr n d, .int .i64 e0]) := by
  intro w hg
  obtain ⟨g0, f0, f0', f1⟩ := three_boxes w p q r s
  have HG0 := Lib.hid g0
  have HC0 := Lib.hid f1
  have HG := Lib.hid hg
  have HC1 := Lib.hid H1
  clear g0 f0 f0' f1 hg H1
  go_enter Tryz.func130, Tryz.ntmps130
  go_wp2_with fail
  refine (HC1.out _ (Gr.trans HG.out HG0.out)).mono ?_
  rintro e w1 ⟨rfl, hg⟩
  have hC := HC0.out.gr hg
  obtain ⟨k1, k2, k3, k4⟩ := id hC
  have HC := Lib.hid hC
  have HG1 := Lib.hid (Gr.trans HG0.out hg)
  clear hg hC
  go_wp2
  obtain ⟨F, G⟩ := HC.out.store (p' := n) (q' := d) HG1.out (by omega)
  refine bodyPost_ret (v := .tuple #[vFr n d, .int .i64 e0]) (by simp [results, Tryz.results130, go_sem, F.c0, F.c1]) rfl ⟨rfl, G⟩
set_option maxHeartbeats 2000000 in
set_option maxRecDepth 100000 in
theorem q_clos3 {p q r s n d : ByteArray} {e0 : Int} (hz : (r.toList == [48]) = false) (H1 : RetG w0 131 #[vFr p q, vFr s r] (.tuple #[vFr n d, .int .i64 e0])) :
    RetG w0 132 #[vFr p q, vFr r s] (.tuple #[vFr n d, .int .i64 e0]) := by
  intro w hg
  obtain ⟨g0, f0, f0', f1⟩ := three_boxes w p q r s
  have HG0 := Lib.hid g0
  have HC0 := Lib.hid f1
  have HG := Lib.hid hg
  have HC1 := Lib.hid H1
  clear g0 f0 f0' f1 hg H1
  go_enter Tryz.func132, Tryz.ntmps132
  go_wp2_with fail
  refine (HC1.out _ (Gr.trans HG.out HG0.out)).mono ?_
  rintro e w1 ⟨rfl, hg⟩
  have hC := HC0.out.gr hg
  obtain ⟨k1, k2, k3, k4⟩ := id hC
  have HC := Lib.hid hC
  have HG1 := Lib.hid (Gr.trans HG0.out hg)
  clear hg hC
  go_wp2
  obtain ⟨F, G⟩ := HC.out.store (p' := n) (q' := d) HG1.out (by omega)
  refine bodyPost_ret (v := .tuple #[vFr n d, .int .i64 e0]) (by simp [results, Tryz.results132, go_sem, F.c0, F.c1]) rfl ⟨rfl, G⟩
set_option maxHeartbeats 2000000 in
set_option maxRecDepth 100000 in
theorem q_clos3z {p q r s : ByteArray} (hz : (r.toList == [48]) = true) :
    RetG w0 132 #[vFr p q, vFr r s] (.tuple #[vFr ⟨#[]⟩ ⟨#[]⟩, .int .i64 15]) := by
  intro w hg
  obtain ⟨g0, f0, f0', f1⟩ := three_boxes w p q r s
  have HG0 := Lib.hid g0
  have HC0 := Lib.hid f1
  clear g0 f0 f0' f1 hg
  go_enter Tryz.func132, Tryz.ntmps132
  go_wp2
  refine bodyPost_ret (v := .tuple #[vFr ⟨#[]⟩ ⟨#[]⟩, .int .i64 15]) (by simp [results, Tryz.results132, go_sem, HC0.out.c0, HC0.out.c1]) rfl ⟨rfl, HG0.out⟩
end
/-- the function value of a Go function -/
abbrev fv (f : FuncId) : Value := .func (.func f) #[] #[]
theorem run_ins {w : World} {b : Nat} {es : Array MapEntry} {c : Nat} {k : Int} {v : Value} (hb : w.heap[b]? = some (.map es c)) (hw : (Lit.int .i32 k).wf = true) (hf : Instr.findNow (.int .i32) (.int .i32 k) es.toList 0 = some none) :
    (Instr.mapUpdate 120 (.map (some b)) (.int .i32 k) v).run Tryz.prog w = .ok () (ChangeMaps.setBlock w b (.map (es.push ⟨.int .i32 k, v, c⟩) (c + 1))) := by
  have hk := Tryz.underlying21
  have ht := Tryz.underlying120
  have hc := (Maps.int_keyed hk).check w false (Maps.keyOf_int_mk hk hw)
  simp [Instr.mapUpdate, run_underlying ht, run_underlying hk, MapKept.run_getObj_map hb, hc, Instr.findKey, hf, MapKept.run_setObj_map _ hb, Result.andThen, ChangeMaps.setBlock]
def opsMap (w : World) (b : Nat) : Prop := w.heap[b]? = some (.map #[⟨.int .i32 43, fv 128, 0⟩, ⟨.int .i32 45, fv 130, 1⟩, ⟨.int .i32 42, fv 131, 2⟩, ⟨.int .i32 47, fv 132, 3⟩] 4)
theorem opsMap.gr {w w' : World} {b : Nat} (h : opsMap w b) (hg : Gr w w') : opsMap w' b :=
  (hg.block b (Array.getElem?_eq_some_iff.1 h).1).trans h
theorem run_ops {w : World} {b : Nat} (h : opsMap w b) {k : Int} {v : Value} {i : Nat} (hw : (Lit.int .i32 k).wf = true)
    (hf : Instr.findNow (.int .i32) (.int .i32 k) [⟨.int .i32 43, fv 128, 0⟩, ⟨.int .i32 45, fv 130, 1⟩, ⟨.int .i32 42, fv 131, 2⟩, ⟨.int .i32 47, fv 132, 3⟩] 0 = some (some (i, v))) :
    (Instr.lookup 120 (.map (some b)) (.int .i32 k) false).run Tryz.prog w = .ok v w := by
  have hk := Tryz.underlying21
  have ht := Tryz.underlying120
  unfold opsMap at h
  have hc := fun em => (Maps.int_keyed hk).check w em (Maps.keyOf_int_mk hk hw)
  simp [Instr.lookup, run_underlying ht, run_underlying hk, MapKept.run_getObj_map h, hc, Instr.findKey, hf, Result.andThen]
theorem run_add {w : World} {b : Nat} (h : opsMap w b) : (Instr.lookup 120 (.map (some b)) (.int .i32 43) false).run Tryz.prog w = .ok (fv 128) w := run_ops (i := 0) h (by decide) rfl
theorem run_sub {w : World} {b : Nat} (h : opsMap w b) : (Instr.lookup 120 (.map (some b)) (.int .i32 45) false).run Tryz.prog w = .ok (fv 130) w := run_ops (i := 1) h (by decide) rfl
theorem run_mul {w : World} {b : Nat} (h : opsMap w b) : (Instr.lookup 120 (.map (some b)) (.int .i32 42) false).run Tryz.prog w = .ok (fv 131) w := run_ops (i := 2) h (by decide) rfl
theorem run_div {w : World} {b : Nat} (h : opsMap w b) : (Instr.lookup 120 (.map (some b)) (.int .i32 47) false).run Tryz.prog w = .ok (fv 132) w := run_ops (i := 3) h (by decide) rfl
theorem setB_get {w : World} {b : Nat} {o o' : Obj} (hb : w.heap[b]? = some o) : (ChangeMaps.setBlock w b o').heap[b]? = some o' := by
  have := (Array.getElem?_eq_some_iff.1 hb).1
  simp [ChangeMaps.setBlock, Array.getElem?_setIfInBounds, this]
theorem setB_gr {w0 w : World} {b : Nat} {o' : Obj} (hg : Gr w0 w) (hb : w0.heap.size ≤ b) : Gr w0 (ChangeMaps.setBlock w b o') := by
  refine ⟨hg.1, hg.2, hg.3, ?_, fun i hi => ?_⟩
  · simp only [ChangeMaps.setBlock, Array.size_setIfInBounds]; exact hg.size
  · simp only [ChangeMaps.setBlock]
    rw [Array.getElem?_setIfInBounds_ne (by omega)]
    exact hg.block i hi
set_option maxHeartbeats 2000000 in
set_option maxRecDepth 100000 in
theorem q_operations (w : World) : Calls Tryz.prog 95 #[] w (fun e w' => ∃ b, e = .returned (.map (some b)) ∧ opsMap w' b ∧ Gr w w') := by
  have hmm := @run_makeMap Tryz.prog
  obtain ⟨W0, HW0⟩ : ∃ W0, Hid (W0 = w.alloc (.map #[] 0)) := ⟨_, rfl⟩
  have b0 : W0.heap[w.heap.size]? = some (.map #[] 0) := by rw [HW0.out]; exact (MapKept.heap_alloc w _).1
  have g0 : Gr w W0 := by rw [HW0.out]; exact (Gr.refl w).alloc _
  have r1 := run_ins (k := 43) (v := fv 128) b0 (by decide) rfl
  have b1 := setB_get b0 (o' := .map (#[].push ⟨.int .i32 43, fv 128, 0⟩) (0 + 1))
  have g1 := setB_gr (o' := .map (#[].push ⟨.int .i32 43, fv 128, 0⟩) (0 + 1)) g0 (Nat.le_refl _)
  obtain ⟨W1, hW1⟩ : ∃ W1, W1 = ChangeMaps.setBlock W0 w.heap.size (.map (#[].push ⟨.int .i32 43, fv 128, 0⟩) (0 + 1)) := ⟨_, rfl⟩
  rw [← hW1] at r1 b1 g1
  have r2 := run_ins (k := 45) (v := fv 130) b1 (by decide) rfl
  have b2 := setB_get b1 (o' := .map ((#[].push ⟨.int .i32 43, fv 128, 0⟩).push ⟨.int .i32 45, fv 130, 0 + 1⟩) (0 + 1 + 1))
  have g2 := setB_gr (o' := .map ((#[].push ⟨.int .i32 43, fv 128, 0⟩).push ⟨.int .i32 45, fv 130, 0 + 1⟩) (0 + 1 + 1)) g1 (Nat.le_refl _)
  obtain ⟨W2, hW2⟩ : ∃ W2, W2 = ChangeMaps.setBlock W1 w.heap.size (.map ((#[].push ⟨.int .i32 43, fv 128, 0⟩).push ⟨.int .i32 45, fv 130, 0 + 1⟩) (0 + 1 + 1)) := ⟨_, rfl⟩
  rw [← hW2] at r2 b2 g2
  have r3 := run_ins (k := 42) (v := fv 131) b2 (by decide) rfl
  have b3 := setB_get b2 (o' := .map (((#[].push ⟨.int .i32 43, fv 128, 0⟩).push ⟨.int .i32 45, fv 130, 0 + 1⟩).push ⟨.int .i32 42, fv 131, 0 + 1 + 1⟩) (0 + 1 + 1 + 1))
  have g3 := setB_gr (o' := .map (((#[].push ⟨.int .i32 43, fv 128, 0⟩).push ⟨.int .i32 45, fv 130, 0 + 1⟩).push ⟨.int .i32 42, fv 131, 0 + 1 + 1⟩) (0 + 1 + 1 + 1)) g2 (Nat.le_refl _)
  obtain ⟨W3, hW3⟩ : ∃ W3, W3 = ChangeMaps.setBlock W2 w.heap.size (.map (((#[].push ⟨.int .i32 43, fv 128, 0⟩).push ⟨.int .i32 45, fv 130, 0 + 1⟩).push ⟨.int .i32 42, fv 131, 0 + 1 + 1⟩) (0 + 1 + 1 + 1)) := ⟨_, rfl⟩
  rw [← hW3] at r3 b3 g3
  have r4 := run_ins (k := 47) (v := fv 132) b3 (by decide) rfl
  have b4 := setB_get b3 (o' := .map ((((#[].push ⟨.int .i32 43, fv 128, 0⟩).push ⟨.int .i32 45, fv 130, 0 + 1⟩).push ⟨.int .i32 42, fv 131, 0 + 1 + 1⟩).push ⟨.int .i32 47, fv 132, 0 + 1 + 1 + 1⟩) (0 + 1 + 1 + 1 + 1))
  have g4 := setB_gr (o' := .map ((((#[].push ⟨.int .i32 43, fv 128, 0⟩).push ⟨.int .i32 45, fv 130, 0 + 1⟩).push ⟨.int .i32 42, fv 131, 0 + 1 + 1⟩).push ⟨.int .i32 47, fv 132, 0 + 1 + 1 + 1⟩) (0 + 1 + 1 + 1 + 1)) g3 (Nat.le_refl _)
  obtain ⟨W4, hW4⟩ : ∃ W4, W4 = ChangeMaps.setBlock W3 w.heap.size (.map ((((#[].push ⟨.int .i32 43, fv 128, 0⟩).push ⟨.int .i32 45, fv 130, 0 + 1⟩).push ⟨.int .i32 42, fv 131, 0 + 1 + 1⟩).push ⟨.int .i32 47, fv 132, 0 + 1 + 1 + 1⟩) (0 + 1 + 1 + 1 + 1)) := ⟨_, rfl⟩
  rw [← hW4] at r4 b4 g4
  have HM : Hid (opsMap W4 w.heap.size) := b4
  have HG := Lib.hid g4
  rw [HW0.out] at r1
  clear b0 b1 b2 b3 b4 g0 g1 g2 g3 g4 hW1 hW2 hW3 hW4 HW0
  go_enter Tryz.func95, Tryz.ntmps95
  go_wp2
  go_ret
  exact ⟨_, rfl, HM.out, HG.out⟩
end Go.Proofs.YtjoipfiomeocoabGreatDoor
