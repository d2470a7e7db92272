/- The program's rational numbers: two at once; writing; products. -/
import Derived.Test.YtjoipfiomeocoabGreatDoorRat11
set_option linter.unusedVariables false
set_option linter.unusedSimpArgs false
namespace Go.Proofs.YtjoipfiomeocoabGreatDoor
open Go.RowKit Go.Shelf
open Z
attribute [local go_sem ↓] Go.wp_at_zero Go.wp_at_succ

theorem cell_new2 (W : World) (c d : Int) (ty : TypeId) : (W.alloc (.cells #[.int .i64 c, .int .i64 d] ty)).cell? ⟨W.heap.size, 0, none⟩ = some (.int .i64 c) ∧ (W.alloc (.cells #[.int .i64 c, .int .i64 d] ty)).cell? ⟨W.heap.size, 1, none⟩ = some (.int .i64 d) := by simp
theorem first_at2 (a b : Int) (g : Nat) (w : World) (h0 : w.cell? ⟨g, 0, none⟩ = some (.int .i64 a)) (h1 : w.cell? ⟨g, 1, none⟩ = some (.int .i64 b)) :
    Calls Tryz.prog 44 #[.slice (some ⟨g, 0, none⟩) 2 2] w (fun e w' => e = .returned (.int .i64 (firstE [a, b])) ∧ w = w') := by
  refine q_first g [a, b] _ (by simp) fun i hi => ?_
  have : i = 0 ∨ i = 1 := by simp at hi; omega
  rcases this with rfl | rfl
  · exact h0
  · exact h1
theorem first_in2 (a b : Int) (g : Nat) (w W : World) (hG : Gr W w) (h0 : w.cell? ⟨g, 0, none⟩ = some (.int .i64 a)) (h1 : w.cell? ⟨g, 1, none⟩ = some (.int .i64 b)) :
    Calls Tryz.prog 44 #[.slice (some ⟨g, 0, none⟩) 2 2] w (fun e w' => e = .returned (.int .i64 (firstE [a, b])) ∧ Gr W w') :=
  (first_at2 a b g w h0 h1).mono fun _ _ ⟨e, h⟩ => ⟨e, h ▸ hG⟩
theorem first_at3 (a b c : Int) (g : Nat) (w : World) (h0 : w.cell? ⟨g, 0, none⟩ = some (.int .i64 a)) (h1 : w.cell? ⟨g, 1, none⟩ = some (.int .i64 b)) (h2 : w.cell? ⟨g, 2, none⟩ = some (.int .i64 c)) :
    Calls Tryz.prog 44 #[.slice (some ⟨g, 0, none⟩) 3 3] w (fun e w' => e = .returned (.int .i64 (firstE [a, b, c])) ∧ w = w') := by
  refine q_first g [a, b, c] _ (by simp) fun i hi => ?_
  have : i = 0 ∨ i = 1 ∨ i = 2 := by simp at hi; omega
  rcases this with rfl | rfl | rfl
  · exact h0
  · exact h1
  · exact h2
set_option maxHeartbeats 2000000 in
set_option maxRecDepth 100000 in
theorem q_readBoth (s t : ByteArray) (hs : s.size ≤ 400000) (ht : t.size ≤ 400000) (w : World) (hm : Mx w) (htab : Tab w) :
    Calls Tryz.prog 70 #[.string s, .string t] w (fun e w' => e = .returned (.tuple #[vFr (rT s) (rB s), vFr (rT t) (rB t), .int .i64 (both2 s t)]) ∧ Gr w w') := by
  have HG0 : Hid (Gr w ((w.alloc (oFr ⟨#[]⟩ ⟨#[]⟩)).alloc (oFr ⟨#[]⟩ ⟨#[]⟩))) := ((Gr.refl w).alloc _).alloc _
  have HF0 := Lib.hid ((FB.new w ⟨#[]⟩ ⟨#[]⟩ 64).alloc (oFr ⟨#[]⟩ ⟨#[]⟩))
  have HF0' := Lib.hid (FB.new (w.alloc (oFr ⟨#[]⟩ ⟨#[]⟩)) ⟨#[]⟩ ⟨#[]⟩ 64)
  rw [show (w.alloc (oFr ⟨#[]⟩ ⟨#[]⟩)).heap.size = w.heap.size + 1 by simp] at HF0'
  have HM := Lib.hid hm
  have HTAB := Lib.hid htab
  have HR1 := Lib.hid (fun w hm ht => q_read s hs w hm ht)
  have HR2 := Lib.hid (fun w hm htb => q_read t ht w hm htb)
  have HB : Hid (both2 s t = firstE [chkS s, chkS t]) := by show _ = _; rw [first2]; rfl
  rw [HB.out]
  clear HB hs ht hm htab
  generalize rT s = p at *
  generalize rB s = q at *
  generalize rT t = p' at *
  generalize rB t = q' at *
  generalize chkS s = c at *
  generalize chkS t = d at *
  go_enter Tryz.func70, Tryz.ntmps70
  go_wp2_with fail
  refine (HR1.out _ (HM.out.gr HG0.out) (htab_gr HTAB.out HG0.out)).mono ?_
  rintro e w1 ⟨rfl, hg⟩
  have hA := HF0.out.gr hg
  have hB := HF0'.out.gr hg
  obtain ⟨k1, k2, k3, k4⟩ := id hA
  obtain ⟨F, G⟩ := hA.store (p' := p) (q' := q) (Gr.trans HG0.out hg) (Nat.le_refl _)
  have HB1 := Lib.hid (hB.set (b' := w.heap.size) (o := 0) (u := .string p) (by omega))
  have HB2 := Lib.hid (HB1.out.set (b' := w.heap.size) (o := 1) (u := .string q) (by omega))
  have HA := Lib.hid F
  have HG := Lib.hid G
  clear F G hg hA hB
  go_wp2_with fail
  refine (HR2.out _ (HM.out.gr HG.out) (htab_gr HTAB.out HG.out)).mono ?_
  rintro e w2 ⟨rfl, hg⟩
  have hA := HA.out.gr hg
  have hB := HB2.out.gr hg
  clear k1 k2 k3 k4
  obtain ⟨k1, k2, k3, k4⟩ := id hB
  obtain ⟨F, G⟩ := hB.store (p' := p') (q' := q') (Gr.trans HG.out hg) (by omega)
  have HA1 := Lib.hid (hA.set (b' := w.heap.size + 1) (o := 0) (u := .string p') (by omega))
  have HA2 := Lib.hid (HA1.out.set (b' := w.heap.size + 1) (o := 1) (u := .string q') (by omega))
  have HB3 := Lib.hid F
  have HG2 := Lib.hid G
  clear F G hg hA hB HA1 HB1 HB2 HA HG0 HF0 HF0' HG
  have hneq : ¬ w.heap.size = w.heap.size + 1 := by omega
  go_wp2
  clear k1 k2 k3 k4
  obtain ⟨W, HW⟩ : ∃ W, W = (w2.setCell ⟨w.heap.size + 1, 0, none⟩ (.string p')).setCell ⟨w.heap.size + 1, 1, none⟩ (.string q') := ⟨_, rfl⟩
  rw [← HW] at HA2 HB3 HG2 ⊢
  clear HW
  have hS0 : (fun w' : World => FB w' w.heap.size p q ∧ FB w' (w.heap.size + 1) p' q') W.drew := ⟨HA2.out.gr (Gr.refl W).drew, HB3.out.gr (Gr.refl W).drew⟩
  have hD0 : Gr w W.drew := Gr.drew HG2.out
  have hlt : w.heap.size + 1 < W.heap.size := cell_lt HB3.out.c0
  refine wp_region_held (S := fun w' : World => FB w' w.heap.size p q ∧ FB w' (w.heap.size + 1) p' q') (by kernel_rfl) ?_
  refine wpAnyH_take (i := 0) (v := .agg #[.string p, .string q]) rfl (by kernel_rfl) (by kernel_rfl) (by kernel_rfl) (fun _ _ _ h => h) (Or.inl ⟨by rfl, ?_⟩) hS0 ?_
  · intro w hSw; obtain ⟨⟨p1, p2, p3, p4⟩, p5, p6, p7, p8⟩ := hSw; go_simp
  try dsimp only [Act.put]
  try simp only [List.setIfInBounds_toArray, List.set_cons_zero, List.set_cons_succ]
  refine wpAnyH_take (i := 1) (v := .agg #[.string p', .string q']) rfl (by kernel_rfl) (by kernel_rfl) (by kernel_rfl) (fun _ _ _ h => h) (Or.inl ⟨by rfl, ?_⟩) hS0 ?_
  · intro w hSw; obtain ⟨⟨p1, p2, p3, p4⟩, p5, p6, p7, p8⟩ := hSw; go_simp
  try dsimp only [Act.put]
  try simp only [List.setIfInBounds_toArray, List.set_cons_zero, List.set_cons_succ]
  refine wpAnyH_take (i := 2) (v := .int .i64 c) rfl (by kernel_rfl) (by kernel_rfl) (by kernel_rfl) (fun _ _ _ h => h) (Or.inl ⟨by rfl, ?_⟩) hS0 ?_
  · intro w hSw; obtain ⟨⟨p1, p2, p3, p4⟩, p5, p6, p7, p8⟩ := hSw; go_simp
  try dsimp only [Act.put]
  try simp only [List.setIfInBounds_toArray, List.set_cons_zero, List.set_cons_succ]
  refine wpAnyH_take (i := 3) (v := .int .i64 d) rfl (by kernel_rfl) (by kernel_rfl) (by kernel_rfl) (fun _ _ _ h => h) (Or.inl ⟨by rfl, ?_⟩) hS0 ?_
  · intro w hSw; obtain ⟨⟨p1, p2, p3, p4⟩, p5, p6, p7, p8⟩ := hSw; go_simp
  try dsimp only [Act.put]
  try simp only [List.setIfInBounds_toArray, List.set_cons_zero, List.set_cons_succ]
  refine wpAnyH_ready (rs := [4]) (by kernel_rfl) (by simp) (AllReadyH.cons rfl (fun K' hK' => ?_) AllReadyH.nil)
  go_simp
  refine hK'.out _ _ ⟨hS0.1.alloc _, hS0.2.alloc _⟩ (fun hS1 => ?_)
  clear hK' K' hS0
  try dsimp only [Act.put]
  try simp only [List.setIfInBounds_toArray, List.set_cons_zero, List.set_cons_succ]
  refine wpAnyH_ready (rs := [5]) (by kernel_rfl) (by simp) (AllReadyH.cons rfl (fun K' hK' => ?_) AllReadyH.nil)
  go_simp
  refine (first_in2 c d _ _ W (((Gr.refl W).drew).alloc _) ?_ ?_).mono ?_
  · exact (cell_new2 W.drew c d _).1
  · exact (cell_new2 W.drew c d _).2
  rintro e w3 ⟨rfl, hg3⟩
  have hx := HA2.out.gr hg3
  have hy := HB3.out.gr hg3
  have HG3 := Lib.hid (Gr.trans HG2.out hg3)
  have HX := Lib.hid hx
  have HY := Lib.hid hy
  obtain ⟨x1, x2, x3, x4⟩ := id hx
  obtain ⟨y1, y2, y3, y4⟩ := id hy
  refine hK'.out _ _ ⟨hx, hy⟩ (fun hS2 => ?_)
  clear hK' K' hS1 hg3 hx hy
  try dsimp only [Act.put]
  try simp only [List.setIfInBounds_toArray, List.set_cons_zero, List.set_cons_succ]
  refine wpAnyH_ready (rs := [6]) (by kernel_rfl) (by simp) (AllReadyH.cons rfl (fun K' hK' => ?_) AllReadyH.nil)
  go_simp
  obtain ⟨F, G⟩ := HX.out.store (p' := p) (q' := q) HG3.out (Nat.le_refl _)
  have hY1 := (HY.out.set (b' := w.heap.size) (o := 0) (u := .string p) (by omega)).set (b' := w.heap.size) (o := 1) (u := .string q) (by omega)
  have HX1 := Lib.hid F
  have HY1 := Lib.hid hY1
  have HG4 := Lib.hid G
  refine hK'.out _ _ ⟨F, hY1⟩ (fun hS3 => ?_)
  clear hK' K' hS2 F G hY1 x1 x2 x3 x4 y1 y2 y3 y4
  obtain ⟨y1, y2, y3, y4⟩ := id HY1.out
  try dsimp only [Act.put]
  try simp only [List.setIfInBounds_toArray, List.set_cons_zero, List.set_cons_succ]
  refine wpAnyH_ready (rs := [7]) (by kernel_rfl) (by simp) (AllReadyH.cons rfl (fun K' hK' => ?_) AllReadyH.nil)
  go_simp
  obtain ⟨F2, G2⟩ := HY1.out.store (p' := p') (q' := q') HG4.out (by omega)
  have hX2 := (HX1.out.set (b' := w.heap.size + 1) (o := 0) (u := .string p') (by omega)).set (b' := w.heap.size + 1) (o := 1) (u := .string q') (by omega)
  refine hK'.out _ _ ⟨hX2, F2⟩ (fun hS4 => ?_)
  clear hK' K' hS3
  try dsimp only [Act.put]
  try simp only [List.setIfInBounds_toArray, List.set_cons_zero, List.set_cons_succ]
  refine wpAnyH_ready (rs := [8]) (by kernel_rfl) (by simp) (AllReadyH.cons rfl (fun K' hK' => ?_) AllReadyH.nil)
  go_simp
  refine hK'.out _ _ ⟨hX2, F2⟩ (fun hS5 => wpAnyH_done (by kernel_rfl) ?_ _)
  go_wp2
  refine bodyPost_ret (v := .tuple #[vFr p q, vFr p' q', .int .i64 (firstE [c, d])]) (by simp [results, Tryz.results70, go_sem, hX2.c0, hX2.c1, F2.c0, F2.c1]) rfl ⟨rfl, G2⟩
end Go.Proofs.YtjoipfiomeocoabGreatDoor
