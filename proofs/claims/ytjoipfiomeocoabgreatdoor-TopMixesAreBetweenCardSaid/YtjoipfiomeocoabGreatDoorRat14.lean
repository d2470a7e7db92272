/- The program's rational numbers: products, sums, the four operations. -/
import Derived.Test.YtjoipfiomeocoabGreatDoorRat13
set_option linter.unusedVariables false
set_option linter.unusedSimpArgs false
namespace Go.Proofs.YtjoipfiomeocoabGreatDoor
open Go.RowKit Go.Shelf
open Z

section
variable {w0 : World} (htab : Tab w0)
include htab
theorem retG_Mul {a b : Int} (ha : In a) (hb : In b) : RetG w0 41 #[.string (Tx a), .string (Tx b)] (.tuple #[.string (longR (a * b)).1, .int .i64 (longR (a * b)).2]) := fun w hg => by
  have H := i_Mul (Tx a) (Tx b) w ha.len hb.len (htab_gr htab hg)
  rw [opR_Tx ha hb] at H; exact H
omit htab in
theorem len5 {s : ByteArray} (h : s.size ≤ 5000) : s.size ≤ maxLen := by unfold maxLen; omega
theorem retG_Add {s t : ByteArray} (hs : s.size ≤ 5000) (ht : t.size ≤ 5000) : RetG w0 40 #[.string s, .string t] (.tuple #[.string (opR s t fun a b => longR (a + b)).1, .int .i64 (opR s t fun a b => longR (a + b)).2]) := fun w hg => i_Add s t w (len5 hs) (len5 ht) (htab_gr htab hg)
theorem retG_Sub {s t : ByteArray} (hs : s.size ≤ 5000) (ht : t.size ≤ 5000) : RetG w0 75 #[.string s, .string t] (.tuple #[.string (opR s t fun a b => longR (a - b)).1, .int .i64 (opR s t fun a b => longR (a - b)).2]) := fun w hg => i_Sub s t w (len5 hs) (len5 ht) (htab_gr htab hg)
omit htab
/-- two boxes -/
theorem two_boxes (w : World) (p q r s : ByteArray) : Gr w ((w.alloc (oFr p q)).alloc (oFr r s)) ∧ FB ((w.alloc (oFr p q)).alloc (oFr r s)) w.heap.size p q ∧ FB ((w.alloc (oFr p q)).alloc (oFr r s)) (w.heap.size + 1) r s := by
  refine ⟨((Gr.refl w).alloc _).alloc _, (FB.new w p q _).alloc _, ?_⟩
  have := FB.new (w.alloc (oFr p q)) r s 64
  rwa [World.size_alloc] at this
/-- .. and a result -/
theorem three_boxes (w : World) (p q r s : ByteArray) : Gr w (((w.alloc (oFr p q)).alloc (oFr r s)).alloc (oFr ⟨#[]⟩ ⟨#[]⟩)) ∧ FB (((w.alloc (oFr p q)).alloc (oFr r s)).alloc (oFr ⟨#[]⟩ ⟨#[]⟩)) w.heap.size p q ∧ FB (((w.alloc (oFr p q)).alloc (oFr r s)).alloc (oFr ⟨#[]⟩ ⟨#[]⟩)) (w.heap.size + 1) r s ∧ FB (((w.alloc (oFr p q)).alloc (oFr r s)).alloc (oFr ⟨#[]⟩ ⟨#[]⟩)) (w.heap.size + 2) ⟨#[]⟩ ⟨#[]⟩ := by
  obtain ⟨g, a, b⟩ := two_boxes w p q r s
  refine ⟨g.alloc _, a.alloc _, b.alloc _, ?_⟩
  have := FB.new ((w.alloc (oFr p q)).alloc (oFr r s)) ⟨#[]⟩ ⟨#[]⟩ 64
  rwa [World.size_alloc, World.size_alloc] at this
set_option maxHeartbeats 2000000 in
set_option maxRecDepth 100000 in
theorem q_cross {p q r s l1 l2 : ByteArray} {e1 e2 : Int} (H1 : RetG w0 41 #[.string p, .string s] (.tuple #[.string l1, .int .i64 e1])) (H2 : RetG w0 41 #[.string r, .string q] (.tuple #[.string l2, .int .i64 e2])) :
    RetG w0 71 #[vFr p q, vFr r s] (.tuple #[.string l1, .string l2, .int .i64 (firstE [e1, e2])]) := by
  intro w hg
  obtain ⟨g0, f0, f0'⟩ := two_boxes w p q r s
  have HG0 := Lib.hid g0
  have HA0 := Lib.hid f0
  have HB0 := Lib.hid f0'
  have HG := Lib.hid hg
  have HC1 := Lib.hid H1
  have HC2 := Lib.hid H2
  clear g0 f0 f0' hg H1 H2
  go_enter Tryz.func71, Tryz.ntmps71
  go_wp2_with fail
  refine (HC1.out _ (Gr.trans HG.out HG0.out)).mono ?_
  rintro e w1 ⟨rfl, hg⟩
  have hA := HA0.out.gr hg
  have hB := HB0.out.gr hg
  obtain ⟨k1, k2, -, -⟩ := id hA
  obtain ⟨k3, k4, -, -⟩ := id hB
  have HG1 := Lib.hid (Gr.trans HG0.out hg)
  clear hg hA hB
  go_wp2_with fail
  refine (HC2.out _ (Gr.trans HG.out HG1.out)).mono ?_
  rintro e w2 ⟨rfl, hg⟩
  have HG2 := Lib.hid (Gr.trans HG1.out hg)
  clear hg k1 k2 k3 k4
  go_wp2_with fail
  refine (first_new2 _ _ _ _).mono ?_
  rintro e w' ⟨rfl, rfl⟩
  go_wp2
  go_ret3
  exact ⟨rfl, HG2.out.alloc _⟩
set_option maxHeartbeats 2000000 in
set_option maxRecDepth 100000 in
theorem q_ftimes {p q r s l1 l2 : ByteArray} {e1 e2 : Int} (H1 : RetG w0 41 #[.string p, .string r] (.tuple #[.string l1, .int .i64 e1])) (H2 : RetG w0 41 #[.string q, .string s] (.tuple #[.string l2, .int .i64 e2])) :
    RetG w0 131 #[vFr p q, vFr r s] (.tuple #[vFr l1 l2, .int .i64 (firstE [e1, e2])]) := by
  intro w hg
  obtain ⟨g0, f0, f0', f1⟩ := three_boxes w p q r s
  have HG0 := Lib.hid g0
  have HA0 := Lib.hid f0
  have HB0 := Lib.hid f0'
  have HC0 := Lib.hid f1
  have HG := Lib.hid hg
  have HC1 := Lib.hid H1
  have HC2 := Lib.hid H2
  clear g0 f0 f0' f1 hg H1 H2
  go_enter Tryz.func131, Tryz.ntmps131
  go_wp2_with fail
  refine (HC1.out _ (Gr.trans HG.out HG0.out)).mono ?_
  rintro e w1 ⟨rfl, hg⟩
  have hA := HA0.out.gr hg
  have hB := HB0.out.gr hg
  have HC := Lib.hid (HC0.out.gr hg)
  obtain ⟨k1, k2, -, -⟩ := id hA
  obtain ⟨k3, k4, -, -⟩ := id hB
  have HG1 := Lib.hid (Gr.trans HG0.out hg)
  clear hg hA hB
  go_wp2_with fail
  refine (HC2.out _ (Gr.trans HG.out HG1.out)).mono ?_
  rintro e w2 ⟨rfl, hg⟩
  have HG2 := Lib.hid (Gr.trans HG1.out hg)
  have hC2 := HC.out.gr hg
  clear hg k1 k2 k3 k4
  have HC3 := Lib.hid hC2
  clear hC2
  go_wp2_with fail
  refine (first_in2 e1 e2 _ _ w2 ((Gr.refl w2).alloc _) ?_ ?_).mono ?_
  · exact (cell_new2 w2 _ _ _).1
  · exact (cell_new2 w2 _ _ _).2
  rintro e w3 ⟨rfl, hg⟩
  have hC3 := HC3.out.gr hg
  obtain ⟨k1, k2, k3, k4⟩ := id hC3
  have HC4 := Lib.hid hC3
  have HG3 := Lib.hid (Gr.trans HG2.out hg)
  clear hg hC3
  go_wp2
  obtain ⟨F, G⟩ := HC4.out.store (p' := l1) (q' := l2) HG3.out (by omega)
  refine bodyPost_ret (v := .tuple #[vFr l1 l2, .int .i64 (firstE [e1, e2])]) (by simp [results, Tryz.results131, go_sem, F.c0, F.c1]) rfl ⟨rfl, G⟩
theorem cell_new3 (W : World) (c d f : Int) (ty : TypeId) : (W.alloc (.cells #[.int .i64 c, .int .i64 d, .int .i64 f] ty)).cell? ⟨W.heap.size, 0, none⟩ = some (.int .i64 c) ∧ (W.alloc (.cells #[.int .i64 c, .int .i64 d, .int .i64 f] ty)).cell? ⟨W.heap.size, 1, none⟩ = some (.int .i64 d) ∧ (W.alloc (.cells #[.int .i64 c, .int .i64 d, .int .i64 f] ty)).cell? ⟨W.heap.size, 2, none⟩ = some (.int .i64 f) := by simp
theorem first_in3 (a b c : Int) (g : Nat) (w W : World) (hG : Gr W w) (h0 : w.cell? ⟨g, 0, none⟩ = some (.int .i64 a)) (h1 : w.cell? ⟨g, 1, none⟩ = some (.int .i64 b)) (h2 : w.cell? ⟨g, 2, none⟩ = some (.int .i64 c)) :
    Calls Tryz.prog 44 #[.slice (some ⟨g, 0, none⟩) 3 3] w (fun e w' => e = .returned (.int .i64 (firstE [a, b, c])) ∧ Gr W w') :=
  (first_at3 a b c g w h0 h1 h2).mono fun _ _ ⟨e, h⟩ => ⟨e, h ▸ hG⟩
set_option maxHeartbeats 2000000 in
set_option maxRecDepth 100000 in
theorem q_joinAdd {p q r s l1 l2 n d : ByteArray} {e0 e1 e2 : Int} (H1 : RetG w0 71 #[vFr p q, vFr r s] (.tuple #[.string l1, .string l2, .int .i64 e0])) (H2 : RetG w0 40 #[.string l1, .string l2] (.tuple #[.string n, .int .i64 e1])) (H3 : RetG w0 41 #[.string q, .string s] (.tuple #[.string d, .int .i64 e2])) :
    RetG w0 129 #[vFr p q, .func (.func 40) #[] #[], vFr r s] (.tuple #[vFr n d, .int .i64 (firstE [e0, e1, e2])]) := by
  intro w hg
  obtain ⟨g0, f0, f0', f1⟩ := three_boxes w p q r s
  have HG0 := Lib.hid g0
  have HA0 := Lib.hid f0
  have HB0 := Lib.hid f0'
  have HC0 := Lib.hid f1
  have HG := Lib.hid hg
  have HC1 := Lib.hid H1
  have HC2 := Lib.hid H2
  have HC3 := Lib.hid H3
  clear g0 f0 f0' f1 hg H1 H2 H3
  go_enter Tryz.func129, Tryz.ntmps129
  go_wp2_with fail
  refine (HC1.out _ (Gr.trans HG.out HG0.out)).mono ?_
  rintro e w1 ⟨rfl, hg⟩
  have HA1 := Lib.hid (HA0.out.gr hg)
  have HB1 := Lib.hid (HB0.out.gr hg)
  have HD1 := Lib.hid (HC0.out.gr hg)
  have HG1 := Lib.hid (Gr.trans HG0.out hg)
  clear hg
  go_wp2_with fail
  refine (HC2.out _ (Gr.trans HG.out HG1.out)).mono ?_
  rintro e w2 ⟨rfl, hg⟩
  have hA := HA1.out.gr hg
  have hB := HB1.out.gr hg
  have HD2 := Lib.hid (HD1.out.gr hg)
  obtain ⟨k1, k2, -, -⟩ := id hA
  obtain ⟨k3, k4, -, -⟩ := id hB
  have HG2 := Lib.hid (Gr.trans HG1.out hg)
  clear hg hA hB
  go_wp2_with fail
  refine (HC3.out _ (Gr.trans HG.out HG2.out)).mono ?_
  rintro e w3 ⟨rfl, hg⟩
  have HD3 := Lib.hid (HD2.out.gr hg)
  have HG3 := Lib.hid (Gr.trans HG2.out hg)
  clear hg k1 k2 k3 k4
  go_wp2_with fail
  refine (first_in3 e0 e1 e2 _ _ w3 ((Gr.refl w3).alloc _) ?_ ?_ ?_).mono ?_
  · exact (cell_new3 w3 _ _ _ _).1
  · exact (cell_new3 w3 _ _ _ _).2.1
  · exact (cell_new3 w3 _ _ _ _).2.2
  rintro e w4 ⟨rfl, hg⟩
  have hD := HD3.out.gr hg
  obtain ⟨k1, k2, k3, k4⟩ := id hD
  have HD4 := Lib.hid hD
  have HG4 := Lib.hid (Gr.trans HG3.out hg)
  clear hg hD
  go_wp2
  obtain ⟨F, G⟩ := HD4.out.store (p' := n) (q' := d) HG4.out (by omega)
  refine bodyPost_ret (v := .tuple #[vFr n d, .int .i64 (firstE [e0, e1, e2])]) (by simp [results, Tryz.results129, go_sem, F.c0, F.c1]) rfl ⟨rfl, G⟩
set_option maxHeartbeats 2000000 in
set_option maxRecDepth 100000 in
theorem q_joinSub {p q r s l1 l2 n d : ByteArray} {e0 e1 e2 : Int} (H1 : RetG w0 71 #[vFr p q, vFr r s] (.tuple #[.string l1, .string l2, .int .i64 e0])) (H2 : RetG w0 75 #[.string l1, .string l2] (.tuple #[.string n, .int .i64 e1])) (H3 : RetG w0 41 #[.string q, .string s] (.tuple #[.string d, .int .i64 e2])) :
    RetG w0 129 #[vFr p q, .func (.func 75) #[] #[], vFr r s] (.tuple #[vFr n d, .int .i64 (firstE [e0, e1, e2])]) := by
  intro w hg
  obtain ⟨g0, f0, f0', f1⟩ := three_boxes w p q r s
  have HG0 := Lib.hid g0
  have HA0 := Lib.hid f0
  have HB0 := Lib.hid f0'
  have HC0 := Lib.hid f1
  have HG := Lib.hid hg
  have HC1 := Lib.hid H1
  have HC2 := Lib.hid H2
  have HC3 := Lib.hid H3
  clear g0 f0 f0' f1 hg H1 H2 H3
  go_enter Tryz.func129, Tryz.ntmps129
  go_wp2_with fail
  refine (HC1.out _ (Gr.trans HG.out HG0.out)).mono ?_
  rintro e w1 ⟨rfl, hg⟩
  have HA1 := Lib.hid (HA0.out.gr hg)
  have HB1 := Lib.hid (HB0.out.gr hg)
  have HD1 := Lib.hid (HC0.out.gr hg)
  have HG1 := Lib.hid (Gr.trans HG0.out hg)
  clear hg
  go_wp2_with fail
  refine (HC2.out _ (Gr.trans HG.out HG1.out)).mono ?_
  rintro e w2 ⟨rfl, hg⟩
  have hA := HA1.out.gr hg
  have hB := HB1.out.gr hg
  have HD2 := Lib.hid (HD1.out.gr hg)
  obtain ⟨k1, k2, -, -⟩ := id hA
  obtain ⟨k3, k4, -, -⟩ := id hB
  have HG2 := Lib.hid (Gr.trans HG1.out hg)
  clear hg hA hB
  go_wp2_with fail
  refine (HC3.out _ (Gr.trans HG.out HG2.out)).mono ?_
  rintro e w3 ⟨rfl, hg⟩
  have HD3 := Lib.hid (HD2.out.gr hg)
  have HG3 := Lib.hid (Gr.trans HG2.out hg)
  clear hg k1 k2 k3 k4
  go_wp2_with fail
  refine (first_in3 e0 e1 e2 _ _ w3 ((Gr.refl w3).alloc _) ?_ ?_ ?_).mono ?_
  · exact (cell_new3 w3 _ _ _ _).1
  · exact (cell_new3 w3 _ _ _ _).2.1
  · exact (cell_new3 w3 _ _ _ _).2.2
  rintro e w4 ⟨rfl, hg⟩
  have hD := HD3.out.gr hg
  obtain ⟨k1, k2, k3, k4⟩ := id hD
  have HD4 := Lib.hid hD
  have HG4 := Lib.hid (Gr.trans HG3.out hg)
  clear hg hD
  go_wp2
  obtain ⟨F, G⟩ := HD4.out.store (p' := n) (q' := d) HG4.out (by omega)
  refine bodyPost_ret (v := .tuple #[vFr n d, .int .i64 (firstE [e0, e1, e2])]) (by simp [results, Tryz.results129, go_sem, F.c0, F.c1]) rfl ⟨rfl, G⟩
end
end Go.Proofs.YtjoipfiomeocoabGreatDoor
