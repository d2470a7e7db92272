/- RatD: Rat13, Rat14, Rat15, joined. -/
import Derived.Test.YtlbnibicehpobaaGreatDoorRatC
import Derived.Maps.Own
set_option linter.unusedVariables false
set_option linter.unusedSimpArgs false

/- The program's rational numbers: writing, products, sums. -/
namespace Go.Proofs.YtlbnibicehpobaaGreatDoor
open Go.RowKit Go.Shelf
open Z
attribute [local go_sem ↓] Go.wp_at_zero Go.wp_at_succ

theorem minus_Tx (n : Nat) (h : 0 < n) : (⟨#[45]⟩ : ByteArray) ++ Tx (n : Int) = Tx (-(n : Int)) := Tx_minus (n : Int) (by omega)
set_option maxHeartbeats 2000000 in
set_option maxRecDepth 100000 in
theorem q_write {p q : Int} (hp : In p) (hq : In q) (h0 : q ≠ 0) (w : World) (htab : Tab w) :
    Calls Tryz.prog 131 #[vFr (Tx p) (Tx q)] w (fun e w' => e = .returned (.string (RT (Rat.divInt p q))) ∧ Gr w w') := by
  have HG0 : Hid (Gr w (w.alloc (oFr (Tx p) (Tx q)))) := (Gr.refl w).alloc _
  have HF0 := Lib.hid (FB.new w (Tx p) (Tx q) 103)
  have HT0 := Lib.hid (htab_gr htab HG0.out)
  have hgin := gcd_in (a := p) hq h0
  have hgpos := gcd_pos (p := p) h0
  have hgne := gs_ne (p := p) h0
  have hn := gs_num (p := p) h0
  have hd := gs_den (p := p) h0
  have inn : In (Rat.divInt p q).num := Nat.le_trans (nDigits_mono (num_le h0)) hp
  have ind : In ((Rat.divInt p q).den : Int) := Nat.le_trans (nDigits_mono (by rw [Int.natAbs_natCast]; exact den_le h0)) hq
  have C1 : Hid (∀ w, Tab w → Calls Tryz.prog 105 #[.string (Tx p), .string (Tx q)] w (fun e w' => e = .returned (.tuple #[.string (Tx ((Nat.gcd p.natAbs q.natAbs : Nat) : Int)), .int .i64 0]) ∧ Gr w w')) := by
    intro w ht
    have H := i_Gcd (Tx p) (Tx q) w hp.len hq.len ht
    rw [opR_Tx hp hq, longR_in hgin] at H
    exact H
  have C2 := Lib.hid (q_minus q)
  obtain ⟨D, HD⟩ : ∃ D, Hid (D = if q < 0 then (⟨#[45]⟩ : ByteArray) ++ Tx ((Nat.gcd p.natAbs q.natAbs : Nat) : Int) else Tx ((Nat.gcd p.natAbs q.natAbs : Nat) : Int)) := ⟨_, rfl⟩
  have hD : D = Tx (gs p q) := by
    rw [HD.out]; unfold gs
    by_cases h : q < 0
    · rw [if_pos h, if_pos h, minus_Tx _ hgpos]
    · rw [if_neg h, if_neg h]
  have hgsin : In (gs p q) := by
    unfold gs; split
    · exact hgin.sm.neg.in (Nat.le_refl _)
    · exact hgin
  have C3 : Hid (∀ w, Tab w → Calls Tryz.prog 95 #[.string (Tx p), .string D] w (fun e w' => e = .returned (.tuple #[.string (Tx (Rat.divInt p q).num), .int .i64 0]) ∧ Gr w w')) := by
    intro w ht
    have H := i_Quo (Tx p) (Tx (gs p q)) w hp.len hgsin.len ht
    rw [opR_Tx hp hgsin, if_neg hgne, hn, longR_in inn, ← hD] at H
    exact H
  have C4 : Hid (∀ w, Tab w → Calls Tryz.prog 95 #[.string (Tx q), .string D] w (fun e w' => e = .returned (.tuple #[.string (Tx ((Rat.divInt p q).den : Int)), .int .i64 0]) ∧ Gr w w')) := by
    intro w ht
    have H := i_Quo (Tx q) (Tx (gs p q)) w hq.len hgsin.len ht
    rw [opR_Tx hq hgsin, if_neg hgne, hd, longR_in ind, ← hD] at H
    exact H
  have lg := hgin.sm.len2
  have ln := inn.sm.len2
  have ld := ind.sm.len2
  have is1 := Tx_is1 ((Rat.divInt p q).den : Int)
  have HR : RT (Rat.divInt p q) = if (Rat.divInt p q).den = 1 then Tx (Rat.divInt p q).num else Tx (Rat.divInt p q).num ++ ⟨#[47]⟩ ++ Tx ((Rat.divInt p q).den : Int) := by
    split
    · rename_i h; exact RT_one h
    · rename_i h; exact RT_many h
  rw [HR]
  clear HR hgin hgpos hgne hn hd inn ind hD hgsin hp hq htab
  generalize Tx ((Nat.gcd p.natAbs q.natAbs : Nat) : Int) = g at *
  generalize Tx (Rat.divInt p q).num = n at *
  generalize Tx ((Rat.divInt p q).den : Int) = d at *
  generalize (Rat.divInt p q).den = dd at *
  generalize Tx p = sp at *
  generalize Tx q = sq at *
  by_cases h : q < 0
  · rw [decide_eq_true h] at C2
    have HD' : Hid (D = (⟨#[45]⟩ : ByteArray) ++ g) := by show _ = _; rw [HD.out, if_pos h]
    rw [HD'.out] at C3 C4
    clear HD HD' h h0
    by_cases h1 : dd = 1
    · rw [decide_eq_true (by omega)] at is1
      rw [if_pos h1]
      clear h1 dd
      go_enter Tryz.func131, Tryz.ntmps131
      go_wp2_with fail
      refine (C1.out _ HT0.out).mono ?_
      rintro e w1 ⟨rfl, hg⟩
      have hF := HF0.out.gr hg
      obtain ⟨k1, k2, k3, k4⟩ := id hF
      have HF1 := Lib.hid hF
      have HG1 := Lib.hid (Gr.trans HG0.out hg)
      have HT1 := Lib.hid (htab_gr HT0.out hg)
      clear hg hF
      go_wp2_with fail
      refine (C2.out _).mono ?_
      rintro e w' ⟨rfl, rfl⟩
      go_wp2_with fail
      refine (C3.out _ HT1.out).mono ?_
      rintro e w2 ⟨rfl, hg⟩
      have hF := HF1.out.gr hg
      clear k1 k2 k3 k4
      obtain ⟨k1, k2, k3, k4⟩ := id hF
      have HG2 := Lib.hid (Gr.trans HG1.out hg)
      have HT2 := Lib.hid (htab_gr HT1.out hg)
      clear hg hF
      go_wp2_with fail
      refine (C4.out _ HT2.out).mono ?_
      rintro e w3 ⟨rfl, hg⟩
      have HG3 := Lib.hid (Gr.trans HG2.out hg)
      clear hg k1 k2 k3 k4
      go_wp2
      go_ret
      exact ⟨rfl, HG3.out⟩
    · rw [decide_eq_false (by omega)] at is1
      rw [if_neg h1]
      clear h1 dd
      go_enter Tryz.func131, Tryz.ntmps131
      go_wp2_with fail
      refine (C1.out _ HT0.out).mono ?_
      rintro e w1 ⟨rfl, hg⟩
      have hF := HF0.out.gr hg
      obtain ⟨k1, k2, k3, k4⟩ := id hF
      have HF1 := Lib.hid hF
      have HG1 := Lib.hid (Gr.trans HG0.out hg)
      have HT1 := Lib.hid (htab_gr HT0.out hg)
      clear hg hF
      go_wp2_with fail
      refine (C2.out _).mono ?_
      rintro e w' ⟨rfl, rfl⟩
      go_wp2_with fail
      refine (C3.out _ HT1.out).mono ?_
      rintro e w2 ⟨rfl, hg⟩
      have hF := HF1.out.gr hg
      clear k1 k2 k3 k4
      obtain ⟨k1, k2, k3, k4⟩ := id hF
      have HG2 := Lib.hid (Gr.trans HG1.out hg)
      have HT2 := Lib.hid (htab_gr HT1.out hg)
      clear hg hF
      go_wp2_with fail
      refine (C4.out _ HT2.out).mono ?_
      rintro e w3 ⟨rfl, hg⟩
      have HG3 := Lib.hid (Gr.trans HG2.out hg)
      clear hg k1 k2 k3 k4
      go_wp2
      go_ret
      exact ⟨rfl, HG3.out⟩
  · rw [decide_eq_false h] at C2
    have HD' : Hid (D = g) := by show _ = _; rw [HD.out, if_neg h]
    rw [HD'.out] at C3 C4
    clear HD HD' h h0
    by_cases h1 : dd = 1
    · rw [decide_eq_true (by omega)] at is1
      rw [if_pos h1]
      clear h1 dd
      go_enter Tryz.func131, Tryz.ntmps131
      go_wp2_with fail
      refine (C1.out _ HT0.out).mono ?_
      rintro e w1 ⟨rfl, hg⟩
      have hF := HF0.out.gr hg
      obtain ⟨k1, k2, k3, k4⟩ := id hF
      have HF1 := Lib.hid hF
      have HG1 := Lib.hid (Gr.trans HG0.out hg)
      have HT1 := Lib.hid (htab_gr HT0.out hg)
      clear hg hF
      go_wp2_with fail
      refine (C2.out _).mono ?_
      rintro e w' ⟨rfl, rfl⟩
      go_wp2_with fail
      refine (C3.out _ HT1.out).mono ?_
      rintro e w2 ⟨rfl, hg⟩
      have hF := HF1.out.gr hg
      clear k1 k2 k3 k4
      obtain ⟨k1, k2, k3, k4⟩ := id hF
      have HG2 := Lib.hid (Gr.trans HG1.out hg)
      have HT2 := Lib.hid (htab_gr HT1.out hg)
      clear hg hF
      go_wp2_with fail
      refine (C4.out _ HT2.out).mono ?_
      rintro e w3 ⟨rfl, hg⟩
      have HG3 := Lib.hid (Gr.trans HG2.out hg)
      clear hg k1 k2 k3 k4
      go_wp2
      go_ret
      exact ⟨rfl, HG3.out⟩
    · rw [decide_eq_false (by omega)] at is1
      rw [if_neg h1]
      clear h1 dd
      go_enter Tryz.func131, Tryz.ntmps131
      go_wp2_with fail
      refine (C1.out _ HT0.out).mono ?_
      rintro e w1 ⟨rfl, hg⟩
      have hF := HF0.out.gr hg
      obtain ⟨k1, k2, k3, k4⟩ := id hF
      have HF1 := Lib.hid hF
      have HG1 := Lib.hid (Gr.trans HG0.out hg)
      have HT1 := Lib.hid (htab_gr HT0.out hg)
      clear hg hF
      go_wp2_with fail
      refine (C2.out _).mono ?_
      rintro e w' ⟨rfl, rfl⟩
      go_wp2_with fail
      refine (C3.out _ HT1.out).mono ?_
      rintro e w2 ⟨rfl, hg⟩
      have hF := HF1.out.gr hg
      clear k1 k2 k3 k4
      obtain ⟨k1, k2, k3, k4⟩ := id hF
      have HG2 := Lib.hid (Gr.trans HG1.out hg)
      have HT2 := Lib.hid (htab_gr HT1.out hg)
      clear hg hF
      go_wp2_with fail
      refine (C4.out _ HT2.out).mono ?_
      rintro e w3 ⟨rfl, hg⟩
      have HG3 := Lib.hid (Gr.trans HG2.out hg)
      clear hg k1 k2 k3 k4
      go_wp2
      go_ret
      exact ⟨rfl, HG3.out⟩
end Go.Proofs.YtlbnibicehpobaaGreatDoor

/- The program's rational numbers: products, sums, the four operations. -/
namespace Go.Proofs.YtlbnibicehpobaaGreatDoor
open Go.RowKit Go.Shelf
open Z

section
variable {w0 : World} (htab : Tab w0)
include htab
theorem retG_Mul {a b : Int} (ha : In a) (hb : In b) : RetG w0 107 #[.string (Tx a), .string (Tx b)] (.tuple #[.string (longR (a * b)).1, .int .i64 (longR (a * b)).2]) := fun w hg => by
  have H := i_Mul (Tx a) (Tx b) w ha.len hb.len (htab_gr htab hg)
  rw [opR_Tx ha hb] at H; exact H
omit htab in
theorem len5 {s : ByteArray} (h : s.size ≤ 5000) : s.size ≤ maxLen := by unfold maxLen; omega
theorem retG_Add {s t : ByteArray} (hs : s.size ≤ 5000) (ht : t.size ≤ 5000) : RetG w0 106 #[.string s, .string t] (.tuple #[.string (opR s t fun a b => longR (a + b)).1, .int .i64 (opR s t fun a b => longR (a + b)).2]) := fun w hg => i_Add s t w (len5 hs) (len5 ht) (htab_gr htab hg)
theorem retG_Sub {s t : ByteArray} (hs : s.size ≤ 5000) (ht : t.size ≤ 5000) : RetG w0 104 #[.string s, .string t] (.tuple #[.string (opR s t fun a b => longR (a - b)).1, .int .i64 (opR s t fun a b => longR (a - b)).2]) := fun w hg => i_Sub s t w (len5 hs) (len5 ht) (htab_gr htab hg)
omit htab
/-- two boxes -/
theorem two_boxes (w : World) (p q r s : ByteArray) : Gr w ((w.alloc (oFr p q)).alloc (oFr r s)) ∧ FB ((w.alloc (oFr p q)).alloc (oFr r s)) w.heap.size p q ∧ FB ((w.alloc (oFr p q)).alloc (oFr r s)) (w.heap.size + 1) r s := by
  refine ⟨((Gr.refl w).alloc _).alloc _, (FB.new w p q _).alloc _, ?_⟩
  have := FB.new (w.alloc (oFr p q)) r s 103
  rwa [World.size_alloc] at this
/-- .. and a result -/
theorem three_boxes (w : World) (p q r s : ByteArray) : Gr w (((w.alloc (oFr p q)).alloc (oFr r s)).alloc (oFr ⟨#[]⟩ ⟨#[]⟩)) ∧ FB (((w.alloc (oFr p q)).alloc (oFr r s)).alloc (oFr ⟨#[]⟩ ⟨#[]⟩)) w.heap.size p q ∧ FB (((w.alloc (oFr p q)).alloc (oFr r s)).alloc (oFr ⟨#[]⟩ ⟨#[]⟩)) (w.heap.size + 1) r s ∧ FB (((w.alloc (oFr p q)).alloc (oFr r s)).alloc (oFr ⟨#[]⟩ ⟨#[]⟩)) (w.heap.size + 2) ⟨#[]⟩ ⟨#[]⟩ := by
  obtain ⟨g, a, b⟩ := two_boxes w p q r s
  refine ⟨g.alloc _, a.alloc _, b.alloc _, ?_⟩
  have := FB.new ((w.alloc (oFr p q)).alloc (oFr r s)) ⟨#[]⟩ ⟨#[]⟩ 103
  rwa [World.size_alloc, World.size_alloc] at this
set_option maxHeartbeats 2000000 in
set_option maxRecDepth 100000 in
theorem q_cross {p q r s l1 l2 : ByteArray} {e1 e2 : Int} (H1 : RetG w0 107 #[.string p, .string s] (.tuple #[.string l1, .int .i64 e1])) (H2 : RetG w0 107 #[.string r, .string q] (.tuple #[.string l2, .int .i64 e2])) :
    RetG w0 195 #[vFr p q, vFr r s] (.tuple #[.string l1, .string l2, .int .i64 (firstE [e1, e2])]) := by
  intro w hg
  obtain ⟨g0, f0, f0'⟩ := two_boxes w p q r s
  have HG0 := Lib.hid g0
  have HA0 := Lib.hid f0
  have HB0 := Lib.hid f0'
  have HG := Lib.hid hg
  have HC1 := Lib.hid H1
  have HC2 := Lib.hid H2
  clear g0 f0 f0' hg H1 H2
  go_enter Tryz.func195, Tryz.ntmps195
  go_wp2_with fail
  refine (HC1.out _ (Gr.trans HG.out HG0.out)).mono ?_
  rintro e w1 ⟨rfl, hg⟩
  have hA := HA0.out.gr hg
  have hB := HB0.out.gr hg
  obtain ⟨k1, k2, -, -⟩ := id hA
  obtain ⟨k3, k4, -, -⟩ := id hB
  have HG1 := Lib.hid (Gr.trans HG0.out hg)
  clear hg hA hB
  go_wp2_with fail
  refine (HC2.out _ (Gr.trans HG.out HG1.out)).mono ?_
  rintro e w2 ⟨rfl, hg⟩
  have HG2 := Lib.hid (Gr.trans HG1.out hg)
  clear hg k1 k2 k3 k4
  go_wp2_with fail
  refine (first_new2 _ _ _ _).mono ?_
  rintro e w' ⟨rfl, rfl⟩
  go_wp2
  go_ret3
  exact ⟨rfl, HG2.out.alloc _⟩
set_option maxHeartbeats 2000000 in
set_option maxRecDepth 100000 in
theorem q_ftimes {p q r s l1 l2 : ByteArray} {e1 e2 : Int} (H1 : RetG w0 107 #[.string p, .string r] (.tuple #[.string l1, .int .i64 e1])) (H2 : RetG w0 107 #[.string q, .string s] (.tuple #[.string l2, .int .i64 e2])) :
    RetG w0 176 #[vFr p q, vFr r s] (.tuple #[vFr l1 l2, .int .i64 (firstE [e1, e2])]) := by
  intro w hg
  obtain ⟨g0, f0, f0', f1⟩ := three_boxes w p q r s
  have HG0 := Lib.hid g0
  have HA0 := Lib.hid f0
  have HB0 := Lib.hid f0'
  have HC0 := Lib.hid f1
  have HG := Lib.hid hg
  have HC1 := Lib.hid H1
  have HC2 := Lib.hid H2
  clear g0 f0 f0' f1 hg H1 H2
  go_enter Tryz.func176, Tryz.ntmps176
  go_wp2_with fail
  refine (HC1.out _ (Gr.trans HG.out HG0.out)).mono ?_
  rintro e w1 ⟨rfl, hg⟩
  have hA := HA0.out.gr hg
  have hB := HB0.out.gr hg
  have HC := Lib.hid (HC0.out.gr hg)
  obtain ⟨k1, k2, -, -⟩ := id hA
  obtain ⟨k3, k4, -, -⟩ := id hB
  have HG1 := Lib.hid (Gr.trans HG0.out hg)
  clear hg hA hB
  go_wp2_with fail
  refine (HC2.out _ (Gr.trans HG.out HG1.out)).mono ?_
  rintro e w2 ⟨rfl, hg⟩
  have HG2 := Lib.hid (Gr.trans HG1.out hg)
  have hC2 := HC.out.gr hg
  clear hg k1 k2 k3 k4
  have HC3 := Lib.hid hC2
  clear hC2
  go_wp2_with fail
  refine (first_in2 e1 e2 _ _ w2 ((Gr.refl w2).alloc _) ?_ ?_).mono ?_
  · exact (cell_new2 w2 _ _ _).1
  · exact (cell_new2 w2 _ _ _).2
  rintro e w3 ⟨rfl, hg⟩
  have hC3 := HC3.out.gr hg
  obtain ⟨k1, k2, k3, k4⟩ := id hC3
  have HC4 := Lib.hid hC3
  have HG3 := Lib.hid (Gr.trans HG2.out hg)
  clear hg hC3
  go_wp2
  obtain ⟨F, G⟩ := HC4.out.store (p' := l1) (q' := l2) HG3.out (by omega)
  refine bodyPost_ret (v := .tuple #[vFr l1 l2, .int .i64 (firstE [e1, e2])]) (by simp [results, Tryz.results176, go_sem, F.c0, F.c1]) rfl ⟨rfl, G⟩
theorem cell_new3 (W : World) (c d f : Int) (ty : TypeId) : (W.alloc (.cells #[.int .i64 c, .int .i64 d, .int .i64 f] ty)).cell? ⟨W.heap.size, 0, none⟩ = some (.int .i64 c) ∧ (W.alloc (.cells #[.int .i64 c, .int .i64 d, .int .i64 f] ty)).cell? ⟨W.heap.size, 1, none⟩ = some (.int .i64 d) ∧ (W.alloc (.cells #[.int .i64 c, .int .i64 d, .int .i64 f] ty)).cell? ⟨W.heap.size, 2, none⟩ = some (.int .i64 f) := by simp
theorem first_in3 (a b c : Int) (g : Nat) (w W : World) (hG : Gr W w) (h0 : w.cell? ⟨g, 0, none⟩ = some (.int .i64 a)) (h1 : w.cell? ⟨g, 1, none⟩ = some (.int .i64 b)) (h2 : w.cell? ⟨g, 2, none⟩ = some (.int .i64 c)) :
    Calls Tryz.prog 130 #[.slice (some ⟨g, 0, none⟩) 3 3] w (fun e w' => e = .returned (.int .i64 (firstE [a, b, c])) ∧ Gr W w') :=
  (first_at3 a b c g w h0 h1 h2).mono fun _ _ ⟨e, h⟩ => ⟨e, h ▸ hG⟩
set_option maxHeartbeats 2000000 in
set_option maxRecDepth 100000 in
theorem q_joinAdd {p q r s l1 l2 n d : ByteArray} {e0 e1 e2 : Int} (H1 : RetG w0 195 #[vFr p q, vFr r s] (.tuple #[.string l1, .string l2, .int .i64 e0])) (H2 : RetG w0 106 #[.string l1, .string l2] (.tuple #[.string n, .int .i64 e1])) (H3 : RetG w0 107 #[.string q, .string s] (.tuple #[.string d, .int .i64 e2])) :
    RetG w0 174 #[vFr p q, .func (.func 106) #[] #[], vFr r s] (.tuple #[vFr n d, .int .i64 (firstE [e0, e1, e2])]) := by
  intro w hg
  obtain ⟨g0, f0, f0', f1⟩ := three_boxes w p q r s
  have HG0 := Lib.hid g0
  have HA0 := Lib.hid f0
  have HB0 := Lib.hid f0'
  have HC0 := Lib.hid f1
  have HG := Lib.hid hg
  have HC1 := Lib.hid H1
  have HC2 := Lib.hid H2
  have HC3 := Lib.hid H3
  clear g0 f0 f0' f1 hg H1 H2 H3
  go_enter Tryz.func174, Tryz.ntmps174
  go_wp2_with fail
  refine (HC1.out _ (Gr.trans HG.out HG0.out)).mono ?_
  rintro e w1 ⟨rfl, hg⟩
  have HA1 := Lib.hid (HA0.out.gr hg)
  have HB1 := Lib.hid (HB0.out.gr hg)
  have HD1 := Lib.hid (HC0.out.gr hg)
  have HG1 := Lib.hid (Gr.trans HG0.out hg)
  clear hg
  go_wp2_with fail
  refine (HC2.out _ (Gr.trans HG.out HG1.out)).mono ?_
  rintro e w2 ⟨rfl, hg⟩
  have hA := HA1.out.gr hg
  have hB := HB1.out.gr hg
  have HD2 := Lib.hid (HD1.out.gr hg)
  obtain ⟨k1, k2, -, -⟩ := id hA
  obtain ⟨k3, k4, -, -⟩ := id hB
  have HG2 := Lib.hid (Gr.trans HG1.out hg)
  clear hg hA hB
  go_wp2_with fail
  refine (HC3.out _ (Gr.trans HG.out HG2.out)).mono ?_
  rintro e w3 ⟨rfl, hg⟩
  have HD3 := Lib.hid (HD2.out.gr hg)
  have HG3 := Lib.hid (Gr.trans HG2.out hg)
  clear hg k1 k2 k3 k4
  go_wp2_with fail
  refine (first_in3 e0 e1 e2 _ _ w3 ((Gr.refl w3).alloc _) ?_ ?_ ?_).mono ?_
  · exact (cell_new3 w3 _ _ _ _).1
  · exact (cell_new3 w3 _ _ _ _).2.1
  · exact (cell_new3 w3 _ _ _ _).2.2
  rintro e w4 ⟨rfl, hg⟩
  have hD := HD3.out.gr hg
  obtain ⟨k1, k2, k3, k4⟩ := id hD
  have HD4 := Lib.hid hD
  have HG4 := Lib.hid (Gr.trans HG3.out hg)
  clear hg hD
  go_wp2
  obtain ⟨F, G⟩ := HD4.out.store (p' := n) (q' := d) HG4.out (by omega)
  refine bodyPost_ret (v := .tuple #[vFr n d, .int .i64 (firstE [e0, e1, e2])]) (by simp [results, Tryz.results174, go_sem, F.c0, F.c1]) rfl ⟨rfl, G⟩
set_option maxHeartbeats 2000000 in
set_option maxRecDepth 100000 in
theorem q_joinSub {p q r s l1 l2 n d : ByteArray} {e0 e1 e2 : Int} (H1 : RetG w0 195 #[vFr p q, vFr r s] (.tuple #[.string l1, .string l2, .int .i64 e0])) (H2 : RetG w0 104 #[.string l1, .string l2] (.tuple #[.string n, .int .i64 e1])) (H3 : RetG w0 107 #[.string q, .string s] (.tuple #[.string d, .int .i64 e2])) :
    RetG w0 174 #[vFr p q, .func (.func 104) #[] #[], vFr r s] (.tuple #[vFr n d, .int .i64 (firstE [e0, e1, e2])]) := by
  intro w hg
  obtain ⟨g0, f0, f0', f1⟩ := three_boxes w p q r s
  have HG0 := Lib.hid g0
  have HA0 := Lib.hid f0
  have HB0 := Lib.hid f0'
  have HC0 := Lib.hid f1
  have HG := Lib.hid hg
  have HC1 := Lib.hid H1
  have HC2 := Lib.hid H2
  have HC3 := Lib.hid H3
  clear g0 f0 f0' f1 hg H1 H2 H3
  go_enter Tryz.func174, Tryz.ntmps174
  go_wp2_with fail
  refine (HC1.out _ (Gr.trans HG.out HG0.out)).mono ?_
  rintro e w1 ⟨rfl, hg⟩
  have HA1 := Lib.hid (HA0.out.gr hg)
  have HB1 := Lib.hid (HB0.out.gr hg)
  have HD1 := Lib.hid (HC0.out.gr hg)
  have HG1 := Lib.hid (Gr.trans HG0.out hg)
  clear hg
  go_wp2_with fail
  refine (HC2.out _ (Gr.trans HG.out HG1.out)).mono ?_
  rintro e w2 ⟨rfl, hg⟩
  have hA := HA1.out.gr hg
  have hB := HB1.out.gr hg
  have HD2 := Lib.hid (HD1.out.gr hg)
  obtain ⟨k1, k2, -, -⟩ := id hA
  obtain ⟨k3, k4, -, -⟩ := id hB
  have HG2 := Lib.hid (Gr.trans HG1.out hg)
  clear hg hA hB
  go_wp2_with fail
  refine (HC3.out _ (Gr.trans HG.out HG2.out)).mono ?_
  rintro e w3 ⟨rfl, hg⟩
  have HD3 := Lib.hid (HD2.out.gr hg)
  have HG3 := Lib.hid (Gr.trans HG2.out hg)
  clear hg k1 k2 k3 k4
  go_wp2_with fail
  refine (first_in3 e0 e1 e2 _ _ w3 ((Gr.refl w3).alloc _) ?_ ?_ ?_).mono ?_
  · exact (cell_new3 w3 _ _ _ _).1
  · exact (cell_new3 w3 _ _ _ _).2.1
  · exact (cell_new3 w3 _ _ _ _).2.2
  rintro e w4 ⟨rfl, hg⟩
  have hD := HD3.out.gr hg
  obtain ⟨k1, k2, k3, k4⟩ := id hD
  have HD4 := Lib.hid hD
  have HG4 := Lib.hid (Gr.trans HG3.out hg)
  clear hg hD
  go_wp2
  obtain ⟨F, G⟩ := HD4.out.store (p' := n) (q' := d) HG4.out (by omega)
  refine bodyPost_ret (v := .tuple #[vFr n d, .int .i64 (firstE [e0, e1, e2])]) (by simp [results, Tryz.results174, go_sem, F.c0, F.c1]) rfl ⟨rfl, G⟩
end
end Go.Proofs.YtlbnibicehpobaaGreatDoor

/- The program's rational numbers: the four operations in their map. -/
namespace Go.Proofs.YtlbnibicehpobaaGreatDoor
open Go.RowKit Go.Shelf
open Z
attribute [local go_sem ↓] Go.wp_at_zero Go.wp_at_succ

section
variable {w0 : World}
set_option maxHeartbeats 2000000 in
set_option maxRecDepth 100000 in
theorem q_clos1 {p q r s n d : ByteArray} {e0 : Int} (H1 : RetG w0 174 #[vFr p q, .func (.func 106) #[] #[], vFr r s] (.tuple #[vFr n d, .int .i64 e0])) :
    RetG w0 173 #[vFr p q, vFr r s] (.tuple #[vFr n d, .int .i64 e0]) := by
  intro w hg
  obtain ⟨g0, f0, f0', f1⟩ := three_boxes w p q r s
  have HG0 := Lib.hid g0
  have HC0 := Lib.hid f1
  have HG := Lib.hid hg
  have HC1 := Lib.hid H1
  clear g0 f0 f0' f1 hg H1
  go_enter Tryz.func173, Tryz.ntmps173
  go_wp2_with fail
  refine (HC1.out _ (Gr.trans HG.out HG0.out)).mono ?_
  rintro e w1 ⟨rfl, hg⟩
  have hC := HC0.out.gr hg
  obtain ⟨k1, k2, k3, k4⟩ := id hC
  have HC := Lib.hid hC
  have HG1 := Lib.hid (Gr.trans HG0.out hg)
  clear hg hC
  go_wp2
  obtain ⟨F, G⟩ := HC.out.store (p' := n) (q' := d) HG1.out (by omega)
  refine bodyPost_ret (v := .tuple #[vFr n d, .int .i64 e0]) (by simp [results, Tryz.results173, go_sem, F.c0, F.c1]) rfl ⟨rfl, G⟩
set_option maxHeartbeats 2000000 in
set_option maxRecDepth 100000 in
theorem q_clos2 {p q r s n d : ByteArray} {e0 : Int} (H1 : RetG w0 174 #[vFr p q, .func (.func 104) #[] #[], vFr r s] (.tuple #[vFr n d, .int .i64 e0])) :
    RetG w0 175 #[vFr p q, vFr r s] (.tuple #[vFr n d, .int .i64 e0]) := by
  intro w hg
  obtain ⟨g0, f0, f0', f1⟩ := three_boxes w p q r s
  have HG0 := Lib.hid g0
  have HC0 := Lib.hid f1
  have HG := Lib.hid hg
  have HC1 := Lib.hid H1
  clear g0 f0 f0' f1 hg H1
  go_enter Tryz.func175, Tryz.ntmps175
  go_wp2_with fail
  refine (HC1.out _ (Gr.trans HG.out HG0.out)).mono ?_
  rintro e w1 ⟨rfl, hg⟩
  have hC := HC0.out.gr hg
  obtain ⟨k1, k2, k3, k4⟩ := id hC
  have HC := Lib.hid hC
  have HG1 := Lib.hid (Gr.trans HG0.out hg)
  clear hg hC
  go_wp2
  obtain ⟨F, G⟩ := HC.out.store (p' := n) (q' := d) HG1.out (by omega)
  refine bodyPost_ret (v := .tuple #[vFr n d, .int .i64 e0]) (by simp [results, Tryz.results175, go_sem, F.c0, F.c1]) rfl ⟨rfl, G⟩
set_option maxHeartbeats 2000000 in
set_option maxRecDepth 100000 in
theorem q_clos3 {p q r s n d : ByteArray} {e0 : Int} (hz : (r.toList == [48]) = false) (H1 : RetG w0 176 #[vFr p q, vFr s r] (.tuple #[vFr n d, .int .i64 e0])) :
    RetG w0 177 #[vFr p q, vFr r s] (.tuple #[vFr n d, .int .i64 e0]) := by
  intro w hg
  obtain ⟨g0, f0, f0', f1⟩ := three_boxes w p q r s
  have HG0 := Lib.hid g0
  have HC0 := Lib.hid f1
  have HG := Lib.hid hg
  have HC1 := Lib.hid H1
  clear g0 f0 f0' f1 hg H1
  go_enter Tryz.func177, Tryz.ntmps177
  go_wp2_with fail
  refine (HC1.out _ (Gr.trans HG.out HG0.out)).mono ?_
  rintro e w1 ⟨rfl, hg⟩
  have hC := HC0.out.gr hg
  obtain ⟨k1, k2, k3, k4⟩ := id hC
  have HC := Lib.hid hC
  have HG1 := Lib.hid (Gr.trans HG0.out hg)
  clear hg hC
  go_wp2
  obtain ⟨F, G⟩ := HC.out.store (p' := n) (q' := d) HG1.out (by omega)
  refine bodyPost_ret (v := .tuple #[vFr n d, .int .i64 e0]) (by simp [results, Tryz.results177, go_sem, F.c0, F.c1]) rfl ⟨rfl, G⟩
set_option maxHeartbeats 2000000 in
set_option maxRecDepth 100000 in
theorem q_clos3z {p q r s : ByteArray} (hz : (r.toList == [48]) = true) :
    RetG w0 177 #[vFr p q, vFr r s] (.tuple #[vFr ⟨#[]⟩ ⟨#[]⟩, .int .i64 15]) := by
  intro w hg
  obtain ⟨g0, f0, f0', f1⟩ := three_boxes w p q r s
  have HG0 := Lib.hid g0
  have HC0 := Lib.hid f1
  clear g0 f0 f0' f1 hg
  go_enter Tryz.func177, Tryz.ntmps177
  go_wp2
  refine bodyPost_ret (v := .tuple #[vFr ⟨#[]⟩ ⟨#[]⟩, .int .i64 15]) (by simp [results, Tryz.results177, go_sem, HC0.out.c0, HC0.out.c1]) rfl ⟨rfl, HG0.out⟩
end
/-- the function value of a Go function -/
abbrev fv (f : FuncId) : Value := .func (.func f) #[] #[]
theorem run_ins {w : World} {b : Nat} {es : Array MapEntry} {c : Nat} {k : Int} {v : Value} (hb : w.heap[b]? = some (.map es c)) (hw : (Lit.int .i32 k).wf = true) (hf : Instr.findNow (.int .i32) (.int .i32 k) es.toList 0 = some none) :
    (Instr.mapUpdate 169 (.map (some b)) (.int .i32 k) v).run Tryz.prog w = .ok () (ChangeMaps.setBlock w b (.map (es.push ⟨.int .i32 k, v, c⟩) (c + 1))) := by
  have hk := Tryz.underlying21
  have ht := Tryz.underlying169
  have hc := (Maps.int_keyed hk).check w false (Maps.keyOf_int_mk hk hw)
  simp [Instr.mapUpdate, run_underlying ht, run_underlying hk, MapKept.run_getObj_map hb, hc, Instr.findKey, hf, MapKept.run_setObj_map _ hb, Result.andThen, ChangeMaps.setBlock]
def opsMap (w : World) (b : Nat) : Prop := w.heap[b]? = some (.map #[⟨.int .i32 43, fv 173, 0⟩, ⟨.int .i32 45, fv 175, 1⟩, ⟨.int .i32 42, fv 176, 2⟩, ⟨.int .i32 47, fv 177, 3⟩] 4)
theorem opsMap.gr {w w' : World} {b : Nat} (h : opsMap w b) (hg : Gr w w') : opsMap w' b :=
  (hg.block b (Array.getElem?_eq_some_iff.1 h).1).trans h
theorem run_ops {w : World} {b : Nat} (h : opsMap w b) {k : Int} {v : Value} {i : Nat} (hw : (Lit.int .i32 k).wf = true)
    (hf : Instr.findNow (.int .i32) (.int .i32 k) [⟨.int .i32 43, fv 173, 0⟩, ⟨.int .i32 45, fv 175, 1⟩, ⟨.int .i32 42, fv 176, 2⟩, ⟨.int .i32 47, fv 177, 3⟩] 0 = some (some (i, v))) :
    (Instr.lookup 169 (.map (some b)) (.int .i32 k) false).run Tryz.prog w = .ok v w := by
  have hk := Tryz.underlying21
  have ht := Tryz.underlying169
  unfold opsMap at h
  have hc := fun em => (Maps.int_keyed hk).check w em (Maps.keyOf_int_mk hk hw)
  simp [Instr.lookup, run_underlying ht, run_underlying hk, MapKept.run_getObj_map h, hc, Instr.findKey, hf, Result.andThen]
theorem run_add {w : World} {b : Nat} (h : opsMap w b) : (Instr.lookup 169 (.map (some b)) (.int .i32 43) false).run Tryz.prog w = .ok (fv 173) w := run_ops (i := 0) h (by decide) rfl
theorem run_sub {w : World} {b : Nat} (h : opsMap w b) : (Instr.lookup 169 (.map (some b)) (.int .i32 45) false).run Tryz.prog w = .ok (fv 175) w := run_ops (i := 1) h (by decide) rfl
theorem run_mul {w : World} {b : Nat} (h : opsMap w b) : (Instr.lookup 169 (.map (some b)) (.int .i32 42) false).run Tryz.prog w = .ok (fv 176) w := run_ops (i := 2) h (by decide) rfl
theorem run_div {w : World} {b : Nat} (h : opsMap w b) : (Instr.lookup 169 (.map (some b)) (.int .i32 47) false).run Tryz.prog w = .ok (fv 177) w := run_ops (i := 3) h (by decide) rfl
theorem setB_get {w : World} {b : Nat} {o o' : Obj} (hb : w.heap[b]? = some o) : (ChangeMaps.setBlock w b o').heap[b]? = some o' := by
  have := (Array.getElem?_eq_some_iff.1 hb).1
  simp [ChangeMaps.setBlock, Array.getElem?_setIfInBounds, this]
theorem setB_gr {w0 w : World} {b : Nat} {o' : Obj} (hg : Gr w0 w) (hb : w0.heap.size ≤ b) : Gr w0 (ChangeMaps.setBlock w b o') := by
  refine ⟨hg.1, hg.2, hg.3, ?_, fun i hi => ?_⟩
  · simp only [ChangeMaps.setBlock, Array.size_setIfInBounds]; exact hg.size
  · simp only [ChangeMaps.setBlock]
    rw [Array.getElem?_setIfInBounds_ne (by omega)]
    exact hg.block i hi
set_option maxHeartbeats 2000000 in
set_option maxRecDepth 100000 in
theorem q_operations (w : World) : Calls Tryz.prog 155 #[] w (fun e w' => ∃ b, e = .returned (.map (some b)) ∧ opsMap w' b ∧ Gr w w') := by
  have hmm := @run_makeMap Tryz.prog
  obtain ⟨W0, HW0⟩ : ∃ W0, Hid (W0 = w.alloc (.map #[] 0)) := ⟨_, rfl⟩
  have b0 : W0.heap[w.heap.size]? = some (.map #[] 0) := by rw [HW0.out]; exact (MapKept.heap_alloc w _).1
  have g0 : Gr w W0 := by rw [HW0.out]; exact (Gr.refl w).alloc _
  have r1 := run_ins (k := 43) (v := fv 173) b0 (by decide) rfl
  have b1 := setB_get b0 (o' := .map (#[].push ⟨.int .i32 43, fv 173, 0⟩) (0 + 1))
  have g1 := setB_gr (o' := .map (#[].push ⟨.int .i32 43, fv 173, 0⟩) (0 + 1)) g0 (Nat.le_refl _)
  obtain ⟨W1, hW1⟩ : ∃ W1, W1 = ChangeMaps.setBlock W0 w.heap.size (.map (#[].push ⟨.int .i32 43, fv 173, 0⟩) (0 + 1)) := ⟨_, rfl⟩
  rw [← hW1] at r1 b1 g1
  have r2 := run_ins (k := 45) (v := fv 175) b1 (by decide) rfl
  have b2 := setB_get b1 (o' := .map ((#[].push ⟨.int .i32 43, fv 173, 0⟩).push ⟨.int .i32 45, fv 175, 0 + 1⟩) (0 + 1 + 1))
  have g2 := setB_gr (o' := .map ((#[].push ⟨.int .i32 43, fv 173, 0⟩).push ⟨.int .i32 45, fv 175, 0 + 1⟩) (0 + 1 + 1)) g1 (Nat.le_refl _)
  obtain ⟨W2, hW2⟩ : ∃ W2, W2 = ChangeMaps.setBlock W1 w.heap.size (.map ((#[].push ⟨.int .i32 43, fv 173, 0⟩).push ⟨.int .i32 45, fv 175, 0 + 1⟩) (0 + 1 + 1)) := ⟨_, rfl⟩
  rw [← hW2] at r2 b2 g2
  have r3 := run_ins (k := 42) (v := fv 176) b2 (by decide) rfl
  have b3 := setB_get b2 (o' := .map (((#[].push ⟨.int .i32 43, fv 173, 0⟩).push ⟨.int .i32 45, fv 175, 0 + 1⟩).push ⟨.int .i32 42, fv 176, 0 + 1 + 1⟩) (0 + 1 + 1 + 1))
  have g3 := setB_gr (o' := .map (((#[].push ⟨.int .i32 43, fv 173, 0⟩).push ⟨.int .i32 45, fv 175, 0 + 1⟩).push ⟨.int .i32 42, fv 176, 0 + 1 + 1⟩) (0 + 1 + 1 + 1)) g2 (Nat.le_refl _)
  obtain ⟨W3, hW3⟩ : ∃ W3, W3 = ChangeMaps.setBlock W2 w.heap.size (.map (((#[].push ⟨.int .i32 43, fv 173, 0⟩).push ⟨.int .i32 45, fv 175, 0 + 1⟩).push ⟨.int .i32 42, fv 176, 0 + 1 + 1⟩) (0 + 1 + 1 + 1)) := ⟨_, rfl⟩
  rw [← hW3] at r3 b3 g3
  have r4 := run_ins (k := 47) (v := fv 177) b3 (by decide) rfl
  have b4 := setB_get b3 (o' := .map ((((#[].push ⟨.int .i32 43, fv 173, 0⟩).push ⟨.int .i32 45, fv 175, 0 + 1⟩).push ⟨.int .i32 42, fv 176, 0 + 1 + 1⟩).push ⟨.int .i32 47, fv 177, 0 + 1 + 1 + 1⟩) (0 + 1 + 1 + 1 + 1))
  have g4 := setB_gr (o' := .map ((((#[].push ⟨.int .i32 43, fv 173, 0⟩).push ⟨.int .i32 45, fv 175, 0 + 1⟩).push ⟨.int .i32 42, fv 176, 0 + 1 + 1⟩).push ⟨.int .i32 47, fv 177, 0 + 1 + 1 + 1⟩) (0 + 1 + 1 + 1 + 1)) g3 (Nat.le_refl _)
  obtain ⟨W4, hW4⟩ : ∃ W4, W4 = ChangeMaps.setBlock W3 w.heap.size (.map ((((#[].push ⟨.int .i32 43, fv 173, 0⟩).push ⟨.int .i32 45, fv 175, 0 + 1⟩).push ⟨.int .i32 42, fv 176, 0 + 1 + 1⟩).push ⟨.int .i32 47, fv 177, 0 + 1 + 1 + 1⟩) (0 + 1 + 1 + 1 + 1)) := ⟨_, rfl⟩
  rw [← hW4] at r4 b4 g4
  have HM : Hid (opsMap W4 w.heap.size) := b4
  have HG := Lib.hid g4
  rw [HW0.out] at r1
  clear b0 b1 b2 b3 b4 g0 g1 g2 g3 g4 hW1 hW2 hW3 hW4 HW0
  go_enter Tryz.func155, Tryz.ntmps155
  go_wp2
  go_ret
  exact ⟨_, rfl, HM.out, HG.out⟩
end Go.Proofs.YtlbnibicehpobaaGreatDoor
