/- Glides: At, Done, Go, both sides. -/
import Derived.Test.YtflkgkchoagphaaGreatDoorGlA
import Derived.Test.YtflkgkchoagphaaGreatDoorLaw02a
set_option linter.unusedVariables false
set_option linter.unusedSimpArgs false
namespace Go.Proofs.YtflkgkchoagphaaGreatDoor
open Go.RowKit Go.Shelf
open Z

/-- what Go returns: a glide and an error -/
def goE (s : ByteArray) (x st ti t y d : Int) : (ByteArray × Int × Int × Int) × Int :=
  if glE s x st ti = 0 then (if tgE y t d = 0 then ((RT (ofG (rv s) x st ti t), y, t, d), 0) else ((⟨#[]⟩, 0, 0, 0), 2)) else ((⟨#[]⟩, 0, 0, 0), glE s x st ti)
abbrev vG4 (p : ByteArray × Int × Int × Int) : Value := vGl p.1 p.2.1 p.2.2.1 p.2.2.2
def vGI (p : (ByteArray × Int × Int × Int) × Int) : Value := .tuple #[vG4 p.1, .int .i64 p.2]
theorem tgE_cases (y t d : Int) : (tgE y t d = 0 ∧ 0 ≤ y ∧ y ≤ 65535 ∧ 0 ≤ t ∧ t ≤ 10000000 ∧ 0 ≤ d ∧ d ≤ 10000000) ∨ tgE y t d = 2 := by
  unfold tgE
  split
  · rename_i hb
    left
    rw [Bool.and_eq_true, Bool.and_eq_true] at hb
    obtain ⟨b1, b2, b3⟩ := hb
    unfold okL at b1 b2 b3
    simp only [Bool.and_eq_true, decide_eq_true_eq] at b1 b2 b3
    exact ⟨rfl, b1.1, b1.2, b2.1, b2.2, b3.1, b3.2⟩
  · right; rfl
theorem divInt_zero (q : Int) : Rat.divInt 0 q = 0 := by rw [Rat.divInt_eq_div, show ((0 : Int) : Rat) = 0 from rfl, Rat.div_def, Rat.zero_mul]
section
variable {w0 : World}
set_option maxHeartbeats 1000000 in
set_option maxRecDepth 100000 in
theorem ret_end {s : ByteArray} {x st ti : Int} (st0 : 0 ≤ st) (st1 : st ≤ 10000000) (ti0 : 0 ≤ ti) (ti1 : ti ≤ 10000000) : Ret w0 58 #[vGl s x st ti] (.int .i64 (st + ti)) := by
  intro w hg
  have HB := Lib.hid (Box4.new w s x st ti 24)
  have HG := Lib.hid (hg.alloc (oGl s x st ti))
  clear hg
  obtain ⟨k0, k1, k2, k3⟩ := id HB.out
  go_enter Tryz.func58, Tryz.ntmps58
  go_wp2
  go_ret
  exact ⟨rfl, HG.out⟩
end
section
variable {w0 : World} (htab : Tab w0) (hmx : Mx w0) (herr : ErrR w0)
include htab hmx
set_option maxHeartbeats 1000000 in
set_option maxRecDepth 100000 in
theorem ret_between {k k' : Nat} {a b : Rat} (ha : Sh k a) (hb : Sh k' b) (hk : k ≤ 1500) (hk' : k' ≤ 1000) {p q : Int} (hp : 0 ≤ p) (hp1 : p ≤ 100000000) (hq : 0 < q) (hq1 : q ≤ 100000000) :
    Ret w0 60 #[.string (RT a), .string (RT b), .int .i64 p, .int .i64 q] (.tuple #[.string (RT (a + (b - a) * Rat.divInt p q)), .int .i64 0]) := by
  have hsp := sh_part hp hp1 hq hq1
  have s1 := RT_size ha
  have s2 := RT_size hb
  have s3 := RT_size hsp
  have C1 := Lib.hid ((ret_QPart htab (n := p) (d := q) (by omega) (by omega) (by omega) (by omega)).si (x := RT (Rat.divInt p q)) (e := 0) (by unfold partR; rw [if_neg (by omega)]))
  have C2 := Lib.hid ((ret_QMix htab hmx (s := RT a) (t := RT b) (u := RT (Rat.divInt p q)) (by omega) (by omega) (by omega)).si (mix_sh ha hb hsp (by omega)))
  clear ha hb hsp s1 s2 s3 htab hmx
  generalize RT (a + (b - a) * Rat.divInt p q) = r at *
  generalize RT (Rat.divInt p q) = v at *
  generalize RT a = s at *
  generalize RT b = t at *
  intro w hg
  have HG := Lib.hid hg; clear hg
  go_enter Tryz.func60, Tryz.ntmps60
  go_wp2_with fail
  refine (C1.out _ HG.out).mono ?_
  rintro e w1 ⟨rfl, hg⟩
  replace HG := Lib.hid hg; clear hg
  go_wp2_with fail
  refine (C2.out _ HG.out).mono ?_
  rintro e w1 ⟨rfl, hg⟩
  replace HG := Lib.hid hg; clear hg
  go_wp2
  go_ret2
  exact ⟨rfl, HG.out⟩
include herr
set_option maxHeartbeats 1000000 in
set_option maxRecDepth 100000 in
theorem ret_GAt {s : ByteArray} (hs : s.size ≤ 1400) {x st ti t : Int} (ht : isJ t) : Ret w0 14 #[vGl s x st ti, .int .i64 t] (vSI (atE s x st ti t)) := by
  have C1 := Lib.hid (RetG.of4 (w0 := w0) fun w1 h => ret_GCheck (htab_gr htab h) (hmx.gr h) (herr.gr h) (s := s) (by omega) x st ti)
  obtain ⟨ht0, ht1⟩ := ht
  unfold atE
  by_cases h : glE s x st ti = 0
  · rw [if_pos h]
    rw [h] at C1
    obtain ⟨b, hb, ib, lb, x0, x1, st0, st1, ti0, ti1⟩ := glE_zero_iff h
    obtain ⟨a, rfl, ha, hra⟩ := text_sh (by rw [hb]; exact chkS_RT ib) hs
    have C2 := Lib.hid (RetG.of4 (w0 := w0) fun w1 _ => ret_end (w0 := w1) (s := RT a) (x := x) st0 st1 ti0 ti1)
    have C3 := Lib.hid (RetG.of4 (w0 := w0) fun w1 h => ret_QWhole (htab_gr htab h) (n := x) (by omega) (by omega))
    rw [hra]
    unfold ofG
    by_cases h1 : st + ti ≤ t
    · rw [if_pos h1, RT_int]
      clear h hb ib lb ha hra hs htab hmx herr
      unfold vSI
      generalize Tx x = y at *
      generalize RT a = s at *
      intro w hg
      have HB := Lib.hid (Box4.new w s x st ti 24)
      have HG := Lib.hid (hg.alloc (oGl s x st ti))
      clear hg
      obtain ⟨k0, k1, k2, k3⟩ := id HB.out
      go_enter Tryz.func14, Tryz.ntmps14
      go_wp2_with fail
      refine (C1.out _ HG.out).mono ?_
      rintro e w1 ⟨rfl, hg⟩
      have hB := HB.out.gr hg
      replace HG := Lib.hid (Gr.trans HG.out hg)
      clear hg HB k0 k1 k2 k3
      have HB := Lib.hid hB
      obtain ⟨k0, k1, k2, k3⟩ := hB
      go_wp2_with fail
      refine (C2.out _ HG.out).mono ?_
      rintro e w1 ⟨rfl, hg⟩
      have hB := HB.out.gr hg
      replace HG := Lib.hid (Gr.trans HG.out hg)
      clear hg HB k0 k1 k2 k3
      have HB := Lib.hid hB
      obtain ⟨k0, k1, k2, k3⟩ := hB
      go_wp2_with fail
      refine (C3.out _ HG.out).mono ?_
      rintro e w1 ⟨rfl, hg⟩
      have hB := HB.out.gr hg
      replace HG := Lib.hid (Gr.trans HG.out hg)
      clear hg HB k0 k1 k2 k3
      have HB := Lib.hid hB
      obtain ⟨k0, k1, k2, k3⟩ := hB
      go_wp2
      go_ret2
      exact ⟨rfl, HG.out⟩
    · rw [if_neg h1]
      by_cases h2 : t < st
      · rw [if_pos (by omega)]
        clear h hb ib lb ha hra hs htab hmx herr
        unfold vSI
        generalize RT a = s at *
        intro w hg
        have HB := Lib.hid (Box4.new w s x st ti 24)
        have HG := Lib.hid (hg.alloc (oGl s x st ti))
        clear hg
        obtain ⟨k0, k1, k2, k3⟩ := id HB.out
        go_enter Tryz.func14, Tryz.ntmps14
        go_wp2_with fail
        refine (C1.out _ HG.out).mono ?_
        rintro e w1 ⟨rfl, hg⟩
        have hB := HB.out.gr hg
        replace HG := Lib.hid (Gr.trans HG.out hg)
        clear hg HB k0 k1 k2 k3
        have HB := Lib.hid hB
        obtain ⟨k0, k1, k2, k3⟩ := hB
        go_wp2
        go_ret2
        exact ⟨rfl, HG.out⟩
      · have hB := RetG.of4 (w0 := w0) fun w1 h => ret_between (htab_gr htab h) (hmx.gr h) ha (sh_lvl x0 x1) (by omega) (by omega) (p := t - st) (q := ti) (by omega) (by omega) (by omega) (by omega)
        have hval : (if t ≤ st then a else a + ((x : Rat) - a) * Rat.divInt (t - st) ti) = a + ((x : Rat) - a) * Rat.divInt (t - st) ti := by
          by_cases h3 : t ≤ st
          · rw [if_pos h3, show t - st = 0 by omega, divInt_zero, Rat.mul_zero, Rat.add_zero]
          · rw [if_neg h3]
        rw [hval]
        rw [RT_int] at hB
        have C4 := Lib.hid hB
        clear h hb ib lb ha hra hs htab hmx herr hval hB
        unfold vSI
        generalize RT (a + ((x : Rat) - a) * Rat.divInt (t - st) ti) = r at *
        generalize Tx x = y at *
        generalize RT a = s at *
        intro w hg
        have HB := Lib.hid (Box4.new w s x st ti 24)
        have HG := Lib.hid (hg.alloc (oGl s x st ti))
        clear hg
        obtain ⟨k0, k1, k2, k3⟩ := id HB.out
        go_enter Tryz.func14, Tryz.ntmps14
        go_wp2_with fail
        refine (C1.out _ HG.out).mono ?_
        rintro e w1 ⟨rfl, hg⟩
        have hB := HB.out.gr hg
        replace HG := Lib.hid (Gr.trans HG.out hg)
        clear hg HB k0 k1 k2 k3
        have HB := Lib.hid hB
        obtain ⟨k0, k1, k2, k3⟩ := hB
        go_wp2_with fail
        refine (C2.out _ HG.out).mono ?_
        rintro e w1 ⟨rfl, hg⟩
        have hB := HB.out.gr hg
        replace HG := Lib.hid (Gr.trans HG.out hg)
        clear hg HB k0 k1 k2 k3
        have HB := Lib.hid hB
        obtain ⟨k0, k1, k2, k3⟩ := hB
        go_wp2_with fail
        have gd : Gr w0 w1.drew := HG.out.drew
        have hwr : IntKind.i64.wrap (t - st) = t - st := IntWalk.i64_in _ (by omega)
        go_region_held3 (fun w' => w'.cell? ⟨w.heap.size, 0, none⟩ = some (.string s) ∧ w'.cell? ⟨w.heap.size, 1, none⟩ = some (.int .i64 x) ∧ w'.cell? ⟨w.heap.size, 2, none⟩ = some (.int .i64 st) ∧ w'.cell? ⟨w.heap.size, 3, none⟩ = some (.int .i64 ti)) (go_keep) (first
          | (go_at_call 59; refine (C3.out _ (by assumption)).mono ?_; rintro e w6 ⟨rfl, hw6⟩; have gw6 : Gr w0 w6 := Gr.trans (by assumption) hw6; have d0 : w6.cell? ⟨w.heap.size, 0, none⟩ = some (.string s) := gr_cell hw6 (by assumption); have d1 : w6.cell? ⟨w.heap.size, 1, none⟩ = some (.int .i64 x) := gr_cell hw6 (by assumption); have d2 : w6.cell? ⟨w.heap.size, 2, none⟩ = some (.int .i64 st) := gr_cell hw6 (by assumption); have d3 : w6.cell? ⟨w.heap.size, 3, none⟩ = some (.int .i64 ti) := gr_cell hw6 (by assumption))
          | (go_at_call 60; refine (C4.out _ (by assumption)).mono ?_; rintro e w7 ⟨rfl, hw7⟩; have gw7 : Gr w0 w7 := Gr.trans (by assumption) hw7; have d0 : w7.cell? ⟨w.heap.size, 0, none⟩ = some (.string s) := gr_cell hw7 (by assumption); have d1 : w7.cell? ⟨w.heap.size, 1, none⟩ = some (.int .i64 x) := gr_cell hw7 (by assumption); have d2 : w7.cell? ⟨w.heap.size, 2, none⟩ = some (.int .i64 st) := gr_cell hw7 (by assumption); have d3 : w7.cell? ⟨w.heap.size, 3, none⟩ = some (.int .i64 ti) := gr_cell hw7 (by assumption)))
        clear hwr
        go_wp2
        go_ret2
        exact ⟨rfl, by assumption⟩
  · rw [if_neg h]
    have hne : (glE s x st ti != 0) = true := by simpa using h
    clear h hs htab hmx herr
    unfold vSI
    generalize glE s x st ti = r at *
    intro w hg
    have HB := Lib.hid (Box4.new w s x st ti 24)
    have HG := Lib.hid (hg.alloc (oGl s x st ti))
    clear hg
    obtain ⟨k0, k1, k2, k3⟩ := id HB.out
    go_enter Tryz.func14, Tryz.ntmps14
    go_wp2_with fail
    refine (C1.out _ HG.out).mono ?_
    rintro e w1 ⟨rfl, hg⟩
    have hB := HB.out.gr hg
    replace HG := Lib.hid (Gr.trans HG.out hg)
    clear hg HB k0 k1 k2 k3
    have HB := Lib.hid hB
    obtain ⟨k0, k1, k2, k3⟩ := hB
    go_wp2
    go_ret2
    exact ⟨rfl, HG.out⟩
set_option maxHeartbeats 1000000 in
set_option maxRecDepth 100000 in
theorem ret_GGo {s : ByteArray} (hs : s.size ≤ 1400) {x st ti t y d : Int} (ht : isJ t) : Ret w0 24 #[vGl s x st ti, .int .i64 t, .int .i64 y, .int .i64 d] (vGI (goE s x st ti t y d)) := by
  have C1 := Lib.hid (RetG.of4 (w0 := w0) fun w1 h => ret_GCheck (htab_gr htab h) (hmx.gr h) (herr.gr h) (s := s) (by omega) x st ti)
  have C2 := RetG.of4 (w0 := w0) fun w1 _ => ret_checkTarget (w0 := w1) y t d
  have C3 := fun (p : ByteArray × Int) (e : atE s x st ti t = p) => RetG.of4 (w0 := w0) fun w1 h => (ret_GAt (htab_gr htab h) (hmx.gr h) (herr.gr h) (s := s) hs (x := x) (st := st) (ti := ti) ht).si e
  unfold goE
  by_cases h : glE s x st ti = 0
  · rw [if_pos h]
    rw [h] at C1
    have C3 := Lib.hid (C3 (RT (ofG (rv s) x st ti t), 0) (by unfold atE; rw [if_pos h]))
    clear h hs htab hmx herr
    generalize RT (ofG (rv s) x st ti t) = r at *
    unfold vGI
    rcases tgE_cases y t d with ⟨h0, _⟩ | h2
    · rw [h0] at C2 ⊢
      rw [if_pos rfl]
      have C2 := Lib.hid C2
      intro w hg
      have hsz := hg.size
      have HB := Lib.hid ((Box4.new w s x st ti 24).gr ((Gr.refl _).alloc (oGl ⟨#[]⟩ 0 0 0)))
      have HR := Lib.hid (GB.new2 w (oGl s x st ti) ⟨#[]⟩ 0 0 0 24)
      have HG := Lib.hid ((hg.alloc (oGl s x st ti)).alloc (oGl ⟨#[]⟩ 0 0 0))
      clear hg
      obtain ⟨k0, k1, k2, k3⟩ := id HB.out
      obtain ⟨r0, r1, r2, r3, q0, q1, q2, q3⟩ := id HR.out
      go_enter Tryz.func24, Tryz.ntmps24
      go_wp2_with fail
      refine (C1.out _ HG.out).mono ?_
      rintro e w1 ⟨rfl, hg⟩
      have hB := HB.out.gr hg
      have hR := HR.out.gr hg
      replace HG := Lib.hid (Gr.trans HG.out hg)
      clear hg HB HR k0 k1 k2 k3 r0 r1 r2 r3 q0 q1 q2 q3
      have HB := Lib.hid hB
      have HR := Lib.hid hR
      obtain ⟨k0, k1, k2, k3⟩ := hB
      obtain ⟨r0, r1, r2, r3, q0, q1, q2, q3⟩ := hR
      go_wp2_with fail
      refine (C2.out _ HG.out).mono ?_
      rintro e w1 ⟨rfl, hg⟩
      have hB := HB.out.gr hg
      have hR := HR.out.gr hg
      replace HG := Lib.hid (Gr.trans HG.out hg)
      clear hg HB HR k0 k1 k2 k3 r0 r1 r2 r3 q0 q1 q2 q3
      have HB := Lib.hid hB
      have HR := Lib.hid hR
      obtain ⟨k0, k1, k2, k3⟩ := hB
      obtain ⟨r0, r1, r2, r3, q0, q1, q2, q3⟩ := hR
      go_wp2_with fail
      refine (C3.out _ HG.out).mono ?_
      rintro e w1 ⟨rfl, hg⟩
      have hB := HB.out.gr hg
      have hR := HR.out.gr hg
      replace HG := Lib.hid (Gr.trans HG.out hg)
      clear hg HB HR k0 k1 k2 k3 r0 r1 r2 r3 q0 q1 q2 q3
      have HB := Lib.hid hB
      have HR := Lib.hid hR
      obtain ⟨k0, k1, k2, k3⟩ := hB
      obtain ⟨r0, r1, r2, r3, q0, q1, q2, q3⟩ := hR
      go_wp2
      obtain ⟨F, G⟩ := HR.out.store r y t d HG.out (by omega)
      exact bodyPost_ret (v := .tuple #[vGl r y t d, .int .i64 0]) (by simp [results, Tryz.results24, go_sem, F.c0, F.c1, F.c2, F.c3]) rfl ⟨rfl, G⟩
    · rw [h2] at C2 ⊢
      rw [if_neg (by omega)]
      have C2 := Lib.hid C2
      intro w hg
      have hsz := hg.size
      have HB := Lib.hid ((Box4.new w s x st ti 24).gr ((Gr.refl _).alloc (oGl ⟨#[]⟩ 0 0 0)))
      have HR := Lib.hid (GB.new2 w (oGl s x st ti) ⟨#[]⟩ 0 0 0 24)
      have HG := Lib.hid ((hg.alloc (oGl s x st ti)).alloc (oGl ⟨#[]⟩ 0 0 0))
      clear hg
      obtain ⟨k0, k1, k2, k3⟩ := id HB.out
      obtain ⟨r0, r1, r2, r3, q0, q1, q2, q3⟩ := id HR.out
      go_enter Tryz.func24, Tryz.ntmps24
      go_wp2_with fail
      refine (C1.out _ HG.out).mono ?_
      rintro e w1 ⟨rfl, hg⟩
      have hB := HB.out.gr hg
      have hR := HR.out.gr hg
      replace HG := Lib.hid (Gr.trans HG.out hg)
      clear hg HB HR k0 k1 k2 k3 r0 r1 r2 r3 q0 q1 q2 q3
      have HB := Lib.hid hB
      have HR := Lib.hid hR
      obtain ⟨k0, k1, k2, k3⟩ := hB
      obtain ⟨r0, r1, r2, r3, q0, q1, q2, q3⟩ := hR
      go_wp2_with fail
      refine (C2.out _ HG.out).mono ?_
      rintro e w1 ⟨rfl, hg⟩
      have hB := HB.out.gr hg
      have hR := HR.out.gr hg
      replace HG := Lib.hid (Gr.trans HG.out hg)
      clear hg HB HR k0 k1 k2 k3 r0 r1 r2 r3 q0 q1 q2 q3
      have HB := Lib.hid hB
      have HR := Lib.hid hR
      obtain ⟨k0, k1, k2, k3⟩ := hB
      obtain ⟨r0, r1, r2, r3, q0, q1, q2, q3⟩ := hR
      go_wp2
      obtain ⟨F, G⟩ := HR.out.store ⟨#[]⟩ 0 0 0 HG.out (by omega)
      exact bodyPost_ret (v := .tuple #[vGl ⟨#[]⟩ 0 0 0, .int .i64 2]) (by simp [results, Tryz.results24, go_sem, F.c0, F.c1, F.c2, F.c3]) rfl ⟨rfl, G⟩
  · rw [if_neg h]
    have hne : (glE s x st ti != 0) = true := by simpa using h
    clear h hs htab hmx herr C2 C3
    unfold vGI
    generalize glE s x st ti = r at *
    intro w hg
    have hsz := hg.size
    have HB := Lib.hid ((Box4.new w s x st ti 24).gr ((Gr.refl _).alloc (oGl ⟨#[]⟩ 0 0 0)))
    have HR := Lib.hid (GB.new2 w (oGl s x st ti) ⟨#[]⟩ 0 0 0 24)
    have HG := Lib.hid ((hg.alloc (oGl s x st ti)).alloc (oGl ⟨#[]⟩ 0 0 0))
    clear hg
    obtain ⟨k0, k1, k2, k3⟩ := id HB.out
    obtain ⟨r0, r1, r2, r3, q0, q1, q2, q3⟩ := id HR.out
    go_enter Tryz.func24, Tryz.ntmps24
    go_wp2_with fail
    refine (C1.out _ HG.out).mono ?_
    rintro e w1 ⟨rfl, hg⟩
    have hB := HB.out.gr hg
    have hR := HR.out.gr hg
    replace HG := Lib.hid (Gr.trans HG.out hg)
    clear hg HB HR k0 k1 k2 k3 r0 r1 r2 r3 q0 q1 q2 q3
    have HB := Lib.hid hB
    have HR := Lib.hid hR
    obtain ⟨k0, k1, k2, k3⟩ := hB
    obtain ⟨r0, r1, r2, r3, q0, q1, q2, q3⟩ := hR
    go_wp2
    obtain ⟨F, G⟩ := HR.out.store ⟨#[]⟩ 0 0 0 HG.out (by omega)
    exact bodyPost_ret (v := .tuple #[vGl ⟨#[]⟩ 0 0 0, .int .i64 r]) (by simp [results, Tryz.results24, go_sem, F.c0, F.c1, F.c2, F.c3]) rfl ⟨rfl, G⟩
end
end Go.Proofs.YtflkgkchoagphaaGreatDoor
