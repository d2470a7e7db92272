/- The program's rational numbers: comparing, rounding, making. -/
import Derived.Test.YtjoipfiomeocoabGreatDoorRat17
set_option linter.unusedVariables false
set_option linter.unusedSimpArgs false
namespace Go.Proofs.YtjoipfiomeocoabGreatDoor
open Go.RowKit Go.Shelf
open Z

theorem partR_eq {n d : Int} (h1 : -9223372036854775808 ≤ n) (h2 : n ≤ 9223372036854775807) (h3 : -9223372036854775808 ≤ d) (h4 : d ≤ 9223372036854775807) : ofR (Tx n) (Tx d) = partR n d := by
  have i1 : In n := (sm_int h1 h2).in (by omega)
  have i2 : In d := (sm_int h3 h4).in (by omega)
  unfold ofR partR
  rw [if_pos (i1.both i2), data_Tx, data_Tx, ival_itoa, ival_itoa]
section
variable {w0 : World} (htab : Tab w0) (hmx : Mx w0)
include htab
theorem retG_Quo {a b : Int} (ha : In a) (hb : In b) (h0 : b ≠ 0) (hr : In (a.fdiv b)) : RetG w0 73 #[.string (Tx a), .string (Tx b)] (.tuple #[.string (Tx (a.fdiv b)), .int .i64 0]) := fun w hg => by
  have H := i_Quo (Tx a) (Tx b) w ha.len hb.len (htab_gr htab hg)
  rw [opR_Tx ha hb, if_neg h0, longR_in hr] at H; exact H
theorem retG_Rem {a b : Int} (ha : In a) (hb : In b) (h0 : b ≠ 0) (hr : In (a.fmod b)) : RetG w0 74 #[.string (Tx a), .string (Tx b)] (.tuple #[.string (Tx (a.fmod b)), .int .i64 0]) := fun w hg => by
  have H := i_Rem (Tx a) (Tx b) w ha.len hb.len (htab_gr htab hg)
  rw [opR_Tx ha hb, if_neg h0, longR_in hr] at H; exact H
set_option maxHeartbeats 1000000 in
set_option maxRecDepth 100000 in
theorem ret_QOf {s t : ByteArray} (hs : s.size ≤ 400000) (ht : t.size ≤ 400000) : Ret w0 12 #[.string s, .string t] (vSI (ofR s t)) := by
  have C1 := Lib.hid (ret_Check (w0 := w0) (ba_len hs))
  have C2 := Lib.hid (ret_Check (w0 := w0) (ba_len ht))
  have hb : both s t = firstE [chk s.data.toList, chk t.data.toList] := by rw [first2]; rfl
  by_cases h : both s t = 0
  · obtain ⟨h1, h2⟩ := both_zero h
    obtain ⟨f1, l1⟩ := chk_zeroF h1
    obtain ⟨f2, l2⟩ := chk_zeroF h2
    have e1 := Tx_ival s f1
    have e2 := Tx_ival t f2
    have i1 : In (ival s.data.toList) := by unfold In; rw [← body_nd f1]; exact l1
    have i2 : In (ival t.data.toList) := by unfold In; rw [← body_nd f2]; exact l2
    have is0 := is0_form f2
    rw [h1] at C1
    rw [h2] at C2
    by_cases h0 : ival t.data.toList = 0
    · refine Ret.toSI (x := ⟨#[]⟩) (e := 15) (by unfold ofR; rw [if_pos h, if_pos h0]) ?_
      rw [decide_eq_true h0] at is0
      clear h hb h1 h2 f1 l1 f2 l2 e1 e2 i1 i2 h0 hs ht htab
      intro w hg
      have HG := Lib.hid hg; clear hg
      go_enter Tryz.func12, Tryz.ntmps12
      go_wp2_with fail
      refine (C1.out _ HG.out).mono ?_
      rintro e w1 ⟨rfl, hg⟩
      replace HG := Lib.hid hg; clear hg
      go_wp2_with fail
      refine (C2.out _ HG.out).mono ?_
      rintro e w1 ⟨rfl, hg⟩
      replace HG := Lib.hid hg; clear hg
      go_wp2_with fail
      refine (first_in2 0 0 _ _ w1 ((Gr.refl w1).alloc _) ?_ ?_).mono ?_
      · exact (cell_new2 w1 _ _ _).1
      · exact (cell_new2 w1 _ _ _).2
      rintro e w1 ⟨rfl, hg⟩
      replace HG := Lib.hid (Gr.trans HG.out hg); clear hg
      rw [show firstE [0, 0] = 0 from rfl]
      go_wp2
      go_ret2
      exact ⟨rfl, HG.out⟩
    · have HF : ofR s t = (RT (Rat.divInt (ival s.data.toList) (ival t.data.toList)), 0) := by unfold ofR; rw [if_pos h, if_neg h0]
      have C3 := Lib.hid (retG_write htab (lg_false.2 i1) (lg_false.2 i2) h0).ret
      rw [e1, e2] at C3
      refine Ret.toSI HF ?_
      rw [decide_eq_false h0] at is0
      clear h hb h1 h2 f1 l1 f2 l2 e1 e2 i1 i2 h0 hs ht htab HF
      generalize RT (Rat.divInt (ival s.data.toList) (ival t.data.toList)) = r at *
      intro w hg
      have HG := Lib.hid hg; clear hg
      go_enter Tryz.func12, Tryz.ntmps12
      go_wp2_with fail
      refine (C1.out _ HG.out).mono ?_
      rintro e w1 ⟨rfl, hg⟩
      replace HG := Lib.hid hg; clear hg
      go_wp2_with fail
      refine (C2.out _ HG.out).mono ?_
      rintro e w1 ⟨rfl, hg⟩
      replace HG := Lib.hid hg; clear hg
      go_wp2_with fail
      refine (first_in2 0 0 _ _ w1 ((Gr.refl w1).alloc _) ?_ ?_).mono ?_
      · exact (cell_new2 w1 _ _ _).1
      · exact (cell_new2 w1 _ _ _).2
      rintro e w1 ⟨rfl, hg⟩
      replace HG := Lib.hid (Gr.trans HG.out hg); clear hg
      rw [show firstE [0, 0] = 0 from rfl]
      go_wp2_with fail
      refine (C3.out _ HG.out).mono ?_
      rintro e w1 ⟨rfl, hg⟩
      replace HG := Lib.hid hg; clear hg
      go_wp2
      go_ret2
      exact ⟨rfl, HG.out⟩
  · refine Ret.toSI (x := ⟨#[]⟩) (e := both s t) (by unfold ofR; rw [if_neg h]) ?_
    have hne : (both s t == 0) = false := beq_eq_false_iff_ne.2 h
    clear h hs ht htab
    generalize chk s.data.toList = c at *
    generalize chk t.data.toList = d at *
    obtain ⟨k, HK⟩ : ∃ k, Hid (firstE [c, d] = k) := ⟨_, rfl⟩
    rw [hb, HK.out] at hne ⊢
    clear hb
    intro w hg
    have HG := Lib.hid hg; clear hg
    go_enter Tryz.func12, Tryz.ntmps12
    go_wp2_with fail
    refine (C1.out _ HG.out).mono ?_
    rintro e w1 ⟨rfl, hg⟩
    replace HG := Lib.hid hg; clear hg
    go_wp2_with fail
    refine (C2.out _ HG.out).mono ?_
    rintro e w1 ⟨rfl, hg⟩
    replace HG := Lib.hid hg; clear hg
    go_wp2_with fail
    refine (first_in2 c d _ _ w1 ((Gr.refl w1).alloc _) ?_ ?_).mono ?_
    · exact (cell_new2 w1 _ _ _).1
    · exact (cell_new2 w1 _ _ _).2
    rintro e w1 ⟨rfl, hg⟩
    replace HG := Lib.hid (Gr.trans HG.out hg); clear hg
    rw [HK.out]
    go_wp2
    go_ret2
    exact ⟨rfl, HG.out⟩
set_option maxHeartbeats 1000000 in
set_option maxRecDepth 100000 in
theorem ret_QWhole {n : Int} (h1 : -9223372036854775808 ≤ n) (h2 : n ≤ 9223372036854775807) : Ret w0 16 #[.int .i64 n] (.string (Tx n)) := by
  have C1 := Lib.hid (ret_Of htab h1 h2)
  clear htab
  generalize Tx n = s at *
  intro w hg
  have HG := Lib.hid hg; clear hg
  go_enter Tryz.func16, Tryz.ntmps16
  go_wp2_with fail
  refine (C1.out _ HG.out).mono ?_
  rintro e w1 ⟨rfl, hg⟩
  replace HG := Lib.hid hg; clear hg
  go_wp2
  go_ret
  exact ⟨rfl, HG.out⟩
set_option maxHeartbeats 1000000 in
set_option maxRecDepth 100000 in
theorem ret_QPart {n d : Int} (h1 : -9223372036854775808 ≤ n) (h2 : n ≤ 9223372036854775807) (h3 : -9223372036854775808 ≤ d) (h4 : d ≤ 9223372036854775807) : Ret w0 14 #[.int .i64 n, .int .i64 d] (vSI (partR n d)) := by
  have C1 := Lib.hid (ret_Of htab h1 h2)
  have C2 := Lib.hid (ret_Of htab h3 h4)
  have C := ret_QOf htab (s := Tx n) (t := Tx d) (by have := (sm_int h1 h2).size; omega) (by have := (sm_int h3 h4).size; omega)
  rw [partR_eq h1 h2 h3 h4] at C
  obtain ⟨p, hp⟩ : ∃ p, p = partR n d := ⟨_, rfl⟩
  rw [← hp] at C ⊢
  obtain ⟨p1, p2⟩ := p
  have C3 := Lib.hid (Ret.si C rfl)
  refine Ret.toSI rfl ?_
  clear C hp htab
  generalize Tx n = s at *
  generalize Tx d = t at *
  intro w hg
  have HG := Lib.hid hg; clear hg
  go_enter Tryz.func14, Tryz.ntmps14
  go_wp2_with fail
  refine (C1.out _ HG.out).mono ?_
  rintro e w1 ⟨rfl, hg⟩
  replace HG := Lib.hid hg; clear hg
  go_wp2_with fail
  refine (C2.out _ HG.out).mono ?_
  rintro e w1 ⟨rfl, hg⟩
  replace HG := Lib.hid hg; clear hg
  go_wp2_with fail
  refine (C3.out _ HG.out).mono ?_
  rintro e w1 ⟨rfl, hg⟩
  replace HG := Lib.hid hg; clear hg
  go_wp2
  go_ret2
  exact ⟨rfl, HG.out⟩
include hmx
set_option maxHeartbeats 1000000 in
set_option maxRecDepth 100000 in
theorem ret_QCompare {s t : ByteArray} (hs : s.size ≤ 400000) (ht : t.size ≤ 400000) : Ret w0 31 #[.string s, .string t] (vII (cmp2 s t)) := by
  rcases both2_cases s t with h | ⟨a, b, rfl, rfl, ha, hb⟩
  · have C1 := Lib.hid (retG_readBoth htab hmx hs ht).ret
    refine Ret.toII (cmp2_err h) ?_
    have hne : (both2 s t == 0) = false := beq_eq_false_iff_ne.2 h
    clear h hs ht htab hmx
    generalize both2 s t = c at *
    generalize rT s = p at *
    generalize rB s = q at *
    generalize rT t = r at *
    generalize rB t = u at *
    intro w hg
    have HG := Lib.hid hg; clear hg
    go_enter Tryz.func31, Tryz.ntmps31
    go_wp2_with fail
    refine (C1.out _ HG.out).mono ?_
    rintro e w1 ⟨rfl, hg⟩
    replace HG := Lib.hid hg; clear hg
    go_wp2
    go_ret2
    exact ⟨rfl, (HG.out.alloc _).alloc _⟩
  · have C1 := Lib.hid (retG_bothRT htab hmx ha hb).ret
    have X : Ret w0 71 #[vFr (Tx a.num) (Tx (a.den : Int)), vFr (Tx b.num) (Tx (b.den : Int))] (.tuple #[.string (longR (a.num * b.den)).1, .string (longR (b.num * a.den)).1, .int .i64 (timesE (a.num * b.den) (b.num * a.den))]) :=
      (q_cross (retG_Mul htab (lg_false.1 ha.num) (lg_false.1 hb.den)) (retG_Mul htab (lg_false.1 hb.num) (lg_false.1 ha.den))).ret
    have HF := cmp2_ok ha hb
    rcases times_cases (a.num * b.den) (b.num * a.den) with ⟨hE, hR⟩ | ⟨hE, hR, hN, hM, l1, l2⟩
    · rw [hE] at X
      have C2 := Lib.hid X
      rw [show crossL a b = true from hR] at HF
      refine Ret.toII HF ?_
      clear HF hE hR ha hb hs ht X htab hmx
      generalize Tx a.num = p at *
      generalize Tx (a.den : Int) = q at *
      generalize Tx b.num = r at *
      generalize Tx (b.den : Int) = u at *
      generalize RT a = s at *
      generalize RT b = t at *
      generalize (longR (a.num * b.den)).1 = l1 at *
      generalize (longR (b.num * a.den)).1 = l2 at *
      intro w hg
      have HG := Lib.hid hg; clear hg
      go_enter Tryz.func31, Tryz.ntmps31
      go_wp2_with fail
      refine (C1.out _ HG.out).mono ?_
      rintro e w1 ⟨rfl, hg⟩
      replace HG := Lib.hid hg; clear hg
      go_wp2_with fail
      refine (C2.out _ ((HG.out.alloc _).alloc _)).mono ?_
      rintro e w1 ⟨rfl, hg⟩
      replace HG := Lib.hid hg; clear hg
      go_wp2
      go_ret2
      exact ⟨rfl, HG.out⟩
    · rw [hE, hN, hM] at X
      have C2 := Lib.hid X
      have C3 := Lib.hid (ret_Compare (w0 := w0) (lg_false.1 l1) (lg_false.1 l2))
      rw [cmpQ_parts] at C3
      rw [show crossL a b = false from hR] at HF
      refine Ret.toII HF ?_
      clear HF hE hR ha hb hs ht X htab hmx hN hM l1 l2
      generalize cmpQ a b = c at *
      generalize Tx (a.num * b.den) = l1 at *
      generalize Tx (b.num * a.den) = l2 at *
      generalize Tx a.num = p at *
      generalize Tx (a.den : Int) = q at *
      generalize Tx b.num = r at *
      generalize Tx (b.den : Int) = u at *
      generalize RT a = s at *
      generalize RT b = t at *
      intro w hg
      have HG := Lib.hid hg; clear hg
      go_enter Tryz.func31, Tryz.ntmps31
      go_wp2_with fail
      refine (C1.out _ HG.out).mono ?_
      rintro e w1 ⟨rfl, hg⟩
      replace HG := Lib.hid hg; clear hg
      go_wp2_with fail
      refine (C2.out _ ((HG.out.alloc _).alloc _)).mono ?_
      rintro e w1 ⟨rfl, hg⟩
      replace HG := Lib.hid hg; clear hg
      go_wp2_with fail
      refine (C3.out _ HG.out).mono ?_
      rintro e w1 ⟨rfl, hg⟩
      replace HG := Lib.hid hg; clear hg
      go_wp2
      go_ret2
      exact ⟨rfl, HG.out⟩
set_option maxHeartbeats 1000000 in
set_option maxRecDepth 100000 in
theorem ret_QMin {s t : ByteArray} (hs : s.size ≤ 400000) (ht : t.size ≤ 400000) : Ret w0 42 #[.string s, .string t] (vSI (minR s t)) := by
  have C := ret_QCompare htab hmx hs ht
  obtain ⟨p, hp⟩ : ∃ p, p = cmp2 s t := ⟨_, rfl⟩
  by_cases h : (cmp2 s t).2 = 0
  · by_cases hc : (cmp2 s t).1 < 0
    · refine Ret.toSI (x := s) (e := 0) (by unfold minR; rw [if_pos h, if_pos hc]) ?_
      rw [← hp] at C h hc
      obtain ⟨p1, p2⟩ := p
      have C1 := Lib.hid (Ret.ii C rfl)
      simp only at h hc
      subst h
      clear C hp hs ht htab hmx
      intro w hg
      have HG := Lib.hid hg; clear hg
      go_enter Tryz.func42, Tryz.ntmps42
      go_wp2_with fail
      refine (C1.out _ HG.out).mono ?_
      rintro e w1 ⟨rfl, hg⟩
      replace HG := Lib.hid hg; clear hg
      go_wp2
      go_ret2
      exact ⟨rfl, HG.out⟩
    · refine Ret.toSI (x := t) (e := 0) (by unfold minR; rw [if_pos h, if_neg hc]) ?_
      rw [← hp] at C h hc
      obtain ⟨p1, p2⟩ := p
      have C1 := Lib.hid (Ret.ii C rfl)
      simp only at h hc
      subst h
      clear C hp hs ht htab hmx
      intro w hg
      have HG := Lib.hid hg; clear hg
      go_enter Tryz.func42, Tryz.ntmps42
      go_wp2_with fail
      refine (C1.out _ HG.out).mono ?_
      rintro e w1 ⟨rfl, hg⟩
      replace HG := Lib.hid hg; clear hg
      go_wp2
      go_ret2
      exact ⟨rfl, HG.out⟩
  · refine Ret.toSI (x := ⟨#[]⟩) (e := (cmp2 s t).2) (by unfold minR; rw [if_neg h]) ?_
    rw [← hp] at C h ⊢
    obtain ⟨p1, p2⟩ := p
    have C1 := Lib.hid (Ret.ii C rfl)
    simp only at h ⊢
    have hne : (p2 == 0) = false := beq_eq_false_iff_ne.2 h
    clear C hp hs ht htab hmx h
    intro w hg
    have HG := Lib.hid hg; clear hg
    go_enter Tryz.func42, Tryz.ntmps42
    go_wp2_with fail
    refine (C1.out _ HG.out).mono ?_
    rintro e w1 ⟨rfl, hg⟩
    replace HG := Lib.hid hg; clear hg
    go_wp2
    go_ret2
    exact ⟨rfl, HG.out⟩
set_option maxHeartbeats 1000000 in
set_option maxRecDepth 100000 in
theorem ret_QMax {s t : ByteArray} (hs : s.size ≤ 400000) (ht : t.size ≤ 400000) : Ret w0 43 #[.string s, .string t] (vSI (maxR s t)) := by
  have C := ret_QCompare htab hmx hs ht
  obtain ⟨p, hp⟩ : ∃ p, p = cmp2 s t := ⟨_, rfl⟩
  by_cases h : (cmp2 s t).2 = 0
  · by_cases hc : 0 < (cmp2 s t).1
    · refine Ret.toSI (x := s) (e := 0) (by unfold maxR; rw [if_pos h, if_pos hc]) ?_
      rw [← hp] at C h hc
      obtain ⟨p1, p2⟩ := p
      have C1 := Lib.hid (Ret.ii C rfl)
      simp only at h hc
      subst h
      clear C hp hs ht htab hmx
      intro w hg
      have HG := Lib.hid hg; clear hg
      go_enter Tryz.func43, Tryz.ntmps43
      go_wp2_with fail
      refine (C1.out _ HG.out).mono ?_
      rintro e w1 ⟨rfl, hg⟩
      replace HG := Lib.hid hg; clear hg
      go_wp2
      go_ret2
      exact ⟨rfl, HG.out⟩
    · refine Ret.toSI (x := t) (e := 0) (by unfold maxR; rw [if_pos h, if_neg hc]) ?_
      rw [← hp] at C h hc
      obtain ⟨p1, p2⟩ := p
      have C1 := Lib.hid (Ret.ii C rfl)
      simp only at h hc
      subst h
      clear C hp hs ht htab hmx
      intro w hg
      have HG := Lib.hid hg; clear hg
      go_enter Tryz.func43, Tryz.ntmps43
      go_wp2_with fail
      refine (C1.out _ HG.out).mono ?_
      rintro e w1 ⟨rfl, hg⟩
      replace HG := Lib.hid hg; clear hg
      go_wp2
      go_ret2
      exact ⟨rfl, HG.out⟩
  · refine Ret.toSI (x := ⟨#[]⟩) (e := (cmp2 s t).2) (by unfold maxR; rw [if_neg h]) ?_
    rw [← hp] at C h ⊢
    obtain ⟨p1, p2⟩ := p
    have C1 := Lib.hid (Ret.ii C rfl)
    simp only at h ⊢
    have hne : (p2 == 0) = false := beq_eq_false_iff_ne.2 h
    clear C hp hs ht htab hmx h
    intro w hg
    have HG := Lib.hid hg; clear hg
    go_enter Tryz.func43, Tryz.ntmps43
    go_wp2_with fail
    refine (C1.out _ HG.out).mono ?_
    rintro e w1 ⟨rfl, hg⟩
    replace HG := Lib.hid hg; clear hg
    go_wp2
    go_ret2
    exact ⟨rfl, HG.out⟩
set_option maxHeartbeats 1000000 in
set_option maxRecDepth 100000 in
theorem ret_QFloor {s : ByteArray} (hs : s.size ≤ 400000) : Ret w0 32 #[.string s] (vSI (floorR s)) := by
  rcases chkS_cases s with h | ⟨a, rfl, ha⟩
  · have C1 := Lib.hid (retG_read htab hmx hs).ret
    refine Ret.toSI (x := ⟨#[]⟩) (e := chkS s) (by unfold floorR; rw [if_neg h]) ?_
    have hne : (chkS s == 0) = false := beq_eq_false_iff_ne.2 h
    clear h hs htab hmx
    generalize chkS s = c at *
    generalize rT s = p at *
    generalize rB s = q at *
    intro w hg
    have HG := Lib.hid hg; clear hg
    go_enter Tryz.func32, Tryz.ntmps32
    go_wp2_with fail
    refine (C1.out _ HG.out).mono ?_
    rintro e w1 ⟨rfl, hg⟩
    replace HG := Lib.hid hg; clear hg
    go_wp2
    go_ret2
    exact ⟨rfl, HG.out.alloc _⟩
  · have C1 := Lib.hid (retG_read htab hmx hs).ret
    rw [rT_RT ha, rB_RT ha, chkS_RT ha] at C1
    have hf := (nearest_in ha).2.1
    rw [← floor_parts] at hf
    have C2 := Lib.hid (ret_Quo htab (lg_false.1 ha.num) (lg_false.1 ha.den) (den_ne a) (lg_false.1 hf))
    rw [floor_parts] at C2
    refine Ret.toSI (floorR_ok ha) ?_
    clear hf hs htab hmx ha
    generalize Tx a.floor = f at *
    generalize Tx a.num = p at *
    generalize Tx (a.den : Int) = q at *
    generalize RT a = s at *
    intro w hg
    have HG := Lib.hid hg; clear hg
    go_enter Tryz.func32, Tryz.ntmps32
    go_wp2_with fail
    refine (C1.out _ HG.out).mono ?_
    rintro e w1 ⟨rfl, hg⟩
    replace HG := Lib.hid hg; clear hg
    go_wp2_with fail
    refine (C2.out _ (HG.out.alloc _)).mono ?_
    rintro e w1 ⟨rfl, hg⟩
    replace HG := Lib.hid hg; clear hg
    go_wp2
    go_ret2
    exact ⟨rfl, HG.out⟩
set_option maxHeartbeats 2000000 in
set_option maxRecDepth 100000 in
theorem ret_QRound {s : ByteArray} (hs : s.size ≤ 400000) : Ret w0 33 #[.string s] (vSI (roundR s)) := by
  rcases chkS_cases s with h | ⟨a, rfl, ha⟩
  · have C1 := Lib.hid (retG_read htab hmx hs).ret
    refine Ret.toSI (x := ⟨#[]⟩) (e := chkS s) (by unfold roundR; rw [if_neg h]) ?_
    have hne : (chkS s == 0) = false := beq_eq_false_iff_ne.2 h
    clear h hs htab hmx
    generalize chkS s = c at *
    generalize rT s = p at *
    generalize rB s = q at *
    intro w hg
    have HG := Lib.hid hg; clear hg
    go_enter Tryz.func33, Tryz.ntmps33
    go_wp2_with fail
    refine (C1.out _ HG.out).mono ?_
    rintro e w1 ⟨rfl, hg⟩
    replace HG := Lib.hid hg; clear hg
    go_wp2
    go_ret2
    exact ⟨rfl, HG.out.alloc _⟩
  · have C1 := Lib.hid (retG_read htab hmx hs)
    rw [rT_RT ha, rB_RT ha, chkS_RT ha] at C1
    obtain ⟨hn, hf, hab, hre⟩ := nearest_in ha
    have hr := round_parts a
    have hf' := hf
    rw [← floor_parts] at hf
    have C2 := Lib.hid (retG_Quo htab (lg_false.1 ha.num) (lg_false.1 ha.den) (den_ne a) (lg_false.1 hf))
    have C3 := Lib.hid (retG_Rem htab (lg_false.1 ha.num) (lg_false.1 ha.den) (den_ne a) (lg_false.1 hre))
    have C4 := Lib.hid (ret_Sub htab (lg_false.1 ha.den) (lg_false.1 hre) (lg_false.1 hab))
    have C5 := Lib.hid (ret_Compare (w0 := w0) (lg_false.1 hre) (lg_false.1 hab))
    refine Ret.toSI (roundR_ok ha) ?_
    by_cases hlt : a.num.fmod a.den < a.den - a.num.fmod a.den
    · rw [if_pos hlt] at hr
      rw [cmpZ_lt hlt] at C5
      rw [hr]
      clear hn hf hf' hab hre hr hlt hs htab hmx ha
      generalize Tx (a.num.fdiv a.den) = f at *
      generalize Tx ((a.den : Int) - a.num.fmod a.den) = y at *
      generalize Tx (a.num.fmod a.den) = x at *
      generalize Tx a.num = p at *
      generalize Tx (a.den : Int) = q at *
      generalize RT a = s at *
      intro w hg
      have HG := Lib.hid hg; clear hg
      go_enter Tryz.func33, Tryz.ntmps33
      go_wp2_with fail
      refine (C1.out _ HG.out).mono ?_
      rintro e w1 ⟨rfl, hg⟩
      have HB := Lib.hid (FB.new w1 p q 64)
      replace HG := Lib.hid ((Gr.trans HG.out hg).alloc (oFr p q)); clear hg
      go_wp2_with fail
      refine (C2.out _ HG.out).mono ?_
      rintro e w2 ⟨rfl, hg⟩
      have hB := HB.out.gr hg
      replace HG := Lib.hid (Gr.trans HG.out hg); clear hg HB
      have HB := Lib.hid hB
      obtain ⟨k1, k2, -, -⟩ := id hB
      clear hB
      go_wp2_with fail
      refine (C3.out _ HG.out).mono ?_
      rintro e w3 ⟨rfl, hg⟩
      have hB := HB.out.gr hg
      replace HG := Lib.hid (Gr.trans HG.out hg); clear hg HB k1 k2
      obtain ⟨k1, k2, -, -⟩ := id hB
      clear hB
      go_wp2_with fail
      refine (C4.out _ HG.out).mono ?_
      rintro e w1 ⟨rfl, hg⟩
      replace HG := Lib.hid hg; clear hg k1 k2
      go_wp2_with fail
      refine (C5.out _ HG.out).mono ?_
      rintro e w1 ⟨rfl, hg⟩
      replace HG := Lib.hid hg; clear hg
      go_wp2
      go_ret2
      exact ⟨rfl, HG.out⟩
    · rw [if_neg hlt] at hr
      rw [hr] at hn
      have C6 := Lib.hid (ret_Add htab (lg_false.1 hf) (show In 1 from In.lit (by decide)) (lg_false.1 hn))
      rw [show Tx 1 = ⟨#[49]⟩ from Tx_one] at C6
      have hc : ¬ cmpZ (a.num.fmod a.den) (a.den - a.num.fmod a.den) < 0 := by unfold cmpZ; rw [if_neg hlt]; split <;> omega
      rw [hr]
      clear hn hf hf' hab hre hr hlt hs htab hmx ha
      generalize cmpZ (a.num.fmod a.den) (a.den - a.num.fmod a.den) = c at *
      generalize Tx (a.num.fdiv a.den + 1) = g at *
      generalize Tx (a.num.fdiv a.den) = f at *
      generalize Tx ((a.den : Int) - a.num.fmod a.den) = y at *
      generalize Tx (a.num.fmod a.den) = x at *
      generalize Tx a.num = p at *
      generalize Tx (a.den : Int) = q at *
      generalize RT a = s at *
      intro w hg
      have HG := Lib.hid hg; clear hg
      go_enter Tryz.func33, Tryz.ntmps33
      go_wp2_with fail
      refine (C1.out _ HG.out).mono ?_
      rintro e w1 ⟨rfl, hg⟩
      have HB := Lib.hid (FB.new w1 p q 64)
      replace HG := Lib.hid ((Gr.trans HG.out hg).alloc (oFr p q)); clear hg
      go_wp2_with fail
      refine (C2.out _ HG.out).mono ?_
      rintro e w2 ⟨rfl, hg⟩
      have hB := HB.out.gr hg
      replace HG := Lib.hid (Gr.trans HG.out hg); clear hg HB
      have HB := Lib.hid hB
      obtain ⟨k1, k2, -, -⟩ := id hB
      clear hB
      go_wp2_with fail
      refine (C3.out _ HG.out).mono ?_
      rintro e w3 ⟨rfl, hg⟩
      have hB := HB.out.gr hg
      replace HG := Lib.hid (Gr.trans HG.out hg); clear hg HB k1 k2
      obtain ⟨k1, k2, -, -⟩ := id hB
      clear hB
      go_wp2_with fail
      refine (C4.out _ HG.out).mono ?_
      rintro e w1 ⟨rfl, hg⟩
      replace HG := Lib.hid hg; clear hg k1 k2
      go_wp2_with fail
      refine (C5.out _ HG.out).mono ?_
      rintro e w1 ⟨rfl, hg⟩
      replace HG := Lib.hid hg; clear hg
      go_wp2_with fail
      refine (C6.out _ HG.out).mono ?_
      rintro e w1 ⟨rfl, hg⟩
      replace HG := Lib.hid hg; clear hg
      go_wp2
      go_ret2
      exact ⟨rfl, HG.out⟩
end
end Go.Proofs.YtjoipfiomeocoabGreatDoor
