/- The program's rational numbers: comparing, rounding, making. -/
import Derived.Test.YtjcneleacldfcabDoorRat17
set_option linter.unusedVariables false
set_option linter.unusedSimpArgs false
namespace Go.Proofs.YtjcneleacldfcabDoor
open Go.RowKit Go.Shelf
open Z

theorem partR_eq {n d : Int} (h1 : -9223372036854775808 ≤ n) (h2 : n ≤ 9223372036854775807) (h3 : -9223372036854775808 ≤ d) (h4 : d ≤ 9223372036854775807) : ofR (Tx n) (Tx d) = partR n d := by
  have i1 : In n := (sm_int h1 h2).in (by omega)
  have i2 : In d := (sm_int h3 h4).in (by omega)
  unfold ofR partR
  rw [if_pos (i1.both i2), data_Tx, data_Tx, ival_itoa, ival_itoa]
section
variable {w0 : World} (htab : Tab w0) (hmx : Mx w0)
include htab
theorem retG_Quo {a b : Int} (ha : In a) (hb : In b) (h0 : b ≠ 0) (hr : In (a.fdiv b)) : RetG w0 6 #[.string (Tx a), .string (Tx b)] (.tuple #[.string (Tx (a.fdiv b)), .int .i64 0]) := fun w hg => by
  have H := i_Quo (Tx a) (Tx b) w ha.len hb.len (htab_gr htab hg)
  rw [opR_Tx ha hb, if_neg h0, longR_in hr] at H; exact H
theorem retG_Rem {a b : Int} (ha : In a) (hb : In b) (h0 : b ≠ 0) (hr : In (a.fmod b)) : RetG w0 7 #[.string (Tx a), .string (Tx b)] (.tuple #[.string (Tx (a.fmod b)), .int .i64 0]) := fun w hg => by
  have H := i_Rem (Tx a) (Tx b) w ha.len hb.len (htab_gr htab hg)
  rw [opR_Tx ha hb, if_neg h0, longR_in hr] at H; exact H
set_option maxHeartbeats 1000000 in
set_option maxRecDepth 100000 in
theorem ret_QOf {s t : ByteArray} (hs : s.size ≤ 400000) (ht : t.size ≤ 400000) : Ret w0 8 #[.string s, .string t] (vSI (ofR s t)) := by
  have C1 := Lib.hid (ret_Check (w0 := w0) (ba_len hs))
  have C2 := Lib.hid (ret_Check (w0 := w0) (ba_len ht))
  have hb : both s t = firstE [chk s.data.toList, chk t.data.toList] := by rw [first2]; rfl
  by_cases h : both s t = 0
  · obtain ⟨h1, h2⟩ := both_zero h
    obtain ⟨f1, l1⟩ := chk_zeroF h1
    obtain ⟨f2, l2⟩ := chk_zeroF h2
    have e1 := Tx_ival s f1
    have e2 := Tx_ival t f2
    have i1 : In (ival s.data.toList) := by unfold In; rw [← body_nd f1]; exact l1
    have i2 : In (ival t.data.toList) := by unfold In; rw [← body_nd f2]; exact l2
    have is0 := is0_form f2
    rw [h1] at C1
    rw [h2] at C2
    by_cases h0 : ival t.data.toList = 0
    · refine Ret.toSI (x := ⟨#[]⟩) (e := 15) (by unfold ofR; rw [if_pos h, if_pos h0]) ?_
      rw [decide_eq_true h0] at is0
      clear h hb h1 h2 f1 l1 f2 l2 e1 e2 i1 i2 h0 hs ht htab
      intro w hg
      have HG := Lib.hid hg; clear hg
      go_enter Tryd.func8, Tryd.ntmps8
      go_wp2_with fail
      refine (C1.out _ HG.out).mono ?_
      rintro e w1 ⟨rfl, hg⟩
      replace HG := Lib.hid hg; clear hg
      go_wp2_with fail
      refine (C2.out _ HG.out).mono ?_
      rintro e w1 ⟨rfl, hg⟩
      replace HG := Lib.hid hg; clear hg
      go_wp2_with fail
      refine (first_in2 0 0 _ _ w1 ((Gr.refl w1).alloc _) ?_ ?_).mono ?_
      · exact (cell_new2 w1 _ _ _).1
      · exact (cell_new2 w1 _ _ _).2
      rintro e w1 ⟨rfl, hg⟩
      replace HG := Lib.hid (Gr.trans HG.out hg); clear hg
      rw [show firstE [0, 0] = 0 from rfl]
      go_wp2
      go_ret2
      exact ⟨rfl, HG.out⟩
    · have HF : ofR s t = (RT (Rat.divInt (ival s.data.toList) (ival t.data.toList)), 0) := by unfold ofR; rw [if_pos h, if_neg h0]
      have C3 := Lib.hid (retG_write htab (lg_false.2 i1) (lg_false.2 i2) h0).ret
      rw [e1, e2] at C3
      refine Ret.toSI HF ?_
      rw [decide_eq_false h0] at is0
      clear h hb h1 h2 f1 l1 f2 l2 e1 e2 i1 i2 h0 hs ht htab HF
      generalize RT (Rat.divInt (ival s.data.toList) (ival t.data.toList)) = r at *
      intro w hg
      have HG := Lib.hid hg; clear hg
      go_enter Tryd.func8, Tryd.ntmps8
      go_wp2_with fail
      refine (C1.out _ HG.out).mono ?_
      rintro e w1 ⟨rfl, hg⟩
      replace HG := Lib.hid hg; clear hg
      go_wp2_with fail
      refine (C2.out _ HG.out).mono ?_
      rintro e w1 ⟨rfl, hg⟩
      replace HG := Lib.hid hg; clear hg
      go_wp2_with fail
      refine (first_in2 0 0 _ _ w1 ((Gr.refl w1).alloc _) ?_ ?_).mono ?_
      · exact (cell_new2 w1 _ _ _).1
      · exact (cell_new2 w1 _ _ _).2
      rintro e w1 ⟨rfl, hg⟩
      replace HG := Lib.hid (Gr.trans HG.out hg); clear hg
      rw [show firstE [0, 0] = 0 from rfl]
      go_wp2_with fail
      refine (C3.out _ HG.out).mono ?_
      rintro e w1 ⟨rfl, hg⟩
      replace HG := Lib.hid hg; clear hg
      go_wp2
      go_ret2
      exact ⟨rfl, HG.out⟩
  · refine Ret.toSI (x := ⟨#[]⟩) (e := both s t) (by unfold ofR; rw [if_neg h]) ?_
    have hne : (both s t == 0) = false := beq_eq_false_iff_ne.2 h
    clear h hs ht htab
    generalize chk s.data.toList = c at *
    generalize chk t.data.toList = d at *
    obtain ⟨k, HK⟩ : ∃ k, Hid (firstE [c, d] = k) := ⟨_, rfl⟩
    rw [hb, HK.out] at hne ⊢
    clear hb
    intro w hg
    have HG := Lib.hid hg; clear hg
    go_enter Tryd.func8, Tryd.ntmps8
    go_wp2_with fail
    refine (C1.out _ HG.out).mono ?_
    rintro e w1 ⟨rfl, hg⟩
    replace HG := Lib.hid hg; clear hg
    go_wp2_with fail
    refine (C2.out _ HG.out).mono ?_
    rintro e w1 ⟨rfl, hg⟩
    replace HG := Lib.hid hg; clear hg
    go_wp2_with fail
    refine (first_in2 c d _ _ w1 ((Gr.refl w1).alloc _) ?_ ?_).mono ?_
    · exact (cell_new2 w1 _ _ _).1
    · exact (cell_new2 w1 _ _ _).2
    rintro e w1 ⟨rfl, hg⟩
    replace HG := Lib.hid (Gr.trans HG.out hg); clear hg
    rw [HK.out]
    go_wp2
    go_ret2
    exact ⟨rfl, HG.out⟩
include hmx
set_option maxHeartbeats 1000000 in
set_option maxRecDepth 100000 in
theorem ret_QFloor {s : ByteArray} (hs : s.size ≤ 400000) : Ret w0 9 #[.string s] (vSI (floorR s)) := by
  rcases chkS_cases s with h | ⟨a, rfl, ha⟩
  · have C1 := Lib.hid (retG_read htab hmx hs).ret
    refine Ret.toSI (x := ⟨#[]⟩) (e := chkS s) (by unfold floorR; rw [if_neg h]) ?_
    have hne : (chkS s == 0) = false := beq_eq_false_iff_ne.2 h
    clear h hs htab hmx
    generalize chkS s = c at *
    generalize rT s = p at *
    generalize rB s = q at *
    intro w hg
    have HG := Lib.hid hg; clear hg
    go_enter Tryd.func9, Tryd.ntmps9
    go_wp2_with fail
    refine (C1.out _ HG.out).mono ?_
    rintro e w1 ⟨rfl, hg⟩
    replace HG := Lib.hid hg; clear hg
    go_wp2
    go_ret2
    exact ⟨rfl, HG.out.alloc _⟩
  · have C1 := Lib.hid (retG_read htab hmx hs).ret
    rw [rT_RT ha, rB_RT ha, chkS_RT ha] at C1
    have hf := (nearest_in ha).2.1
    rw [← floor_parts] at hf
    have C2 := Lib.hid (ret_Quo htab (lg_false.1 ha.num) (lg_false.1 ha.den) (den_ne a) (lg_false.1 hf))
    rw [floor_parts] at C2
    refine Ret.toSI (floorR_ok ha) ?_
    clear hf hs htab hmx ha
    generalize Tx a.floor = f at *
    generalize Tx a.num = p at *
    generalize Tx (a.den : Int) = q at *
    generalize RT a = s at *
    intro w hg
    have HG := Lib.hid hg; clear hg
    go_enter Tryd.func9, Tryd.ntmps9
    go_wp2_with fail
    refine (C1.out _ HG.out).mono ?_
    rintro e w1 ⟨rfl, hg⟩
    replace HG := Lib.hid hg; clear hg
    go_wp2_with fail
    refine (C2.out _ (HG.out.alloc _)).mono ?_
    rintro e w1 ⟨rfl, hg⟩
    replace HG := Lib.hid hg; clear hg
    go_wp2
    go_ret2
    exact ⟨rfl, HG.out⟩
end
end Go.Proofs.YtjcneleacldfcabDoor
