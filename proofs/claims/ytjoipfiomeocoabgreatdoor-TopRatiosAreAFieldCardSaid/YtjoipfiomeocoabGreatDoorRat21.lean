/- Clamping: the program and the reference. -/
import Derived.Test.YtjoipfiomeocoabGreatDoorRat20
set_option linter.unusedVariables false
set_option linter.unusedSimpArgs false
namespace Go.Proofs.YtjoipfiomeocoabGreatDoor
open Go.RowKit Go.Shelf
open Z

def isI (n : Int) : Prop := -9223372036854775808 ≤ n ∧ n ≤ 9223372036854775807
theorem isI.inR {n : Int} (h : isI n) : InR ((n : Int) : Rat) := by
  have := (sm_int h.1 h.2).in (by omega)
  exact ⟨by rw [Rat.num_intCast]; exact this, by rw [Rat.den_intCast, Lib.nDigits_small (by decide)]; omega⟩
theorem isI.size {n : Int} (h : isI n) : (Tx n).size ≤ 400000 := by have := (sm_int h.1 h.2).size; omega
section
variable {w0 : World}
set_option maxHeartbeats 1000000 in
set_option maxRecDepth 100000 in
theorem ret_Within {a : Rat} {low high : Int} (ha : InR a) (hl : isI low) (hh : isI high) : Ret w0 66 #[.string (RT a), .int .i64 low, .int .i64 high] (.string (if a < (low : Rat) then Tx low else if (high : Rat) < a then Tx high else RT a)) := by
  have C1 := Lib.hid (ret_Whole2 (w0 := w0) hl.1 hl.2)
  have C2 := Lib.hid (ret_Whole2 (w0 := w0) hh.1 hh.2)
  have O := Lib.hid (ret_OrderR (w0 := w0) ha.sh hl.inR.sh (by omega) (by omega))
  have L := Lib.hid (ret_Least (w0 := w0) ha.sh hh.inR.sh (by omega) (by omega))
  rw [RT_int] at O L
  by_cases h : a < (low : Rat)
  · rw [if_pos h]
    rw [cmpQ_lt h] at O
    clear h ha hl hh L
    generalize RT a = s at *
    generalize Tx low = l at *
    intro w hg
    have HG := Lib.hid hg; clear hg
    go_enter Tryz.func66, Tryz.ntmps66
    go_wp2_with fail
    refine (C1.out _ HG.out).mono ?_
    rintro e w1 ⟨rfl, hg⟩
    replace HG := Lib.hid hg; clear hg
    go_wp2_with fail
    refine (O.out _ HG.out).mono ?_
    rintro e w1 ⟨rfl, hg⟩
    replace HG := Lib.hid hg; clear hg
    go_wp2_with fail
    refine (C1.out _ HG.out).mono ?_
    rintro e w1 ⟨rfl, hg⟩
    replace HG := Lib.hid hg; clear hg
    go_wp2
    go_ret
    exact ⟨rfl, HG.out⟩
  · rw [if_neg h]
    have hc : ¬ cmpQ a (low : Rat) < 0 := by rcases cmpQ_cases a (low : Rat) with ⟨h', _, _⟩ | ⟨_, e, _⟩ | ⟨_, e, _⟩ <;> first | exact absurd h' h | (rw [e]; omega)
    clear h ha hl hh
    generalize (if (high : Rat) < a then Tx high else RT a) = r at *
    generalize cmpQ a (low : Rat) = c at *
    generalize RT a = s at *
    generalize Tx low = l at *
    generalize Tx high = t at *
    intro w hg
    have HG := Lib.hid hg; clear hg
    go_enter Tryz.func66, Tryz.ntmps66
    go_wp2_with fail
    refine (C1.out _ HG.out).mono ?_
    rintro e w1 ⟨rfl, hg⟩
    replace HG := Lib.hid hg; clear hg
    go_wp2_with fail
    refine (O.out _ HG.out).mono ?_
    rintro e w1 ⟨rfl, hg⟩
    replace HG := Lib.hid hg; clear hg
    go_wp2_with fail
    refine (C2.out _ HG.out).mono ?_
    rintro e w1 ⟨rfl, hg⟩
    replace HG := Lib.hid hg; clear hg
    go_wp2_with fail
    refine (L.out _ HG.out).mono ?_
    rintro e w1 ⟨rfl, hg⟩
    replace HG := Lib.hid hg; clear hg
    go_wp2
    go_ret
    exact ⟨rfl, HG.out⟩
theorem cmp2_lt {a : Rat} {n : Int} (ha : InR a) (hn : isI n) (h : (cmp2 (RT a) (Tx n)).2 = 0) : (cmp2 (RT a) (Tx n)).1 = cmpQ a (n : Rat) := by
  rw [← RT_int] at h ⊢
  rw [cmp2_ok ha hn.inR] at h ⊢
  split at h
  · cases h
  · rename_i hx; rw [if_neg hx]
theorem clamp_end {a : Rat} {low high : Int} : (if a < (low : Rat) then Tx low else if (high : Rat) < a then Tx high else RT a) = if cmpQ a (low : Rat) < 0 then Tx low else if 0 < cmpQ a (high : Rat) then Tx high else RT a := by
  have e1 : (cmpQ a (low : Rat) < 0) ↔ a < (low : Rat) := by
    rcases cmpQ_cases a (low : Rat) with ⟨h, e, _⟩ | ⟨h, e, _⟩ | ⟨h, e, _⟩
    · rw [e]; exact ⟨fun _ => h, fun _ => by omega⟩
    · rw [e]; exact ⟨fun x => by omega, fun x => by rw [h] at x; exact absurd x Rat.lt_irrefl⟩
    · rw [e]; exact ⟨fun x => by omega, fun x => absurd (Rat.le_of_lt h) (by rw [Rat.not_le]; exact x)⟩
  have e2 : (0 < cmpQ a (high : Rat)) ↔ (high : Rat) < a := by
    rcases cmpQ_cases a (high : Rat) with ⟨h, e, _⟩ | ⟨h, e, _⟩ | ⟨h, e, _⟩
    · rw [e]; exact ⟨fun x => by omega, fun x => absurd (Rat.le_of_lt h) (by rw [Rat.not_le]; exact x)⟩
    · rw [e]; exact ⟨fun x => by omega, fun x => by rw [h] at x; exact absurd x Rat.lt_irrefl⟩
    · rw [e]; exact ⟨fun _ => h, fun _ => by omega⟩
  by_cases h1 : a < (low : Rat)
  · rw [if_pos h1, if_pos (e1.2 h1)]
  · rw [if_neg h1, if_neg (fun h => h1 (e1.1 h))]
    by_cases h2 : (high : Rat) < a
    · rw [if_pos h2, if_pos (e2.2 h2)]
    · rw [if_neg h2, if_neg (fun h => h2 (e2.1 h))]
set_option maxHeartbeats 1000000 in
set_option maxRecDepth 100000 in
theorem ret_Clamp2 {s : ByteArray} {low high : Int} (hs : s.size ≤ 400000) (hl : isI low) (hh : isI high) : Ret w0 26 #[.string s, .int .i64 low, .int .i64 high] (vSI (clampR s low high)) := by
  have C1 := Lib.hid (r2_Check (w0 := w0) s hs)
  have W1 := Lib.hid (ret_Whole2 (w0 := w0) hl.1 hl.2)
  have W2 := Lib.hid (ret_Whole2 (w0 := w0) hh.1 hh.2)
  have hl0 := hl.1
  have hl1 := hl.2
  have hh0 := hh.1
  have hh1 := hh.2
  rcases chkS_cases s with h | ⟨a, rfl, ha⟩
  · refine Ret.toSI (x := ⟨#[]⟩) (e := chkS s) (by unfold clampR; rw [if_pos h]) ?_
    have hne : (chkS s == 0) = false := beq_eq_false_iff_ne.2 h
    clear h hs hl hh
    generalize chkS s = c at *
    intro w hg
    have HG := Lib.hid hg; clear hg
    go_enter Tryz.func26, Tryz.ntmps26
    go_wp2_with fail
    refine (C1.out _ HG.out).mono ?_
    rintro e w1 ⟨rfl, hg⟩
    replace HG := Lib.hid hg; clear hg
    go_wp2
    go_ret2
    exact ⟨rfl, HG.out⟩
  · rw [chkS_RT ha] at C1
    by_cases hlt : high < low
    · refine Ret.toSI (x := ⟨#[]⟩) (e := 2) (by unfold clampR; rw [if_neg (fun e => e (chkS_RT ha)), if_pos hlt]) ?_
      clear hs hl hh ha W1 W2
      generalize RT a = s at *
      intro w hg
      have HG := Lib.hid hg; clear hg
      go_enter Tryz.func26, Tryz.ntmps26
      go_wp2_with fail
      refine (C1.out _ HG.out).mono ?_
      rintro e w1 ⟨rfl, hg⟩
      replace HG := Lib.hid hg; clear hg
      go_wp2
      go_ret2
      exact ⟨rfl, HG.out⟩
    · have hle : low ≤ high := by omega
      have D1 := ret_Compare2 (w0 := w0) hs hl.size
      have D2 := ret_Compare2 (w0 := w0) hs hh.size
      have E := ret_Within (w0 := w0) ha hl hh
      rw [clamp_end] at E
      have HF : clampR (RT a) low high = if (cmp2 (RT a) (Tx low)).2 ≠ 0 then (⟨#[]⟩, (cmp2 (RT a) (Tx low)).2) else if (cmp2 (RT a) (Tx high)).2 ≠ 0 then (⟨#[]⟩, (cmp2 (RT a) (Tx high)).2) else (if cmpQ a (low : Rat) < 0 then Tx low else if 0 < cmpQ a (high : Rat) then Tx high else RT a, 0) := by
        unfold clampR
        rw [if_neg (fun e => e (chkS_RT ha)), if_neg hlt]
        by_cases x1 : (cmp2 (RT a) (Tx low)).2 = 0
        · have n1 : ¬ (cmp2 (RT a) (Tx low)).2 ≠ 0 := fun e => e x1
          rw [if_neg n1, if_neg n1]
          by_cases x2 : (cmp2 (RT a) (Tx high)).2 = 0
          · have n2 : ¬ (cmp2 (RT a) (Tx high)).2 ≠ 0 := fun e => e x2
            rw [if_neg n2, if_neg n2, cmp2_lt ha hl x1, cmp2_lt ha hh x2]
            split
            · rfl
            · split <;> rfl
          · rw [if_pos x2, if_pos x2]
        · rw [if_pos x1, if_pos x1]
      generalize (if cmpQ a (low : Rat) < 0 then Tx low else if 0 < cmpQ a (high : Rat) then Tx high else RT a) = r at *
      obtain ⟨c, ec⟩ : ∃ c, c = cmp2 (RT a) (Tx low) := ⟨_, rfl⟩
      obtain ⟨d, ed⟩ : ∃ d, d = cmp2 (RT a) (Tx high) := ⟨_, rfl⟩
      rw [← ec] at D1 HF
      rw [← ed] at D2 HF
      obtain ⟨c1, c2⟩ := c
      obtain ⟨d1, d2⟩ := d
      simp only at HF
      replace D1 := Lib.hid (Ret.ii D1 rfl)
      replace D2 := Lib.hid (Ret.ii D2 rfl)
      have E' := Lib.hid E
      clear ec ed hs hl hh ha E hlt
      generalize RT a = s at *
      generalize Tx low = l at *
      generalize Tx high = t at *
      by_cases x1 : c2 = 0
      · rw [if_neg (fun e => e x1)] at HF
        by_cases x2 : d2 = 0
        · rw [if_neg (fun e => e x2)] at HF
          refine Ret.toSI HF ?_
          subst x1 x2
          clear HF
          intro w hg
          have HG := Lib.hid hg; clear hg
          go_enter Tryz.func26, Tryz.ntmps26
          go_wp2_with fail
          refine (C1.out _ HG.out).mono ?_
          rintro e w1 ⟨rfl, hg⟩
          replace HG := Lib.hid hg; clear hg
          go_wp2_with fail
          refine (W1.out _ HG.out).mono ?_
          rintro e w1 ⟨rfl, hg⟩
          replace HG := Lib.hid hg; clear hg
          go_wp2_with fail
          refine (D1.out _ HG.out).mono ?_
          rintro e w1 ⟨rfl, hg⟩
          replace HG := Lib.hid hg; clear hg
          go_wp2_with fail
          refine (W2.out _ HG.out).mono ?_
          rintro e w1 ⟨rfl, hg⟩
          replace HG := Lib.hid hg; clear hg
          go_wp2_with fail
          refine (D2.out _ HG.out).mono ?_
          rintro e w1 ⟨rfl, hg⟩
          replace HG := Lib.hid hg; clear hg
          go_wp2_with fail
          refine (E'.out _ HG.out).mono ?_
          rintro e w1 ⟨rfl, hg⟩
          replace HG := Lib.hid hg; clear hg
          go_wp2
          go_ret2
          exact ⟨rfl, HG.out⟩
        · rw [if_pos x2] at HF
          refine Ret.toSI HF ?_
          have hne : (d2 == 0) = false := beq_eq_false_iff_ne.2 x2
          subst x1
          clear HF x2 E'
          intro w hg
          have HG := Lib.hid hg; clear hg
          go_enter Tryz.func26, Tryz.ntmps26
          go_wp2_with fail
          refine (C1.out _ HG.out).mono ?_
          rintro e w1 ⟨rfl, hg⟩
          replace HG := Lib.hid hg; clear hg
          go_wp2_with fail
          refine (W1.out _ HG.out).mono ?_
          rintro e w1 ⟨rfl, hg⟩
          replace HG := Lib.hid hg; clear hg
          go_wp2_with fail
          refine (D1.out _ HG.out).mono ?_
          rintro e w1 ⟨rfl, hg⟩
          replace HG := Lib.hid hg; clear hg
          go_wp2_with fail
          refine (W2.out _ HG.out).mono ?_
          rintro e w1 ⟨rfl, hg⟩
          replace HG := Lib.hid hg; clear hg
          go_wp2_with fail
          refine (D2.out _ HG.out).mono ?_
          rintro e w1 ⟨rfl, hg⟩
          replace HG := Lib.hid hg; clear hg
          go_wp2
          go_ret2
          exact ⟨rfl, HG.out⟩
      · rw [if_pos x1] at HF
        refine Ret.toSI HF ?_
        have hne : (c2 == 0) = false := beq_eq_false_iff_ne.2 x1
        clear HF x1 E'
        intro w hg
        have HG := Lib.hid hg; clear hg
        go_enter Tryz.func26, Tryz.ntmps26
        go_wp2_with fail
        refine (C1.out _ HG.out).mono ?_
        rintro e w1 ⟨rfl, hg⟩
        replace HG := Lib.hid hg; clear hg
        go_wp2_with fail
        refine (W1.out _ HG.out).mono ?_
        rintro e w1 ⟨rfl, hg⟩
        replace HG := Lib.hid hg; clear hg
        go_wp2_with fail
        refine (D1.out _ HG.out).mono ?_
        rintro e w1 ⟨rfl, hg⟩
        replace HG := Lib.hid hg; clear hg
        go_wp2
        go_ret2
        exact ⟨rfl, HG.out⟩
end
section
variable {w0 : World} (htab : Tab w0) (hmx : Mx w0)
include htab hmx
set_option maxHeartbeats 2000000 in
set_option maxRecDepth 100000 in
theorem ret_QClamp {s : ByteArray} {low high : Int} (hs : s.size ≤ 400000) (hl : isI low) (hh : isI high) : Ret w0 25 #[.string s, .int .i64 low, .int .i64 high] (vSI (clampR s low high)) := by
  have C1 := Lib.hid (ret_QCheck htab hmx hs)
  have W1 := Lib.hid (ret_QWhole htab hl.1 hl.2)
  have W2 := Lib.hid (ret_QWhole htab hh.1 hh.2)
  have hl0 := hl.1
  have hl1 := hl.2
  have hh0 := hh.1
  have hh1 := hh.2
  by_cases h : chkS s = 0
  · rw [h] at C1
    by_cases hlt : high < low
    · refine Ret.toSI (x := ⟨#[]⟩) (e := 2) (by unfold clampR; rw [if_neg (fun e => e h), if_pos hlt]) ?_
      clear hs hl hh h W1 W2 htab hmx
      intro w hg
      have HG := Lib.hid hg; clear hg
      go_enter Tryz.func25, Tryz.ntmps25
      go_wp2_with fail
      refine (C1.out _ HG.out).mono ?_
      rintro e w1 ⟨rfl, hg⟩
      replace HG := Lib.hid hg; clear hg
      go_wp2
      go_ret2
      exact ⟨rfl, HG.out⟩
    · have hle : low ≤ high := by omega
      have D1 := ret_QCompare htab hmx hs hl.size
      have D2 := ret_QCompare htab hmx hs hh.size
      have HF : clampR s low high = if firstE [(cmp2 s (Tx low)).2, (cmp2 s (Tx high)).2] ≠ 0 then (⟨#[]⟩, firstE [(cmp2 s (Tx low)).2, (cmp2 s (Tx high)).2]) else if (cmp2 s (Tx low)).1 < 0 then (Tx low, 0) else if 0 < (cmp2 s (Tx high)).1 then (Tx high, 0) else (s, 0) := by
        unfold clampR
        rw [if_neg (fun e => e h), if_neg hlt, first2]
        by_cases x1 : (cmp2 s (Tx low)).2 = 0
        · rw [if_neg (fun e => e x1), if_pos x1]
        · rw [if_pos x1, if_neg x1, if_pos x1]
      obtain ⟨c, ec⟩ : ∃ c, c = cmp2 s (Tx low) := ⟨_, rfl⟩
      obtain ⟨d, ed⟩ : ∃ d, d = cmp2 s (Tx high) := ⟨_, rfl⟩
      rw [← ec] at D1 HF
      rw [← ed] at D2 HF
      obtain ⟨c1, c2⟩ := c
      obtain ⟨d1, d2⟩ := d
      simp only at HF
      replace D1 := Lib.hid (Ret.ii D1 rfl)
      replace D2 := Lib.hid (Ret.ii D2 rfl)
      obtain ⟨k, HK⟩ : ∃ k, Hid (firstE [c2, d2] = k) := ⟨_, rfl⟩
      rw [HK.out] at HF
      clear ec ed hs hl hh hlt htab hmx h
      generalize Tx low = l at *
      generalize Tx high = t at *
      by_cases x1 : k = 0
      · rw [if_neg (fun e => e x1)] at HF
        subst x1
        by_cases y1 : c1 < 0
        · rw [if_pos y1] at HF
          refine Ret.toSI HF ?_
          clear HF
          intro w hg
          have HG := Lib.hid hg; clear hg
          go_enter Tryz.func25, Tryz.ntmps25
          go_wp2_with fail
          refine (C1.out _ HG.out).mono ?_
          rintro e w1 ⟨rfl, hg⟩
          replace HG := Lib.hid hg; clear hg
          go_wp2_with fail
          refine (W1.out _ HG.out).mono ?_
          rintro e w1 ⟨rfl, hg⟩
          replace HG := Lib.hid hg; clear hg
          go_wp2_with fail
          refine (D1.out _ HG.out).mono ?_
          rintro e w1 ⟨rfl, hg⟩
          replace HG := Lib.hid hg; clear hg
          go_wp2_with fail
          refine (W2.out _ HG.out).mono ?_
          rintro e w1 ⟨rfl, hg⟩
          replace HG := Lib.hid hg; clear hg
          go_wp2_with fail
          refine (D2.out _ HG.out).mono ?_
          rintro e w1 ⟨rfl, hg⟩
          replace HG := Lib.hid hg; clear hg
          go_wp2_with fail
          refine (first_in2 c2 d2 _ _ w1 ((Gr.refl w1).alloc _) ?_ ?_).mono ?_
          · exact (cell_new2 w1 _ _ _).1
          · exact (cell_new2 w1 _ _ _).2
          rintro e w1 ⟨rfl, hg⟩
          replace HG := Lib.hid (Gr.trans HG.out hg); clear hg
          rw [HK.out]
          go_wp2_with fail
          refine (W1.out _ HG.out).mono ?_
          rintro e w1 ⟨rfl, hg⟩
          replace HG := Lib.hid hg; clear hg
          go_wp2
          go_ret2
          exact ⟨rfl, HG.out⟩
        · rw [if_neg y1] at HF
          by_cases y2 : 0 < d1
          · rw [if_pos y2] at HF
            refine Ret.toSI HF ?_
            clear HF
            intro w hg
            have HG := Lib.hid hg; clear hg
            go_enter Tryz.func25, Tryz.ntmps25
            go_wp2_with fail
            refine (C1.out _ HG.out).mono ?_
            rintro e w1 ⟨rfl, hg⟩
            replace HG := Lib.hid hg; clear hg
            go_wp2_with fail
            refine (W1.out _ HG.out).mono ?_
            rintro e w1 ⟨rfl, hg⟩
            replace HG := Lib.hid hg; clear hg
            go_wp2_with fail
            refine (D1.out _ HG.out).mono ?_
            rintro e w1 ⟨rfl, hg⟩
            replace HG := Lib.hid hg; clear hg
            go_wp2_with fail
            refine (W2.out _ HG.out).mono ?_
            rintro e w1 ⟨rfl, hg⟩
            replace HG := Lib.hid hg; clear hg
            go_wp2_with fail
            refine (D2.out _ HG.out).mono ?_
            rintro e w1 ⟨rfl, hg⟩
            replace HG := Lib.hid hg; clear hg
            go_wp2_with fail
            refine (first_in2 c2 d2 _ _ w1 ((Gr.refl w1).alloc _) ?_ ?_).mono ?_
            · exact (cell_new2 w1 _ _ _).1
            · exact (cell_new2 w1 _ _ _).2
            rintro e w1 ⟨rfl, hg⟩
            replace HG := Lib.hid (Gr.trans HG.out hg); clear hg
            rw [HK.out]
            go_wp2_with fail
            refine (W2.out _ HG.out).mono ?_
            rintro e w1 ⟨rfl, hg⟩
            replace HG := Lib.hid hg; clear hg
            go_wp2
            go_ret2
            exact ⟨rfl, HG.out⟩
          · rw [if_neg y2] at HF
            refine Ret.toSI HF ?_
            clear HF
            intro w hg
            have HG := Lib.hid hg; clear hg
            go_enter Tryz.func25, Tryz.ntmps25
            go_wp2_with fail
            refine (C1.out _ HG.out).mono ?_
            rintro e w1 ⟨rfl, hg⟩
            replace HG := Lib.hid hg; clear hg
            go_wp2_with fail
            refine (W1.out _ HG.out).mono ?_
            rintro e w1 ⟨rfl, hg⟩
            replace HG := Lib.hid hg; clear hg
            go_wp2_with fail
            refine (D1.out _ HG.out).mono ?_
            rintro e w1 ⟨rfl, hg⟩
            replace HG := Lib.hid hg; clear hg
            go_wp2_with fail
            refine (W2.out _ HG.out).mono ?_
            rintro e w1 ⟨rfl, hg⟩
            replace HG := Lib.hid hg; clear hg
            go_wp2_with fail
            refine (D2.out _ HG.out).mono ?_
            rintro e w1 ⟨rfl, hg⟩
            replace HG := Lib.hid hg; clear hg
            go_wp2_with fail
            refine (first_in2 c2 d2 _ _ w1 ((Gr.refl w1).alloc _) ?_ ?_).mono ?_
            · exact (cell_new2 w1 _ _ _).1
            · exact (cell_new2 w1 _ _ _).2
            rintro e w1 ⟨rfl, hg⟩
            replace HG := Lib.hid (Gr.trans HG.out hg); clear hg
            rw [HK.out]
            go_wp2
            go_ret2
            exact ⟨rfl, HG.out⟩
      · rw [if_pos x1] at HF
        refine Ret.toSI HF ?_
        have hne : (k == 0) = false := beq_eq_false_iff_ne.2 x1
        clear HF x1
        intro w hg
        have HG := Lib.hid hg; clear hg
        go_enter Tryz.func25, Tryz.ntmps25
        go_wp2_with fail
        refine (C1.out _ HG.out).mono ?_
        rintro e w1 ⟨rfl, hg⟩
        replace HG := Lib.hid hg; clear hg
        go_wp2_with fail
        refine (W1.out _ HG.out).mono ?_
        rintro e w1 ⟨rfl, hg⟩
        replace HG := Lib.hid hg; clear hg
        go_wp2_with fail
        refine (D1.out _ HG.out).mono ?_
        rintro e w1 ⟨rfl, hg⟩
        replace HG := Lib.hid hg; clear hg
        go_wp2_with fail
        refine (W2.out _ HG.out).mono ?_
        rintro e w1 ⟨rfl, hg⟩
        replace HG := Lib.hid hg; clear hg
        go_wp2_with fail
        refine (D2.out _ HG.out).mono ?_
        rintro e w1 ⟨rfl, hg⟩
        replace HG := Lib.hid hg; clear hg
        go_wp2_with fail
        refine (first_in2 c2 d2 _ _ w1 ((Gr.refl w1).alloc _) ?_ ?_).mono ?_
        · exact (cell_new2 w1 _ _ _).1
        · exact (cell_new2 w1 _ _ _).2
        rintro e w1 ⟨rfl, hg⟩
        replace HG := Lib.hid (Gr.trans HG.out hg); clear hg
        rw [HK.out]
        go_wp2
        go_ret2
        exact ⟨rfl, HG.out⟩
  · refine Ret.toSI (x := ⟨#[]⟩) (e := chkS s) (by unfold clampR; rw [if_pos h]) ?_
    have hne : (chkS s == 0) = false := beq_eq_false_iff_ne.2 h
    clear h hs hl hh W1 W2 htab hmx
    generalize chkS s = c at *
    intro w hg
    have HG := Lib.hid hg; clear hg
    go_enter Tryz.func25, Tryz.ntmps25
    go_wp2_with fail
    refine (C1.out _ HG.out).mono ?_
    rintro e w1 ⟨rfl, hg⟩
    replace HG := Lib.hid hg; clear hg
    go_wp2
    go_ret2
    exact ⟨rfl, HG.out⟩
end
end Go.Proofs.YtjoipfiomeocoabGreatDoor
