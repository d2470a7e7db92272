/- RatF: Rat19, Rat20, Rat21, joined. -/
import Derived.Test.YtlbnibicehpobaaGreatDoorRatE
set_option linter.unusedVariables false
set_option linter.unusedSimpArgs false

/- The program's rational numbers: comparing, rounding, making. -/
namespace Go.Proofs.YtlbnibicehpobaaGreatDoor
open Go.RowKit Go.Shelf
open Z

theorem partR_eq {n d : Int} (h1 : -9223372036854775808 ≤ n) (h2 : n ≤ 9223372036854775807) (h3 : -9223372036854775808 ≤ d) (h4 : d ≤ 9223372036854775807) : ofR (Tx n) (Tx d) = partR n d := by
  have i1 : In n := (sm_int h1 h2).in (by omega)
  have i2 : In d := (sm_int h3 h4).in (by omega)
  unfold ofR partR
  rw [if_pos (i1.both i2), data_Tx, data_Tx, ival_itoa, ival_itoa]
section
variable {w0 : World} (htab : Tab w0) (hmx : Mx w0)
include htab
theorem retG_Quo {a b : Int} (ha : In a) (hb : In b) (h0 : b ≠ 0) (hr : In (a.fdiv b)) : RetG w0 95 #[.string (Tx a), .string (Tx b)] (.tuple #[.string (Tx (a.fdiv b)), .int .i64 0]) := fun w hg => by
  have H := i_Quo (Tx a) (Tx b) w ha.len hb.len (htab_gr htab hg)
  rw [opR_Tx ha hb, if_neg h0, longR_in hr] at H; exact H
theorem retG_Rem {a b : Int} (ha : In a) (hb : In b) (h0 : b ≠ 0) (hr : In (a.fmod b)) : RetG w0 123 #[.string (Tx a), .string (Tx b)] (.tuple #[.string (Tx (a.fmod b)), .int .i64 0]) := fun w hg => by
  have H := i_Rem (Tx a) (Tx b) w ha.len hb.len (htab_gr htab hg)
  rw [opR_Tx ha hb, if_neg h0, longR_in hr] at H; exact H
set_option maxHeartbeats 1000000 in
set_option maxRecDepth 100000 in
theorem ret_QOf {s t : ByteArray} (hs : s.size ≤ 400000) (ht : t.size ≤ 400000) : Ret w0 108 #[.string s, .string t] (vSI (ofR s t)) := by
  have C1 := Lib.hid (ret_Check (w0 := w0) (ba_len hs))
  have C2 := Lib.hid (ret_Check (w0 := w0) (ba_len ht))
  have hb : both s t = firstE [chk s.data.toList, chk t.data.toList] := by rw [first2]; rfl
  by_cases h : both s t = 0
  · obtain ⟨h1, h2⟩ := both_zero h
    obtain ⟨f1, l1⟩ := chk_zeroF h1
    obtain ⟨f2, l2⟩ := chk_zeroF h2
    have e1 := Tx_ival s f1
    have e2 := Tx_ival t f2
    have i1 : In (ival s.data.toList) := by unfold In; rw [← body_nd f1]; exact l1
    have i2 : In (ival t.data.toList) := by unfold In; rw [← body_nd f2]; exact l2
    have is0 := is0_form f2
    rw [h1] at C1
    rw [h2] at C2
    by_cases h0 : ival t.data.toList = 0
    · refine Ret.toSI (x := ⟨#[]⟩) (e := 15) (by unfold ofR; rw [if_pos h, if_pos h0]) ?_
      rw [decide_eq_true h0] at is0
      clear h hb h1 h2 f1 l1 f2 l2 e1 e2 i1 i2 h0 hs ht htab
      intro w hg
      have HG := Lib.hid hg; clear hg
      go_enter Tryz.func108, Tryz.ntmps108
      go_wp2_with fail
      refine (C1.out _ HG.out).mono ?_
      rintro e w1 ⟨rfl, hg⟩
      replace HG := Lib.hid hg; clear hg
      go_wp2_with fail
      refine (C2.out _ HG.out).mono ?_
      rintro e w1 ⟨rfl, hg⟩
      replace HG := Lib.hid hg; clear hg
      go_wp2_with fail
      refine (first_in2 0 0 _ _ w1 ((Gr.refl w1).alloc _) ?_ ?_).mono ?_
      · exact (cell_new2 w1 _ _ _).1
      · exact (cell_new2 w1 _ _ _).2
      rintro e w1 ⟨rfl, hg⟩
      replace HG := Lib.hid (Gr.trans HG.out hg); clear hg
      rw [show firstE [0, 0] = 0 from rfl]
      go_wp2
      go_ret2
      exact ⟨rfl, HG.out⟩
    · have HF : ofR s t = (RT (Rat.divInt (ival s.data.toList) (ival t.data.toList)), 0) := by unfold ofR; rw [if_pos h, if_neg h0]
      have C3 := Lib.hid (retG_write htab (lg_false.2 i1) (lg_false.2 i2) h0).ret
      rw [e1, e2] at C3
      refine Ret.toSI HF ?_
      rw [decide_eq_false h0] at is0
      clear h hb h1 h2 f1 l1 f2 l2 e1 e2 i1 i2 h0 hs ht htab HF
      generalize RT (Rat.divInt (ival s.data.toList) (ival t.data.toList)) = r at *
      intro w hg
      have HG := Lib.hid hg; clear hg
      go_enter Tryz.func108, Tryz.ntmps108
      go_wp2_with fail
      refine (C1.out _ HG.out).mono ?_
      rintro e w1 ⟨rfl, hg⟩
      replace HG := Lib.hid hg; clear hg
      go_wp2_with fail
      refine (C2.out _ HG.out).mono ?_
      rintro e w1 ⟨rfl, hg⟩
      replace HG := Lib.hid hg; clear hg
      go_wp2_with fail
      refine (first_in2 0 0 _ _ w1 ((Gr.refl w1).alloc _) ?_ ?_).mono ?_
      · exact (cell_new2 w1 _ _ _).1
      · exact (cell_new2 w1 _ _ _).2
      rintro e w1 ⟨rfl, hg⟩
      replace HG := Lib.hid (Gr.trans HG.out hg); clear hg
      rw [show firstE [0, 0] = 0 from rfl]
      go_wp2_with fail
      refine (C3.out _ HG.out).mono ?_
      rintro e w1 ⟨rfl, hg⟩
      replace HG := Lib.hid hg; clear hg
      go_wp2
      go_ret2
      exact ⟨rfl, HG.out⟩
  · refine Ret.toSI (x := ⟨#[]⟩) (e := both s t) (by unfold ofR; rw [if_neg h]) ?_
    have hne : (both s t == 0) = false := beq_eq_false_iff_ne.2 h
    clear h hs ht htab
    generalize chk s.data.toList = c at *
    generalize chk t.data.toList = d at *
    obtain ⟨k, HK⟩ : ∃ k, Hid (firstE [c, d] = k) := ⟨_, rfl⟩
    rw [hb, HK.out] at hne ⊢
    clear hb
    intro w hg
    have HG := Lib.hid hg; clear hg
    go_enter Tryz.func108, Tryz.ntmps108
    go_wp2_with fail
    refine (C1.out _ HG.out).mono ?_
    rintro e w1 ⟨rfl, hg⟩
    replace HG := Lib.hid hg; clear hg
    go_wp2_with fail
    refine (C2.out _ HG.out).mono ?_
    rintro e w1 ⟨rfl, hg⟩
    replace HG := Lib.hid hg; clear hg
    go_wp2_with fail
    refine (first_in2 c d _ _ w1 ((Gr.refl w1).alloc _) ?_ ?_).mono ?_
    · exact (cell_new2 w1 _ _ _).1
    · exact (cell_new2 w1 _ _ _).2
    rintro e w1 ⟨rfl, hg⟩
    replace HG := Lib.hid (Gr.trans HG.out hg); clear hg
    rw [HK.out]
    go_wp2
    go_ret2
    exact ⟨rfl, HG.out⟩
set_option maxHeartbeats 1000000 in
set_option maxRecDepth 100000 in
theorem ret_QWhole {n : Int} (h1 : -9223372036854775808 ≤ n) (h2 : n ≤ 9223372036854775807) : Ret w0 92 #[.int .i64 n] (.string (Tx n)) := by
  have C1 := Lib.hid (ret_Of htab h1 h2)
  clear htab
  generalize Tx n = s at *
  intro w hg
  have HG := Lib.hid hg; clear hg
  go_enter Tryz.func92, Tryz.ntmps92
  go_wp2_with fail
  refine (C1.out _ HG.out).mono ?_
  rintro e w1 ⟨rfl, hg⟩
  replace HG := Lib.hid hg; clear hg
  go_wp2
  go_ret
  exact ⟨rfl, HG.out⟩
set_option maxHeartbeats 1000000 in
set_option maxRecDepth 100000 in
theorem ret_QPart {n d : Int} (h1 : -9223372036854775808 ≤ n) (h2 : n ≤ 9223372036854775807) (h3 : -9223372036854775808 ≤ d) (h4 : d ≤ 9223372036854775807) : Ret w0 98 #[.int .i64 n, .int .i64 d] (vSI (partR n d)) := by
  have C1 := Lib.hid (ret_Of htab h1 h2)
  have C2 := Lib.hid (ret_Of htab h3 h4)
  have C := ret_QOf htab (s := Tx n) (t := Tx d) (by have := (sm_int h1 h2).size; omega) (by have := (sm_int h3 h4).size; omega)
  rw [partR_eq h1 h2 h3 h4] at C
  obtain ⟨p, hp⟩ : ∃ p, p = partR n d := ⟨_, rfl⟩
  rw [← hp] at C ⊢
  obtain ⟨p1, p2⟩ := p
  have C3 := Lib.hid (Ret.si C rfl)
  refine Ret.toSI rfl ?_
  clear C hp htab
  generalize Tx n = s at *
  generalize Tx d = t at *
  intro w hg
  have HG := Lib.hid hg; clear hg
  go_enter Tryz.func98, Tryz.ntmps98
  go_wp2_with fail
  refine (C1.out _ HG.out).mono ?_
  rintro e w1 ⟨rfl, hg⟩
  replace HG := Lib.hid hg; clear hg
  go_wp2_with fail
  refine (C2.out _ HG.out).mono ?_
  rintro e w1 ⟨rfl, hg⟩
  replace HG := Lib.hid hg; clear hg
  go_wp2_with fail
  refine (C3.out _ HG.out).mono ?_
  rintro e w1 ⟨rfl, hg⟩
  replace HG := Lib.hid hg; clear hg
  go_wp2
  go_ret2
  exact ⟨rfl, HG.out⟩
include hmx
set_option maxHeartbeats 1000000 in
set_option maxRecDepth 100000 in
theorem ret_QFloor {s : ByteArray} (hs : s.size ≤ 400000) : Ret w0 69 #[.string s] (vSI (floorR s)) := by
  rcases chkS_cases s with h | ⟨a, rfl, ha⟩
  · have C1 := Lib.hid (retG_read htab hmx hs).ret
    refine Ret.toSI (x := ⟨#[]⟩) (e := chkS s) (by unfold floorR; rw [if_neg h]) ?_
    have hne : (chkS s == 0) = false := beq_eq_false_iff_ne.2 h
    clear h hs htab hmx
    generalize chkS s = c at *
    generalize rT s = p at *
    generalize rB s = q at *
    intro w hg
    have HG := Lib.hid hg; clear hg
    go_enter Tryz.func69, Tryz.ntmps69
    go_wp2_with fail
    refine (C1.out _ HG.out).mono ?_
    rintro e w1 ⟨rfl, hg⟩
    replace HG := Lib.hid hg; clear hg
    go_wp2
    go_ret2
    exact ⟨rfl, HG.out.alloc _⟩
  · have C1 := Lib.hid (retG_read htab hmx hs).ret
    rw [rT_RT ha, rB_RT ha, chkS_RT ha] at C1
    have hf := (nearest_in ha).2.1
    rw [← floor_parts] at hf
    have C2 := Lib.hid (ret_Quo htab (lg_false.1 ha.num) (lg_false.1 ha.den) (den_ne a) (lg_false.1 hf))
    rw [floor_parts] at C2
    refine Ret.toSI (floorR_ok ha) ?_
    clear hf hs htab hmx ha
    generalize Tx a.floor = f at *
    generalize Tx a.num = p at *
    generalize Tx (a.den : Int) = q at *
    generalize RT a = s at *
    intro w hg
    have HG := Lib.hid hg; clear hg
    go_enter Tryz.func69, Tryz.ntmps69
    go_wp2_with fail
    refine (C1.out _ HG.out).mono ?_
    rintro e w1 ⟨rfl, hg⟩
    replace HG := Lib.hid hg; clear hg
    go_wp2_with fail
    refine (C2.out _ (HG.out.alloc _)).mono ?_
    rintro e w1 ⟨rfl, hg⟩
    replace HG := Lib.hid hg; clear hg
    go_wp2
    go_ret2
    exact ⟨rfl, HG.out⟩
set_option maxHeartbeats 1000000 in
set_option maxRecDepth 100000 in
theorem ret_QNeg {s : ByteArray} (hs : s.size ≤ 400000) : Ret w0 74 #[.string s] (vSI (negR s)) := by
  have C := ret_QSub htab hmx (s := Tx 0) (t := s) (by rw [Tx_zero]; show 1 ≤ 400000; omega) hs
  have e : op2 (Tx 0) s subR = negR s := by
    rcases chkS_cases s with h | ⟨a, rfl, ha⟩
    · have z : chkS (Tx 0) = 0 := by rw [← RT_int]; exact chkS_RT ⟨by rw [Rat.num_intCast, Lib.nDigits_small (by decide)]; omega, by rw [Rat.den_intCast, Lib.nDigits_small (by decide)]; omega⟩
      have hb : both2 (Tx 0) s = chkS s := by unfold both2; rw [if_pos z]
      rw [op2_err (by rw [hb]; exact h), hb]; unfold negR; rw [if_neg h]
    · exact neg_sub0 ha
  rw [e, Tx_zero] at C
  obtain ⟨p, hp⟩ : ∃ p, p = negR s := ⟨_, rfl⟩
  rw [← hp] at C ⊢
  obtain ⟨p1, p2⟩ := p
  have C1 := Lib.hid (Ret.si C rfl)
  refine Ret.toSI rfl ?_
  clear C hp e hs htab hmx
  intro w hg
  have HG := Lib.hid hg; clear hg
  go_enter Tryz.func74, Tryz.ntmps74
  go_wp2_with fail
  refine (C1.out _ HG.out).mono ?_
  rintro e w1 ⟨rfl, hg⟩
  replace HG := Lib.hid hg; clear hg
  go_wp2
  go_ret2
  exact ⟨rfl, HG.out⟩
end
end Go.Proofs.YtlbnibicehpobaaGreatDoor

/- Mixing and clamping: the program and the reference. -/
namespace Go.Proofs.YtlbnibicehpobaaGreatDoor
open Go.RowKit Go.Shelf
open Z

/-- what an operation returns beside an error, and how long it is -/
theorem op2_shape {s t : ByteArray} {f : Rat → Rat → ByteArray × Int} (hf : ∀ a b, InR a → InR b → (f a b = (⟨#[]⟩, 23)) ∨ ∃ r, InR r ∧ f a b = (RT r, 0)) : (((op2 s t f).2 ≠ 0 ∧ (op2 s t f).1 = ⟨#[]⟩) ∨ (op2 s t f).2 = 0) ∧ (op2 s t f).1.size ≤ 400000 := by
  rcases both2_cases s t with h | ⟨a, b, rfl, rfl, ha, hb⟩
  · rw [op2_err h]; exact ⟨.inl ⟨h, rfl⟩, Nat.zero_le _⟩
  · rw [op2_ok ha hb]
    rcases hf a b ha hb with h | ⟨r, hr, h⟩
    · rw [h]; exact ⟨.inl ⟨by simp, rfl⟩, Nat.zero_le _⟩
    · rw [h]; exact ⟨.inr rfl, RT_small hr⟩
theorem addR_shape (a b : Rat) (_ : InR a) (_ : InR b) : (addR a b = (⟨#[]⟩, 23)) ∨ ∃ r, InR r ∧ addR a b = (RT r, 0) := by
  rcases add_join a b with ⟨_, h⟩ | ⟨_, h, _, _, l1, l2⟩
  · exact .inl h
  · exact .inr ⟨_, by rw [add_parts]; exact .divInt (dens_ne a b) l1 l2, h⟩
theorem subR_shape (a b : Rat) (_ : InR a) (_ : InR b) : (subR a b = (⟨#[]⟩, 23)) ∨ ∃ r, InR r ∧ subR a b = (RT r, 0) := by
  rcases sub_join a b with ⟨_, h⟩ | ⟨_, h, _, _, l1, l2⟩
  · exact .inl h
  · exact .inr ⟨_, by rw [sub_parts]; exact .divInt (dens_ne a b) l1 l2, h⟩
theorem mulR_shape (a b : Rat) (_ : InR a) (_ : InR b) : (mulR a b = (⟨#[]⟩, 23)) ∨ ∃ r, InR r ∧ mulR a b = (RT r, 0) := by
  unfold mulR
  rcases times_cases (a.num * b.num) ((a.den : Int) * b.den) with ⟨_, h⟩ | ⟨_, h, _, _, l1, l2⟩
  · left; rw [if_pos h]
  · right; exact ⟨a * b, by rw [mul_parts]; exact .divInt (dens_ne a b) l1 l2, by rw [if_neg (by rw [h]; simp)]⟩
theorem addR_size (s t : ByteArray) : (op2 s t addR).1.size ≤ 400000 := (op2_shape addR_shape).2
theorem subR_size (s t : ByteArray) : (op2 s t subR).1.size ≤ 400000 := (op2_shape subR_shape).2
theorem mulR_size (s t : ByteArray) : (op2 s t mulR).1.size ≤ 400000 := (op2_shape mulR_shape).2
theorem three_zero {a b c : Int} : firstE [a, b, c] = 0 ↔ a = 0 ∧ b = 0 ∧ c = 0 := by
  rw [first3]
  constructor
  · intro h; split at h
    · split at h
      · exact ⟨‹_›, ‹_›, h⟩
      · exact absurd h ‹_›
    · exact absurd h ‹_›
  · rintro ⟨rfl, rfl, rfl⟩; rfl
/-- mixing, by the two errors that the program asks for -/
theorem mixR_first {s t u : ByteArray} (h : firstE [chkS s, chkS t, chkS u] ≠ 0) : mixR s t u = (⟨#[]⟩, firstE [chkS s, chkS t, chkS u]) := by
  unfold mixR
  rw [first3] at h ⊢
  by_cases h1 : chkS s = 0
  · rw [if_pos h1] at h ⊢
    rw [if_neg (fun e => e h1)]
    by_cases h2 : chkS t = 0
    · rw [if_pos h2] at h ⊢
      rw [if_neg (fun e => e h2), if_pos h]
    · rw [if_neg h2, if_pos h2]
  · rw [if_neg h1, if_pos h1]
theorem mixR_then {s t u : ByteArray} (h : firstE [chkS s, chkS t, chkS u] = 0) (d m r : ByteArray × Int) (hd : op2 t s subR = d) (hm : op2 d.1 u mulR = m) (hr : op2 s m.1 addR = r) :
    mixR s t u = if firstE [d.2, m.2, r.2] = 0 then (r.1, 0) else (⟨#[]⟩, firstE [d.2, m.2, r.2]) := by
  obtain ⟨h1, h2, h3⟩ := three_zero.1 h
  unfold mixR
  rw [if_neg (fun e => e h1), if_neg (fun e => e h2), if_neg (fun e => e h3), hd, hm, hr, first3]
  by_cases e1 : d.2 = 0
  · rw [if_neg (fun e => e e1), if_pos e1]
    by_cases e2 : m.2 = 0
    · rw [if_neg (fun e => e e2), if_pos e2]
      by_cases e3 : r.2 = 0
      · rw [if_pos e3, ← e3]
      · rw [if_neg e3]
        have := (op2_shape (s := s) (t := m.1) addR_shape).1
        rw [hr] at this
        rcases this with ⟨_, h⟩ | h
        · rw [← h]
        · exact absurd h e3
    · rw [if_pos e2, if_neg e2, if_neg e2]
  · rw [if_pos e1, if_neg e1, if_neg e1]
section
variable {w0 : World}
end
section
variable {w0 : World} (htab : Tab w0) (hmx : Mx w0)
include htab hmx
end
end Go.Proofs.YtlbnibicehpobaaGreatDoor

/- Clamping: the program and the reference. -/
namespace Go.Proofs.YtlbnibicehpobaaGreatDoor
open Go.RowKit Go.Shelf
open Z

def isI (n : Int) : Prop := -9223372036854775808 ≤ n ∧ n ≤ 9223372036854775807
theorem isI.inR {n : Int} (h : isI n) : InR ((n : Int) : Rat) := by
  have := (sm_int h.1 h.2).in (by omega)
  exact ⟨by rw [Rat.num_intCast]; exact this, by rw [Rat.den_intCast, Lib.nDigits_small (by decide)]; omega⟩
theorem isI.size {n : Int} (h : isI n) : (Tx n).size ≤ 400000 := by have := (sm_int h.1 h.2).size; omega
section
variable {w0 : World}
theorem cmp2_lt {a : Rat} {n : Int} (ha : InR a) (hn : isI n) (h : (cmp2 (RT a) (Tx n)).2 = 0) : (cmp2 (RT a) (Tx n)).1 = cmpQ a (n : Rat) := by
  rw [← RT_int] at h ⊢
  rw [cmp2_ok ha hn.inR] at h ⊢
  split at h
  · cases h
  · rename_i hx; rw [if_neg hx]
theorem clamp_end {a : Rat} {low high : Int} : (if a < (low : Rat) then Tx low else if (high : Rat) < a then Tx high else RT a) = if cmpQ a (low : Rat) < 0 then Tx low else if 0 < cmpQ a (high : Rat) then Tx high else RT a := by
  have e1 : (cmpQ a (low : Rat) < 0) ↔ a < (low : Rat) := by
    rcases cmpQ_cases a (low : Rat) with ⟨h, e, _⟩ | ⟨h, e, _⟩ | ⟨h, e, _⟩
    · rw [e]; exact ⟨fun _ => h, fun _ => by omega⟩
    · rw [e]; exact ⟨fun x => by omega, fun x => by rw [h] at x; exact absurd x Rat.lt_irrefl⟩
    · rw [e]; exact ⟨fun x => by omega, fun x => absurd (Rat.le_of_lt h) (by rw [Rat.not_le]; exact x)⟩
  have e2 : (0 < cmpQ a (high : Rat)) ↔ (high : Rat) < a := by
    rcases cmpQ_cases a (high : Rat) with ⟨h, e, _⟩ | ⟨h, e, _⟩ | ⟨h, e, _⟩
    · rw [e]; exact ⟨fun x => by omega, fun x => absurd (Rat.le_of_lt h) (by rw [Rat.not_le]; exact x)⟩
    · rw [e]; exact ⟨fun x => by omega, fun x => by rw [h] at x; exact absurd x Rat.lt_irrefl⟩
    · rw [e]; exact ⟨fun _ => h, fun _ => by omega⟩
  by_cases h1 : a < (low : Rat)
  · rw [if_pos h1, if_pos (e1.2 h1)]
  · rw [if_neg h1, if_neg (fun h => h1 (e1.1 h))]
    by_cases h2 : (high : Rat) < a
    · rw [if_pos h2, if_pos (e2.2 h2)]
    · rw [if_neg h2, if_neg (fun h => h2 (e2.1 h))]
end
section
variable {w0 : World} (htab : Tab w0) (hmx : Mx w0)
include htab hmx
end
end Go.Proofs.YtlbnibicehpobaaGreatDoor
