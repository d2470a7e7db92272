/- RatF: Rat19, Rat20, Rat21, joined. -/
import Derived.Test.YtjoipfiomeocoaaGreatDoorRatE
set_option linter.unusedVariables false
set_option linter.unusedSimpArgs false

/- The program's rational numbers: comparing, rounding, making. -/
namespace Go.Proofs.YtjoipfiomeocoaaGreatDoor
open Go.RowKit Go.Shelf
open Z

theorem partR_eq {n d : Int} (h1 : -9223372036854775808 ≤ n) (h2 : n ≤ 9223372036854775807) (h3 : -9223372036854775808 ≤ d) (h4 : d ≤ 9223372036854775807) : ofR (Tx n) (Tx d) = partR n d := by
  have i1 : In n := (sm_int h1 h2).in (by omega)
  have i2 : In d := (sm_int h3 h4).in (by omega)
  unfold ofR partR
  rw [if_pos (i1.both i2), data_Tx, data_Tx, ival_itoa, ival_itoa]
section
variable {w0 : World} (htab : Tab w0) (hmx : Mx w0)
include htab
theorem retG_Quo {a b : Int} (ha : In a) (hb : In b) (h0 : b ≠ 0) (hr : In (a.fdiv b)) : RetG w0 73 #[.string (Tx a), .string (Tx b)] (.tuple #[.string (Tx (a.fdiv b)), .int .i64 0]) := fun w hg => by
  have H := i_Quo (Tx a) (Tx b) w ha.len hb.len (htab_gr htab hg)
  rw [opR_Tx ha hb, if_neg h0, longR_in hr] at H; exact H
theorem retG_Rem {a b : Int} (ha : In a) (hb : In b) (h0 : b ≠ 0) (hr : In (a.fmod b)) : RetG w0 74 #[.string (Tx a), .string (Tx b)] (.tuple #[.string (Tx (a.fmod b)), .int .i64 0]) := fun w hg => by
  have H := i_Rem (Tx a) (Tx b) w ha.len hb.len (htab_gr htab hg)
  rw [opR_Tx ha hb, if_neg h0, longR_in hr] at H; exact H
set_option maxHeartbeats 1000000 in
set_option maxRecDepth 100000 in
theorem ret_QWhole {n : Int} (h1 : -9223372036854775808 ≤ n) (h2 : n ≤ 9223372036854775807) : Ret w0 106 #[.int .i64 n] (.string (Tx n)) := by
  have C1 := Lib.hid (ret_Of htab h1 h2)
  clear htab
  generalize Tx n = s at *
  intro w hg
  have HG := Lib.hid hg; clear hg
  go_enter Tryz.func106, Tryz.ntmps106
  go_wp2_with fail
  refine (C1.out _ HG.out).mono ?_
  rintro e w1 ⟨rfl, hg⟩
  replace HG := Lib.hid hg; clear hg
  go_wp2
  go_ret
  exact ⟨rfl, HG.out⟩
include hmx
set_option maxHeartbeats 1000000 in
set_option maxRecDepth 100000 in
theorem ret_QFloor {s : ByteArray} (hs : s.size ≤ 400000) : Ret w0 105 #[.string s] (vSI (floorR s)) := by
  rcases chkS_cases s with h | ⟨a, rfl, ha⟩
  · have C1 := Lib.hid (retG_read htab hmx hs).ret
    refine Ret.toSI (x := ⟨#[]⟩) (e := chkS s) (by unfold floorR; rw [if_neg h]) ?_
    have hne : (chkS s == 0) = false := beq_eq_false_iff_ne.2 h
    clear h hs htab hmx
    generalize chkS s = c at *
    generalize rT s = p at *
    generalize rB s = q at *
    intro w hg
    have HG := Lib.hid hg; clear hg
    go_enter Tryz.func105, Tryz.ntmps105
    go_wp2_with fail
    refine (C1.out _ HG.out).mono ?_
    rintro e w1 ⟨rfl, hg⟩
    replace HG := Lib.hid hg; clear hg
    go_wp2
    go_ret2
    exact ⟨rfl, HG.out.alloc _⟩
  · have C1 := Lib.hid (retG_read htab hmx hs).ret
    rw [rT_RT ha, rB_RT ha, chkS_RT ha] at C1
    have hf := (nearest_in ha).2.1
    rw [← floor_parts] at hf
    have C2 := Lib.hid (ret_Quo htab (lg_false.1 ha.num) (lg_false.1 ha.den) (den_ne a) (lg_false.1 hf))
    rw [floor_parts] at C2
    refine Ret.toSI (floorR_ok ha) ?_
    clear hf hs htab hmx ha
    generalize Tx a.floor = f at *
    generalize Tx a.num = p at *
    generalize Tx (a.den : Int) = q at *
    generalize RT a = s at *
    intro w hg
    have HG := Lib.hid hg; clear hg
    go_enter Tryz.func105, Tryz.ntmps105
    go_wp2_with fail
    refine (C1.out _ HG.out).mono ?_
    rintro e w1 ⟨rfl, hg⟩
    replace HG := Lib.hid hg; clear hg
    go_wp2_with fail
    refine (C2.out _ (HG.out.alloc _)).mono ?_
    rintro e w1 ⟨rfl, hg⟩
    replace HG := Lib.hid hg; clear hg
    go_wp2
    go_ret2
    exact ⟨rfl, HG.out⟩
set_option maxHeartbeats 2000000 in
set_option maxRecDepth 100000 in
theorem ret_QRound {s : ByteArray} (hs : s.size ≤ 400000) : Ret w0 50 #[.string s] (vSI (roundR s)) := by
  rcases chkS_cases s with h | ⟨a, rfl, ha⟩
  · have C1 := Lib.hid (retG_read htab hmx hs).ret
    refine Ret.toSI (x := ⟨#[]⟩) (e := chkS s) (by unfold roundR; rw [if_neg h]) ?_
    have hne : (chkS s == 0) = false := beq_eq_false_iff_ne.2 h
    clear h hs htab hmx
    generalize chkS s = c at *
    generalize rT s = p at *
    generalize rB s = q at *
    intro w hg
    have HG := Lib.hid hg; clear hg
    go_enter Tryz.func50, Tryz.ntmps50
    go_wp2_with fail
    refine (C1.out _ HG.out).mono ?_
    rintro e w1 ⟨rfl, hg⟩
    replace HG := Lib.hid hg; clear hg
    go_wp2
    go_ret2
    exact ⟨rfl, HG.out.alloc _⟩
  · have C1 := Lib.hid (retG_read htab hmx hs)
    rw [rT_RT ha, rB_RT ha, chkS_RT ha] at C1
    obtain ⟨hn, hf, hab, hre⟩ := nearest_in ha
    have hr := round_parts a
    have hf' := hf
    rw [← floor_parts] at hf
    have C2 := Lib.hid (retG_Quo htab (lg_false.1 ha.num) (lg_false.1 ha.den) (den_ne a) (lg_false.1 hf))
    have C3 := Lib.hid (retG_Rem htab (lg_false.1 ha.num) (lg_false.1 ha.den) (den_ne a) (lg_false.1 hre))
    have C4 := Lib.hid (ret_Sub htab (lg_false.1 ha.den) (lg_false.1 hre) (lg_false.1 hab))
    have C5 := Lib.hid (ret_Compare (w0 := w0) (lg_false.1 hre) (lg_false.1 hab))
    refine Ret.toSI (roundR_ok ha) ?_
    by_cases hlt : a.num.fmod a.den < a.den - a.num.fmod a.den
    · rw [if_pos hlt] at hr
      rw [cmpZ_lt hlt] at C5
      rw [hr]
      clear hn hf hf' hab hre hr hlt hs htab hmx ha
      generalize Tx (a.num.fdiv a.den) = f at *
      generalize Tx ((a.den : Int) - a.num.fmod a.den) = y at *
      generalize Tx (a.num.fmod a.den) = x at *
      generalize Tx a.num = p at *
      generalize Tx (a.den : Int) = q at *
      generalize RT a = s at *
      intro w hg
      have HG := Lib.hid hg; clear hg
      go_enter Tryz.func50, Tryz.ntmps50
      go_wp2_with fail
      refine (C1.out _ HG.out).mono ?_
      rintro e w1 ⟨rfl, hg⟩
      have HB := Lib.hid (FB.new w1 p q 86)
      replace HG := Lib.hid ((Gr.trans HG.out hg).alloc (oFr p q)); clear hg
      go_wp2_with fail
      refine (C2.out _ HG.out).mono ?_
      rintro e w2 ⟨rfl, hg⟩
      have hB := HB.out.gr hg
      replace HG := Lib.hid (Gr.trans HG.out hg); clear hg HB
      have HB := Lib.hid hB
      obtain ⟨k1, k2, -, -⟩ := id hB
      clear hB
      go_wp2_with fail
      refine (C3.out _ HG.out).mono ?_
      rintro e w3 ⟨rfl, hg⟩
      have hB := HB.out.gr hg
      replace HG := Lib.hid (Gr.trans HG.out hg); clear hg HB k1 k2
      obtain ⟨k1, k2, -, -⟩ := id hB
      clear hB
      go_wp2_with fail
      refine (C4.out _ HG.out).mono ?_
      rintro e w1 ⟨rfl, hg⟩
      replace HG := Lib.hid hg; clear hg k1 k2
      go_wp2_with fail
      refine (C5.out _ HG.out).mono ?_
      rintro e w1 ⟨rfl, hg⟩
      replace HG := Lib.hid hg; clear hg
      go_wp2
      go_ret2
      exact ⟨rfl, HG.out⟩
    · rw [if_neg hlt] at hr
      rw [hr] at hn
      have C6 := Lib.hid (ret_Add htab (lg_false.1 hf) (show In 1 from In.lit (by decide)) (lg_false.1 hn))
      rw [show Tx 1 = ⟨#[49]⟩ from Tx_one] at C6
      have hc : ¬ cmpZ (a.num.fmod a.den) (a.den - a.num.fmod a.den) < 0 := by unfold cmpZ; rw [if_neg hlt]; split <;> omega
      rw [hr]
      clear hn hf hf' hab hre hr hlt hs htab hmx ha
      generalize cmpZ (a.num.fmod a.den) (a.den - a.num.fmod a.den) = c at *
      generalize Tx (a.num.fdiv a.den + 1) = g at *
      generalize Tx (a.num.fdiv a.den) = f at *
      generalize Tx ((a.den : Int) - a.num.fmod a.den) = y at *
      generalize Tx (a.num.fmod a.den) = x at *
      generalize Tx a.num = p at *
      generalize Tx (a.den : Int) = q at *
      generalize RT a = s at *
      intro w hg
      have HG := Lib.hid hg; clear hg
      go_enter Tryz.func50, Tryz.ntmps50
      go_wp2_with fail
      refine (C1.out _ HG.out).mono ?_
      rintro e w1 ⟨rfl, hg⟩
      have HB := Lib.hid (FB.new w1 p q 86)
      replace HG := Lib.hid ((Gr.trans HG.out hg).alloc (oFr p q)); clear hg
      go_wp2_with fail
      refine (C2.out _ HG.out).mono ?_
      rintro e w2 ⟨rfl, hg⟩
      have hB := HB.out.gr hg
      replace HG := Lib.hid (Gr.trans HG.out hg); clear hg HB
      have HB := Lib.hid hB
      obtain ⟨k1, k2, -, -⟩ := id hB
      clear hB
      go_wp2_with fail
      refine (C3.out _ HG.out).mono ?_
      rintro e w3 ⟨rfl, hg⟩
      have hB := HB.out.gr hg
      replace HG := Lib.hid (Gr.trans HG.out hg); clear hg HB k1 k2
      obtain ⟨k1, k2, -, -⟩ := id hB
      clear hB
      go_wp2_with fail
      refine (C4.out _ HG.out).mono ?_
      rintro e w1 ⟨rfl, hg⟩
      replace HG := Lib.hid hg; clear hg k1 k2
      go_wp2_with fail
      refine (C5.out _ HG.out).mono ?_
      rintro e w1 ⟨rfl, hg⟩
      replace HG := Lib.hid hg; clear hg
      go_wp2_with fail
      refine (C6.out _ HG.out).mono ?_
      rintro e w1 ⟨rfl, hg⟩
      replace HG := Lib.hid hg; clear hg
      go_wp2
      go_ret2
      exact ⟨rfl, HG.out⟩
end
end Go.Proofs.YtjoipfiomeocoaaGreatDoor

/- Mixing and clamping: the program and the reference. -/
namespace Go.Proofs.YtjoipfiomeocoaaGreatDoor
open Go.RowKit Go.Shelf
open Z

/-- what an operation returns beside an error, and how long it is -/
theorem op2_shape {s t : ByteArray} {f : Rat → Rat → ByteArray × Int} (hf : ∀ a b, InR a → InR b → (f a b = (⟨#[]⟩, 23)) ∨ ∃ r, InR r ∧ f a b = (RT r, 0)) : (((op2 s t f).2 ≠ 0 ∧ (op2 s t f).1 = ⟨#[]⟩) ∨ (op2 s t f).2 = 0) ∧ (op2 s t f).1.size ≤ 400000 := by
  rcases both2_cases s t with h | ⟨a, b, rfl, rfl, ha, hb⟩
  · rw [op2_err h]; exact ⟨.inl ⟨h, rfl⟩, Nat.zero_le _⟩
  · rw [op2_ok ha hb]
    rcases hf a b ha hb with h | ⟨r, hr, h⟩
    · rw [h]; exact ⟨.inl ⟨by simp, rfl⟩, Nat.zero_le _⟩
    · rw [h]; exact ⟨.inr rfl, RT_small hr⟩
theorem addR_shape (a b : Rat) (_ : InR a) (_ : InR b) : (addR a b = (⟨#[]⟩, 23)) ∨ ∃ r, InR r ∧ addR a b = (RT r, 0) := by
  rcases add_join a b with ⟨_, h⟩ | ⟨_, h, _, _, l1, l2⟩
  · exact .inl h
  · exact .inr ⟨_, by rw [add_parts]; exact .divInt (dens_ne a b) l1 l2, h⟩
theorem subR_shape (a b : Rat) (_ : InR a) (_ : InR b) : (subR a b = (⟨#[]⟩, 23)) ∨ ∃ r, InR r ∧ subR a b = (RT r, 0) := by
  rcases sub_join a b with ⟨_, h⟩ | ⟨_, h, _, _, l1, l2⟩
  · exact .inl h
  · exact .inr ⟨_, by rw [sub_parts]; exact .divInt (dens_ne a b) l1 l2, h⟩
theorem mulR_shape (a b : Rat) (_ : InR a) (_ : InR b) : (mulR a b = (⟨#[]⟩, 23)) ∨ ∃ r, InR r ∧ mulR a b = (RT r, 0) := by
  unfold mulR
  rcases times_cases (a.num * b.num) ((a.den : Int) * b.den) with ⟨_, h⟩ | ⟨_, h, _, _, l1, l2⟩
  · left; rw [if_pos h]
  · right; exact ⟨a * b, by rw [mul_parts]; exact .divInt (dens_ne a b) l1 l2, by rw [if_neg (by rw [h]; simp)]⟩
theorem addR_size (s t : ByteArray) : (op2 s t addR).1.size ≤ 400000 := (op2_shape addR_shape).2
theorem subR_size (s t : ByteArray) : (op2 s t subR).1.size ≤ 400000 := (op2_shape subR_shape).2
theorem mulR_size (s t : ByteArray) : (op2 s t mulR).1.size ≤ 400000 := (op2_shape mulR_shape).2
theorem three_zero {a b c : Int} : firstE [a, b, c] = 0 ↔ a = 0 ∧ b = 0 ∧ c = 0 := by
  rw [first3]
  constructor
  · intro h; split at h
    · split at h
      · exact ⟨‹_›, ‹_›, h⟩
      · exact absurd h ‹_›
    · exact absurd h ‹_›
  · rintro ⟨rfl, rfl, rfl⟩; rfl
/-- mixing, by the two errors that the program asks for -/
theorem mixR_first {s t u : ByteArray} (h : firstE [chkS s, chkS t, chkS u] ≠ 0) : mixR s t u = (⟨#[]⟩, firstE [chkS s, chkS t, chkS u]) := by
  unfold mixR
  rw [first3] at h ⊢
  by_cases h1 : chkS s = 0
  · rw [if_pos h1] at h ⊢
    rw [if_neg (fun e => e h1)]
    by_cases h2 : chkS t = 0
    · rw [if_pos h2] at h ⊢
      rw [if_neg (fun e => e h2), if_pos h]
    · rw [if_neg h2, if_pos h2]
  · rw [if_neg h1, if_pos h1]
theorem mixR_then {s t u : ByteArray} (h : firstE [chkS s, chkS t, chkS u] = 0) (d m r : ByteArray × Int) (hd : op2 t s subR = d) (hm : op2 d.1 u mulR = m) (hr : op2 s m.1 addR = r) :
    mixR s t u = if firstE [d.2, m.2, r.2] = 0 then (r.1, 0) else (⟨#[]⟩, firstE [d.2, m.2, r.2]) := by
  obtain ⟨h1, h2, h3⟩ := three_zero.1 h
  unfold mixR
  rw [if_neg (fun e => e h1), if_neg (fun e => e h2), if_neg (fun e => e h3), hd, hm, hr, first3]
  by_cases e1 : d.2 = 0
  · rw [if_neg (fun e => e e1), if_pos e1]
    by_cases e2 : m.2 = 0
    · rw [if_neg (fun e => e e2), if_pos e2]
      by_cases e3 : r.2 = 0
      · rw [if_pos e3, ← e3]
      · rw [if_neg e3]
        have := (op2_shape (s := s) (t := m.1) addR_shape).1
        rw [hr] at this
        rcases this with ⟨_, h⟩ | h
        · rw [← h]
        · exact absurd h e3
    · rw [if_pos e2, if_neg e2, if_neg e2]
  · rw [if_pos e1, if_neg e1, if_neg e1]
section
variable {w0 : World}
end
section
variable {w0 : World} (htab : Tab w0) (hmx : Mx w0)
include htab hmx
end
end Go.Proofs.YtjoipfiomeocoaaGreatDoor

/- Clamping: the program and the reference. -/
namespace Go.Proofs.YtjoipfiomeocoaaGreatDoor
open Go.RowKit Go.Shelf
open Z

def isI (n : Int) : Prop := -9223372036854775808 ≤ n ∧ n ≤ 9223372036854775807
theorem isI.inR {n : Int} (h : isI n) : InR ((n : Int) : Rat) := by
  have := (sm_int h.1 h.2).in (by omega)
  exact ⟨by rw [Rat.num_intCast]; exact this, by rw [Rat.den_intCast, Lib.nDigits_small (by decide)]; omega⟩
theorem isI.size {n : Int} (h : isI n) : (Tx n).size ≤ 400000 := by have := (sm_int h.1 h.2).size; omega
section
variable {w0 : World}
theorem cmp2_lt {a : Rat} {n : Int} (ha : InR a) (hn : isI n) (h : (cmp2 (RT a) (Tx n)).2 = 0) : (cmp2 (RT a) (Tx n)).1 = cmpQ a (n : Rat) := by
  rw [← RT_int] at h ⊢
  rw [cmp2_ok ha hn.inR] at h ⊢
  split at h
  · cases h
  · rename_i hx; rw [if_neg hx]
theorem clamp_end {a : Rat} {low high : Int} : (if a < (low : Rat) then Tx low else if (high : Rat) < a then Tx high else RT a) = if cmpQ a (low : Rat) < 0 then Tx low else if 0 < cmpQ a (high : Rat) then Tx high else RT a := by
  have e1 : (cmpQ a (low : Rat) < 0) ↔ a < (low : Rat) := by
    rcases cmpQ_cases a (low : Rat) with ⟨h, e, _⟩ | ⟨h, e, _⟩ | ⟨h, e, _⟩
    · rw [e]; exact ⟨fun _ => h, fun _ => by omega⟩
    · rw [e]; exact ⟨fun x => by omega, fun x => by rw [h] at x; exact absurd x Rat.lt_irrefl⟩
    · rw [e]; exact ⟨fun x => by omega, fun x => absurd (Rat.le_of_lt h) (by rw [Rat.not_le]; exact x)⟩
  have e2 : (0 < cmpQ a (high : Rat)) ↔ (high : Rat) < a := by
    rcases cmpQ_cases a (high : Rat) with ⟨h, e, _⟩ | ⟨h, e, _⟩ | ⟨h, e, _⟩
    · rw [e]; exact ⟨fun x => by omega, fun x => absurd (Rat.le_of_lt h) (by rw [Rat.not_le]; exact x)⟩
    · rw [e]; exact ⟨fun x => by omega, fun x => by rw [h] at x; exact absurd x Rat.lt_irrefl⟩
    · rw [e]; exact ⟨fun _ => h, fun _ => by omega⟩
  by_cases h1 : a < (low : Rat)
  · rw [if_pos h1, if_pos (e1.2 h1)]
  · rw [if_neg h1, if_neg (fun h => h1 (e1.1 h))]
    by_cases h2 : (high : Rat) < a
    · rw [if_pos h2, if_pos (e2.2 h2)]
    · rw [if_neg h2, if_neg (fun h => h2 (e2.1 h))]
end
section
variable {w0 : World} (htab : Tab w0) (hmx : Mx w0)
include htab hmx
end
end Go.Proofs.YtjoipfiomeocoaaGreatDoor
