/- The program's rational numbers: what is exported. -/
import Derived.Test.YtjoipfiomeocoabGreatDoorRat16
import Derived.Test.YtjoipfiomeocoabGreatDoorRat18
import Derived.Test.YtjoipfiomeocoabGreatDoorRat07
set_option linter.unusedVariables false
set_option linter.unusedSimpArgs false
namespace Go.Proofs.YtjoipfiomeocoabGreatDoor
open Go.RowKit Go.Shelf
open Z

theorem RT_small {r : Rat} (h : InR r) : (RT r).size ≤ 400000 := by have := RT_size h.sh; omega
section
variable {w0 : World} (htab : Tab w0) (hmx : Mx w0)
include htab hmx
theorem retG_read {s : ByteArray} (hs : s.size ≤ 400000) : RetG w0 51 #[.string s] (.tuple #[vFr (rT s) (rB s), .int .i64 (chkS s)]) := fun w hg => q_read s hs w (hmx.gr hg) (htab_gr htab hg)
theorem retG_readBoth {s t : ByteArray} (hs : s.size ≤ 400000) (ht : t.size ≤ 400000) : RetG w0 70 #[.string s, .string t] (.tuple #[vFr (rT s) (rB s), vFr (rT t) (rB t), .int .i64 (both2 s t)]) := fun w hg => q_readBoth s t hs ht w (hmx.gr hg) (htab_gr htab hg)
omit hmx in
theorem retG_write {p q : Int} (hp : lg p = false) (hq : lg q = false) (h0 : q ≠ 0) : RetG w0 46 #[vFr (Tx p) (Tx q)] (.string (RT (Rat.divInt p q))) := fun w hg => q_write (lg_false.1 hp) (lg_false.1 hq) h0 w (htab_gr htab hg)
theorem retG_bothRT {a b : Rat} (ha : InR a) (hb : InR b) : RetG w0 70 #[.string (RT a), .string (RT b)] (.tuple #[vFr (Tx a.num) (Tx (a.den : Int)), vFr (Tx b.num) (Tx (b.den : Int)), .int .i64 0]) := by
  have h := retG_readBoth htab hmx (RT_small ha) (RT_small hb)
  rwa [rT_RT ha, rB_RT ha, rT_RT hb, rB_RT hb, both2_RT ha hb] at h
set_option maxHeartbeats 1000000 in
set_option maxRecDepth 100000 in
theorem ret_QCheck {s : ByteArray} (hs : s.size ≤ 400000) : Ret w0 19 #[.string s] (.int .i64 (chkS s)) := by
  have C1 := Lib.hid (retG_read htab hmx hs).ret
  clear hs htab hmx
  generalize rT s = p at *
  generalize rB s = q at *
  generalize chkS s = c at *
  intro w hg
  have HG := Lib.hid hg; clear hg
  go_enter Tryz.func19, Tryz.ntmps19
  go_wp2_with fail
  refine (C1.out _ HG.out).mono ?_
  rintro e w1 ⟨rfl, hg⟩
  replace HG := Lib.hid hg; clear hg
  go_wp2
  go_ret
  exact ⟨rfl, HG.out.alloc _⟩
theorem calc_Err {s t : ByteArray} {k : Int} (hs : s.size ≤ 400000) (ht : t.size ≤ 400000) (h : both2 s t ≠ 0) : Ret w0 59 #[.string s, .int .i32 k, .string t] (.tuple #[.string ⟨#[]⟩, .int .i64 (both2 s t)]) :=
  (q_calcErr ⟨_, _, rfl⟩ ⟨_, _, rfl⟩ h (retG_readBoth htab hmx hs ht)).ret
theorem calc_Add {s t : ByteArray} (hs : s.size ≤ 400000) (ht : t.size ≤ 400000) : Ret w0 59 #[.string s, .int .i32 43, .string t] (vSI (op2 s t addR)) := by
  rcases both2_cases s t with h | ⟨a, b, rfl, rfl, ha, hb⟩
  · exact Ret.toSI (op2_err h) (calc_Err htab hmx hs ht h)
  · have H1 := retG_bothRT htab hmx ha hb
    have X := q_cross (retG_Mul htab (lg_false.1 ha.num) (lg_false.1 hb.den)) (retG_Mul htab (lg_false.1 hb.num) (lg_false.1 ha.den))
    have H2 : RetG w0 128 #[vFr (Tx a.num) (Tx (a.den : Int)), vFr (Tx b.num) (Tx (b.den : Int))] (.tuple #[vFr (joinN (· + ·) (a.num * b.den) (b.num * a.den)).1 (longR ((a.den : Int) * b.den)).1, .int .i64 (joinE (· + ·) (a.num * b.den) (b.num * a.den) ((a.den : Int) * b.den))]) := q_clos1 (q_joinAdd X (retG_Add htab (longR_size _) (longR_size _)) (retG_Mul htab (lg_false.1 ha.den) (lg_false.1 hb.den)))
    rw [op2_ok ha hb]
    rcases add_join a b with ⟨hE, hR⟩ | ⟨hE, hR, hN, hM, l1, l2⟩
    · have H := (q_calcAdd (R := ⟨#[]⟩) H1 H2 (fun h => by rw [hE] at h; cases h)).ret
      rw [hE] at H
      exact Ret.toSI hR H
    · have H3 := retG_write htab l1 l2 (dens_ne a b)
      rw [← add_parts, ← hN, ← hM] at H3
      have H := (q_calcAdd (R := RT (a + b)) H1 H2 (fun _ => H3)).ret
      rw [hE] at H
      exact Ret.toSI hR H
theorem calc_Sub {s t : ByteArray} (hs : s.size ≤ 400000) (ht : t.size ≤ 400000) : Ret w0 59 #[.string s, .int .i32 45, .string t] (vSI (op2 s t subR)) := by
  rcases both2_cases s t with h | ⟨a, b, rfl, rfl, ha, hb⟩
  · exact Ret.toSI (op2_err h) (calc_Err htab hmx hs ht h)
  · have H1 := retG_bothRT htab hmx ha hb
    have X := q_cross (retG_Mul htab (lg_false.1 ha.num) (lg_false.1 hb.den)) (retG_Mul htab (lg_false.1 hb.num) (lg_false.1 ha.den))
    have H2 : RetG w0 130 #[vFr (Tx a.num) (Tx (a.den : Int)), vFr (Tx b.num) (Tx (b.den : Int))] (.tuple #[vFr (joinN (· - ·) (a.num * b.den) (b.num * a.den)).1 (longR ((a.den : Int) * b.den)).1, .int .i64 (joinE (· - ·) (a.num * b.den) (b.num * a.den) ((a.den : Int) * b.den))]) := q_clos2 (q_joinSub X (retG_Sub htab (longR_size _) (longR_size _)) (retG_Mul htab (lg_false.1 ha.den) (lg_false.1 hb.den)))
    rw [op2_ok ha hb]
    rcases sub_join a b with ⟨hE, hR⟩ | ⟨hE, hR, hN, hM, l1, l2⟩
    · have H := (q_calcSub (R := ⟨#[]⟩) H1 H2 (fun h => by rw [hE] at h; cases h)).ret
      rw [hE] at H
      exact Ret.toSI hR H
    · have H3 := retG_write htab l1 l2 (dens_ne a b)
      rw [← sub_parts, ← hN, ← hM] at H3
      have H := (q_calcSub (R := RT (a - b)) H1 H2 (fun _ => H3)).ret
      rw [hE] at H
      exact Ret.toSI hR H
theorem calc_Mul {s t : ByteArray} (hs : s.size ≤ 400000) (ht : t.size ≤ 400000) : Ret w0 59 #[.string s, .int .i32 42, .string t] (vSI (op2 s t mulR)) := by
  rcases both2_cases s t with h | ⟨a, b, rfl, rfl, ha, hb⟩
  · exact Ret.toSI (op2_err h) (calc_Err htab hmx hs ht h)
  · have H1 := retG_bothRT htab hmx ha hb
    have H2 : RetG w0 131 #[vFr (Tx a.num) (Tx (a.den : Int)), vFr (Tx b.num) (Tx (b.den : Int))] (.tuple #[vFr (longR (a.num * b.num)).1 (longR ((a.den : Int) * b.den)).1, .int .i64 (timesE (a.num * b.num) ((a.den : Int) * b.den))]) := q_ftimes (retG_Mul htab (lg_false.1 ha.num) (lg_false.1 hb.num)) (retG_Mul htab (lg_false.1 ha.den) (lg_false.1 hb.den))
    rw [op2_ok ha hb]
    unfold mulR
    rcases times_cases (a.num * b.num) ((a.den : Int) * b.den) with ⟨hE, hR⟩ | ⟨hE, hR, hN, hM, l1, l2⟩
    · have H := (q_calcMul (R := ⟨#[]⟩) H1 H2 (fun h => by rw [hE] at h; cases h)).ret
      rw [hE] at H
      exact Ret.toSI (by rw [if_pos hR]; rfl) H
    · have H3 := retG_write htab l1 l2 (dens_ne a b)
      rw [← mul_parts, ← hN, ← hM] at H3
      have H := (q_calcMul (R := RT (a * b)) H1 H2 (fun _ => H3)).ret
      rw [hE] at H
      exact Ret.toSI (by rw [if_neg (by rw [hR]; simp)]; rfl) H
theorem calc_Div {s t : ByteArray} (hs : s.size ≤ 400000) (ht : t.size ≤ 400000) : Ret w0 59 #[.string s, .int .i32 47, .string t] (vSI (op2 s t divR)) := by
  rcases both2_cases s t with h | ⟨a, b, rfl, rfl, ha, hb⟩
  · exact Ret.toSI (op2_err h) (calc_Err htab hmx hs ht h)
  · have H1 := retG_bothRT htab hmx ha hb
    have is0 := Tx_is0 b.num
    rw [op2_ok ha hb]
    unfold divR
    by_cases h0 : b = 0
    · rw [if_pos h0]
      rw [decide_eq_true (by rw [h0]; rfl)] at is0
      have H := (q_calcDiv (R := ⟨#[]⟩) H1 (q_clos3z is0) (fun h => by cases h)).ret
      exact Ret.toSI rfl H
    · rw [if_neg h0]
      rw [decide_eq_false (num_ne h0)] at is0
      have H2 : RetG w0 132 #[vFr (Tx a.num) (Tx (a.den : Int)), vFr (Tx b.num) (Tx (b.den : Int))] (.tuple #[vFr (longR (a.num * b.den)).1 (longR ((a.den : Int) * b.num)).1, .int .i64 (timesE (a.num * b.den) ((a.den : Int) * b.num))]) := q_clos3 is0 (q_ftimes (retG_Mul htab (lg_false.1 ha.num) (lg_false.1 hb.den)) (retG_Mul htab (lg_false.1 ha.den) (lg_false.1 hb.num)))
      rcases times_cases (a.num * b.den) ((a.den : Int) * b.num) with ⟨hE, hR⟩ | ⟨hE, hR, hN, hM, l1, l2⟩
      · have H := (q_calcDiv (R := ⟨#[]⟩) H1 H2 (fun h => by rw [hE] at h; cases h)).ret
        rw [hE] at H
        exact Ret.toSI (by rw [if_pos hR]; rfl) H
      · have H3 := retG_write htab l1 l2 (Int.mul_ne_zero (den_ne a) (num_ne h0))
        rw [← div_parts, ← hN, ← hM] at H3
        have H := (q_calcDiv (R := RT (a / b)) H1 H2 (fun _ => H3)).ret
        rw [hE] at H
        exact Ret.toSI (by rw [if_neg (by rw [hR]; simp)]; rfl) H
set_option maxHeartbeats 1000000 in
set_option maxRecDepth 100000 in
theorem ret_QAdd {s t : ByteArray} (hs : s.size ≤ 400000) (ht : t.size ≤ 400000) : Ret w0 23 #[.string s, .string t] (vSI (op2 s t addR)) := by
  have C := calc_Add htab hmx hs ht
  obtain ⟨p, hp⟩ : ∃ p, p = op2 s t addR := ⟨_, rfl⟩
  rw [← hp] at C ⊢
  obtain ⟨p1, p2⟩ := p
  have C1 := Lib.hid (Ret.si C rfl)
  refine Ret.toSI rfl ?_
  clear C hp hs ht htab hmx
  intro w hg
  have HG := Lib.hid hg; clear hg
  go_enter Tryz.func23, Tryz.ntmps23
  go_wp2_with fail
  refine (C1.out _ HG.out).mono ?_
  rintro e w1 ⟨rfl, hg⟩
  replace HG := Lib.hid hg; clear hg
  go_wp2
  go_ret2
  exact ⟨rfl, HG.out⟩
set_option maxHeartbeats 1000000 in
set_option maxRecDepth 100000 in
theorem ret_QSub {s t : ByteArray} (hs : s.size ≤ 400000) (ht : t.size ≤ 400000) : Ret w0 29 #[.string s, .string t] (vSI (op2 s t subR)) := by
  have C := calc_Sub htab hmx hs ht
  obtain ⟨p, hp⟩ : ∃ p, p = op2 s t subR := ⟨_, rfl⟩
  rw [← hp] at C ⊢
  obtain ⟨p1, p2⟩ := p
  have C1 := Lib.hid (Ret.si C rfl)
  refine Ret.toSI rfl ?_
  clear C hp hs ht htab hmx
  intro w hg
  have HG := Lib.hid hg; clear hg
  go_enter Tryz.func29, Tryz.ntmps29
  go_wp2_with fail
  refine (C1.out _ HG.out).mono ?_
  rintro e w1 ⟨rfl, hg⟩
  replace HG := Lib.hid hg; clear hg
  go_wp2
  go_ret2
  exact ⟨rfl, HG.out⟩
set_option maxHeartbeats 1000000 in
set_option maxRecDepth 100000 in
theorem ret_QMul {s t : ByteArray} (hs : s.size ≤ 400000) (ht : t.size ≤ 400000) : Ret w0 21 #[.string s, .string t] (vSI (op2 s t mulR)) := by
  have C := calc_Mul htab hmx hs ht
  obtain ⟨p, hp⟩ : ∃ p, p = op2 s t mulR := ⟨_, rfl⟩
  rw [← hp] at C ⊢
  obtain ⟨p1, p2⟩ := p
  have C1 := Lib.hid (Ret.si C rfl)
  refine Ret.toSI rfl ?_
  clear C hp hs ht htab hmx
  intro w hg
  have HG := Lib.hid hg; clear hg
  go_enter Tryz.func21, Tryz.ntmps21
  go_wp2_with fail
  refine (C1.out _ HG.out).mono ?_
  rintro e w1 ⟨rfl, hg⟩
  replace HG := Lib.hid hg; clear hg
  go_wp2
  go_ret2
  exact ⟨rfl, HG.out⟩
set_option maxHeartbeats 1000000 in
set_option maxRecDepth 100000 in
theorem ret_QDiv {s t : ByteArray} (hs : s.size ≤ 400000) (ht : t.size ≤ 400000) : Ret w0 30 #[.string s, .string t] (vSI (op2 s t divR)) := by
  have C := calc_Div htab hmx hs ht
  obtain ⟨p, hp⟩ : ∃ p, p = op2 s t divR := ⟨_, rfl⟩
  rw [← hp] at C ⊢
  obtain ⟨p1, p2⟩ := p
  have C1 := Lib.hid (Ret.si C rfl)
  refine Ret.toSI rfl ?_
  clear C hp hs ht htab hmx
  intro w hg
  have HG := Lib.hid hg; clear hg
  go_enter Tryz.func30, Tryz.ntmps30
  go_wp2_with fail
  refine (C1.out _ HG.out).mono ?_
  rintro e w1 ⟨rfl, hg⟩
  replace HG := Lib.hid hg; clear hg
  go_wp2
  go_ret2
  exact ⟨rfl, HG.out⟩
end
end Go.Proofs.YtjoipfiomeocoabGreatDoor
