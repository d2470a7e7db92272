/- LvC: Lv02, Lv10, Lv11, Lv12, joined. -/
import Derived.Test.YtlbnibicehpobaaGreatDoorRatA
import Derived.Test.YtlbnibicehpobaaGreatDoorLvA
import Derived.Test.YtlbnibicehpobaaGreatDoorLvB
import Derived.Test.YtlbnibicehpobaaGreatDoorRatB
import Derived.Test.YtlbnibicehpobaaGreatDoorRatF
import Derived.Laws.Bits64b
set_option linter.unusedVariables false
set_option linter.unusedSimpArgs false

/- Plain mathematics of computed levels. -/
namespace Go.Proofs.YtlbnibicehpobaaGreatDoor
open Go.RowKit
open Z

/-- a number from 0 to 65535 -/
def lvlQ (a : Rat) : Bool := decide (0 ≤ a) && decide (a ≤ 65535)
theorem lvlQ_iff {a : Rat} : lvlQ a = true ↔ 0 ≤ a ∧ a ≤ 65535 := by unfold lvlQ; simp
theorem q65535 : ((65535 : Int) : Rat) = 65535 := rfl
theorem q65536 : ((65536 : Int) : Rat) = 65536 := rfl
theorem q0 : ((0 : Int) : Rat) = 0 := rfl
theorem floor_lvl (a : Rat) : (0 ≤ a.floor ↔ 0 ≤ a) ∧ (a.floor ≤ 65534 ↔ a < 65535) := by
  constructor
  · rw [Rat.le_floor_iff, q0]
  · rw [show a.floor ≤ 65534 ↔ a.floor < 65535 by omega, Rat.floor_lt_iff, q65535]
theorem lvlQ_floor {a : Rat} (h : a ≠ 65535) : lvlQ a = (decide (0 ≤ a.floor) && decide (a.floor ≤ 65534)) := by
  have h1 := (floor_lvl a).1
  have h2 := (floor_lvl a).2
  unfold lvlQ
  have h3 : a ≤ 65535 ↔ a < 65535 := ⟨fun e => Rat.lt_iff_le_and_ne.2 ⟨e, h⟩, Rat.le_of_lt⟩
  rw [decide_eq_decide.2 h1, decide_eq_decide.2 (h2.trans h3.symm)]
theorem near_ge {a : Rat} {k : Int} : k ≤ nearest a ↔ (k : Rat) ≤ a + 1/2 := Rat.le_floor_iff
theorem near_lt {a : Rat} {k : Int} : nearest a < k ↔ a + 1/2 < (k : Rat) := Rat.floor_lt_iff
theorem nearest_lvl {a : Rat} (h : lvlQ a = true) : 0 ≤ nearest a ∧ nearest a ≤ 65535 := by
  obtain ⟨h1, h2⟩ := lvlQ_iff.1 h
  constructor
  · rw [near_ge, q0]; grind
  · rw [show nearest a ≤ 65535 ↔ nearest a < 65536 by omega, near_lt, q65536]; grind
theorem over257 : Rat.divInt 255 65535 = 1/257 := by decide +kernel
theorem eight_eq {a : Rat} (h : lvlQ a = true) : nearest (a * Rat.divInt 255 65535) = (2 * nearest a + 257) / 514 := by
  obtain ⟨m, hm⟩ : ∃ m, nearest (a * Rat.divInt 255 65535) = m := ⟨_, rfl⟩
  have h1 : m ≤ nearest (a * Rat.divInt 255 65535) := by omega
  have h2 : nearest (a * Rat.divInt 255 65535) < m + 1 := by omega
  rw [near_ge, over257] at h1
  rw [near_lt, over257] at h2
  have h3 : 257 * m - 128 ≤ nearest a := by
    rw [near_ge, Rat.intCast_sub, Rat.intCast_mul, show ((257 : Int) : Rat) = 257 from rfl, show ((128 : Int) : Rat) = 128 from rfl]
    grind
  have h4 : nearest a < 257 * m + 129 := by
    rw [near_lt, Rat.intCast_add, Rat.intCast_mul, show ((257 : Int) : Rat) = 257 from rfl, show ((129 : Int) : Rat) = 129 from rfl]
    rw [Rat.intCast_add, show ((1 : Int) : Rat) = 1 from rfl] at h2
    grind
  rw [hm]; omega
theorem nearest_int (n : Int) : nearest (n : Rat) = n := by
  have h1 : n ≤ nearest (n : Rat) := by rw [near_ge]; grind
  have h2 : nearest (n : Rat) < n + 1 := by rw [near_lt, Rat.intCast_add, show ((1 : Int) : Rat) = 1 from rfl]; grind
  omega
theorem lvlQ_int {n : Int} (h0 : 0 ≤ n) (h1 : n ≤ 65535) : lvlQ (n : Rat) = true := by
  rw [lvlQ_iff]
  constructor
  · rw [← q0]; exact Rat.intCast_le_intCast.2 h0
  · rw [← q65535]; exact Rat.intCast_le_intCast.2 h1
end Go.Proofs.YtlbnibicehpobaaGreatDoor

/- Levels: raw values of the reference. -/
namespace Go.Proofs.YtlbnibicehpobaaGreatDoor
open Go.RowKit Go.Shelf
open Z

/-- the error of a computed level -/
def compE (s : ByteArray) : Int := if chkS s = 0 then (if lvlQ (rv s) = true then 0 else 2) else chkS s
def eightR (s : ByteArray) : Int × Int := if compE s = 0 then ((2 * nearest (rv s) + 257) / 514, 0) else (0, compE s)
def sixteenR (s : ByteArray) : Int × Int := if compE s = 0 then (nearest (rv s), 0) else (0, compE s)
theorem compE_RT {a : Rat} (ha : InR a) : compE (RT a) = if lvlQ a = true then 0 else 2 := by unfold compE; rw [if_pos (chkS_RT ha), rv_RT]
theorem compE_err {s : ByteArray} (h : chkS s ≠ 0) : compE s = chkS s := by unfold compE; rw [if_neg h]
theorem compE_zero {s : ByteArray} (h : compE s = 0) : ∃ a : Rat, s = RT a ∧ InR a ∧ lvlQ a = true := by
  rcases chkS_cases s with h1 | ⟨a, rfl, ha⟩
  · rw [compE_err h1] at h; exact absurd h h1
  · refine ⟨a, rfl, ha, ?_⟩
    rw [compE_RT ha] at h
    cases hl : lvlQ a
    · rw [hl] at h; simp at h
    · rfl
theorem zero_text : (⟨#[48]⟩ : ByteArray) = RT ((0 : Int) : Rat) := by rw [RT_int, Tx_zero]
theorem lit_in (n : Int) (h : n.natAbs < 10 ^ 100) : InR ((n : Int) : Rat) := ⟨by rw [Rat.num_intCast]; exact Nat.le_trans ((nDigits_le_iff _ 100 (by omega)).2 h) (by omega), by rw [Rat.den_intCast, Lib.nDigits_small (by decide)]; omega⟩
theorem lvlQ_cmp (a : Rat) : (cmpQ a ((0 : Int) : Rat) < 0 ∧ lvlQ a = false) ∨ (¬ cmpQ a ((0 : Int) : Rat) < 0 ∧ 0 < cmpQ a ((65535 : Int) : Rat) ∧ lvlQ a = false) ∨ (¬ cmpQ a ((0 : Int) : Rat) < 0 ∧ ¬ 0 < cmpQ a ((65535 : Int) : Rat) ∧ lvlQ a = true) := by
  have hl := lvlQ_iff (a := a)
  rw [q0, q65535]
  rcases cmpQ_cases a 0 with ⟨h1, e1, _⟩ | ⟨h1, e1, _⟩ | ⟨h1, e1, _⟩
  · left
    refine ⟨by omega, Bool.eq_false_iff.2 fun h => ?_⟩
    exact absurd (hl.1 h).1 (Rat.not_le.2 h1)
  · have h0 : 0 ≤ a := by rw [h1]; exact Rat.le_refl
    right
    rcases cmpQ_cases a 65535 with ⟨h2, e2, _⟩ | ⟨h2, e2, _⟩ | ⟨h2, e2, _⟩
    · right; exact ⟨by omega, by omega, hl.2 ⟨h0, Rat.le_of_lt h2⟩⟩
    · right; exact ⟨by omega, by omega, hl.2 ⟨h0, by rw [h2]; exact Rat.le_refl⟩⟩
    · left; exact ⟨by omega, by omega, Bool.eq_false_iff.2 fun h => absurd (hl.1 h).2 (Rat.not_le.2 h2)⟩
  · have h0 : 0 ≤ a := Rat.le_of_lt h1
    right
    rcases cmpQ_cases a 65535 with ⟨h2, e2, _⟩ | ⟨h2, e2, _⟩ | ⟨h2, e2, _⟩
    · right; exact ⟨by omega, by omega, hl.2 ⟨h0, Rat.le_of_lt h2⟩⟩
    · right; exact ⟨by omega, by omega, hl.2 ⟨h0, by rw [h2]; exact Rat.le_refl⟩⟩
    · left; exact ⟨by omega, by omega, Bool.eq_false_iff.2 fun h => absurd (hl.1 h).2 (Rat.not_le.2 h2)⟩
section
variable {w0 : World}
theorem sh_257 : Sh 3 (Rat.divInt 255 65535) := by
  rw [over257]
  exact ⟨(nDigits_le_iff _ 3 (by omega)).2 (by decide +kernel), (nDigits_le_iff _ 3 (by omega)).2 (by decide +kernel)⟩
theorem byte_range {a : Rat} (h : lvlQ a = true) : 0 ≤ (2 * nearest a + 257) / 514 ∧ (2 * nearest a + 257) / 514 ≤ 255 := by
  have := nearest_lvl h; omega
end
end Go.Proofs.YtlbnibicehpobaaGreatDoor

/- Levels: raw values of the program, and the checks of glides that they ask. -/
namespace Go.Proofs.YtlbnibicehpobaaGreatDoor
open Go.RowKit Go.Shelf
open Z

/-- an int within its limit -/
def okL (p : Int × Int) : Bool := decide (0 ≤ p.1) && decide (p.1 ≤ p.2)
def Lims (w : World) (g : Nat) (l : List (Int × Int)) : Prop := ∀ i (h : i < l.length), w.cell? ⟨g, i * 2, none⟩ = some (.int .i64 l[i].1) ∧ w.cell? ⟨g, i * 2 + 1, none⟩ = some (.int .i64 l[i].2)
set_option maxHeartbeats 1000000 in
set_option maxRecDepth 100000 in
theorem gl_checkInts (g : Nat) (l : List (Int × Int)) (w : World) (hl : l.length ≤ 100) (hc : Lims w g l) :
    Calls Tryz.prog 93 #[.slice (some ⟨g, 0, none⟩) l.length l.length] w fun e w' => e = .returned (.int .i64 (if l.all okL = true then 0 else 2)) ∧ Gr w w' := by
  have HC := Lib.hid hc
  clear hc
  obtain ⟨r, hr⟩ : ∃ r : Int, (if l.all okL = true then 0 else 2) = r := ⟨_, rfl⟩
  have HR := Lib.hid hr
  rw [hr]
  clear hr
  go_enter Tryz.func93, Tryz.ntmps93
  go_wp2
  go_loopw [4, 7] (fun _ i wr => ∃ k : Nat, k ≤ l.length ∧ i = .int .i64 k ∧ Hid (∀ j (h : j < l.length), j < k → okL l[j] = true) ∧ Gr w wr) (fun _ i _ => l.length - (intOf i).toNat)
  case atStart => exact ⟨0, Nat.zero_le _, rfl, fun j hj h => absurd h (by omega), Gr.refl _⟩
  case round =>
    obtain ⟨k, hk, rfl, HK, hg⟩ := hrel
    have HG := Lib.hid hg
    by_cases hlt : k < l.length
    · have c1 := gr_cell hg (HC.out k hlt).1
      have c2 := gr_cell hg (HC.out k hlt).2
      have HB : Hid (okL l[k] = false → r = 2) := fun h => by rw [← HR.out, allNot hlt h]; rfl
      have HY : Hid (okL l[k] = (decide (0 ≤ l[k].1) && decide (l[k].1 ≤ l[k].2))) := rfl
      obtain ⟨n, HN⟩ : ∃ n, Hid (l[k].1 = n) := ⟨_, Lib.hid rfl⟩
      obtain ⟨m, HM⟩ : ∃ m, Hid (l[k].2 = m) := ⟨_, Lib.hid rfl⟩
      rw [HN.out] at c1
      rw [HM.out] at c2
      rw [HN.out, HM.out] at HY
      clear hg
      by_cases h0 : n < 0
      · have HF := Lib.hid (HB.out (by rw [HY.out, decide_eq_false (by omega)]; rfl))
        go_wp2
        go_ret
        exact ⟨ret_int HF.out.symm, HG.out.alloc _⟩
      · by_cases h1 : m < n
        · have HF := Lib.hid (HB.out (by rw [HY.out, decide_eq_false (show ¬ n ≤ m by omega), Bool.and_false]))
          go_wp2
          go_ret
          exact ⟨ret_int HF.out.symm, HG.out.alloc _⟩
        · have HT : Hid (okL l[k] = true) := by show _ = _; rw [HY.out, decide_eq_true (by omega), decide_eq_true (by omega)]; rfl
          have h0' : 0 ≤ n := by omega
          have h1' : n ≤ m := by omega
          clear h0 h1
          go_wp2
          go_roundw
          case rel =>
            refine ⟨k + 1, by omega, by go_num, fun j hj h => ?_, HG.out.alloc _⟩
            by_cases hjk : j = k
            · subst hjk; exact HT.out
            · exact HK.out j hj (by omega)
          case measure => simp [intOf]; omega
    · have HF : Hid (r = 0) := by show r = 0; rw [← HR.out, allGet fun j hj => HK.out j hj (by omega)]; rfl
      clear hg
      go_wp2
      go_ret
      exact ⟨ret_int HF.out.symm, HG.out⟩
theorem lims_one (n m : Int) (w : World) (t : TypeId) : Lims (w.alloc (.cells #[.int .i64 n, .int .i64 m] t)) w.heap.size [(n, m)] := fun i hi => by
  have : i = 0 := by simp at hi; omega
  subst this; exact ⟨by simp, by simp⟩
theorem lims_three (a b c d e f : Int) (w : World) (t : TypeId) : Lims (w.alloc (.cells #[.int .i64 a, .int .i64 b, .int .i64 c, .int .i64 d, .int .i64 e, .int .i64 f] t)) w.heap.size [(a, b), (c, d), (e, f)] := fun i hi => by
  have : i = 0 ∨ i = 1 ∨ i = 2 := by simp at hi; omega
  rcases this with rfl | rfl | rfl <;> exact ⟨by simp, by simp⟩
def tgE (x start time : Int) : Int := if (okL (x, 65535) && (okL (start, 10000000) && okL (time, 10000000))) = true then 0 else 2
set_option maxHeartbeats 1000000 in
set_option maxRecDepth 100000 in
theorem ret_checkTarget {w0 : World} (a b c : Int) : Ret w0 68 #[.int .i64 a, .int .i64 b, .int .i64 c] (.int .i64 (tgE a b c)) := by
  have H := Lib.hid (fun (w : World) => gl_checkInts w.heap.size [(a, 65535), (b, 10000000), (c, 10000000)] (w.alloc (.cells #[.int .i64 a, .int .i64 65535, .int .i64 b, .int .i64 10000000, .int .i64 c, .int .i64 10000000] 101)) (by simp) (lims_three _ _ _ _ _ _ _ _))
  obtain ⟨r, hr⟩ : ∃ r, tgE a b c = r := ⟨_, rfl⟩
  have he : (if [(a, (65535 : Int)), (b, 10000000), (c, 10000000)].all okL = true then (0 : Int) else 2) = r := by rw [← hr]; unfold tgE; simp [List.all]
  rw [he] at H
  rw [hr]
  clear he hr
  intro w hg
  have HG := Lib.hid hg; clear hg
  go_enter Tryz.func68, Tryz.ntmps68
  go_wp2_with fail
  refine (H.out w).mono ?_
  rintro e w1 ⟨rfl, hg⟩
  replace HG := Lib.hid (Gr.trans (HG.out.alloc _) hg); clear hg
  go_wp2
  go_ret
  exact ⟨rfl, HG.out⟩
theorem one_lim {w0 : World} (n : Int) (w : World) (hg : Gr w0 w) : Calls Tryz.prog 93 #[.slice (some ⟨w.heap.size, 0, none⟩) 1 1] (w.alloc (.cells #[.int .i64 n, .int .i64 65534] 101)) fun e w' => e = .returned (.int .i64 (if okL (n, 65534) = true then 0 else 2)) ∧ Gr w0 w' := by
  have H := gl_checkInts w.heap.size [(n, 65534)] (w.alloc (.cells #[.int .i64 n, .int .i64 65534] 101)) (by simp) (lims_one _ _ _ _)
  rw [show [(n, (65534 : Int))].all okL = okL (n, 65534) by simp [List.all]] at H
  refine H.mono ?_
  rintro e w1 ⟨rfl, hg1⟩
  exact ⟨rfl, Gr.trans (hg.alloc _) hg1⟩
theorem isMax (a : Rat) : ((RT a).toList == (Tx 65535).toList) = decide (a = 65535) := by
  rw [ByteArray.toList_eq, ByteArray.toList_eq]
  by_cases h : a = 65535
  · subst h; rw [← q65535, RT_int]; simp
  · rw [decide_eq_false h, beq_eq_false_iff_ne]
    intro e
    refine h (RT_inj (a := a) (b := 65535) ?_)
    rw [← q65535, RT_int]; exact ba_ext e
theorem RetG.of4 {w0 : World} {f : FuncId} {args : Array Value} {v : Value} (h : ∀ w1, Gr w0 w1 → Ret w1 f args v) : RetG w0 f args v := fun w hg => h w hg w (Gr.refl w)
/-- a glide's error -/
def glE (s : ByteArray) (x start time : Int) : Int := if compE s = 0 then tgE x start time else compE s
theorem tgE_zero : tgE 0 0 0 = 0 := by decide
theorem glE_zero (s : ByteArray) : glE s 0 0 0 = compE s := by
  unfold glE; rw [tgE_zero]
  split
  · rename_i h; exact h.symm
  · rfl
section
variable {w0 : World} (htab : Tab w0) (hmx : Mx w0) (herr : ErrR w0)
include htab hmx herr
set_option maxHeartbeats 1000000 in
set_option maxRecDepth 100000 in
theorem ret_checkLevel {s : ByteArray} (hs : s.size ≤ 400000) : Ret w0 67 #[.string s] (.int .i64 (compE s)) := by
  have F := ret_QFloor htab hmx hs
  rcases chkS_cases s with h1 | ⟨a, rfl, ha⟩
  · rw [compE_err h1]
    have C1 := Lib.hid (F.si (x := ⟨#[]⟩) (e := chkS s) (by unfold floorR; rw [if_neg h1]))
    have hne : (chkS s != 0) = true := by simpa using h1
    clear h1 F htab hmx herr hs
    generalize chkS s = c at *
    intro w hg
    have HG := Lib.hid hg; clear hg
    go_enter Tryz.func67, Tryz.ntmps67
    go_wp2_with fail
    refine (C1.out _ HG.out).mono ?_
    rintro e w1 ⟨rfl, hg⟩
    replace HG := Lib.hid hg; clear hg
    go_wp2
    go_ret
    exact ⟨rfl, HG.out⟩
  · have C1 := Lib.hid (F.si (floorR_ok ha))
    have C2 := Lib.hid (ret_QWhole htab (n := 65535) (by omega) (by omega))
    have his := isMax a
    rw [compE_RT ha]
    by_cases h65 : a = 65535
    · rw [decide_eq_true h65] at his
      have hlv : lvlQ a = true := by rw [h65, ← q65535]; exact lvlQ_int (by omega) (by omega)
      rw [hlv]
      clear h65 hlv ha F htab hmx herr hs
      generalize Tx a.floor = t at *
      generalize RT a = s at *
      generalize Tx 65535 = u at *
      intro w hg
      have HG := Lib.hid hg; clear hg
      go_enter Tryz.func67, Tryz.ntmps67
      go_wp2_with fail
      refine (C1.out _ HG.out).mono ?_
      rintro e w1 ⟨rfl, hg⟩
      replace HG := Lib.hid hg; clear hg
      go_wp2_with fail
      refine (C2.out _ HG.out).mono ?_
      rintro e w1 ⟨rfl, hg⟩
      replace HG := Lib.hid hg; clear hg
      go_wp2
      go_ret
      exact ⟨rfl, HG.out⟩
    · rw [decide_eq_false h65] at his
      have hlv := lvlQ_floor h65
      have hfl : (Tx a.floor).size ≤ maxLen := by
        have h1 := floor_abs a
        have h2 : In a.floor := Nat.le_trans (nDigits_mono h1) ha.1
        exact h2.len
      have C3 := ret_Small (w0 := w0) hfl herr
      have hin : chk (Tx a.floor).data.toList = 0 := by
        have h2 : In a.floor := Nat.le_trans (nDigits_mono (floor_abs a)) ha.1
        exact h2.chk
      have hsm : smallR (Tx a.floor) = if inI a.floor then (a.floor, 0) else (0, 2) := by unfold smallR; rw [if_pos hin, data_Tx, ival_itoa]
      rw [hsm] at C3
      rw [hlv]
      clear h65 hlv hfl hin hsm ha F htab hmx herr hs
      cases hi : inI a.floor
      · rw [hi] at C3
        have C3' := Lib.hid (C3.ii rfl)
        have hr : (decide (0 ≤ a.floor) && decide (a.floor ≤ 65534)) = false := by
          rw [Bool.eq_false_iff]; intro h
          rw [Bool.and_eq_true, decide_eq_true_eq, decide_eq_true_eq] at h
          have : inI a.floor = true := by unfold inI minI maxI; rw [decide_eq_true (by omega), decide_eq_true (by omega)]; rfl
          rw [this] at hi; cases hi
        rw [hr]
        clear C3 hi hr
        generalize Tx a.floor = t at *
        generalize RT a = s at *
        generalize Tx 65535 = u at *
        intro w hg
        have HG := Lib.hid hg; clear hg
        go_enter Tryz.func67, Tryz.ntmps67
        go_wp2_with fail
        refine (C1.out _ HG.out).mono ?_
        rintro e w1 ⟨rfl, hg⟩
        replace HG := Lib.hid hg; clear hg
        go_wp2_with fail
        refine (C2.out _ HG.out).mono ?_
        rintro e w1 ⟨rfl, hg⟩
        replace HG := Lib.hid hg; clear hg
        go_wp2_with fail
        refine (C3'.out _ HG.out).mono ?_
        rintro e w1 ⟨rfl, hg⟩
        replace HG := Lib.hid hg; clear hg
        go_wp2
        go_ret
        exact ⟨rfl, HG.out⟩
      · rw [hi] at C3
        have C3' := Lib.hid (C3.ii rfl)
        have C4 := Lib.hid (fun w hg => one_lim (w0 := w0) a.floor w hg)
        rw [show okL (a.floor, 65534) = (decide (0 ≤ a.floor) && decide (a.floor ≤ 65534)) from rfl] at C4
        clear C3 hi
        generalize (decide (0 ≤ a.floor) && decide (a.floor ≤ 65534)) = b at *
        generalize (if b = true then (0 : Int) else 2) = r at *
        generalize Tx a.floor = t at *
        generalize a.floor = n at *
        generalize RT a = s at *
        generalize Tx 65535 = u at *
        intro w hg
        have HG := Lib.hid hg; clear hg
        go_enter Tryz.func67, Tryz.ntmps67
        go_wp2_with fail
        refine (C1.out _ HG.out).mono ?_
        rintro e w1 ⟨rfl, hg⟩
        replace HG := Lib.hid hg; clear hg
        go_wp2_with fail
        refine (C2.out _ HG.out).mono ?_
        rintro e w1 ⟨rfl, hg⟩
        replace HG := Lib.hid hg; clear hg
        go_wp2_with fail
        refine (C3'.out _ HG.out).mono ?_
        rintro e w1 ⟨rfl, hg⟩
        replace HG := Lib.hid hg; clear hg
        go_wp2_with fail
        refine (C4.out _ HG.out).mono ?_
        rintro e w1 ⟨rfl, hg⟩
        replace HG := Lib.hid hg; clear hg
        go_wp2
        go_ret
        exact ⟨rfl, HG.out⟩
set_option maxHeartbeats 1000000 in
set_option maxRecDepth 100000 in
theorem ret_GCheck {s : ByteArray} (hs : s.size ≤ 400000) (a b c : Int) : Ret w0 40 #[.agg #[.string s, .int .i64 a, .int .i64 b, .int .i64 c]] (.int .i64 (glE s a b c)) := by
  have C1 := Lib.hid (RetG.of4 fun w1 h => ret_checkLevel (htab_gr htab h) (hmx.gr h) (herr.gr h) hs)
  have C2 := Lib.hid (ret_checkTarget (w0 := w0) a b c)
  clear htab hmx herr hs
  intro w hg
  have HG := Lib.hid (hg.alloc (.cells #[.string s, .int .i64 a, .int .i64 b, .int .i64 c] 62))
  have hk : ∀ w', Gr (w.alloc (.cells #[.string s, .int .i64 a, .int .i64 b, .int .i64 c] 62)) w' → w'.cell? ⟨w.heap.size, 1, none⟩ = some (.int .i64 a) ∧ w'.cell? ⟨w.heap.size, 2, none⟩ = some (.int .i64 b) ∧ w'.cell? ⟨w.heap.size, 3, none⟩ = some (.int .i64 c) := fun w' h => ⟨gr_cell h (by simp), gr_cell h (by simp), gr_cell h (by simp)⟩
  have HK := Lib.hid hk
  clear hg hk
  unfold glE
  by_cases h : compE s = 0
  · rw [if_pos h]
    rw [h] at C1
    clear h
    generalize tgE a b c = r at *
    go_enter Tryz.func40, Tryz.ntmps40
    go_wp2_with fail
    refine (C1.out _ HG.out).mono ?_
    rintro e w1 ⟨rfl, hg⟩
    obtain ⟨k1, k2, k3⟩ := HK.out _ hg
    replace HG := Lib.hid (Gr.trans HG.out hg); clear hg
    go_wp2_with fail
    refine (C2.out _ HG.out).mono ?_
    rintro e w2 ⟨rfl, hg⟩
    replace HG := Lib.hid hg; clear hg
    go_wp2
    go_ret
    exact ⟨rfl, HG.out⟩
  · rw [if_neg h]
    have hne : (compE s != 0) = true := by simpa using h
    clear h
    generalize compE s = r at *
    go_enter Tryz.func40, Tryz.ntmps40
    go_wp2_with fail
    refine (C1.out _ HG.out).mono ?_
    rintro e w1 ⟨rfl, hg⟩
    replace HG := Lib.hid (Gr.trans HG.out hg); clear hg
    go_wp2
    go_ret
    exact ⟨rfl, HG.out⟩
end
end Go.Proofs.YtlbnibicehpobaaGreatDoor

/- Levels: Of, Split, Join, Scale, both sides. -/
namespace Go.Proofs.YtlbnibicehpobaaGreatDoor
open Go.RowKit Go.Shelf
open Z

theorem wrap_i64_nat (n : Nat) (h : n < 9223372036854775808) : IntKind.i64.wrap (n : Int) = (n : Int) := by
  rw [IntKind.wrap_i64]; omega
theorem bits_and_i64_nat (a b : Nat) (ha : a < 4611686018427387904) (hb : b < 4611686018427387904) : bits .and .i64 (a : Int) (b : Int) = ((a &&& b : Nat) : Int) := by
  have hx : a &&& b < 2 ^ 62 := Nat.and_lt_two_pow _ (by omega)
  have h1 : (BitVec.ofInt 64 (a : Int)).toNat = a := by
    rw [BitVec.ofInt_natCast, BitVec.toNat_ofNat]; exact Nat.mod_eq_of_lt (by omega)
  have h2 : (BitVec.ofInt 64 (b : Int)).toNat = b := by
    rw [BitVec.ofInt_natCast, BitVec.toNat_ofNat]; exact Nat.mod_eq_of_lt (by omega)
  show IntKind.i64.wrap ((BitVec.ofInt 64 (a : Int) &&& BitVec.ofInt 64 (b : Int)).toNat : Int) = _
  rw [BitVec.toNat_and, h1, h2]
  exact wrap_i64_nat _ (by omega)
theorem bits_or_i64_nat (a b : Nat) (ha : a < 4611686018427387904) (hb : b < 4611686018427387904) : bits .or .i64 (a : Int) (b : Int) = ((a ||| b : Nat) : Int) := by
  have hx : a ||| b < 2 ^ 62 := Nat.or_lt_two_pow (by omega) (by omega)
  have h1 : (BitVec.ofInt 64 (a : Int)).toNat = a := by
    rw [BitVec.ofInt_natCast, BitVec.toNat_ofNat]; exact Nat.mod_eq_of_lt (by omega)
  have h2 : (BitVec.ofInt 64 (b : Int)).toNat = b := by
    rw [BitVec.ofInt_natCast, BitVec.toNat_ofNat]; exact Nat.mod_eq_of_lt (by omega)
  show IntKind.i64.wrap ((BitVec.ofInt 64 (a : Int) ||| BitVec.ofInt 64 (b : Int)).toNat : Int) = _
  rw [BitVec.toNat_or, h1, h2]
  exact wrap_i64_nat _ (by omega)
theorem and255 (x : Nat) (h : x ≤ 65535) : bits .and .i64 (x : Int) 255 = ((x % 256 : Nat) : Int) := by
  rw [show (255 : Int) = ((255 : Nat) : Int) from rfl, bits_and_i64_nat _ _ (by omega) (by omega), Nat.and_two_pow_sub_one_eq_mod x 8]
theorem or8 (a b : Nat) (ha : a ≤ 255) (hb : b ≤ 255) : bits .or .i64 ((a : Int) * 256) (b : Int) = ((256 * a + b : Nat) : Int) := by
  rw [show (a : Int) * 256 = ((2 ^ 8 * a : Nat) : Int) by omega, bits_or_i64_nat _ _ (by omega) (by omega), ← Nat.two_pow_add_eq_or_of_lt (by omega)]

def byteB (v : Int) : Bool := decide (0 ≤ v) && decide (v ≤ 255)
def joinI (a b : Int) : Int × Int := if (byteB a && byteB b) = true then (256 * a + b, 0) else (0, 2)
def ofI (a b : Int) : Int × Int := if b = 8 then joinI a a else if b = 16 then (if lvl a = true then (a, 0) else (0, 2)) else (0, 1)
def scaleI (a b : Int) : Int × Int := if (lvl a && lvl b) = true then ((2 * (a * b) + 65535) / 131070, 0) else (0, 2)
/-- three ints -/
def vIII (p : Int × Int × Int) : Value := .tuple #[.int .i64 p.1, .int .i64 p.2.1, .int .i64 p.2.2]
def splitI (a : Int) : Int × Int × Int := if lvl a = true then (a / 256, a % 256, 0) else (0, 0, 2)
theorem byteB_cases (v : Int) : (byteB v = true ∧ 0 ≤ v ∧ v ≤ 255) ∨ (byteB v = false ∧ v < 0) ∨ (byteB v = false ∧ 255 < v) := by
  unfold byteB
  by_cases h0 : v < 0
  · exact .inr (.inl ⟨by rw [decide_eq_false (by omega)]; rfl, h0⟩)
  · by_cases h1 : 255 < v
    · exact .inr (.inr ⟨by rw [decide_eq_false (show ¬ v ≤ 255 by omega), Bool.and_false], h1⟩)
    · exact .inl ⟨by rw [decide_eq_true (by omega), decide_eq_true (by omega)]; rfl, by omega, by omega⟩
theorem ofI_8 (a : Int) : ofI a 8 = if byteB a = true then (257 * a, 0) else (0, 2) := by
  unfold ofI joinI
  rw [if_pos rfl, Bool.and_self]
  split
  · rw [show 256 * a + a = 257 * a by omega]
  · rfl
theorem ofI_16 (a : Int) : ofI a 16 = if lvl a = true then (a, 0) else (0, 2) := by
  unfold ofI; rw [if_neg (by omega), if_pos rfl]
end Go.Proofs.YtlbnibicehpobaaGreatDoor
