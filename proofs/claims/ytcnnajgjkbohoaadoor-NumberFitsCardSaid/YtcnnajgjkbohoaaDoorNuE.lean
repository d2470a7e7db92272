/- Law 5: the example of the chapter, and the laws that hold the program against the reference. -/
import Derived.Test.YtcnnajgjkbohoaaDoorNuD
set_option linter.unusedVariables false
set_option linter.unusedSimpArgs false
namespace Go.Proofs.YtcnnajgjkbohoaaDoor
open Go.RowKit Go.Shelf
open Z

theorem nu_beq {s t : ByteArray} (h : s = t) : (s.toList == t.toList) = true := by subst h; simp
theorem text500 : nuT 500 = [48, 46, 53] := by unfold nuT; rw [decsN_eq, show 500 / 1000 = 0 from rfl, dig_one (by decide)]; rfl
theorem text13000 : nuT 13000 = [49, 51] := by unfold nuT; rw [decsN_eq, show 13000 / 1000 = 13 from rfl, dig_more (by decide), dig_one (by decide)]; rfl
theorem text1100 : nuT 1100 = [49, 46, 49] := by unfold nuT; rw [decsN_eq, show 1100 / 1000 = 1 from rfl, dig_one (by decide)]; rfl
theorem text2000 : nuT 2000 = [50] := by unfold nuT; rw [decsN_eq, show 2000 / 1000 = 2 from rfl, dig_one (by decide)]; rfl
theorem text1990 : nuT 1990 = [49, 46, 57, 57] := by unfold nuT; rw [decsN_eq, show 1990 / 1000 = 1 from rfl, dig_one (by decide)]; rfl
theorem bet_lit {a b r : List UInt8} {n : Nat} (h1 : both2 a b = 0) (h2 : nuV a < nuV b) (h3 : betO (nuV a) (nuV b) = some n) (h4 : nuT n = r) : betN a b = (r, 0) := by
  unfold betN betV
  rw [if_pos h1, if_neg (by omega), h3]
  simp only [h4]
/-- the example's triples -/
def exN (k : Nat) : ByteArray × ByteArray × ByteArray := match k with
  | 0 => (⟨#[49]⟩, ⟨#[50]⟩, ⟨#[49, 46, 49]⟩)
  | 1 => (⟨#[49]⟩, ⟨#[51]⟩, ⟨#[50]⟩)
  | 2 => (⟨#[49, 46, 57]⟩, ⟨#[50, 46, 49]⟩, ⟨#[50]⟩)
  | _ => (⟨#[49, 46, 57, 56]⟩, ⟨#[50]⟩, ⟨#[49, 46, 57, 57]⟩)
theorem exN_bet (k : Nat) : betN (exN k).1.data.toList (exN k).2.1.data.toList = ((exN k).2.2.data.toList, 0) := by
  match k with
  | 0 => exact bet_lit (n := 1100) (by decide +kernel) (by decide +kernel) (by decide +kernel) text1100
  | 1 => exact bet_lit (n := 2000) (by decide +kernel) (by decide +kernel) (by decide +kernel) text2000
  | 2 => exact bet_lit (n := 2000) (by decide +kernel) (by decide +kernel) (by decide +kernel) text2000
  | k + 3 => show betN [49, 46, 57, 56] [50] = ([49, 46, 57, 57], 0); exact bet_lit (n := 1990) (by decide +kernel) (by decide +kernel) (by decide +kernel) text1990
theorem exN_len (k : Nat) : (exN k).1.size ≤ 1000 ∧ (exN k).2.1.size ≤ 1000 := by
  match k with
  | 0 | 1 | 2 => unfold exN; decide
  | k + 3 => show (⟨#[49, 46, 57, 56]⟩ : ByteArray).size ≤ 1000 ∧ (⟨#[50]⟩ : ByteArray).size ≤ 1000; decide
def TN (w : World) (b : Nat) : Prop := ∀ k, k < 4 → w.cell? ⟨b, k * 3, none⟩ = some (.string (exN k).1) ∧ w.cell? ⟨b, k * 3 + 1, none⟩ = some (.string (exN k).2.1) ∧ w.cell? ⟨b, k * 3 + 2, none⟩ = some (.string (exN k).2.2)
theorem TN.gr {w w' : World} {b : Nat} (h : TN w b) (hg : Gr w w') : TN w' b := fun k hk => ⟨cell_gr hg (h k hk).1, cell_gr hg (h k hk).2.1, cell_gr hg (h k hk).2.2⟩
abbrev oTN : Obj := .cells #[.string ⟨#[49]⟩, .string ⟨#[50]⟩, .string ⟨#[49, 46, 49]⟩, .string ⟨#[49]⟩, .string ⟨#[51]⟩, .string ⟨#[50]⟩, .string ⟨#[49, 46, 57]⟩, .string ⟨#[50, 46, 49]⟩, .string ⟨#[50]⟩, .string ⟨#[49, 46, 57, 56]⟩, .string ⟨#[50]⟩, .string ⟨#[49, 46, 57, 57]⟩] 52
theorem TN.new (w : World) : TN (w.alloc oTN) w.heap.size := fun k hk => by
  rw [World.cell?_alloc_at _ _ _ _ rfl, World.cell?_alloc_at _ _ _ _ rfl, World.cell?_alloc_at _ _ _ _ rfl]
  match k, hk with
  | 0, _ => exact ⟨rfl, rfl, rfl⟩
  | 1, _ => exact ⟨rfl, rfl, rfl⟩
  | 2, _ => exact ⟨rfl, rfl, rfl⟩
  | 3, _ => exact ⟨rfl, rfl, rfl⟩
  | k + 4, h => exact absurd h (by omega)
section
variable {w0 : World} (htab : Tab w0)
include htab
theorem retn_Of {n : Int} (hn : isJ n) : Ret w0 18 #[.int .i64 n] (vTI (ofN n)) := .mk fun w hg => nu_Of n w hn (htab_gr htab hg)
theorem retn_Between {s t : ByteArray} (hs : s.size ≤ 1000) (ht : t.size ≤ 1000) : Ret w0 22 #[.string s, .string t] (vTI (betN s.data.toList t.data.toList)) := .mk fun w hg => nu_Between s t w hs ht (htab_gr htab hg)
theorem retn_After {s : ByteArray} (hs : s.size ≤ 1000) : Ret w0 24 #[.string s] (vTI (aftN s.data.toList)) := .mk fun w hg => nu_After s w hs (htab_gr htab hg)
omit htab
theorem retn_T {s : ByteArray} (hs : s.size ≤ 1000) : Ret w0 14 #[.string s] (vII (nuR s.data.toList)) := .mk fun w _ => nu_Thousandths s w hs
theorem retn_Check {s : ByteArray} (hs : s.size ≤ 1000) : Ret w0 16 #[.string s] (.int .i64 (nuE s.data.toList)) := .mk fun w _ => nu_Check s w hs
theorem retn_Compare {s t : ByteArray} (hs : s.size ≤ 1000) (ht : t.size ≤ 1000) : Ret w0 20 #[.string s, .string t] (vII (nuCmp s.data.toList t.data.toList)) := .mk fun w _ => nu_Compare s t w hs ht
theorem small_max {s : ByteArray} (hs : s.size ≤ 1000) : s.size ≤ maxLen := by unfold maxLen; omega
theorem ret5_T {s : ByteArray} (hs : s.size ≤ 1000) : Ret w0 15 #[.string s] (vII (nuR s.data.toList)) := .mk fun w _ => r5_Thousandths s w (small_max hs)
theorem ret5_Check {s : ByteArray} (hs : s.size ≤ 1000) : Ret w0 17 #[.string s] (.int .i64 (nuE s.data.toList)) := .mk fun w _ => r5_Check s w (small_max hs)
theorem ret5_Compare {s t : ByteArray} (hs : s.size ≤ 1000) (ht : t.size ≤ 1000) : Ret w0 21 #[.string s, .string t] (vII (nuCmp s.data.toList t.data.toList)) := .mk fun w _ => r5_Compare s t w (small_max hs) (small_max ht)
theorem ret5_Of {n : Int} (hn : isJ n) : Ret w0 19 #[.int .i64 n] (vTI (ofN n)) := .same fun w => r5_Of n w hn
theorem ret5_Between {s t : ByteArray} (hs : s.size ≤ 1000) (ht : t.size ≤ 1000) : Ret w0 23 #[.string s, .string t] (vTI (betN s.data.toList t.data.toList)) := .mk fun w _ => r5_Between s t w (small_max hs) (small_max ht)
theorem ret5_After {s : ByteArray} (hs : s.size ≤ 1000) : Ret w0 25 #[.string s] (vTI (aftN s.data.toList)) := .mk fun w _ => r5_After s w (small_max hs)
include htab
set_option maxHeartbeats 4000000 in
set_option maxRecDepth 100000 in
theorem l5_awake : Ret w0 13 #[] (.bool true) := by
  have C1 := Lib.hid ((retn_T (w0 := w0) (s := ⟨#[49, 50, 46, 53]⟩) (by decide)).cast (v' := .tuple #[.int .i64 12500, .int .i64 0]) (by rw [show nuR (⟨#[49, 50, 46, 53]⟩ : ByteArray).data.toList = (12500, 0) by decide +kernel]; rfl))
  have C2 := Lib.hid ((retn_Of htab (n := 500) (by unfold isJ; omega)).cast (v' := .tuple #[.string ⟨#[48, 46, 53]⟩, .int .i64 0]) (by rw [show ofN 500 = (nuT 500, 0) from rfl, text500]; rfl))
  have C3 := Lib.hid ((retn_Compare (w0 := w0) (s := ⟨#[48, 46, 53]⟩) (t := ⟨#[49]⟩) (by decide) (by decide)).cast (v' := .tuple #[.int .i64 (-1), .int .i64 0]) (by rw [show nuCmp (⟨#[48, 46, 53]⟩ : ByteArray).data.toList (⟨#[49]⟩ : ByteArray).data.toList = (-1, 0) by decide +kernel]; rfl))
  have C4 := Lib.hid ((retn_After htab (s := ⟨#[49, 50, 46, 53]⟩) (by decide)).cast (v' := .tuple #[.string ⟨#[49, 51]⟩, .int .i64 0]) (by
    have e : aftN (⟨#[49, 50, 46, 53]⟩ : ByteArray).data.toList = ofN (13000 : Nat) := by
      unfold aftN
      rw [if_pos (by decide +kernel), show upN (nuV (⟨#[49, 50, 46, 53]⟩ : ByteArray).data.toList) 1000 = 13000 by decide +kernel]
    rw [e, show ofN (13000 : Nat) = (nuT 13000, 0) from rfl, text13000]; rfl))
  have CB : Hid (∀ k w, Gr w0 w → Calls Tryd.prog 22 #[.string (exN k).1, .string (exN k).2.1] w fun e w' => e = .returned (.tuple #[.string (exN k).2.2, .int .i64 0]) ∧ Gr w w') := Lib.hid fun k w hg => by
    have H := nu_Between (exN k).1 (exN k).2.1 w (exN_len k).1 (exN_len k).2 (htab_gr htab hg)
    rw [exN_bet k] at H
    unfold vTI at H
    rw [str_data] at H
    exact H
  have C5 := Lib.hid ((retn_Between htab (s := ⟨#[49, 46, 48, 48, 49]⟩) (t := ⟨#[49, 46, 48, 48, 50]⟩) (by decide) (by decide)).cast (v' := .tuple #[.string ⟨#[]⟩, .int .i64 12]) (by
    rw [show betN (⟨#[49, 46, 48, 48, 49]⟩ : ByteArray).data.toList (⟨#[49, 46, 48, 48, 50]⟩ : ByteArray).data.toList = ([], 12) by
      unfold betN betV
      rw [if_pos (by decide +kernel), if_neg (by decide +kernel), show betO (nuV (⟨#[49, 46, 48, 48, 49]⟩ : ByteArray).data.toList) (nuV (⟨#[49, 46, 48, 48, 50]⟩ : ByteArray).data.toList) = none by decide +kernel]]
    rfl))
  have C6 := Lib.hid ((retn_Check (w0 := w0) (s := ⟨#[49, 46, 53, 48]⟩) (by decide)).cast (v' := .int .i64 3) (by rw [show nuE (⟨#[49, 46, 53, 48]⟩ : ByteArray).data.toList = 3 by decide +kernel]))
  clear htab
  intro w hg
  have HG := Lib.hid hg; clear hg
  go_enter Tryd.func13, Tryd.ntmps13
  go_wp2_with fail
  refine (C1.out _ HG.out).mono ?_; rintro e w1 ⟨rfl, hg⟩
  replace HG := Lib.hid hg; clear hg
  go_wp2_with fail
  refine (C2.out _ HG.out).mono ?_; rintro e w2 ⟨rfl, hg⟩
  replace HG := Lib.hid hg; clear hg
  go_wp2_with fail
  refine (C3.out _ HG.out).mono ?_; rintro e w3 ⟨rfl, hg⟩
  replace HG := Lib.hid hg; clear hg
  go_wp2_with fail
  refine (C4.out _ HG.out).mono ?_; rintro e w4 ⟨rfl, hg⟩
  have HT := Lib.hid (TN.new w4)
  replace HG := Lib.hid (hg.alloc oTN); clear hg
  go_wp2
  go_loopw [10, 11, 12, 59] (fun _ _ _ i wr => ∃ k : Nat, i = .int .i64 k ∧ k ≤ 4 ∧ Hid (Gr w0 wr) ∧ Hid (TN wr w4.heap.size)) (fun _ _ _ i _ => 4 - (intOf i).toNat)
  case atStart => exact ⟨0, rfl, Nat.zero_le _, HG.out, HT.out⟩
  case round =>
    clear HG HT
    obtain ⟨k, rfl, hk, HG, HT⟩ := hrel
    by_cases hlt : k < 4
    · obtain ⟨c0, c1, c2⟩ := HT.out k hlt
      have A := CB.out k
      generalize exN k = x at *
      obtain ⟨s, t, r⟩ := x
      simp only at c0 c1 c2 A
      have A := Lib.hid A
      have hbl : w4.heap.size < wr.heap.size := cellLt c0
      have hbeq := nu_beq (s := r) rfl
      have hx2 : (wr.alloc (.cells #[.string s, .string t, .string r] 52)).cell? ⟨wr.heap.size, 2, none⟩ = some (.string r) := by rw [World.cell?_alloc_at _ _ _ _ rfl]; rfl
      have HX2 := Lib.hid hx2
      clear hx2
      have HGA := Lib.hid ((Gr.refl wr).alloc (.cells #[.string s, .string t, .string r] 52))
      go_wp2_with fail
      refine (A.out _ (Gr.trans HG.out HGA.out)).mono ?_
      rintro e w5 ⟨rfl, hg5⟩
      have hx2 := cell_gr hg5 HX2.out
      have HGn := Lib.hid (Gr.trans HG.out (Gr.trans HGA.out hg5))
      have HTn := Lib.hid (HT.out.gr (Gr.trans HGA.out hg5))
      clear hg5 HG HT HGA HX2 c0 c1 c2
      go_wp2
      go_roundw
      case rel => exact ⟨k + 1, by go_num, by omega, HGn.out, HTn.out⟩
      case measure => simp [intOf]; omega
    · have hk4 : k = 4 := by omega
      subst hk4
      clear HT CB
      go_wp2_with fail
      refine (C5.out _ HG.out).mono ?_; rintro e w5 ⟨rfl, hg⟩
      replace HG := Lib.hid hg; clear hg
      go_wp2_with fail
      refine (C6.out _ HG.out).mono ?_; rintro e w6 ⟨rfl, hg⟩
      replace HG := Lib.hid hg; clear hg
      go_wp2
      go_ret
      exact ⟨rfl, HG.out⟩
set_option maxHeartbeats 2000000 in
set_option maxRecDepth 100000 in
theorem l5_NumberChecks {s : ByteArray} (hs : s.size ≤ maxLen) : Ret w0 3 #[.string s] (.bool true) := by
  have AW := Lib.hid (l5_awake htab)
  unfold maxLen at hs
  by_cases hl : 400 < s.size
  · clear htab
    intro w hg
    have HG := Lib.hid hg; clear hg
    go_enter Tryd.func3, Tryd.ntmps3
    go_wp2_with fail
    refine (AW.out _ HG.out).mono ?_; rintro e w1 ⟨rfl, hg⟩
    replace HG := Lib.hid hg; clear hg
    go_wp2
    go_ret
    exact ⟨rfl, HG.out⟩
  · have T1 := Lib.hid (retn_T (w0 := w0) (s := s) (by omega))
    have T2 := Lib.hid (ret5_T (w0 := w0) (s := s) (by omega))
    have K1 := Lib.hid (retn_Check (w0 := w0) (s := s) (by omega))
    have K2 := Lib.hid (ret5_Check (w0 := w0) (s := s) (by omega))
    have hl' : s.size ≤ 400 := by omega
    unfold vII at T1 T2
    generalize nuR s.data.toList = p at *
    generalize nuE s.data.toList = E at *
    obtain ⟨p1, p2⟩ := p
    simp only at T1 T2
    clear htab hl
    intro w hg
    have HG := Lib.hid hg; clear hg
    go_enter Tryd.func3, Tryd.ntmps3
    go_wp2_with fail
    refine (T1.out _ HG.out).mono ?_; rintro e w1 ⟨rfl, hg⟩
    replace HG := Lib.hid hg; clear hg
    go_wp2_with fail
    refine (T2.out _ HG.out).mono ?_; rintro e w2 ⟨rfl, hg⟩
    replace HG := Lib.hid hg; clear hg
    go_wp2_with fail
    refine (AW.out _ HG.out).mono ?_; rintro e w3 ⟨rfl, hg⟩
    replace HG := Lib.hid hg; clear hg
    go_wp2_with fail
    refine (K1.out _ HG.out).mono ?_; rintro e w4 ⟨rfl, hg⟩
    replace HG := Lib.hid hg; clear hg
    go_wp2_with fail
    refine (K2.out _ HG.out).mono ?_; rintro e w5 ⟨rfl, hg⟩
    replace HG := Lib.hid hg; clear hg
    go_wp2
    go_ret
    exact ⟨rfl, HG.out⟩
set_option maxHeartbeats 2000000 in
set_option maxRecDepth 100000 in
theorem l5_NumberNames {n : Int} (hn : isJ n) : Ret w0 4 #[.int .i64 n] (.bool true) := by
  have AW := Lib.hid (l5_awake htab)
  have T1 := Lib.hid (retn_Of htab hn)
  have T2 := Lib.hid (ret5_Of (w0 := w0) hn)
  unfold vTI at T1 T2
  generalize ofN n = p at *
  obtain ⟨p1, p2⟩ := p
  simp only at T1 T2
  generalize str p1 = r at *
  have hbeq := nu_beq (s := r) rfl
  clear htab
  intro w hg
  have HG := Lib.hid hg; clear hg
  go_enter Tryd.func4, Tryd.ntmps4
  go_wp2_with fail
  refine (T1.out _ HG.out).mono ?_; rintro e w1 ⟨rfl, hg⟩
  replace HG := Lib.hid hg; clear hg
  go_wp2_with fail
  refine (T2.out _ HG.out).mono ?_; rintro e w2 ⟨rfl, hg⟩
  replace HG := Lib.hid hg; clear hg
  go_wp2_with fail
  refine (AW.out _ HG.out).mono ?_; rintro e w3 ⟨rfl, hg⟩
  replace HG := Lib.hid hg; clear hg
  go_wp2
  go_ret
  exact ⟨rfl, HG.out⟩
set_option maxHeartbeats 2000000 in
set_option maxRecDepth 100000 in
theorem l5_NumberOrders {s t : ByteArray} (hs : s.size ≤ maxLen) (ht : t.size ≤ maxLen) : Ret w0 5 #[.string s, .string t] (.bool true) := by
  have AW := Lib.hid (l5_awake htab)
  unfold maxLen at hs ht
  by_cases hl : 400 < s.size ∨ 400 < t.size
  · clear htab
    intro w hg
    have HG := Lib.hid hg; clear hg
    rcases Nat.lt_or_ge 400 s.size with h1 | h1
    · clear hl
      go_enter Tryd.func5, Tryd.ntmps5
      go_wp2_with fail
      refine (AW.out _ HG.out).mono ?_; rintro e w1 ⟨rfl, hg⟩
      replace HG := Lib.hid hg; clear hg
      go_wp2
      go_ret
      exact ⟨rfl, HG.out⟩
    · have h2 : 400 < t.size := by omega
      clear hl
      go_enter Tryd.func5, Tryd.ntmps5
      go_wp2_with fail
      refine (AW.out _ HG.out).mono ?_; rintro e w1 ⟨rfl, hg⟩
      replace HG := Lib.hid hg; clear hg
      go_wp2
      go_ret
      exact ⟨rfl, HG.out⟩
  · have h1 : s.size ≤ 400 := by omega
    have h2 : t.size ≤ 400 := by omega
    have T1 := Lib.hid (retn_Compare (w0 := w0) (s := s) (t := t) (by omega) (by omega))
    have T2 := Lib.hid (ret5_Compare (w0 := w0) (s := s) (t := t) (by omega) (by omega))
    unfold vII at T1 T2
    generalize nuCmp s.data.toList t.data.toList = p at *
    obtain ⟨p1, p2⟩ := p
    simp only at T1 T2
    clear htab hl
    intro w hg
    have HG := Lib.hid hg; clear hg
    go_enter Tryd.func5, Tryd.ntmps5
    go_wp2_with fail
    refine (T1.out _ HG.out).mono ?_; rintro e w1 ⟨rfl, hg⟩
    replace HG := Lib.hid hg; clear hg
    go_wp2_with fail
    refine (T2.out _ HG.out).mono ?_; rintro e w2 ⟨rfl, hg⟩
    replace HG := Lib.hid hg; clear hg
    go_wp2_with fail
    refine (AW.out _ HG.out).mono ?_; rintro e w3 ⟨rfl, hg⟩
    replace HG := Lib.hid hg; clear hg
    go_wp2
    go_ret
    exact ⟨rfl, HG.out⟩
set_option maxHeartbeats 2000000 in
set_option maxRecDepth 100000 in
theorem l5_NumberBetween {s t : ByteArray} (hs : s.size ≤ maxLen) (ht : t.size ≤ maxLen) : Ret w0 6 #[.string s, .string t] (.bool true) := by
  have AW := Lib.hid (l5_awake htab)
  unfold maxLen at hs ht
  by_cases hl : 400 < s.size ∨ 400 < t.size
  · clear htab
    intro w hg
    have HG := Lib.hid hg; clear hg
    rcases Nat.lt_or_ge 400 s.size with h1 | h1
    · clear hl
      go_enter Tryd.func6, Tryd.ntmps6
      go_wp2_with fail
      refine (AW.out _ HG.out).mono ?_; rintro e w1 ⟨rfl, hg⟩
      replace HG := Lib.hid hg; clear hg
      go_wp2
      go_ret
      exact ⟨rfl, HG.out⟩
    · have h2 : 400 < t.size := by omega
      clear hl
      go_enter Tryd.func6, Tryd.ntmps6
      go_wp2_with fail
      refine (AW.out _ HG.out).mono ?_; rintro e w1 ⟨rfl, hg⟩
      replace HG := Lib.hid hg; clear hg
      go_wp2
      go_ret
      exact ⟨rfl, HG.out⟩
  · have h1 : s.size ≤ 400 := by omega
    have h2 : t.size ≤ 400 := by omega
    have T1 := Lib.hid (retn_Between htab (s := s) (t := t) (by omega) (by omega))
    have T2 := Lib.hid (ret5_Between (w0 := w0) (s := s) (t := t) (by omega) (by omega))
    have T3 := Lib.hid (retn_After htab (s := s) (by omega))
    have T4 := Lib.hid (ret5_After (w0 := w0) (s := s) (by omega))
    unfold vTI at T1 T2 T3 T4
    generalize betN s.data.toList t.data.toList = p at *
    obtain ⟨p1, p2⟩ := p
    generalize aftN s.data.toList = q at *
    obtain ⟨q1, q2⟩ := q
    simp only at T1 T2 T3 T4
    generalize str p1 = u at *
    generalize str q1 = v at *
    have hbu := nu_beq (s := u) rfl
    have hbv := nu_beq (s := v) rfl
    clear htab hl
    intro w hg
    have HG := Lib.hid hg; clear hg
    go_enter Tryd.func6, Tryd.ntmps6
    go_wp2_with fail
    refine (T1.out _ HG.out).mono ?_; rintro e w1 ⟨rfl, hg⟩
    replace HG := Lib.hid hg; clear hg
    go_wp2_with fail
    refine (T2.out _ HG.out).mono ?_; rintro e w2 ⟨rfl, hg⟩
    replace HG := Lib.hid hg; clear hg
    go_wp2_with fail
    refine (T3.out _ HG.out).mono ?_; rintro e w3 ⟨rfl, hg⟩
    replace HG := Lib.hid hg; clear hg
    go_wp2_with fail
    refine (T4.out _ HG.out).mono ?_; rintro e w4 ⟨rfl, hg⟩
    replace HG := Lib.hid hg; clear hg
    go_wp2_with fail
    refine (AW.out _ HG.out).mono ?_; rintro e w5 ⟨rfl, hg⟩
    replace HG := Lib.hid hg; clear hg
    go_wp2
    go_ret
    exact ⟨rfl, HG.out⟩
set_option maxHeartbeats 2000000 in
set_option maxRecDepth 100000 in
theorem l5_NumberAscends {a : Option Addr} {l : List ByteArray} {cap : Nat} (hr : RdS w0 a l) (hlm : l.length ≤ maxLen) (hm : ∀ s ∈ l, s.size ≤ maxLen) : Ret w0 7 #[.slice a l.length cap] (.bool true) := by
  have AW := Lib.hid (l5_awake htab)
  unfold maxLen at hlm
  clear htab
  by_cases hl : 100 < l.length
  · clear hr hm
    generalize l.length = n at *
    intro w hg
    have HG := Lib.hid hg; clear hg
    go_enter Tryd.func7, Tryd.ntmps7
    go_wp2_with fail
    refine (AW.out _ HG.out).mono ?_; rintro e w1 ⟨rfl, hg⟩
    replace HG := Lib.hid hg; clear hg
    go_wp2
    go_ret
    exact ⟨rfl, HG.out⟩
  · obtain ⟨n, hn⟩ : ∃ n, n = l.length := ⟨_, rfl⟩
    have HN := Lib.hid hn
    obtain ⟨E, hE⟩ : ∃ E, E = ascE l := ⟨_, rfl⟩
    have A1 : Hid ((∀ j (hj : j < l.length), (l[j]).size ≤ 400) → ∀ w, Gr w0 w → Calls Tryd.prog 26 #[.slice a n cap] w fun e w' => e = .returned (.int .i64 E) ∧ Gr w w') := Lib.hid fun h w hg => by
      rw [hn, hE]
      exact nu_Ascending w (hr.gr hg) (by omega) fun s hs => by obtain ⟨j, hj, rfl⟩ := List.getElem_of_mem hs; have := h j hj; omega
    have A2 : Hid ((∀ j (hj : j < l.length), (l[j]).size ≤ 400) → ∀ w, Gr w0 w → Calls Tryd.prog 27 #[.slice a n cap] w fun e w' => e = .returned (.int .i64 E) ∧ Gr w w') := Lib.hid fun h w hg => by
      rw [hn, hE]
      exact r5_Ascending w (hr.gr hg) (by omega) hm
    have HR := Lib.hid hr
    have HM := Lib.hid (fun j (hj : j < l.length) => hm _ (List.getElem_mem hj))
    clear hE
    rw [← hn] at hl hlm ⊢
    have hl' : n ≤ 100 := by omega
    clear hr hm hn hl hlm
    intro w hg
    have HG := Lib.hid hg; clear hg
    go_enter Tryd.func7, Tryd.ntmps7
    go_wp2
    go_loopw [4, 11] (fun _ i wr => ∃ k : Nat, i = .int .i64 k ∧ k ≤ n ∧ Hid (Gr w0 wr) ∧ Hid (∀ j (hj : j < l.length), j < k → (l[j]).size ≤ 400)) (fun _ i _ => n - (intOf i).toNat)
    case atStart => exact ⟨0, rfl, Nat.zero_le _, HG.out, fun j hj h => absurd h (by omega)⟩
    case round =>
      clear HG
      obtain ⟨k, rfl, hk, HG, HK⟩ := hrel
      by_cases hlt : k < n
      · have hkl : k < l.length := by rw [← HN.out]; exact hlt
        obtain ⟨b, o, rfl, hat⟩ := HR.out k hkl
        have c0 := cell_gr HG.out hat
        have hmk := HM.out k hkl
        unfold maxLen at hmk
        have HK2 : Hid ((l[k]).size ≤ 400 → ∀ j (hj : j < l.length), j < k + 1 → (l[j]).size ≤ 400) := Lib.hid fun h j hj hjk => by
          by_cases e : j = k
          · subst e; exact h
          · exact HK.out j hj (by omega)
        generalize l[k] = x at *
        clear hat
        by_cases hx : 400 < x.size
        · clear HK2 HK
          go_wp2_with fail
          refine (AW.out _ HG.out).mono ?_; rintro e w1 ⟨rfl, hg⟩
          replace HG := Lib.hid hg; clear hg
          go_wp2
          go_ret
          exact ⟨rfl, HG.out⟩
        · have HK3 := Lib.hid (HK2.out (by omega))
          have hx' : x.size ≤ 400 := by omega
          clear HK2 HK hx
          go_wp2
          go_roundw
          case rel => exact ⟨k + 1, by go_num, by omega, HG.out, HK3.out⟩
          case measure => simp [intOf]; omega
      · have hall : ∀ j (hj : j < l.length), (l[j]).size ≤ 400 := fun j hj => HK.out j hj (by have := HN.out; omega)
        have B1 := Lib.hid (A1.out hall)
        have B2 := Lib.hid (A2.out hall)
        clear A1 A2 hall HK HR HM
        go_wp2_with fail
        refine (AW.out _ HG.out).mono ?_; rintro e w1 ⟨rfl, hg⟩
        replace HG := Lib.hid hg; clear hg
        go_wp2_with fail
        refine (B1.out _ HG.out).mono ?_; rintro e w2 ⟨rfl, hg⟩
        replace HG := Lib.hid (Gr.trans HG.out hg); clear hg
        go_wp2_with fail
        refine (B2.out _ HG.out).mono ?_; rintro e w3 ⟨rfl, hg⟩
        replace HG := Lib.hid (Gr.trans HG.out hg); clear hg
        go_wp2
        go_ret
        exact ⟨rfl, HG.out⟩
end
end Go.Proofs.YtcnnajgjkbohoaaDoor
