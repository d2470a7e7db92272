/- Law 14: where a group stands: place, indexOf, Place, SameTable. -/
import Derived.Test.YtmcngnnbfmjajaaGpT
import Derived.Test.YtmcngnnbfmjajaaGpO
import Derived.Test.YtmcngnnbfmjajaaShelf
set_option linter.unusedVariables false
set_option linter.unusedSimpArgs false
namespace Go.Proofs.Ytmcngnnbfmjajaa
open Go.RowKit
open Z
theorem cmp_lt {x y : Int} : decide (Lib.compareInt x y < 0) = decide (x < y) := by
  rw [Bool.eq_iff_iff]; unfold Lib.compareInt
  simp only [decide_eq_true_eq]
  repeat' split
  all_goals omega
theorem cmp_eq {x y : Int} : (Lib.compareInt x y == 0) = decide (x = y) := by
  rw [Bool.eq_iff_iff]; unfold Lib.compareInt
  simp only [beq_iff_eq, decide_eq_true_eq]
  repeat' split
  all_goals omega
set_option maxRecDepth 100000 in
set_option maxHeartbeats 1000000 in
theorem gp_place1 (x : Int) (c : Option Addr) (m cp : Nat) (n : Int) (w : World) :
    Calls Try.prog 64 #[.agg #[.int .i64 x, .slice c m cp], .int .i64 n] w fun e w' => e = .returned (.int .i64 (Lib.compareInt x n)) ∧ Gr w w' := by
  have HC := Lib.hid (fun w => Try.cmp_Compare_int x n w)
  generalize Lib.compareInt x n = E at *
  have HG := Lib.hid ((Gr.refl w).alloc (.cells #[.int .i64 x, .slice c m cp] 25))
  go_enter Try.func64, Try.ntmps64
  go_wp2_with fail
  refine (HC.out _).mono ?_; rintro e w1 ⟨rfl, rfl⟩
  go_wp2
  go_ret
  exact ⟨rfl, HG.out⟩
set_option maxRecDepth 100000 in
set_option maxHeartbeats 2000000 in
theorem sl_Search {a : Option Addr} {l : List Gp} {cap : Nat} (n : Int) (w : World) (hr : RdG w a l) (ha : asc l) (hlen : l.length ≤ 100) :
    Calls Try.prog 63 #[.slice a l.length cap, .int .i64 n, .func (.func 64) #[] #[]] w fun e w' => (∃ i : Nat, e = .returned (.tuple #[.int .i64 i, .bool (hasN l n)]) ∧ LoAt l i n) ∧ Gr w w' := by
  have HR := Lib.hid hr
  have HA := Lib.hid ha
  obtain ⟨m, hm⟩ : ∃ m, m = l.length := ⟨_, rfl⟩
  have HM := Lib.hid hm
  rw [← hm] at hlen ⊢
  clear hm hr ha
  obtain ⟨V, hV⟩ : ∃ V, hasN l n = V := ⟨_, rfl⟩
  rw [hV]
  have HV := Lib.hid hV
  clear hV
  go_enter Try.func63, Try.ntmps63
  go_wp2
  go_loopw [9, 10] (fun p q wr => ∃ i j : Nat, p = .int .i64 i ∧ q = .int .i64 j ∧ i ≤ j ∧ j ≤ m ∧ Hid (∀ k (h : k < l.length), k < i → l[k].1 < n) ∧ Hid (∀ k (h : k < l.length), j ≤ k → n ≤ l[k].1) ∧ Hid (Gr w wr)) (fun p q _ => (intOf q).toNat - (intOf p).toNat)
  case atStart => exact ⟨0, m, rfl, rfl, by omega, by omega, Lib.hid (fun k h hk => absurd hk (by omega)), Lib.hid (fun k h hk => absurd h (by rw [← HM.out]; omega)), Lib.hid (Gr.refl _)⟩
  case round =>
    obtain ⟨i, j, rfl, rfl, hij, hj, HI, HJ, HG⟩ := hrel
    by_cases hlt : i < j
    · obtain ⟨h, hh⟩ : ∃ h, (i + j) / 2 = h := ⟨_, rfl⟩
      have hhi : i ≤ h := by omega
      have hhj : h < j := by omega
      have hhl : h < l.length := by rw [← HM.out]; omega
      obtain ⟨b, o, c, cp, rfl, hc0, hc1, hv⟩ := (HR.out.gr HG.out).gpv hhl
      have HX := Lib.hid (fun w => gp_place1 l[h].1 c l[h].2.length cp n w)
      have hcl := cmp_lt (x := l[h].1) (y := n)
      have HI2 : Hid (l[h].1 < n → ∀ k (hk : k < l.length), k < h + 1 → l[k].1 < n) := Lib.hid fun h1 k hk hkh => by
        by_cases e : k = h
        · subst e; exact h1
        · have := asc_lt HA.out hhl (show k < h by omega); omega
      have HJ2 : Hid (¬ l[h].1 < n → ∀ k (hk : k < l.length), h ≤ k → n ≤ l[k].1) := Lib.hid fun h1 k hk hkh => by
        by_cases e : k = h
        · subst e; omega
        · have := asc_lt HA.out hk (show h < k by omega); omega
      clear hv
      generalize l[h].2.length = ml at *
      generalize l[h].1 = x at *
      generalize Lib.compareInt x n = C at *
      have HHH := Lib.hid hh
      clear hh
      have hsh : ((i : Int) + (j : Int)) / 2 = (h : Int) := by have := HHH.out; omega
      go_wp2_with fail
      refine (HX.out _).mono ?_; rintro e w2 ⟨rfl, hg2⟩
      have HG2 := Lib.hid (HG.out.trans hg2)
      clear hg2 HG hc0 hc1 HX hsh
      by_cases hx : x < n
      · have hC : C < 0 := by rw [decide_eq_true hx] at hcl; simpa using hcl
        have HI3 := Lib.hid (HI2.out hx)
        clear hcl HI2 HJ2
        go_wp2
        go_roundw
        case rel => exact ⟨h + 1, j, by go_num, rfl, by omega, by omega, HI3, HJ, HG2⟩
        case measure => simp [intOf]; omega
      · have hC : ¬ C < 0 := by rw [decide_eq_false hx] at hcl; simpa using hcl
        have HJ3 := Lib.hid (HJ2.out (by omega))
        clear hcl HI2 HJ2
        go_wp2
        go_roundw
        case rel => exact ⟨i, h, rfl, rfl, by omega, by omega, HI, HJ3, HG2⟩
        case measure => simp [intOf]; omega
    · have hij2 : i = j := by omega
      subst hij2
      have HLO := Lib.hid (show LoAt l i n from ⟨by rw [← HM.out]; exact hj, HI.out, HJ.out⟩)
      clear HI HJ
      by_cases him : i < m
      · have hil : i < l.length := by rw [← HM.out]; exact him
        obtain ⟨b, o, c, cp, rfl, hc0, hc1, hv⟩ := (HR.out.gr HG.out).gpv hil
        have HX := Lib.hid (fun w => gp_place1 l[i].1 c l[i].2.length cp n w)
        have hcl := cmp_eq (x := l[i].1) (y := n)
        have hVe : V = decide (l[i].1 = n) := by
          rw [← HV.out, Bool.eq_iff_iff, HLO.out.has HA.out, decide_eq_true_eq]
          exact ⟨fun ⟨_, e⟩ => e, fun e => ⟨hil, e⟩⟩
        have HVE := Lib.hid hVe
        clear hv hVe
        generalize l[i].2.length = ml at *
        generalize l[i].1 = x at *
        generalize Lib.compareInt x n = C at *
        generalize decide (x = n) = D at *
        clear HV
        go_wp2_with fail
        refine (HX.out _).mono ?_; rintro e w2 ⟨rfl, hg2⟩
        have HG2 := Lib.hid (HG.out.trans hg2)
        clear hg2 HG hc0 hc1 HX
        go_wp2
        go_ret2
        exact ⟨⟨i, by rw [HVE.out]; rfl, HLO.out⟩, HG2.out⟩
      · have hVf : V = false := by
          rw [← HV.out, Bool.eq_false_iff]
          intro h
          obtain ⟨hi, -⟩ := (HLO.out.has HA.out).1 h
          have := HM.out; omega
        subst hVf
        clear HV
        go_wp2
        go_ret2
        exact ⟨⟨i, rfl, HLO.out⟩, HG.out⟩
set_option maxRecDepth 100000 in
set_option maxHeartbeats 1000000 in
theorem gp_place {a : Option Addr} {l : List Gp} {cap : Nat} (n : Int) (w : World) (hr : RdG w a l) (ha : asc l) (hlen : l.length ≤ 100) :
    Calls Try.prog 46 #[.slice a l.length cap, .int .i64 n] w fun e w' => (∃ i : Nat, e = .returned (.tuple #[.int .i64 i, .bool (hasN l n)]) ∧ LoAt l i n) ∧ Gr w w' := by
  have HS := Lib.hid (sl_Search (cap := cap) n w hr ha hlen)
  clear hr ha
  generalize l.length = m at *
  generalize hasN l n = V at *
  go_enter Try.func46, Try.ntmps46
  go_wp2_with fail
  refine HS.out.mono ?_; rintro e w1 ⟨⟨i, rfl, hlo⟩, hg⟩
  have HL := Lib.hid hlo
  have HG := Lib.hid hg
  clear hlo hg HS
  go_wp2
  go_ret2
  exact ⟨⟨i, rfl, HL.out⟩, HG.out⟩
set_option maxRecDepth 100000 in
set_option maxHeartbeats 1000000 in
theorem gp_indexOf {a : Option Addr} {l : List Gp} {cap : Nat} (n : Int) (w : World) (hr : RdG w a l) (hlen : l.length ≤ 1000000000) (ht : tbR l = 0) :
    Calls Try.prog 43 #[.slice a l.length cap, .int .i64 n] w fun e w' => (∃ i : Nat, e = .returned (.tuple #[.int .i64 (if hasN l n = true then (i : Int) else 0), .int .i64 (if hasN l n = true then 0 else 6)]) ∧ LoAt l i n) ∧ Gr w w' := by
  obtain ⟨h32, hall, ha⟩ := tbR_zero.1 ht
  have HT := gp_Table (cap := cap) w hr hlen
  rw [ht] at HT
  have HT := Lib.hid HT
  have HP := Lib.hid (fun W (hW : Gr w W) => gp_place (cap := cap) n W (hr.gr hW) ha (by omega))
  clear hr hall ha ht h32 hlen
  generalize l.length = m at *
  generalize hasN l n = V at *
  go_enter Try.func43, Try.ntmps43
  go_wp2_with fail
  refine HT.out.mono ?_; rintro e w1 ⟨rfl, hg⟩
  have HG := Lib.hid hg
  have HP1 := Lib.hid (HP.out w1 hg)
  clear hg HT HP
  go_wp2_with fail
  refine HP1.out.mono ?_; rintro e w2 ⟨⟨i, rfl, hlo⟩, hg⟩
  have HL := Lib.hid hlo
  have HG2 := Lib.hid (HG.out.trans hg)
  clear hlo hg HP1 HG
  cases V
  all_goals
    go_wp2
    go_ret2
    first | exact ⟨⟨i, rfl, HL.out⟩, HG2.out⟩ | exact ⟨⟨rfl, ⟨i, HL.out⟩⟩, HG2.out⟩
set_option maxRecDepth 100000 in
set_option maxHeartbeats 1000000 in
theorem gp_indexOf_err {a : Option Addr} {l : List Gp} {cap : Nat} (n : Int) (w : World) (hr : RdG w a l) (hlen : l.length ≤ 1000000000) (ht : ¬ tbR l = 0) :
    Calls Try.prog 43 #[.slice a l.length cap, .int .i64 n] w fun e w' => e = .returned (.tuple #[.int .i64 0, .int .i64 (tbR l)]) ∧ Gr w w' := by
  have HT := Lib.hid (gp_Table (cap := cap) w hr hlen)
  have hz : (tbR l == 0) = false := by simp [ht]
  clear hr ht hlen
  generalize l.length = m at *
  generalize tbR l = E at *
  go_enter Try.func43, Try.ntmps43
  go_wp2_with fail
  refine HT.out.mono ?_; rintro e w1 ⟨rfl, hg⟩
  have HG := Lib.hid hg
  clear hg HT
  go_wp2
  go_ret2
  exact ⟨rfl, HG.out⟩
set_option maxRecDepth 100000 in
set_option maxHeartbeats 1000000 in
theorem r14_Place {a : Option Addr} {l : List Gp} {cap : Nat} (n : Int) (w : World) (hr : RdG w a l) (hlen : l.length ≤ 1000000000) :
    Calls Try.prog 45 #[.slice a l.length cap, .int .i64 n] w fun e w' => e = .returned (.int .i64 (plF l n)) ∧ w = w' := by
  have HR := Lib.hid hr
  obtain ⟨V, hV⟩ : ∃ V, plF l n = V := ⟨_, rfl⟩
  rw [hV]
  have HV := Lib.hid hV
  obtain ⟨m, hm⟩ : ∃ m, m = l.length := ⟨_, rfl⟩
  have HM := Lib.hid hm
  rw [← hm] at hlen ⊢
  clear hm hV hr
  go_enter Try.func45, Try.ntmps45
  go_wp2
  go_loop [5] (fun i => ∃ j : Nat, i = .int .i64 j ∧ j ≤ m ∧ Hid (∀ k (h : k < l.length), k < j → l[k].1 ≠ n)) (fun i => m - (intOf i).toNat)
  case atStart => exact ⟨0, rfl, Nat.zero_le _, Lib.hid (fun k _ h => absurd h (by omega))⟩
  case round =>
    obtain ⟨j, rfl, hj, HP⟩ := hrel
    by_cases hlt : j < m
    · have hjl : j < l.length := by rw [← HM.out]; exact hlt
      obtain ⟨b, o, c, cp, rfl, hc0, hc1, hv⟩ := HR.out.gpv hjl
      by_cases he : l[j].1 = n
      · have hv2 : V = (j : Int) := by rw [← HV.out]; exact plF_yes hjl HP.out he
        subst hv2
        rw [he] at hc0
        clear he HP HV hc1 hv
        go_wp2
        go_ret
        exact ⟨rfl, rfl⟩
      · have HP2 : Hid (∀ k (h : k < l.length), k < j + 1 → l[k].1 ≠ n) := Lib.hid fun k h hkj => by
          by_cases e : k = j
          · subst e; exact he
          · exact HP.out k h (by omega)
        clear hv hc1
        generalize l[j].1 = x at *
        have hf : (x == n) = false := by simp [he]
        clear HP he
        go_wp2
        go_round
        case rel => exact ⟨j + 1, by go_num, by omega, HP2⟩
        case measure => simp [intOf]; omega
    · have hv2 : V = -1 := by rw [← HV.out]; exact plF_no fun k hk => HP.out k hk (by rw [← HM.out] at hk; omega)
      subst hv2
      clear HP HV
      go_wp2
      go_ret
      exact ⟨rfl, rfl⟩
end Go.Proofs.Ytmcngnnbfmjajaa
