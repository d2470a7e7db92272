/- Laws of layer 2: RatioMakes. -/
import Derived.Test.YtjoipfiomeocoabGreatDoorLaw02a
import Derived.Deep.RegionHeld3
import Derived.Deep.DrawnRows
set_option linter.unusedVariables false
set_option linter.unusedSimpArgs false
namespace Go.Proofs.YtjoipfiomeocoabGreatDoor
open Go.RowKit Go.Shelf
open Z
attribute [local go_sem ↓] Go.wp_at_zero Go.wp_at_succ

section
variable {w0 : World} (htab : Tab w0) (hmx : Mx w0)
include htab hmx
set_option maxHeartbeats 4000000 in
set_option maxRecDepth 100000 in
theorem l2_RatioMakes {s t : ByteArray} {n d : Int} (hs : s.size ≤ maxLen) (ht : t.size ≤ maxLen) (hn : isI n) (hd : isI d) : Ret w0 3 #[.string s, .string t, .agg #[.int .i64 n, .int .i64 d]] (.bool true) := by
  have AW := Lib.hid (RetG.of fun w1 h => l2_awake (htab_gr htab h) (hmx.gr h))
  unfold maxLen at hs ht
  have hn0 := hn.1
  have hn1 := hn.2
  have hd0 := hd.1
  have hd1 := hd.2
  by_cases h1 : s.size ≤ 200
  · by_cases h2 : t.size ≤ 200
    · have O1 := RetG.of fun w1 h => ret_QOf (htab_gr htab h) (s := s) (t := t) (by omega) (by omega)
      have O2 := RetG.of (w0 := w0) fun w1 h => ret_Of2 (w0 := w1) (s := s) (t := t) (by unfold maxLen; omega) (by unfold maxLen; omega)
      have P1 := RetG.of fun w1 h => ret_QPart (htab_gr htab h) hn.1 hn.2 hd.1 hd.2
      have P2 := RetG.of (w0 := w0) fun w1 h => ret_Part2 (w0 := w1) hn.1 hn.2 hd.1 hd.2
      have WH := Lib.hid (RetG.of fun w1 h => ret_QWhole (htab_gr htab h) hn.1 hn.2)
      have W2 := Lib.hid (RetG.of (w0 := w0) fun w1 h => ret_Whole2 (w0 := w1) hn.1 hn.2)
      obtain ⟨o, ho⟩ : ∃ o, o = ofR s t := ⟨_, rfl⟩
      rw [← ho] at O1 O2
      obtain ⟨p, hp⟩ : ∃ p, p = partR n d := ⟨_, rfl⟩
      rw [← hp] at P1 P2
      obtain ⟨o1, o2⟩ := o
      obtain ⟨p1, p2⟩ := p
      have O1' : Hid (RetG w0 12 #[.string s, .string t] (.tuple #[.string o1, .int .i64 o2])) := O1
      have O2' : Hid (RetG w0 13 #[.string s, .string t] (.tuple #[.string o1, .int .i64 o2])) := O2
      have P1' : Hid (RetG w0 14 #[.int .i64 n, .int .i64 d] (.tuple #[.string p1, .int .i64 p2])) := P1
      have P2' : Hid (RetG w0 15 #[.int .i64 n, .int .i64 d] (.tuple #[.string p1, .int .i64 p2])) := P2
      clear O1 O2 P1 P2 ho hp htab hmx hn hd
      generalize Tx n = x at *
      intro w hg
      have HG := Lib.hid hg; clear hg
      obtain ⟨ty, B0, hty⟩ : ∃ ty, ∃ (B0 : w.alloc (.cells #[.int .i64 n, .int .i64 d] ty) = w.alloc (.cells #[.int .i64 n, .int .i64 d] ty)), ty = 23 := ⟨_, rfl, rfl⟩
      subst hty
      clear B0
      have c0 : (w.alloc (.cells #[.int .i64 n, .int .i64 d] 23)).cell? ⟨w.heap.size, 0, none⟩ = some (.int .i64 n) := by simp
      have c1 : (w.alloc (.cells #[.int .i64 n, .int .i64 d] 23)).cell? ⟨w.heap.size, 1, none⟩ = some (.int .i64 d) := by simp
      have C0 := Lib.hid c0
      have C1 := Lib.hid c1
      have HG0 := Lib.hid (HG.out.alloc (.cells #[.int .i64 n, .int .i64 d] 23))
      clear c0 c1 HG
      go_enter Tryz.func3, Tryz.ntmps3
      go_wp2_with fail
      refine (O1'.out _ HG0.out).mono ?_
      rintro e w1 ⟨rfl, hg⟩
      have D0 := Lib.hid (gr_cell hg C0.out)
      have D1 := Lib.hid (gr_cell hg C1.out)
      have HG1 := Lib.hid (Gr.trans HG0.out hg)
      clear hg C0 C1 HG0
      go_wp2_with fail
      refine (O2'.out _ HG1.out).mono ?_
      rintro e w2 ⟨rfl, hg⟩
      have c0 := gr_cell hg D0.out
      have c1 := gr_cell hg D1.out
      have HG2 := Lib.hid (Gr.trans HG1.out hg)
      clear hg D0 D1 HG1
      go_wp2_with fail
      refine (P1'.out _ HG2.out).mono ?_
      rintro e w3 ⟨rfl, hg⟩
      have d0 := gr_cell hg c0
      have d1 := gr_cell hg c1
      have HG3 := Lib.hid (Gr.trans HG2.out hg)
      clear hg c0 c1 HG2
      go_wp2_with fail
      refine (P2'.out _ HG3.out).mono ?_
      rintro e w4 ⟨rfl, hg⟩
      have c0 := gr_cell hg d0
      have c1 := gr_cell hg d1
      have HG4 := Lib.hid (Gr.trans HG3.out hg)
      clear hg d0 d1 HG3 O1' O2' P1' P2'
      go_wp2
      go_region_held3 (fun w' => w'.cell? ⟨w.heap.size, 0, none⟩ = some (.int .i64 n)) (go_keep) (first
        | (go_at_call 11; refine (AW.out _ (HG4.out.drew)).mono ?_; rintro e w5 ⟨rfl, hg5⟩; have g5 : Gr w0 w5 := Gr.trans HG4.out.drew hg5; have d0 : w5.cell? ⟨w.heap.size, 0, none⟩ = some (.int .i64 n) := gr_cell hg5 c0)
        | (go_at_call 16; refine (WH.out _ (by assumption)).mono ?_; rintro e w6 ⟨rfl, hg6⟩; have g6 : Gr w0 w6 := Gr.trans (by assumption) hg6; have d0 : w6.cell? ⟨w.heap.size, 0, none⟩ = some (.int .i64 n) := gr_cell hg6 (by assumption))
        | (go_at_call 17; refine (W2.out _ (by assumption)).mono ?_; rintro e w7 ⟨rfl, hg7⟩; have g7 : Gr w0 w7 := Gr.trans (by assumption) hg7; have d0 : w7.cell? ⟨w.heap.size, 0, none⟩ = some (.int .i64 n) := gr_cell hg7 (by assumption)))
      go_wp2
      go_ret
      exact ⟨rfl, by assumption⟩
    · clear hmx hn hd
      have h2' : 200 < t.size := by omega
      clear h2
      have AW := Lib.hid AW.out.ret
      intro w hg
      have HG := Lib.hid hg; clear hg
      go_enter Tryz.func3, Tryz.ntmps3
      go_wp2_with fail
      refine (AW.out _ (HG.out.alloc _)).mono ?_
      rintro e w1 ⟨rfl, hg⟩
      replace HG := Lib.hid hg; clear hg
      go_wp2
      go_ret
      exact ⟨rfl, HG.out⟩
  · clear hmx hn hd
    have h1' : 200 < s.size := by omega
    clear h1
    have AW := Lib.hid AW.out.ret
    intro w hg
    have HG := Lib.hid hg; clear hg
    go_enter Tryz.func3, Tryz.ntmps3
    go_wp2_with fail
    refine (AW.out _ (HG.out.alloc _)).mono ?_
    rintro e w1 ⟨rfl, hg⟩
    replace HG := Lib.hid hg; clear hg
    go_wp2
    go_ret
    exact ⟨rfl, HG.out⟩
end
end Go.Proofs.YtjoipfiomeocoabGreatDoor
