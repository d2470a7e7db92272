/- Records: the law RecordReads. -/
import Derived.Test.YtebniicnaofdoaaRcQ
import Derived.Test.YtebniicnaofdoaaRcR
import Derived.Test.YtebniicnaofdoaaRcH
set_option linter.unusedVariables false
set_option linter.unusedSimpArgs false
namespace Go.Proofs.Ytebniicnaofdoaa
open Go.RowKit
open Z Rc

theorem joB_len (l : List E) : 5 * l.length ≤ (joB l).length := by
  induction l with
  | nil => simp
  | cons x l ih => rw [joB_cons, List.length_append, pkE_len, List.length_cons]; omega
theorem al_len (r : List UInt8) : 5 * (al r).1.length ≤ r.length := by
  obtain ⟨h1, h2, -⟩ := al_back r.length r (Nat.le_refl _)
  have h3 := joB_len (al r).1
  rw [← h1, List.length_take] at h3
  omega
set_option maxHeartbeats 4000000 in
set_option maxRecDepth 100000 in
theorem l8_RecordReads (s : ByteArray) (a : Int) (w : World) (hs : s.size ≤ maxLen) (_ : -9223372036854775808 ≤ a ∧ a ≤ 9223372036854775807) :
    Calls Try.prog 6 #[.string s, .int .i64 a] w fun e w' => e = .returned (.bool true) ∧ Gr w w' := by
  have HA := Lib.hid l8_awake
  by_cases h : 2000 < s.size
  · unfold maxLen at hs
    go_enter Try.func6, Try.ntmps6
    go_wp2_with fail
    refine (HA.out _).mono ?_; rintro e w1 ⟨rfl, hg1⟩
    have HG1 := Lib.hid hg1; clear hg1
    go_wp2
    go_ret
    exact ⟨rfl, HG1.out⟩
  · have hsz : s.data.toList.length = s.size := by simp
    have hal := al_len s.data.toList
    have C1 := Lib.hid (fun w => rc_Next s a w hs)
    have C2 := Lib.hid (fun w => r8_Next s a w hs)
    have C3 := Lib.hid (fun w => rc_All s w (by omega))
    have C4 := Lib.hid (fun w => r8_All s w (by omega))
    unfold nV at C1 C2
    unfold maxLen at hs
    generalize al s.data.toList = R at *
    generalize nxAt s.data.toList a = N at *
    obtain ⟨⟨k, d⟩, nx', f⟩ := N
    obtain ⟨L, p, q⟩ := R
    simp only [] at C1 C2 C3 C4 hal
    have hL : L.length ≤ 20000 := by omega
    have C5 := Lib.hid (fun w a' c' (hr : RdE w a' L) => l8_own (cap := c') w hr hL)
    have C6 := Lib.hid (fun w a1 c1 a2 c2 (h1 : RdE w a1 L) (h2 : RdE w a2 L) => r8_Same (ca := c1) (cb := c2) w h1 h2 hL)
    have hdec : decide (L = L) = true := decide_eq_true rfl
    rw [hdec] at C6
    obtain ⟨n, hn⟩ : ∃ n, L.length = n := ⟨_, rfl⟩
    rw [hn] at C3 C4 C5 C6
    clear hal hdec hsz hL hn
    go_enter Try.func6, Try.ntmps6
    go_wp2_with fail
    refine (C1.out _).mono ?_; rintro e w1 ⟨rfl, hg1⟩
    have hb1 := EB.new w1 k d 41
    have HG1 := Lib.hid (hg1.alloc (.cells #[.int .i64 k, .string d] 41)); clear hg1
    go_wp2_with fail
    refine (C2.out _).mono ?_; rintro e w2 ⟨rfl, hg2⟩
    have hb2 := (hb1.gr hg2).gr ((Gr.refl w2).alloc (.cells #[.int .i64 k, .string d] 44))
    have hc2 := EB.new w2 k d 44
    have HG2 := Lib.hid ((Gr.trans HG1.out hg2).alloc (.cells #[.int .i64 k, .string d] 44)); clear hg2 hb1
    go_wp2_with fail
    refine (C3.out _).mono ?_; rintro e w3 ⟨⟨a3, c3, rfl, r3, l3, m3⟩, hg3⟩
    have hb3 := hb2.gr hg3
    have hc3 := hc2.gr hg3
    have HG3 := Lib.hid (Gr.trans HG2.out hg3); clear hg3 hb2 hc2 l3 m3
    have R3 := Lib.hid r3; clear r3
    go_wp2_with fail
    refine (C4.out _).mono ?_; rintro e w4 ⟨⟨a4, c4, rfl, r4, l4, m4⟩, hg4⟩
    have hb4 := hb3.gr hg4
    have hc4 := hc3.gr hg4
    have R4 := Lib.hid (R3.out.gr hg4)
    have Q4 := Lib.hid r4
    have HG4 := Lib.hid (Gr.trans HG3.out hg4); clear hg4 hb3 hc3 r4 R3 l4 m4
    go_wp2_with fail
    refine (HA.out _).mono ?_; rintro e w5 ⟨rfl, hg5⟩
    obtain ⟨b0, b1, -, -⟩ := hb4.gr hg5
    obtain ⟨e0, e1, -, -⟩ := hc4.gr hg5
    have R5 := Lib.hid (R4.out.gr hg5)
    have Q5 := Lib.hid (Q4.out.gr hg5)
    have HG5 := Lib.hid (Gr.trans HG4.out hg5); clear hg5 hb4 hc4 R4 Q4
    go_wp2_with fail
    refine (C5.out _ _ _ R5.out).mono ?_; rintro e w6 ⟨⟨a6, c6, rfl, r6⟩, hg6⟩
    have R6 := Lib.hid r6
    have Q6 := Lib.hid (Q5.out.gr hg6)
    have HG6 := Lib.hid (Gr.trans HG5.out hg6); clear hg6 r6
    go_wp2_with fail
    refine (C6.out _ _ _ _ _ R6.out Q6.out).mono ?_; rintro e w7 ⟨rfl, hg7⟩
    have HG7 := Lib.hid (Gr.trans HG6.out hg7); clear hg7
    go_wp2
    go_ret
    exact ⟨by simp, HG7.out⟩
end Go.Proofs.Ytebniicnaofdoaa
