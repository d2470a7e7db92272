/- Law 7: LexerWords and LexerQuotes. -/
import Derived.Test.YtfneikldnccepaaDoorLxU
set_option linter.unusedVariables false
set_option linter.unusedSimpArgs false
namespace Go.Proofs.YtfneikldnccepaaDoor
open Go.RowKit Go.Shelf
open Z
set_option maxRecDepth 100000 in
set_option maxHeartbeats 2000000 in
theorem l7_LexerWords {s : ByteArray} (hs : s.size ≤ maxLen) (w : World) : Calls Tryd.prog 4 #[.string s] w fun e w' => e = .returned (.bool true) ∧ Gr w w' := by
  have AW := Lib.hid (fun w => l7_awake w)
  unfold maxLen at hs
  by_cases h : 400 < s.size
  · go_enter Tryd.func4, Tryd.ntmps4
    go_wp2_with fail
    refine (AW.out _).mono ?_; rintro e w1 ⟨rfl, hg⟩
    have HG := Lib.hid hg
    clear hg
    go_wp2
    go_ret
    exact ⟨rfl, HG.out⟩
  · have h4 : s.size ≤ 400 := by omega
    have A := Lib.hid (fun w => lx_Word s w (by omega))
    have B := Lib.hid (fun w => r7_Word s w (by omega))
    have C := Lib.hid (fun w => lx_Number s w (by omega))
    have D := Lib.hid (fun w => r7_Number s w (by omega))
    generalize wordR s.data.toList = x at *
    generalize numR s.data.toList = y at *
    have q1 : (x == x) = true := by simp
    have q2 : (y == y) = true := by simp
    go_enter Tryd.func4, Tryd.ntmps4
    go_wp2_with fail
    refine (AW.out _).mono ?_; rintro e w1 ⟨rfl, hg⟩
    have HG := Lib.hid hg
    clear hg
    go_wp2_with fail
    refine (A.out _).mono ?_; rintro e w2 ⟨rfl, hg⟩
    have HG2 := Lib.hid (Gr.trans HG.out hg)
    clear hg
    go_wp2_with fail
    refine (B.out _).mono ?_; rintro e w3 ⟨rfl, rfl⟩
    go_wp2_with fail
    refine (C.out _).mono ?_; rintro e w4 ⟨rfl, hg⟩
    have HG3 := Lib.hid (Gr.trans HG2.out hg)
    clear hg
    go_wp2_with fail
    refine (D.out _).mono ?_; rintro e w5 ⟨rfl, rfl⟩
    go_wp2
    go_ret
    exact ⟨rfl, HG3.out⟩
set_option maxRecDepth 100000 in
set_option maxHeartbeats 2000000 in
theorem l7_LexerQuotes {s : ByteArray} (hs : s.size ≤ maxLen) (w : World) : Calls Tryd.prog 5 #[.string s] w fun e w' => e = .returned (.bool true) ∧ Gr w w' := by
  have AW := Lib.hid (fun w => l7_awake w)
  unfold maxLen at hs
  by_cases h : 400 < s.size
  · go_enter Tryd.func5, Tryd.ntmps5
    go_wp2_with fail
    refine (AW.out _).mono ?_; rintro e w1 ⟨rfl, hg⟩
    have HG := Lib.hid hg
    clear hg
    go_wp2
    go_ret
    exact ⟨rfl, HG.out⟩
  · have h4 : s.size ≤ 400 := by omega
    have A := Lib.hid (fun w => lx_Quote s w (by omega))
    have B := Lib.hid (fun w => r7_Quote s w (by omega))
    have C := Lib.hid (fun w => lx_Unquote s w (by omega) (fun h1 h2 => by have := unq2 h1 h2; simpa using this))
    have D := Lib.hid (fun w => r7_Unquote s w (by omega))
    generalize quoteR s.data.toList = X at *
    generalize unquR s.data.toList = Y at *
    obtain ⟨x1, x2⟩ := X
    obtain ⟨y1, y2⟩ := Y
    simp only at A B C D
    generalize str x1 = x at *
    generalize str y1 = y at *
    have q1 : (x2 == x2) = true := by simp
    have q2 : (y2 == y2) = true := by simp
    have q3 : (x.toList == x.toList) = true := by simp
    have q4 : (y.toList == y.toList) = true := by simp
    go_enter Tryd.func5, Tryd.ntmps5
    go_wp2_with fail
    refine (A.out _).mono ?_; rintro e w1 ⟨rfl, hg⟩
    have HG := Lib.hid hg
    clear hg
    go_wp2_with fail
    refine (B.out _).mono ?_; rintro e w2 ⟨rfl, rfl⟩
    go_wp2_with fail
    refine (C.out _).mono ?_; rintro e w3 ⟨rfl, hg⟩
    have HG2 := Lib.hid (Gr.trans HG.out hg)
    clear hg
    go_wp2_with fail
    refine (D.out _).mono ?_; rintro e w4 ⟨rfl, rfl⟩
    go_wp2_with fail
    refine (AW.out _).mono ?_; rintro e w5 ⟨rfl, hg⟩
    have HG3 := Lib.hid (Gr.trans HG2.out hg)
    clear hg
    go_wp2
    go_ret
    exact ⟨rfl, HG3.out⟩
end Go.Proofs.YtfneikldnccepaaDoor
