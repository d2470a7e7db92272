/- The reference of rational numbers: checking and the quotient. -/
import Derived.Test.YtjoipfiomeocoabGreatDoorRat04
set_option linter.unusedVariables false
set_option linter.unusedSimpArgs false
namespace Go.Proofs.YtjoipfiomeocoabGreatDoor
open Go.RowKit
open Z

theorem chk_is3 (s : ByteArray) : (chk s.data.toList == 3) = !(formB s.data.toList) := by
  unfold chk
  cases formB s.data.toList with
  | false => rfl
  | true => simp only [if_true]; split <;> rfl
set_option maxHeartbeats 1000000 in
set_option maxRecDepth 100000 in
theorem r2_shaped {w0 : World} (s : ByteArray) (hs : s.size ≤ maxLen) : Ret w0 54 #[.string s] (.bool (formB s.data.toList)) := by
  have C1 := Lib.hid (ret_CheckI (w0 := w0) hs)
  have h3 := chk_is3 s
  generalize chk s.data.toList = c at C1 h3
  generalize formB s.data.toList = b at *
  intro w hg
  have HG := Lib.hid hg; clear hg
  have H3 := Lib.hid h3; clear h3
  go_enter Tryz.func54, Tryz.ntmps54
  go_wp2_with fail
  refine (C1.out _ HG.out).mono ?_
  rintro e w1 ⟨rfl, hg⟩
  replace HG := Lib.hid hg; clear hg
  go_wp2
  go_ret
  exact ⟨ret_bool (by rw [bne, H3.out, Bool.not_not]), HG.out⟩
theorem chk_zeroF {l : List UInt8} (h : chk l = 0) : formB l = true ∧ (body l).length ≤ 4096 := by
  unfold chk at h
  cases hf : formB l with
  | false => rw [hf] at h; simp at h
  | true => rw [hf] at h; simp only [if_true] at h; split at h
            · cases h
            · exact ⟨rfl, by omega⟩
theorem str_form (l : List UInt8) (h : formB l = true) : str l = Tx (ival l) := by
  have := Tx_ival (str l) (by rw [data_str]; exact h)
  rw [data_str] at this; exact this.symm
theorem size_str' (l : List UInt8) : (str l).size = l.length := by simp [str, ByteArray.size]
theorem bot_len (l : List UInt8) : (bot l).length ≤ l.length + 1 := by
  cases hp : parted l with
  | false => rw [(unparted_top hp).2]; simp
  | true => have h := congrArg List.length (parted_split hp); rw [List.length_append, List.length_cons] at h; omega
theorem body_nd {l : List UInt8} (h : formB l = true) : (body l).length = Lib.nDigits (ival l).natAbs := by
  rw [← body_itoa_len, itoa_ival l h]
/-- what Check asks, for texts with the form of integers -/
def chk4 (p x y : Int) : Int :=
  if p = 1 ∧ (y ≤ 0 ∨ y = 1) then 3 else if 4096 < Lib.nDigits x.natAbs ∨ 4096 < Lib.nDigits y.natAbs then 23 else if p = 1 ∧ Nat.gcd x.natAbs y.natAbs ≠ 1 then 3 else 0
theorem chk2_form {l : List UInt8} (h1 : formB (top l) = true) (h2 : formB (bot l) = true) : chk2 l = chk4 (if parted l = true then 1 else 0) (ival (top l)) (ival (bot l)) := by
  unfold chk2 chk4
  rw [if_neg (by rw [h1, h2]; simp), body_nd h1, body_nd h2]
  cases parted l <;> simp
theorem sm_form {l : List UInt8} (h : formB l = true) (hl : l.length ≤ 800000) : Sm 800000 (ival l) := by
  refine ⟨?_, by omega⟩
  rw [← body_nd h]
  have : (body l).length ≤ l.length := by unfold body; split <;> simp
  omega
set_option maxHeartbeats 1000000 in
set_option maxRecDepth 100000 in
theorem r2_Check {w0 : World} (s : ByteArray) (hs : s.size ≤ 400000) : Ret w0 20 #[.string s] (.int .i64 (chkS s)) := by
  have hmx : s.size ≤ maxLen := by unfold maxLen; omega
  have hl := top_len s.data.toList
  have hlb := bot_len s.data.toList
  have hsz : s.data.toList.length = s.size := by simp
  have CT := Lib.hid (ret_Top (w0 := w0) hmx)
  have CB := Lib.hid (ret_Bottom (w0 := w0) hmx)
  have ST := Lib.hid (r2_shaped (w0 := w0) (str (top s.data.toList)) (by rw [size_str']; unfold maxLen; omega))
  have SB := Lib.hid (r2_shaped (w0 := w0) (str (bot s.data.toList)) (by rw [size_str']; unfold maxLen; omega))
  rw [data_str] at ST SB
  cases h1 : formB (top s.data.toList)
  · have HF : Hid (chkS s = 3) := by show chk2 _ = 3; unfold chk2; rw [if_pos (.inl h1)]
    rw [h1] at ST
    clear h1 hl hlb hsz hs hmx
    generalize str (top s.data.toList) = p at CT ST
    generalize str (bot s.data.toList) = q at CB SB
    rw [HF.out]
    intro w hg
    have HG := Lib.hid hg; clear hg
    go_enter Tryz.func20, Tryz.ntmps20
    go_wp2_with fail
    refine (CT.out _ HG.out).mono ?_
    rintro e w1 ⟨rfl, hg⟩
    replace HG := Lib.hid hg; clear hg
    go_wp2_with fail
    refine (CB.out _ HG.out).mono ?_
    rintro e w1 ⟨rfl, hg⟩
    replace HG := Lib.hid hg; clear hg
    go_wp2_with fail
    refine (ST.out _ HG.out).mono ?_
    rintro e w1 ⟨rfl, hg⟩
    replace HG := Lib.hid hg; clear hg
    go_wp2
    go_ret
    exact ⟨rfl, HG.out⟩
  · cases h2 : formB (bot s.data.toList)
    · have HF : Hid (chkS s = 3) := by show chk2 _ = 3; unfold chk2; rw [if_pos (.inr h2)]
      rw [h1] at ST
      rw [h2] at SB
      clear h1 h2 hl hlb hsz hs hmx
      generalize str (top s.data.toList) = p at CT ST
      generalize str (bot s.data.toList) = q at CB SB
      rw [HF.out]
      intro w hg
      have HG := Lib.hid hg; clear hg
      go_enter Tryz.func20, Tryz.ntmps20
      go_wp2_with fail
      refine (CT.out _ HG.out).mono ?_
      rintro e w1 ⟨rfl, hg⟩
      replace HG := Lib.hid hg; clear hg
      go_wp2_with fail
      refine (CB.out _ HG.out).mono ?_
      rintro e w1 ⟨rfl, hg⟩
      replace HG := Lib.hid hg; clear hg
      go_wp2_with fail
      refine (ST.out _ HG.out).mono ?_
      rintro e w1 ⟨rfl, hg⟩
      replace HG := Lib.hid hg; clear hg
      go_wp2_with fail
      refine (SB.out _ HG.out).mono ?_
      rintro e w1 ⟨rfl, hg⟩
      replace HG := Lib.hid hg; clear hg
      go_wp2
      go_ret
      exact ⟨rfl, HG.out⟩
    · have HF : Hid (chkS s = chk4 (if parted s.data.toList = true then 1 else 0) (ival (top s.data.toList)) (ival (bot s.data.toList))) := chk2_form h1 h2
      have sx := sm_form h1 (by omega)
      have sy := sm_form h2 (by omega)
      have CS := Lib.hid (Ret.same (w0 := w0) fun w => r2_slash s w hmx)
      rw [h1, str_form _ h1] at ST
      rw [h2, str_form _ h2] at SB
      rw [str_form _ h1] at CT
      rw [str_form _ h2] at CB
      rw [HF.out]
      rw [hsz] at hl
      have hpar : (((top s.data.toList).length : Nat) : Int) < (s.size : Int) ↔ parted s.data.toList = true := by rw [hl.2]; omega
      have hge := hl.1
      clear HF hl hlb hsz hmx h1 h2
      generalize (top s.data.toList).length = n at CS hpar hge
      generalize ival (top s.data.toList) = x at *
      generalize ival (bot s.data.toList) = y at *
      have C1 := Lib.hid (ret_SignI (w0 := w0) sy)
      have C2 := Lib.hid (ret_DigitsI (w0 := w0) sx)
      have C3 := Lib.hid (ret_DigitsI (w0 := w0) sy)
      have is1 := Tx_is1 y
      have nx := Lib.nDigits_pos x.natAbs
      have ny := Lib.nDigits_pos y.natAbs
      have lx := sx.1
      have ly := sy.1
      by_cases hp : parted s.data.toList = true
      · have hlt := hpar.2 hp
        rw [hp] at *
        clear hpar hp
        simp only [if_true]
        by_cases hy : y ≤ 0
        · have hv : chk4 1 x y = 3 := by unfold chk4; rw [if_pos ⟨rfl, .inl hy⟩]
          rw [hv]
          have hsn : y.sign ≤ 0 := by rcases Int.lt_trichotomy y 0 with h | h | h; (rw [Int.sign_eq_neg_one_of_neg h]; omega); (rw [h]; decide); omega
          generalize y.sign = sg at C1 hsn
          clear is1 hv hy sx sy C2 C3 nx ny lx ly
          generalize Tx x = p at *
          generalize Tx y = q at *
          intro w hg
          have HG := Lib.hid hg; clear hg
          go_enter Tryz.func20, Tryz.ntmps20
          go_wp2_with fail
          refine (CT.out _ HG.out).mono ?_
          rintro e w1 ⟨rfl, hg⟩
          replace HG := Lib.hid hg; clear hg
          go_wp2_with fail
          refine (CB.out _ HG.out).mono ?_
          rintro e w1 ⟨rfl, hg⟩
          replace HG := Lib.hid hg; clear hg
          go_wp2_with fail
          refine (ST.out _ HG.out).mono ?_
          rintro e w1 ⟨rfl, hg⟩
          replace HG := Lib.hid hg; clear hg
          go_wp2_with fail
          refine (SB.out _ HG.out).mono ?_
          rintro e w1 ⟨rfl, hg⟩
          replace HG := Lib.hid hg; clear hg
          go_wp2_with fail
          refine (CS.out _ HG.out).mono ?_
          rintro e w1 ⟨rfl, hg⟩
          replace HG := Lib.hid hg; clear hg
          go_wp2_with fail
          refine (C1.out _ HG.out).mono ?_
          rintro e w1 ⟨rfl, hg⟩
          replace HG := Lib.hid hg; clear hg
          go_wp2
          go_ret
          exact ⟨rfl, HG.out⟩
        · have hsn : y.sign = 1 := Int.sign_eq_one_of_pos (by omega)
          rw [hsn] at C1
          clear hsn
          by_cases hy1 : y = 1
          · have hv : chk4 1 x y = 3 := by unfold chk4; rw [if_pos ⟨rfl, .inr hy1⟩]
            rw [hv]
            rw [decide_eq_true hy1] at is1
            clear hv hy hy1 sx sy C2 C3 nx ny lx ly
            generalize Tx x = p at *
            generalize Tx y = q at *
            intro w hg
            have HG := Lib.hid hg; clear hg
            go_enter Tryz.func20, Tryz.ntmps20
            go_wp2_with fail
            refine (CT.out _ HG.out).mono ?_
            rintro e w1 ⟨rfl, hg⟩
            replace HG := Lib.hid hg; clear hg
            go_wp2_with fail
            refine (CB.out _ HG.out).mono ?_
            rintro e w1 ⟨rfl, hg⟩
            replace HG := Lib.hid hg; clear hg
            go_wp2_with fail
            refine (ST.out _ HG.out).mono ?_
            rintro e w1 ⟨rfl, hg⟩
            replace HG := Lib.hid hg; clear hg
            go_wp2_with fail
            refine (SB.out _ HG.out).mono ?_
            rintro e w1 ⟨rfl, hg⟩
            replace HG := Lib.hid hg; clear hg
            go_wp2_with fail
            refine (CS.out _ HG.out).mono ?_
            rintro e w1 ⟨rfl, hg⟩
            replace HG := Lib.hid hg; clear hg
            go_wp2_with fail
            refine (C1.out _ HG.out).mono ?_
            rintro e w1 ⟨rfl, hg⟩
            replace HG := Lib.hid hg; clear hg
            go_wp2
            go_ret
            exact ⟨rfl, HG.out⟩
          · rw [decide_eq_false hy1] at is1
            have hv : chk4 1 x y = if 4096 < Lib.nDigits x.natAbs ∨ 4096 < Lib.nDigits y.natAbs then 23 else if Nat.gcd x.natAbs y.natAbs ≠ 1 then 3 else 0 := by unfold chk4; rw [if_neg (by omega)]; simp
            rw [hv]
            clear hv
            by_cases hx : 4096 < Lib.nDigits x.natAbs
            · rw [if_pos (.inl hx)]
              clear hy hy1 sx sy C3
              generalize Lib.nDigits x.natAbs = u at *
              generalize Tx x = p at *
              generalize Tx y = q at *
              intro w hg
              have HG := Lib.hid hg; clear hg
              go_enter Tryz.func20, Tryz.ntmps20
              go_wp2_with fail
              refine (CT.out _ HG.out).mono ?_
              rintro e w1 ⟨rfl, hg⟩
              replace HG := Lib.hid hg; clear hg
              go_wp2_with fail
              refine (CB.out _ HG.out).mono ?_
              rintro e w1 ⟨rfl, hg⟩
              replace HG := Lib.hid hg; clear hg
              go_wp2_with fail
              refine (ST.out _ HG.out).mono ?_
              rintro e w1 ⟨rfl, hg⟩
              replace HG := Lib.hid hg; clear hg
              go_wp2_with fail
              refine (SB.out _ HG.out).mono ?_
              rintro e w1 ⟨rfl, hg⟩
              replace HG := Lib.hid hg; clear hg
              go_wp2_with fail
              refine (CS.out _ HG.out).mono ?_
              rintro e w1 ⟨rfl, hg⟩
              replace HG := Lib.hid hg; clear hg
              go_wp2_with fail
              refine (C1.out _ HG.out).mono ?_
              rintro e w1 ⟨rfl, hg⟩
              replace HG := Lib.hid hg; clear hg
              go_wp2_with fail
              refine (C2.out _ HG.out).mono ?_
              rintro e w1 ⟨rfl, hg⟩
              replace HG := Lib.hid hg; clear hg
              go_wp2
              go_ret
              exact ⟨rfl, HG.out⟩
            · by_cases hyl : 4096 < Lib.nDigits y.natAbs
              · rw [if_pos (.inr hyl)]
                have hx' : Lib.nDigits x.natAbs ≤ 4096 := by omega
                clear hy hy1 sx sy hx
                generalize Lib.nDigits x.natAbs = u at *
                generalize Lib.nDigits y.natAbs = v at *
                generalize Tx x = p at *
                generalize Tx y = q at *
                intro w hg
                have HG := Lib.hid hg; clear hg
                go_enter Tryz.func20, Tryz.ntmps20
                go_wp2_with fail
                refine (CT.out _ HG.out).mono ?_
                rintro e w1 ⟨rfl, hg⟩
                replace HG := Lib.hid hg; clear hg
                go_wp2_with fail
                refine (CB.out _ HG.out).mono ?_
                rintro e w1 ⟨rfl, hg⟩
                replace HG := Lib.hid hg; clear hg
                go_wp2_with fail
                refine (ST.out _ HG.out).mono ?_
                rintro e w1 ⟨rfl, hg⟩
                replace HG := Lib.hid hg; clear hg
                go_wp2_with fail
                refine (SB.out _ HG.out).mono ?_
                rintro e w1 ⟨rfl, hg⟩
                replace HG := Lib.hid hg; clear hg
                go_wp2_with fail
                refine (CS.out _ HG.out).mono ?_
                rintro e w1 ⟨rfl, hg⟩
                replace HG := Lib.hid hg; clear hg
                go_wp2_with fail
                refine (C1.out _ HG.out).mono ?_
                rintro e w1 ⟨rfl, hg⟩
                replace HG := Lib.hid hg; clear hg
                go_wp2_with fail
                refine (C2.out _ HG.out).mono ?_
                rintro e w1 ⟨rfl, hg⟩
                replace HG := Lib.hid hg; clear hg
                go_wp2_with fail
                refine (C3.out _ HG.out).mono ?_
                rintro e w1 ⟨rfl, hg⟩
                replace HG := Lib.hid hg; clear hg
                go_wp2
                go_ret
                exact ⟨rfl, HG.out⟩
              · rw [if_neg (by omega)]
                have C5 := Lib.hid (ret_Common (w0 := w0) (k := 4096) (a := x) (b := y) ⟨by omega, by omega⟩ ⟨by omega, by omega⟩ (by omega))
                have isg := Tx_is1 ((Nat.gcd x.natAbs y.natAbs : Nat) : Int)
                have hdec : decide (((Nat.gcd x.natAbs y.natAbs : Nat) : Int) = 1) = decide (Nat.gcd x.natAbs y.natAbs = 1) := by rw [decide_eq_decide]; omega
                rw [hdec] at isg
                clear hdec
                have hx' : Lib.nDigits x.natAbs ≤ 4096 := by omega
                have hy' : Lib.nDigits y.natAbs ≤ 4096 := by omega
                clear hx hyl hy hy1 sx sy
                by_cases hd : Nat.gcd x.natAbs y.natAbs = 1
                · rw [decide_eq_true hd] at isg
                  rw [if_neg (by omega)]
                  clear hd
                  generalize Tx ((Nat.gcd x.natAbs y.natAbs : Nat) : Int) = g at *
                  generalize Lib.nDigits x.natAbs = u at *
                  generalize Lib.nDigits y.natAbs = v at *
                  generalize Tx x = p at *
                  generalize Tx y = q at *
                  intro w hg
                  have HG := Lib.hid hg; clear hg
                  go_enter Tryz.func20, Tryz.ntmps20
                  go_wp2_with fail
                  refine (CT.out _ HG.out).mono ?_
                  rintro e w1 ⟨rfl, hg⟩
                  replace HG := Lib.hid hg; clear hg
                  go_wp2_with fail
                  refine (CB.out _ HG.out).mono ?_
                  rintro e w1 ⟨rfl, hg⟩
                  replace HG := Lib.hid hg; clear hg
                  go_wp2_with fail
                  refine (ST.out _ HG.out).mono ?_
                  rintro e w1 ⟨rfl, hg⟩
                  replace HG := Lib.hid hg; clear hg
                  go_wp2_with fail
                  refine (SB.out _ HG.out).mono ?_
                  rintro e w1 ⟨rfl, hg⟩
                  replace HG := Lib.hid hg; clear hg
                  go_wp2_with fail
                  refine (CS.out _ HG.out).mono ?_
                  rintro e w1 ⟨rfl, hg⟩
                  replace HG := Lib.hid hg; clear hg
                  go_wp2_with fail
                  refine (C1.out _ HG.out).mono ?_
                  rintro e w1 ⟨rfl, hg⟩
                  replace HG := Lib.hid hg; clear hg
                  go_wp2_with fail
                  refine (C2.out _ HG.out).mono ?_
                  rintro e w1 ⟨rfl, hg⟩
                  replace HG := Lib.hid hg; clear hg
                  go_wp2_with fail
                  refine (C3.out _ HG.out).mono ?_
                  rintro e w1 ⟨rfl, hg⟩
                  replace HG := Lib.hid hg; clear hg
                  go_wp2_with fail
                  refine (C5.out _ HG.out).mono ?_
                  rintro e w1 ⟨rfl, hg⟩
                  replace HG := Lib.hid hg; clear hg
                  go_wp2
                  go_ret
                  exact ⟨rfl, HG.out⟩
                · rw [decide_eq_false hd] at isg
                  rw [if_pos hd]
                  clear hd
                  generalize Tx ((Nat.gcd x.natAbs y.natAbs : Nat) : Int) = g at *
                  generalize Lib.nDigits x.natAbs = u at *
                  generalize Lib.nDigits y.natAbs = v at *
                  generalize Tx x = p at *
                  generalize Tx y = q at *
                  intro w hg
                  have HG := Lib.hid hg; clear hg
                  go_enter Tryz.func20, Tryz.ntmps20
                  go_wp2_with fail
                  refine (CT.out _ HG.out).mono ?_
                  rintro e w1 ⟨rfl, hg⟩
                  replace HG := Lib.hid hg; clear hg
                  go_wp2_with fail
                  refine (CB.out _ HG.out).mono ?_
                  rintro e w1 ⟨rfl, hg⟩
                  replace HG := Lib.hid hg; clear hg
                  go_wp2_with fail
                  refine (ST.out _ HG.out).mono ?_
                  rintro e w1 ⟨rfl, hg⟩
                  replace HG := Lib.hid hg; clear hg
                  go_wp2_with fail
                  refine (SB.out _ HG.out).mono ?_
                  rintro e w1 ⟨rfl, hg⟩
                  replace HG := Lib.hid hg; clear hg
                  go_wp2_with fail
                  refine (CS.out _ HG.out).mono ?_
                  rintro e w1 ⟨rfl, hg⟩
                  replace HG := Lib.hid hg; clear hg
                  go_wp2_with fail
                  refine (C1.out _ HG.out).mono ?_
                  rintro e w1 ⟨rfl, hg⟩
                  replace HG := Lib.hid hg; clear hg
                  go_wp2_with fail
                  refine (C2.out _ HG.out).mono ?_
                  rintro e w1 ⟨rfl, hg⟩
                  replace HG := Lib.hid hg; clear hg
                  go_wp2_with fail
                  refine (C3.out _ HG.out).mono ?_
                  rintro e w1 ⟨rfl, hg⟩
                  replace HG := Lib.hid hg; clear hg
                  go_wp2_with fail
                  refine (C5.out _ HG.out).mono ?_
                  rintro e w1 ⟨rfl, hg⟩
                  replace HG := Lib.hid hg; clear hg
                  go_wp2
                  go_ret
                  exact ⟨rfl, HG.out⟩
      · have hp' : parted s.data.toList = false := by simpa using hp
        have hnl : (s.size : Int) ≤ n := by
          by_cases h : (n : Int) < s.size
          · exact absurd (hpar.1 h) hp
          · omega
        have hnl' : ¬ (n : Int) < s.size := by omega
        rw [hp'] at *
        clear hpar hp hp'
        simp only [Bool.false_eq_true, if_false]
        have hv : chk4 0 x y = if 4096 < Lib.nDigits x.natAbs ∨ 4096 < Lib.nDigits y.natAbs then 23 else 0 := by unfold chk4; rw [if_neg (by omega)]; simp
        rw [hv]
        clear hv
        by_cases hx : 4096 < Lib.nDigits x.natAbs
        · rw [if_pos (.inl hx)]
          clear sx sy C3 is1
          generalize Lib.nDigits x.natAbs = u at *
          generalize Tx x = p at *
          generalize Tx y = q at *
          intro w hg
          have HG := Lib.hid hg; clear hg
          go_enter Tryz.func20, Tryz.ntmps20
          go_wp2_with fail
          refine (CT.out _ HG.out).mono ?_
          rintro e w1 ⟨rfl, hg⟩
          replace HG := Lib.hid hg; clear hg
          go_wp2_with fail
          refine (CB.out _ HG.out).mono ?_
          rintro e w1 ⟨rfl, hg⟩
          replace HG := Lib.hid hg; clear hg
          go_wp2_with fail
          refine (ST.out _ HG.out).mono ?_
          rintro e w1 ⟨rfl, hg⟩
          replace HG := Lib.hid hg; clear hg
          go_wp2_with fail
          refine (SB.out _ HG.out).mono ?_
          rintro e w1 ⟨rfl, hg⟩
          replace HG := Lib.hid hg; clear hg
          go_wp2_with fail
          refine (CS.out _ HG.out).mono ?_
          rintro e w1 ⟨rfl, hg⟩
          replace HG := Lib.hid hg; clear hg
          go_wp2_with fail
          refine (C2.out _ HG.out).mono ?_
          rintro e w1 ⟨rfl, hg⟩
          replace HG := Lib.hid hg; clear hg
          go_wp2
          go_ret
          exact ⟨rfl, HG.out⟩
        · have hx' : Lib.nDigits x.natAbs ≤ 4096 := by omega
          by_cases hyl : 4096 < Lib.nDigits y.natAbs
          · rw [if_pos (.inr hyl)]
            clear sx sy hx is1
            generalize Lib.nDigits x.natAbs = u at *
            generalize Lib.nDigits y.natAbs = v at *
            generalize Tx x = p at *
            generalize Tx y = q at *
            intro w hg
            have HG := Lib.hid hg; clear hg
            go_enter Tryz.func20, Tryz.ntmps20
            go_wp2_with fail
            refine (CT.out _ HG.out).mono ?_
            rintro e w1 ⟨rfl, hg⟩
            replace HG := Lib.hid hg; clear hg
            go_wp2_with fail
            refine (CB.out _ HG.out).mono ?_
            rintro e w1 ⟨rfl, hg⟩
            replace HG := Lib.hid hg; clear hg
            go_wp2_with fail
            refine (ST.out _ HG.out).mono ?_
            rintro e w1 ⟨rfl, hg⟩
            replace HG := Lib.hid hg; clear hg
            go_wp2_with fail
            refine (SB.out _ HG.out).mono ?_
            rintro e w1 ⟨rfl, hg⟩
            replace HG := Lib.hid hg; clear hg
            go_wp2_with fail
            refine (CS.out _ HG.out).mono ?_
            rintro e w1 ⟨rfl, hg⟩
            replace HG := Lib.hid hg; clear hg
            go_wp2_with fail
            refine (C2.out _ HG.out).mono ?_
            rintro e w1 ⟨rfl, hg⟩
            replace HG := Lib.hid hg; clear hg
            go_wp2_with fail
            refine (C3.out _ HG.out).mono ?_
            rintro e w1 ⟨rfl, hg⟩
            replace HG := Lib.hid hg; clear hg
            go_wp2
            go_ret
            exact ⟨rfl, HG.out⟩
          · rw [if_neg (by omega)]
            have hy' : Lib.nDigits y.natAbs ≤ 4096 := by omega
            clear sx sy hx hyl is1
            generalize Lib.nDigits x.natAbs = u at *
            generalize Lib.nDigits y.natAbs = v at *
            generalize Tx x = p at *
            generalize Tx y = q at *
            intro w hg
            have HG := Lib.hid hg; clear hg
            go_enter Tryz.func20, Tryz.ntmps20
            go_wp2_with fail
            refine (CT.out _ HG.out).mono ?_
            rintro e w1 ⟨rfl, hg⟩
            replace HG := Lib.hid hg; clear hg
            go_wp2_with fail
            refine (CB.out _ HG.out).mono ?_
            rintro e w1 ⟨rfl, hg⟩
            replace HG := Lib.hid hg; clear hg
            go_wp2_with fail
            refine (ST.out _ HG.out).mono ?_
            rintro e w1 ⟨rfl, hg⟩
            replace HG := Lib.hid hg; clear hg
            go_wp2_with fail
            refine (SB.out _ HG.out).mono ?_
            rintro e w1 ⟨rfl, hg⟩
            replace HG := Lib.hid hg; clear hg
            go_wp2_with fail
            refine (CS.out _ HG.out).mono ?_
            rintro e w1 ⟨rfl, hg⟩
            replace HG := Lib.hid hg; clear hg
            go_wp2_with fail
            refine (C2.out _ HG.out).mono ?_
            rintro e w1 ⟨rfl, hg⟩
            replace HG := Lib.hid hg; clear hg
            go_wp2_with fail
            refine (C3.out _ HG.out).mono ?_
            rintro e w1 ⟨rfl, hg⟩
            replace HG := Lib.hid hg; clear hg
            go_wp2
            go_ret
            exact ⟨rfl, HG.out⟩
end Go.Proofs.YtjoipfiomeocoabGreatDoor
