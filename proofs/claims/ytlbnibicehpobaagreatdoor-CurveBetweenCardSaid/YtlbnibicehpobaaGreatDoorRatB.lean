/- RatB: Rat05, Rat06, Rat07, joined. -/
import Derived.Test.YtlbnibicehpobaaGreatDoorRatA
set_option linter.unusedVariables false
set_option linter.unusedSimpArgs false

/- The reference of rational numbers: checking and the quotient. -/
namespace Go.Proofs.YtlbnibicehpobaaGreatDoor
open Go.RowKit
open Z

theorem chk_is3 (s : ByteArray) : (chk s.data.toList == 3) = !(formB s.data.toList) := by
  unfold chk
  cases formB s.data.toList with
  | false => rfl
  | true => simp only [if_true]; split <;> rfl
set_option maxHeartbeats 1000000 in
set_option maxRecDepth 100000 in
theorem r2_shaped {w0 : World} (s : ByteArray) (hs : s.size ≤ maxLen) : Ret w0 54 #[.string s] (.bool (formB s.data.toList)) := by
  have C1 := Lib.hid (ret_CheckI (w0 := w0) hs)
  have h3 := chk_is3 s
  generalize chk s.data.toList = c at C1 h3
  generalize formB s.data.toList = b at *
  intro w hg
  have HG := Lib.hid hg; clear hg
  have H3 := Lib.hid h3; clear h3
  go_enter Tryz.func54, Tryz.ntmps54
  go_wp2_with fail
  refine (C1.out _ HG.out).mono ?_
  rintro e w1 ⟨rfl, hg⟩
  replace HG := Lib.hid hg; clear hg
  go_wp2
  go_ret
  exact ⟨ret_bool (by rw [bne, H3.out, Bool.not_not]), HG.out⟩
theorem chk_zeroF {l : List UInt8} (h : chk l = 0) : formB l = true ∧ (body l).length ≤ 4096 := by
  unfold chk at h
  cases hf : formB l with
  | false => rw [hf] at h; simp at h
  | true => rw [hf] at h; simp only [if_true] at h; split at h
            · cases h
            · exact ⟨rfl, by omega⟩
theorem str_form (l : List UInt8) (h : formB l = true) : str l = Tx (ival l) := by
  have := Tx_ival (str l) (by rw [data_str]; exact h)
  rw [data_str] at this; exact this.symm
theorem size_str' (l : List UInt8) : (str l).size = l.length := by simp [str, ByteArray.size]
theorem bot_len (l : List UInt8) : (bot l).length ≤ l.length + 1 := by
  cases hp : parted l with
  | false => rw [(unparted_top hp).2]; simp
  | true => have h := congrArg List.length (parted_split hp); rw [List.length_append, List.length_cons] at h; omega
theorem body_nd {l : List UInt8} (h : formB l = true) : (body l).length = Lib.nDigits (ival l).natAbs := by
  rw [← body_itoa_len, itoa_ival l h]
/-- what Check asks, for texts with the form of integers -/
def chk4 (p x y : Int) : Int :=
  if p = 1 ∧ (y ≤ 0 ∨ y = 1) then 3 else if 4096 < Lib.nDigits x.natAbs ∨ 4096 < Lib.nDigits y.natAbs then 23 else if p = 1 ∧ Nat.gcd x.natAbs y.natAbs ≠ 1 then 3 else 0
theorem chk2_form {l : List UInt8} (h1 : formB (top l) = true) (h2 : formB (bot l) = true) : chk2 l = chk4 (if parted l = true then 1 else 0) (ival (top l)) (ival (bot l)) := by
  unfold chk2 chk4
  rw [if_neg (by rw [h1, h2]; simp), body_nd h1, body_nd h2]
  cases parted l <;> simp
theorem sm_form {l : List UInt8} (h : formB l = true) (hl : l.length ≤ 800000) : Sm 800000 (ival l) := by
  refine ⟨?_, by omega⟩
  rw [← body_nd h]
  have : (body l).length ≤ l.length := by unfold body; split <;> simp
  omega
set_option maxHeartbeats 1000000 in
set_option maxRecDepth 100000 in
theorem r2_Check {w0 : World} (s : ByteArray) (hs : s.size ≤ 400000) : Ret w0 32 #[.string s] (.int .i64 (chkS s)) := by
  have hmx : s.size ≤ maxLen := by unfold maxLen; omega
  have hl := top_len s.data.toList
  have hlb := bot_len s.data.toList
  have hsz : s.data.toList.length = s.size := by simp
  have CT := Lib.hid (ret_Top (w0 := w0) hmx)
  have CB := Lib.hid (ret_Bottom (w0 := w0) hmx)
  have ST := Lib.hid (r2_shaped (w0 := w0) (str (top s.data.toList)) (by rw [size_str']; unfold maxLen; omega))
  have SB := Lib.hid (r2_shaped (w0 := w0) (str (bot s.data.toList)) (by rw [size_str']; unfold maxLen; omega))
  rw [data_str] at ST SB
  cases h1 : formB (top s.data.toList)
  · have HF : Hid (chkS s = 3) := by show chk2 _ = 3; unfold chk2; rw [if_pos (.inl h1)]
    rw [h1] at ST
    clear h1 hl hlb hsz hs hmx
    generalize str (top s.data.toList) = p at CT ST
    generalize str (bot s.data.toList) = q at CB SB
    rw [HF.out]
    intro w hg
    have HG := Lib.hid hg; clear hg
    go_enter Tryz.func32, Tryz.ntmps32
    go_wp2_with fail
    refine (CT.out _ HG.out).mono ?_
    rintro e w1 ⟨rfl, hg⟩
    replace HG := Lib.hid hg; clear hg
    go_wp2_with fail
    refine (CB.out _ HG.out).mono ?_
    rintro e w1 ⟨rfl, hg⟩
    replace HG := Lib.hid hg; clear hg
    go_wp2_with fail
    refine (ST.out _ HG.out).mono ?_
    rintro e w1 ⟨rfl, hg⟩
    replace HG := Lib.hid hg; clear hg
    go_wp2
    go_ret
    exact ⟨rfl, HG.out⟩
  · cases h2 : formB (bot s.data.toList)
    · have HF : Hid (chkS s = 3) := by show chk2 _ = 3; unfold chk2; rw [if_pos (.inr h2)]
      rw [h1] at ST
      rw [h2] at SB
      clear h1 h2 hl hlb hsz hs hmx
      generalize str (top s.data.toList) = p at CT ST
      generalize str (bot s.data.toList) = q at CB SB
      rw [HF.out]
      intro w hg
      have HG := Lib.hid hg; clear hg
      go_enter Tryz.func32, Tryz.ntmps32
      go_wp2_with fail
      refine (CT.out _ HG.out).mono ?_
      rintro e w1 ⟨rfl, hg⟩
      replace HG := Lib.hid hg; clear hg
      go_wp2_with fail
      refine (CB.out _ HG.out).mono ?_
      rintro e w1 ⟨rfl, hg⟩
      replace HG := Lib.hid hg; clear hg
      go_wp2_with fail
      refine (ST.out _ HG.out).mono ?_
      rintro e w1 ⟨rfl, hg⟩
      replace HG := Lib.hid hg; clear hg
      go_wp2_with fail
      refine (SB.out _ HG.out).mono ?_
      rintro e w1 ⟨rfl, hg⟩
      replace HG := Lib.hid hg; clear hg
      go_wp2
      go_ret
      exact ⟨rfl, HG.out⟩
    · have HF : Hid (chkS s = chk4 (if parted s.data.toList = true then 1 else 0) (ival (top s.data.toList)) (ival (bot s.data.toList))) := chk2_form h1 h2
      have sx := sm_form h1 (by omega)
      have sy := sm_form h2 (by omega)
      have CS := Lib.hid (Ret.same (w0 := w0) fun w => r2_slash s w hmx)
      rw [h1, str_form _ h1] at ST
      rw [h2, str_form _ h2] at SB
      rw [str_form _ h1] at CT
      rw [str_form _ h2] at CB
      rw [HF.out]
      rw [hsz] at hl
      have hpar : (((top s.data.toList).length : Nat) : Int) < (s.size : Int) ↔ parted s.data.toList = true := by rw [hl.2]; omega
      have hge := hl.1
      clear HF hl hlb hsz hmx h1 h2
      generalize (top s.data.toList).length = n at CS hpar hge
      generalize ival (top s.data.toList) = x at *
      generalize ival (bot s.data.toList) = y at *
      have C1 := Lib.hid (ret_SignI (w0 := w0) sy)
      have C2 := Lib.hid (ret_DigitsI (w0 := w0) sx)
      have C3 := Lib.hid (ret_DigitsI (w0 := w0) sy)
      have is1 := Tx_is1 y
      have nx := Lib.nDigits_pos x.natAbs
      have ny := Lib.nDigits_pos y.natAbs
      have lx := sx.1
      have ly := sy.1
      by_cases hp : parted s.data.toList = true
      · have hlt := hpar.2 hp
        rw [hp] at *
        clear hpar hp
        simp only [if_true]
        by_cases hy : y ≤ 0
        · have hv : chk4 1 x y = 3 := by unfold chk4; rw [if_pos ⟨rfl, .inl hy⟩]
          rw [hv]
          have hsn : y.sign ≤ 0 := by rcases Int.lt_trichotomy y 0 with h | h | h; (rw [Int.sign_eq_neg_one_of_neg h]; omega); (rw [h]; decide); omega
          generalize y.sign = sg at C1 hsn
          clear is1 hv hy sx sy C2 C3 nx ny lx ly
          generalize Tx x = p at *
          generalize Tx y = q at *
          intro w hg
          have HG := Lib.hid hg; clear hg
          go_enter Tryz.func32, Tryz.ntmps32
          go_wp2_with fail
          refine (CT.out _ HG.out).mono ?_
          rintro e w1 ⟨rfl, hg⟩
          replace HG := Lib.hid hg; clear hg
          go_wp2_with fail
          refine (CB.out _ HG.out).mono ?_
          rintro e w1 ⟨rfl, hg⟩
          replace HG := Lib.hid hg; clear hg
          go_wp2_with fail
          refine (ST.out _ HG.out).mono ?_
          rintro e w1 ⟨rfl, hg⟩
          replace HG := Lib.hid hg; clear hg
          go_wp2_with fail
          refine (SB.out _ HG.out).mono ?_
          rintro e w1 ⟨rfl, hg⟩
          replace HG := Lib.hid hg; clear hg
          go_wp2_with fail
          refine (CS.out _ HG.out).mono ?_
          rintro e w1 ⟨rfl, hg⟩
          replace HG := Lib.hid hg; clear hg
          go_wp2_with fail
          refine (C1.out _ HG.out).mono ?_
          rintro e w1 ⟨rfl, hg⟩
          replace HG := Lib.hid hg; clear hg
          go_wp2
          go_ret
          exact ⟨rfl, HG.out⟩
        · have hsn : y.sign = 1 := Int.sign_eq_one_of_pos (by omega)
          rw [hsn] at C1
          clear hsn
          by_cases hy1 : y = 1
          · have hv : chk4 1 x y = 3 := by unfold chk4; rw [if_pos ⟨rfl, .inr hy1⟩]
            rw [hv]
            rw [decide_eq_true hy1] at is1
            clear hv hy hy1 sx sy C2 C3 nx ny lx ly
            generalize Tx x = p at *
            generalize Tx y = q at *
            intro w hg
            have HG := Lib.hid hg; clear hg
            go_enter Tryz.func32, Tryz.ntmps32
            go_wp2_with fail
            refine (CT.out _ HG.out).mono ?_
            rintro e w1 ⟨rfl, hg⟩
            replace HG := Lib.hid hg; clear hg
            go_wp2_with fail
            refine (CB.out _ HG.out).mono ?_
            rintro e w1 ⟨rfl, hg⟩
            replace HG := Lib.hid hg; clear hg
            go_wp2_with fail
            refine (ST.out _ HG.out).mono ?_
            rintro e w1 ⟨rfl, hg⟩
            replace HG := Lib.hid hg; clear hg
            go_wp2_with fail
            refine (SB.out _ HG.out).mono ?_
            rintro e w1 ⟨rfl, hg⟩
            replace HG := Lib.hid hg; clear hg
            go_wp2_with fail
            refine (CS.out _ HG.out).mono ?_
            rintro e w1 ⟨rfl, hg⟩
            replace HG := Lib.hid hg; clear hg
            go_wp2_with fail
            refine (C1.out _ HG.out).mono ?_
            rintro e w1 ⟨rfl, hg⟩
            replace HG := Lib.hid hg; clear hg
            go_wp2
            go_ret
            exact ⟨rfl, HG.out⟩
          · rw [decide_eq_false hy1] at is1
            have hv : chk4 1 x y = if 4096 < Lib.nDigits x.natAbs ∨ 4096 < Lib.nDigits y.natAbs then 23 else if Nat.gcd x.natAbs y.natAbs ≠ 1 then 3 else 0 := by unfold chk4; rw [if_neg (by omega)]; simp
            rw [hv]
            clear hv
            by_cases hx : 4096 < Lib.nDigits x.natAbs
            · rw [if_pos (.inl hx)]
              clear hy hy1 sx sy C3
              generalize Lib.nDigits x.natAbs = u at *
              generalize Tx x = p at *
              generalize Tx y = q at *
              intro w hg
              have HG := Lib.hid hg; clear hg
              go_enter Tryz.func32, Tryz.ntmps32
              go_wp2_with fail
              refine (CT.out _ HG.out).mono ?_
              rintro e w1 ⟨rfl, hg⟩
              replace HG := Lib.hid hg; clear hg
              go_wp2_with fail
              refine (CB.out _ HG.out).mono ?_
              rintro e w1 ⟨rfl, hg⟩
              replace HG := Lib.hid hg; clear hg
              go_wp2_with fail
              refine (ST.out _ HG.out).mono ?_
              rintro e w1 ⟨rfl, hg⟩
              replace HG := Lib.hid hg; clear hg
              go_wp2_with fail
              refine (SB.out _ HG.out).mono ?_
              rintro e w1 ⟨rfl, hg⟩
              replace HG := Lib.hid hg; clear hg
              go_wp2_with fail
              refine (CS.out _ HG.out).mono ?_
              rintro e w1 ⟨rfl, hg⟩
              replace HG := Lib.hid hg; clear hg
              go_wp2_with fail
              refine (C1.out _ HG.out).mono ?_
              rintro e w1 ⟨rfl, hg⟩
              replace HG := Lib.hid hg; clear hg
              go_wp2_with fail
              refine (C2.out _ HG.out).mono ?_
              rintro e w1 ⟨rfl, hg⟩
              replace HG := Lib.hid hg; clear hg
              go_wp2
              go_ret
              exact ⟨rfl, HG.out⟩
            · by_cases hyl : 4096 < Lib.nDigits y.natAbs
              · rw [if_pos (.inr hyl)]
                have hx' : Lib.nDigits x.natAbs ≤ 4096 := by omega
                clear hy hy1 sx sy hx
                generalize Lib.nDigits x.natAbs = u at *
                generalize Lib.nDigits y.natAbs = v at *
                generalize Tx x = p at *
                generalize Tx y = q at *
                intro w hg
                have HG := Lib.hid hg; clear hg
                go_enter Tryz.func32, Tryz.ntmps32
                go_wp2_with fail
                refine (CT.out _ HG.out).mono ?_
                rintro e w1 ⟨rfl, hg⟩
                replace HG := Lib.hid hg; clear hg
                go_wp2_with fail
                refine (CB.out _ HG.out).mono ?_
                rintro e w1 ⟨rfl, hg⟩
                replace HG := Lib.hid hg; clear hg
                go_wp2_with fail
                refine (ST.out _ HG.out).mono ?_
                rintro e w1 ⟨rfl, hg⟩
                replace HG := Lib.hid hg; clear hg
                go_wp2_with fail
                refine (SB.out _ HG.out).mono ?_
                rintro e w1 ⟨rfl, hg⟩
                replace HG := Lib.hid hg; clear hg
                go_wp2_with fail
                refine (CS.out _ HG.out).mono ?_
                rintro e w1 ⟨rfl, hg⟩
                replace HG := Lib.hid hg; clear hg
                go_wp2_with fail
                refine (C1.out _ HG.out).mono ?_
                rintro e w1 ⟨rfl, hg⟩
                replace HG := Lib.hid hg; clear hg
                go_wp2_with fail
                refine (C2.out _ HG.out).mono ?_
                rintro e w1 ⟨rfl, hg⟩
                replace HG := Lib.hid hg; clear hg
                go_wp2_with fail
                refine (C3.out _ HG.out).mono ?_
                rintro e w1 ⟨rfl, hg⟩
                replace HG := Lib.hid hg; clear hg
                go_wp2
                go_ret
                exact ⟨rfl, HG.out⟩
              · rw [if_neg (by omega)]
                have C5 := Lib.hid (ret_Common (w0 := w0) (k := 4096) (a := x) (b := y) ⟨by omega, by omega⟩ ⟨by omega, by omega⟩ (by omega))
                have isg := Tx_is1 ((Nat.gcd x.natAbs y.natAbs : Nat) : Int)
                have hdec : decide (((Nat.gcd x.natAbs y.natAbs : Nat) : Int) = 1) = decide (Nat.gcd x.natAbs y.natAbs = 1) := by rw [decide_eq_decide]; omega
                rw [hdec] at isg
                clear hdec
                have hx' : Lib.nDigits x.natAbs ≤ 4096 := by omega
                have hy' : Lib.nDigits y.natAbs ≤ 4096 := by omega
                clear hx hyl hy hy1 sx sy
                by_cases hd : Nat.gcd x.natAbs y.natAbs = 1
                · rw [decide_eq_true hd] at isg
                  rw [if_neg (by omega)]
                  clear hd
                  generalize Tx ((Nat.gcd x.natAbs y.natAbs : Nat) : Int) = g at *
                  generalize Lib.nDigits x.natAbs = u at *
                  generalize Lib.nDigits y.natAbs = v at *
                  generalize Tx x = p at *
                  generalize Tx y = q at *
                  intro w hg
                  have HG := Lib.hid hg; clear hg
                  go_enter Tryz.func32, Tryz.ntmps32
                  go_wp2_with fail
                  refine (CT.out _ HG.out).mono ?_
                  rintro e w1 ⟨rfl, hg⟩
                  replace HG := Lib.hid hg; clear hg
                  go_wp2_with fail
                  refine (CB.out _ HG.out).mono ?_
                  rintro e w1 ⟨rfl, hg⟩
                  replace HG := Lib.hid hg; clear hg
                  go_wp2_with fail
                  refine (ST.out _ HG.out).mono ?_
                  rintro e w1 ⟨rfl, hg⟩
                  replace HG := Lib.hid hg; clear hg
                  go_wp2_with fail
                  refine (SB.out _ HG.out).mono ?_
                  rintro e w1 ⟨rfl, hg⟩
                  replace HG := Lib.hid hg; clear hg
                  go_wp2_with fail
                  refine (CS.out _ HG.out).mono ?_
                  rintro e w1 ⟨rfl, hg⟩
                  replace HG := Lib.hid hg; clear hg
                  go_wp2_with fail
                  refine (C1.out _ HG.out).mono ?_
                  rintro e w1 ⟨rfl, hg⟩
                  replace HG := Lib.hid hg; clear hg
                  go_wp2_with fail
                  refine (C2.out _ HG.out).mono ?_
                  rintro e w1 ⟨rfl, hg⟩
                  replace HG := Lib.hid hg; clear hg
                  go_wp2_with fail
                  refine (C3.out _ HG.out).mono ?_
                  rintro e w1 ⟨rfl, hg⟩
                  replace HG := Lib.hid hg; clear hg
                  go_wp2_with fail
                  refine (C5.out _ HG.out).mono ?_
                  rintro e w1 ⟨rfl, hg⟩
                  replace HG := Lib.hid hg; clear hg
                  go_wp2
                  go_ret
                  exact ⟨rfl, HG.out⟩
                · rw [decide_eq_false hd] at isg
                  rw [if_pos hd]
                  clear hd
                  generalize Tx ((Nat.gcd x.natAbs y.natAbs : Nat) : Int) = g at *
                  generalize Lib.nDigits x.natAbs = u at *
                  generalize Lib.nDigits y.natAbs = v at *
                  generalize Tx x = p at *
                  generalize Tx y = q at *
                  intro w hg
                  have HG := Lib.hid hg; clear hg
                  go_enter Tryz.func32, Tryz.ntmps32
                  go_wp2_with fail
                  refine (CT.out _ HG.out).mono ?_
                  rintro e w1 ⟨rfl, hg⟩
                  replace HG := Lib.hid hg; clear hg
                  go_wp2_with fail
                  refine (CB.out _ HG.out).mono ?_
                  rintro e w1 ⟨rfl, hg⟩
                  replace HG := Lib.hid hg; clear hg
                  go_wp2_with fail
                  refine (ST.out _ HG.out).mono ?_
                  rintro e w1 ⟨rfl, hg⟩
                  replace HG := Lib.hid hg; clear hg
                  go_wp2_with fail
                  refine (SB.out _ HG.out).mono ?_
                  rintro e w1 ⟨rfl, hg⟩
                  replace HG := Lib.hid hg; clear hg
                  go_wp2_with fail
                  refine (CS.out _ HG.out).mono ?_
                  rintro e w1 ⟨rfl, hg⟩
                  replace HG := Lib.hid hg; clear hg
                  go_wp2_with fail
                  refine (C1.out _ HG.out).mono ?_
                  rintro e w1 ⟨rfl, hg⟩
                  replace HG := Lib.hid hg; clear hg
                  go_wp2_with fail
                  refine (C2.out _ HG.out).mono ?_
                  rintro e w1 ⟨rfl, hg⟩
                  replace HG := Lib.hid hg; clear hg
                  go_wp2_with fail
                  refine (C3.out _ HG.out).mono ?_
                  rintro e w1 ⟨rfl, hg⟩
                  replace HG := Lib.hid hg; clear hg
                  go_wp2_with fail
                  refine (C5.out _ HG.out).mono ?_
                  rintro e w1 ⟨rfl, hg⟩
                  replace HG := Lib.hid hg; clear hg
                  go_wp2
                  go_ret
                  exact ⟨rfl, HG.out⟩
      · have hp' : parted s.data.toList = false := by simpa using hp
        have hnl : (s.size : Int) ≤ n := by
          by_cases h : (n : Int) < s.size
          · exact absurd (hpar.1 h) hp
          · omega
        have hnl' : ¬ (n : Int) < s.size := by omega
        rw [hp'] at *
        clear hpar hp hp'
        simp only [Bool.false_eq_true, if_false]
        have hv : chk4 0 x y = if 4096 < Lib.nDigits x.natAbs ∨ 4096 < Lib.nDigits y.natAbs then 23 else 0 := by unfold chk4; rw [if_neg (by omega)]; simp
        rw [hv]
        clear hv
        by_cases hx : 4096 < Lib.nDigits x.natAbs
        · rw [if_pos (.inl hx)]
          clear sx sy C3 is1
          generalize Lib.nDigits x.natAbs = u at *
          generalize Tx x = p at *
          generalize Tx y = q at *
          intro w hg
          have HG := Lib.hid hg; clear hg
          go_enter Tryz.func32, Tryz.ntmps32
          go_wp2_with fail
          refine (CT.out _ HG.out).mono ?_
          rintro e w1 ⟨rfl, hg⟩
          replace HG := Lib.hid hg; clear hg
          go_wp2_with fail
          refine (CB.out _ HG.out).mono ?_
          rintro e w1 ⟨rfl, hg⟩
          replace HG := Lib.hid hg; clear hg
          go_wp2_with fail
          refine (ST.out _ HG.out).mono ?_
          rintro e w1 ⟨rfl, hg⟩
          replace HG := Lib.hid hg; clear hg
          go_wp2_with fail
          refine (SB.out _ HG.out).mono ?_
          rintro e w1 ⟨rfl, hg⟩
          replace HG := Lib.hid hg; clear hg
          go_wp2_with fail
          refine (CS.out _ HG.out).mono ?_
          rintro e w1 ⟨rfl, hg⟩
          replace HG := Lib.hid hg; clear hg
          go_wp2_with fail
          refine (C2.out _ HG.out).mono ?_
          rintro e w1 ⟨rfl, hg⟩
          replace HG := Lib.hid hg; clear hg
          go_wp2
          go_ret
          exact ⟨rfl, HG.out⟩
        · have hx' : Lib.nDigits x.natAbs ≤ 4096 := by omega
          by_cases hyl : 4096 < Lib.nDigits y.natAbs
          · rw [if_pos (.inr hyl)]
            clear sx sy hx is1
            generalize Lib.nDigits x.natAbs = u at *
            generalize Lib.nDigits y.natAbs = v at *
            generalize Tx x = p at *
            generalize Tx y = q at *
            intro w hg
            have HG := Lib.hid hg; clear hg
            go_enter Tryz.func32, Tryz.ntmps32
            go_wp2_with fail
            refine (CT.out _ HG.out).mono ?_
            rintro e w1 ⟨rfl, hg⟩
            replace HG := Lib.hid hg; clear hg
            go_wp2_with fail
            refine (CB.out _ HG.out).mono ?_
            rintro e w1 ⟨rfl, hg⟩
            replace HG := Lib.hid hg; clear hg
            go_wp2_with fail
            refine (ST.out _ HG.out).mono ?_
            rintro e w1 ⟨rfl, hg⟩
            replace HG := Lib.hid hg; clear hg
            go_wp2_with fail
            refine (SB.out _ HG.out).mono ?_
            rintro e w1 ⟨rfl, hg⟩
            replace HG := Lib.hid hg; clear hg
            go_wp2_with fail
            refine (CS.out _ HG.out).mono ?_
            rintro e w1 ⟨rfl, hg⟩
            replace HG := Lib.hid hg; clear hg
            go_wp2_with fail
            refine (C2.out _ HG.out).mono ?_
            rintro e w1 ⟨rfl, hg⟩
            replace HG := Lib.hid hg; clear hg
            go_wp2_with fail
            refine (C3.out _ HG.out).mono ?_
            rintro e w1 ⟨rfl, hg⟩
            replace HG := Lib.hid hg; clear hg
            go_wp2
            go_ret
            exact ⟨rfl, HG.out⟩
          · rw [if_neg (by omega)]
            have hy' : Lib.nDigits y.natAbs ≤ 4096 := by omega
            clear sx sy hx hyl is1
            generalize Lib.nDigits x.natAbs = u at *
            generalize Lib.nDigits y.natAbs = v at *
            generalize Tx x = p at *
            generalize Tx y = q at *
            intro w hg
            have HG := Lib.hid hg; clear hg
            go_enter Tryz.func32, Tryz.ntmps32
            go_wp2_with fail
            refine (CT.out _ HG.out).mono ?_
            rintro e w1 ⟨rfl, hg⟩
            replace HG := Lib.hid hg; clear hg
            go_wp2_with fail
            refine (CB.out _ HG.out).mono ?_
            rintro e w1 ⟨rfl, hg⟩
            replace HG := Lib.hid hg; clear hg
            go_wp2_with fail
            refine (ST.out _ HG.out).mono ?_
            rintro e w1 ⟨rfl, hg⟩
            replace HG := Lib.hid hg; clear hg
            go_wp2_with fail
            refine (SB.out _ HG.out).mono ?_
            rintro e w1 ⟨rfl, hg⟩
            replace HG := Lib.hid hg; clear hg
            go_wp2_with fail
            refine (CS.out _ HG.out).mono ?_
            rintro e w1 ⟨rfl, hg⟩
            replace HG := Lib.hid hg; clear hg
            go_wp2_with fail
            refine (C2.out _ HG.out).mono ?_
            rintro e w1 ⟨rfl, hg⟩
            replace HG := Lib.hid hg; clear hg
            go_wp2_with fail
            refine (C3.out _ HG.out).mono ?_
            rintro e w1 ⟨rfl, hg⟩
            replace HG := Lib.hid hg; clear hg
            go_wp2
            go_ret
            exact ⟨rfl, HG.out⟩
end Go.Proofs.YtlbnibicehpobaaGreatDoor

/- The reference of rational numbers: arithmetic of right numbers. -/
namespace Go.Proofs.YtlbnibicehpobaaGreatDoor
open Go.RowKit
open Z

theorem Ret.si {w0 : World} {f : FuncId} {args : Array Value} {p : ByteArray × Int} {x : ByteArray} {e : Int} (h : Ret w0 f args (vSI p)) (hp : p = (x, e)) : Ret w0 f args (.tuple #[.string x, .int .i64 e]) := by subst hp; exact h
theorem Ret.ii {w0 : World} {f : FuncId} {args : Array Value} {p : Int × Int} {x e : Int} (h : Ret w0 f args (vII p)) (hp : p = (x, e)) : Ret w0 f args (.tuple #[.int .i64 x, .int .i64 e]) := by subst hp; exact h
theorem Ret.toSI {w0 : World} {f : FuncId} {args : Array Value} {p : ByteArray × Int} {x : ByteArray} {e : Int} (hp : p = (x, e)) (h : Ret w0 f args (.tuple #[.string x, .int .i64 e])) : Ret w0 f args (vSI p) := by subst hp; exact h
theorem Ret.toII {w0 : World} {f : FuncId} {args : Array Value} {p : Int × Int} {x e : Int} (hp : p = (x, e)) (h : Ret w0 f args (.tuple #[.int .i64 x, .int .i64 e])) : Ret w0 f args (vII p) := by subst hp; exact h
section
variable {w0 : World}
theorem sm_gcd {k : Nat} {p q : Int} (hq : Sm k q) (h0 : q ≠ 0) : Sm k ((Nat.gcd p.natAbs q.natAbs : Nat) : Int) := by
  refine ⟨Nat.le_trans (nDigits_mono ?_) hq.1, hq.2⟩
  rw [Int.natAbs_natCast]; exact Nat.gcd_le_right _ (by omega)
set_option maxHeartbeats 1000000 in
set_option maxRecDepth 100000 in
theorem ret_Ratio {k : Nat} {p q : Int} (hp : Sm k p) (hq : Sm k q) (hk : k ≤ 400000) (h0 : q ≠ 0) : Ret w0 62 #[.string (Tx p), .string (Tx q)] (.string (RT (Rat.divInt p q))) := by
  have CG := Lib.hid (ret_Common (w0 := w0) hp hq (by omega))
  have CS := Lib.hid (ret_SignI (w0 := w0) hq)
  have sg := sm_gcd (p := p) hq h0
  have hgne := gs_ne (p := p) h0
  have hn := gs_num (p := p) h0
  have hd := gs_den (p := p) h0
  have sn : Sm k (Rat.divInt p q).num := hp.of_le (num_le h0)
  have sd : Sm k ((Rat.divInt p q).den : Int) := hq.of_le (by rw [Int.natAbs_natCast]; exact den_le h0)
  have ln := sn.len2
  have ld := sd.len2
  have is1 := Tx_is1 ((Rat.divInt p q).den : Int)
  by_cases h : q < 0
  · have hgs : gs p q = -((Nat.gcd p.natAbs q.natAbs : Nat) : Int) := by unfold gs; rw [if_pos h]
    rw [hgs] at hgne hn hd
    have CN := Lib.hid (ret_NegatedI (w0 := w0) sg)
    have C1 := Lib.hid (ret_FloorI (w0 := w0) hp sg.neg (by omega) hgne)
    have C2 := Lib.hid (ret_FloorI (w0 := w0) hq sg.neg (by omega) hgne)
    rw [hn] at C1
    rw [hd] at C2
    rw [Int.sign_eq_neg_one_of_neg h] at CS
    by_cases h1 : (Rat.divInt p q).den = 1
    · have HF := Lib.hid (RT_one h1)
      rw [h1] at C2
      rw [decide_eq_true (by omega), h1] at is1
      rw [HF.out]
      clear hgs hgne hn hd sn sd HF h h1 ld hp hq sg h0
      generalize Tx (-((Nat.gcd p.natAbs q.natAbs : Nat) : Int)) = g' at *
      generalize Tx ((Nat.gcd p.natAbs q.natAbs : Nat) : Int) = g at *
      generalize Tx (Rat.divInt p q).num = n at *
      generalize Tx p = ps at *
      generalize Tx q = qs at *
      generalize Tx ((1 : Nat) : Int) = d at *
      intro w hg
      have HG := Lib.hid hg; clear hg
      go_enter Tryz.func62, Tryz.ntmps62
      go_wp2_with fail
      refine (CG.out _ HG.out).mono ?_
      rintro e w1 ⟨rfl, hg⟩
      replace HG := Lib.hid hg; clear hg
      go_wp2_with fail
      refine (CS.out _ HG.out).mono ?_
      rintro e w1 ⟨rfl, hg⟩
      replace HG := Lib.hid hg; clear hg
      go_wp2_with fail
      refine (CN.out _ HG.out).mono ?_
      rintro e w1 ⟨rfl, hg⟩
      replace HG := Lib.hid hg; clear hg
      go_wp2_with fail
      refine (C1.out _ HG.out).mono ?_
      rintro e w1 ⟨rfl, hg⟩
      replace HG := Lib.hid hg; clear hg
      go_wp2_with fail
      refine (C2.out _ HG.out).mono ?_
      rintro e w1 ⟨rfl, hg⟩
      replace HG := Lib.hid hg; clear hg
      go_wp2
      go_ret
      exact ⟨rfl, HG.out⟩
    · have HF := Lib.hid (RT_many h1)
      rw [decide_eq_false (by omega)] at is1
      rw [HF.out]
      clear hgs hgne hn hd sn sd HF h h1 hp hq sg h0
      generalize Tx (-((Nat.gcd p.natAbs q.natAbs : Nat) : Int)) = g' at *
      generalize Tx ((Nat.gcd p.natAbs q.natAbs : Nat) : Int) = g at *
      generalize Tx (Rat.divInt p q).num = n at *
      generalize Tx ((Rat.divInt p q).den : Int) = d at *
      generalize Tx p = ps at *
      generalize Tx q = qs at *
      intro w hg
      have HG := Lib.hid hg; clear hg
      go_enter Tryz.func62, Tryz.ntmps62
      go_wp2_with fail
      refine (CG.out _ HG.out).mono ?_
      rintro e w1 ⟨rfl, hg⟩
      replace HG := Lib.hid hg; clear hg
      go_wp2_with fail
      refine (CS.out _ HG.out).mono ?_
      rintro e w1 ⟨rfl, hg⟩
      replace HG := Lib.hid hg; clear hg
      go_wp2_with fail
      refine (CN.out _ HG.out).mono ?_
      rintro e w1 ⟨rfl, hg⟩
      replace HG := Lib.hid hg; clear hg
      go_wp2_with fail
      refine (C1.out _ HG.out).mono ?_
      rintro e w1 ⟨rfl, hg⟩
      replace HG := Lib.hid hg; clear hg
      go_wp2_with fail
      refine (C2.out _ HG.out).mono ?_
      rintro e w1 ⟨rfl, hg⟩
      replace HG := Lib.hid hg; clear hg
      go_wp2
      go_ret
      exact ⟨rfl, HG.out⟩
  · have hgs : gs p q = ((Nat.gcd p.natAbs q.natAbs : Nat) : Int) := by unfold gs; rw [if_neg h]
    rw [hgs] at hgne hn hd
    have C1 := Lib.hid (ret_FloorI (w0 := w0) hp sg (by omega) hgne)
    have C2 := Lib.hid (ret_FloorI (w0 := w0) hq sg (by omega) hgne)
    rw [hn] at C1
    rw [hd] at C2
    rw [Int.sign_eq_one_of_pos (by omega)] at CS
    by_cases h1 : (Rat.divInt p q).den = 1
    · have HF := Lib.hid (RT_one h1)
      rw [h1] at C2
      rw [decide_eq_true (by omega), h1] at is1
      rw [HF.out]
      clear hgs hgne hn hd sn sd HF h h1 ld hp hq sg h0
      generalize Tx ((Nat.gcd p.natAbs q.natAbs : Nat) : Int) = g at *
      generalize Tx (Rat.divInt p q).num = n at *
      generalize Tx p = ps at *
      generalize Tx q = qs at *
      generalize Tx ((1 : Nat) : Int) = d at *
      intro w hg
      have HG := Lib.hid hg; clear hg
      go_enter Tryz.func62, Tryz.ntmps62
      go_wp2_with fail
      refine (CG.out _ HG.out).mono ?_
      rintro e w1 ⟨rfl, hg⟩
      replace HG := Lib.hid hg; clear hg
      go_wp2_with fail
      refine (CS.out _ HG.out).mono ?_
      rintro e w1 ⟨rfl, hg⟩
      replace HG := Lib.hid hg; clear hg
      go_wp2_with fail
      refine (C1.out _ HG.out).mono ?_
      rintro e w1 ⟨rfl, hg⟩
      replace HG := Lib.hid hg; clear hg
      go_wp2_with fail
      refine (C2.out _ HG.out).mono ?_
      rintro e w1 ⟨rfl, hg⟩
      replace HG := Lib.hid hg; clear hg
      go_wp2
      go_ret
      exact ⟨rfl, HG.out⟩
    · have HF := Lib.hid (RT_many h1)
      rw [decide_eq_false (by omega)] at is1
      rw [HF.out]
      clear hgs hgne hn hd sn sd HF h h1 hp hq sg h0
      generalize Tx ((Nat.gcd p.natAbs q.natAbs : Nat) : Int) = g at *
      generalize Tx (Rat.divInt p q).num = n at *
      generalize Tx ((Rat.divInt p q).den : Int) = d at *
      generalize Tx p = ps at *
      generalize Tx q = qs at *
      intro w hg
      have HG := Lib.hid hg; clear hg
      go_enter Tryz.func62, Tryz.ntmps62
      go_wp2_with fail
      refine (CG.out _ HG.out).mono ?_
      rintro e w1 ⟨rfl, hg⟩
      replace HG := Lib.hid hg; clear hg
      go_wp2_with fail
      refine (CS.out _ HG.out).mono ?_
      rintro e w1 ⟨rfl, hg⟩
      replace HG := Lib.hid hg; clear hg
      go_wp2_with fail
      refine (C1.out _ HG.out).mono ?_
      rintro e w1 ⟨rfl, hg⟩
      replace HG := Lib.hid hg; clear hg
      go_wp2_with fail
      refine (C2.out _ HG.out).mono ?_
      rintro e w1 ⟨rfl, hg⟩
      replace HG := Lib.hid hg; clear hg
      go_wp2
      go_ret
      exact ⟨rfl, HG.out⟩
theorem sm_int {n : Int} (h1 : -9223372036854775808 ≤ n) (h2 : n ≤ 9223372036854775807) : Sm 4096 n := by
  refine ⟨?_, by omega⟩
  have : Lib.nDigits n.natAbs ≤ 19 := (nDigits_le_iff _ 19 (by omega)).2 (by omega)
  omega
set_option maxHeartbeats 1000000 in
set_option maxRecDepth 100000 in
theorem ret_Whole2 {n : Int} (h1 : -9223372036854775808 ≤ n) (h2 : n ≤ 9223372036854775807) : Ret w0 33 #[.int .i64 n] (.string (Tx n)) := by
  have C1 := Lib.hid (ret_WholeI (w0 := w0) h1 h2)
  generalize Tx n = s at *
  intro w hg
  have HG := Lib.hid hg; clear hg
  go_enter Tryz.func33, Tryz.ntmps33
  go_wp2_with fail
  refine (C1.out _ HG.out).mono ?_
  rintro e w1 ⟨rfl, hg⟩
  replace HG := Lib.hid hg; clear hg
  go_wp2
  go_ret
  exact ⟨rfl, HG.out⟩
set_option maxHeartbeats 1000000 in
set_option maxRecDepth 100000 in
theorem ret_OrderR {k k' : Nat} {a b : Rat} (ha : Sh k a) (hb : Sh k' b) (hk : k ≤ 100000) (hk' : k' ≤ 100000) : Ret w0 34 #[.string (RT a), .string (RT b)] (.int .i64 (cmpQ a b)) := by
  have T1 := Lib.hid (ret_TopR (w0 := w0) ha hk)
  have T2 := Lib.hid (ret_BottomR (w0 := w0) hb hk')
  have P1 := Lib.hid (ret_Product (w0 := w0) (sm_num ha (by omega)) (sm_den hb (by omega)) (by omega))
  have T3 := Lib.hid (ret_TopR (w0 := w0) hb hk')
  have T4 := Lib.hid (ret_BottomR (w0 := w0) ha hk)
  have P2 := Lib.hid (ret_Product (w0 := w0) (sm_num hb (by omega)) (sm_den ha (by omega)) (by omega))
  have O := Lib.hid (ret_Order1 (w0 := w0) (k := k + k') (k' := k + k') (a := a.num * b.den) (b := b.num * a.den) ⟨nd_mul ha.1 hb.d ha.pos hb.pos, by omega⟩ ⟨by rw [Nat.add_comm]; exact nd_mul hb.1 ha.d hb.pos ha.pos, by omega⟩)
  rw [cmpQ_parts] at O
  clear ha hb hk hk'
  generalize cmpQ a b = c at *
  generalize Tx (a.num * b.den) = x1 at *
  generalize Tx (b.num * a.den) = x2 at *
  generalize Tx a.num = x3 at *
  generalize Tx b.num = x4 at *
  generalize Tx (a.den : Int) = x5 at *
  generalize Tx (b.den : Int) = x6 at *
  generalize RT a = s at *
  generalize RT b = t at *
  intro w hg
  have HG := Lib.hid hg; clear hg
  go_enter Tryz.func34, Tryz.ntmps34
  go_wp2_with fail
  refine (T1.out _ HG.out).mono ?_
  rintro e w1 ⟨rfl, hg⟩
  replace HG := Lib.hid hg; clear hg
  go_wp2_with fail
  refine (T2.out _ HG.out).mono ?_
  rintro e w1 ⟨rfl, hg⟩
  replace HG := Lib.hid hg; clear hg
  go_wp2_with fail
  refine (P1.out _ HG.out).mono ?_
  rintro e w1 ⟨rfl, hg⟩
  replace HG := Lib.hid hg; clear hg
  go_wp2_with fail
  refine (T3.out _ HG.out).mono ?_
  rintro e w1 ⟨rfl, hg⟩
  replace HG := Lib.hid hg; clear hg
  go_wp2_with fail
  refine (T4.out _ HG.out).mono ?_
  rintro e w1 ⟨rfl, hg⟩
  replace HG := Lib.hid hg; clear hg
  go_wp2_with fail
  refine (P2.out _ HG.out).mono ?_
  rintro e w1 ⟨rfl, hg⟩
  replace HG := Lib.hid hg; clear hg
  go_wp2_with fail
  refine (O.out _ HG.out).mono ?_
  rintro e w1 ⟨rfl, hg⟩
  replace HG := Lib.hid hg; clear hg
  go_wp2
  go_ret
  exact ⟨rfl, HG.out⟩
set_option maxHeartbeats 1000000 in
set_option maxRecDepth 100000 in
theorem ret_Plus {k k' : Nat} {a b : Rat} (ha : Sh k a) (hb : Sh k' b) (hk : k ≤ 100000) (hk' : k' ≤ 100000) : Ret w0 35 #[.string (RT a), .string (RT b)] (.string (RT (a + b))) := by
  have T1 := Lib.hid (ret_TopR (w0 := w0) ha hk)
  have T2 := Lib.hid (ret_BottomR (w0 := w0) hb hk')
  have P1 := Lib.hid (ret_Product (w0 := w0) (sm_num ha (by omega)) (sm_den hb (by omega)) (by omega))
  have T3 := Lib.hid (ret_TopR (w0 := w0) hb hk')
  have T4 := Lib.hid (ret_BottomR (w0 := w0) ha hk)
  have P2 := Lib.hid (ret_Product (w0 := w0) (sm_num hb (by omega)) (sm_den ha (by omega)) (by omega))
  have n1 := nd_mul ha.1 hb.d ha.pos hb.pos
  have n2 : Lib.nDigits (b.num * a.den).natAbs ≤ k + k' := by rw [Nat.add_comm]; exact nd_mul hb.1 ha.d hb.pos ha.pos
  have n3 := nd_mul ha.d hb.d ha.pos hb.pos
  have S := Lib.hid (ret_Sum (w0 := w0) (k := k + k') (k' := k + k') (a := a.num * b.den) (b := b.num * a.den) ⟨n1, by omega⟩ ⟨n2, by omega⟩ (by rw [Nat.max_self]; omega))
  have P3 := Lib.hid (ret_Product (w0 := w0) (sm_den ha (by omega)) (sm_den hb (by omega)) (by omega))
  have R := Lib.hid (ret_Ratio (w0 := w0) (k := k + k' + 1) (p := a.num * b.den + b.num * a.den) (q := (a.den : Int) * b.den) ⟨nd_add n1 n2 (by have := ha.pos; omega), by omega⟩ ⟨by omega, by omega⟩ (by omega) (dens_ne a b))
  rw [← add_parts] at R
  clear ha hb hk hk' n1 n2 n3
  generalize RT (a + b) = c at *
  generalize Tx (a.num * b.den + b.num * a.den) = x0 at *
  generalize Tx (a.num * b.den) = x1 at *
  generalize Tx (b.num * a.den) = x2 at *
  generalize Tx ((a.den : Int) * b.den) = x7 at *
  generalize Tx a.num = x3 at *
  generalize Tx b.num = x4 at *
  generalize Tx (a.den : Int) = x5 at *
  generalize Tx (b.den : Int) = x6 at *
  generalize RT a = s at *
  generalize RT b = t at *
  intro w hg
  have HG := Lib.hid hg; clear hg
  go_enter Tryz.func35, Tryz.ntmps35
  go_wp2_with fail
  refine (T1.out _ HG.out).mono ?_
  rintro e w1 ⟨rfl, hg⟩
  replace HG := Lib.hid hg; clear hg
  go_wp2_with fail
  refine (T2.out _ HG.out).mono ?_
  rintro e w1 ⟨rfl, hg⟩
  replace HG := Lib.hid hg; clear hg
  go_wp2_with fail
  refine (P1.out _ HG.out).mono ?_
  rintro e w1 ⟨rfl, hg⟩
  replace HG := Lib.hid hg; clear hg
  go_wp2_with fail
  refine (T3.out _ HG.out).mono ?_
  rintro e w1 ⟨rfl, hg⟩
  replace HG := Lib.hid hg; clear hg
  go_wp2_with fail
  refine (T4.out _ HG.out).mono ?_
  rintro e w1 ⟨rfl, hg⟩
  replace HG := Lib.hid hg; clear hg
  go_wp2_with fail
  refine (P2.out _ HG.out).mono ?_
  rintro e w1 ⟨rfl, hg⟩
  replace HG := Lib.hid hg; clear hg
  go_wp2_with fail
  refine (S.out _ HG.out).mono ?_
  rintro e w1 ⟨rfl, hg⟩
  replace HG := Lib.hid hg; clear hg
  go_wp2_with fail
  refine (T4.out _ HG.out).mono ?_
  rintro e w1 ⟨rfl, hg⟩
  replace HG := Lib.hid hg; clear hg
  go_wp2_with fail
  refine (T2.out _ HG.out).mono ?_
  rintro e w1 ⟨rfl, hg⟩
  replace HG := Lib.hid hg; clear hg
  go_wp2_with fail
  refine (P3.out _ HG.out).mono ?_
  rintro e w1 ⟨rfl, hg⟩
  replace HG := Lib.hid hg; clear hg
  go_wp2_with fail
  refine (R.out _ HG.out).mono ?_
  rintro e w1 ⟨rfl, hg⟩
  replace HG := Lib.hid hg; clear hg
  go_wp2
  go_ret
  exact ⟨rfl, HG.out⟩
set_option maxHeartbeats 1000000 in
set_option maxRecDepth 100000 in
theorem ret_Times {k k' : Nat} {a b : Rat} (ha : Sh k a) (hb : Sh k' b) (hk : k ≤ 100000) (hk' : k' ≤ 100000) : Ret w0 91 #[.string (RT a), .string (RT b)] (.string (RT (a * b))) := by
  have T1 := Lib.hid (ret_TopR (w0 := w0) ha hk)
  have T2 := Lib.hid (ret_BottomR (w0 := w0) hb hk')
  have P1 := Lib.hid (ret_Product (w0 := w0) (sm_num ha (by omega)) (sm_num hb (by omega)) (by omega))
  have T3 := Lib.hid (ret_TopR (w0 := w0) hb hk')
  have T4 := Lib.hid (ret_BottomR (w0 := w0) ha hk)
  have n1 := nd_mul ha.1 hb.1 ha.pos hb.pos
  have n3 := nd_mul ha.d hb.d ha.pos hb.pos
  have P3 := Lib.hid (ret_Product (w0 := w0) (sm_den ha (by omega)) (sm_den hb (by omega)) (by omega))
  have R := Lib.hid (ret_Ratio (w0 := w0) (k := k + k') (p := a.num * b.num) (q := (a.den : Int) * b.den) ⟨n1, by omega⟩ ⟨n3, by omega⟩ (by omega) (dens_ne a b))
  rw [← mul_parts] at R
  clear ha hb hk hk' n1 n3
  generalize RT (a * b) = c at *
  generalize Tx (a.num * b.num) = x1 at *
  generalize Tx ((a.den : Int) * b.den) = x7 at *
  generalize Tx a.num = x3 at *
  generalize Tx b.num = x4 at *
  generalize Tx (a.den : Int) = x5 at *
  generalize Tx (b.den : Int) = x6 at *
  generalize RT a = s at *
  generalize RT b = t at *
  intro w hg
  have HG := Lib.hid hg; clear hg
  go_enter Tryz.func91, Tryz.ntmps91
  go_wp2_with fail
  refine (T1.out _ HG.out).mono ?_
  rintro e w1 ⟨rfl, hg⟩
  replace HG := Lib.hid hg; clear hg
  go_wp2_with fail
  refine (T3.out _ HG.out).mono ?_
  rintro e w1 ⟨rfl, hg⟩
  replace HG := Lib.hid hg; clear hg
  go_wp2_with fail
  refine (P1.out _ HG.out).mono ?_
  rintro e w1 ⟨rfl, hg⟩
  replace HG := Lib.hid hg; clear hg
  go_wp2_with fail
  refine (T4.out _ HG.out).mono ?_
  rintro e w1 ⟨rfl, hg⟩
  replace HG := Lib.hid hg; clear hg
  go_wp2_with fail
  refine (T2.out _ HG.out).mono ?_
  rintro e w1 ⟨rfl, hg⟩
  replace HG := Lib.hid hg; clear hg
  go_wp2_with fail
  refine (P3.out _ HG.out).mono ?_
  rintro e w1 ⟨rfl, hg⟩
  replace HG := Lib.hid hg; clear hg
  go_wp2_with fail
  refine (R.out _ HG.out).mono ?_
  rintro e w1 ⟨rfl, hg⟩
  replace HG := Lib.hid hg; clear hg
  go_wp2
  go_ret
  exact ⟨rfl, HG.out⟩
set_option maxHeartbeats 1000000 in
set_option maxRecDepth 100000 in
theorem ret_By {k k' : Nat} {a b : Rat} (ha : Sh k a) (hb : Sh k' b) (hk : k ≤ 100000) (hk' : k' ≤ 100000) (h0 : b ≠ 0) : Ret w0 64 #[.string (RT a), .string (RT b)] (.string (RT (a / b))) := by
  have T1 := Lib.hid (ret_TopR (w0 := w0) ha hk)
  have T2 := Lib.hid (ret_BottomR (w0 := w0) hb hk')
  have P1 := Lib.hid (ret_Product (w0 := w0) (sm_num ha (by omega)) (sm_den hb (by omega)) (by omega))
  have T3 := Lib.hid (ret_TopR (w0 := w0) hb hk')
  have T4 := Lib.hid (ret_BottomR (w0 := w0) ha hk)
  have n1 := nd_mul ha.1 hb.d ha.pos hb.pos
  have n3 := nd_mul ha.d hb.1 ha.pos hb.pos
  have P3 := Lib.hid (ret_Product (w0 := w0) (sm_den ha (by omega)) (sm_num hb (by omega)) (by omega))
  have R := Lib.hid (ret_Ratio (w0 := w0) (k := k + k') (p := a.num * b.den) (q := (a.den : Int) * b.num) ⟨n1, by omega⟩ ⟨n3, by omega⟩ (by omega) (Int.mul_ne_zero (den_ne a) (num_ne h0)))
  rw [← div_parts] at R
  clear ha hb hk hk' n1 n3
  generalize RT (a / b) = c at *
  generalize Tx (a.num * b.den) = x1 at *
  generalize Tx ((a.den : Int) * b.num) = x7 at *
  generalize Tx a.num = x3 at *
  generalize Tx b.num = x4 at *
  generalize Tx (a.den : Int) = x5 at *
  generalize Tx (b.den : Int) = x6 at *
  generalize RT a = s at *
  generalize RT b = t at *
  intro w hg
  have HG := Lib.hid hg; clear hg
  go_enter Tryz.func64, Tryz.ntmps64
  go_wp2_with fail
  refine (T1.out _ HG.out).mono ?_
  rintro e w1 ⟨rfl, hg⟩
  replace HG := Lib.hid hg; clear hg
  go_wp2_with fail
  refine (T2.out _ HG.out).mono ?_
  rintro e w1 ⟨rfl, hg⟩
  replace HG := Lib.hid hg; clear hg
  go_wp2_with fail
  refine (P1.out _ HG.out).mono ?_
  rintro e w1 ⟨rfl, hg⟩
  replace HG := Lib.hid hg; clear hg
  go_wp2_with fail
  refine (T4.out _ HG.out).mono ?_
  rintro e w1 ⟨rfl, hg⟩
  replace HG := Lib.hid hg; clear hg
  go_wp2_with fail
  refine (T3.out _ HG.out).mono ?_
  rintro e w1 ⟨rfl, hg⟩
  replace HG := Lib.hid hg; clear hg
  go_wp2_with fail
  refine (P3.out _ HG.out).mono ?_
  rintro e w1 ⟨rfl, hg⟩
  replace HG := Lib.hid hg; clear hg
  go_wp2_with fail
  refine (R.out _ HG.out).mono ?_
  rintro e w1 ⟨rfl, hg⟩
  replace HG := Lib.hid hg; clear hg
  go_wp2
  go_ret
  exact ⟨rfl, HG.out⟩
set_option maxHeartbeats 1000000 in
set_option maxRecDepth 100000 in
theorem ret_Turned {k : Nat} {a : Rat} (ha : Sh k a) (hk : k ≤ 100000) : Ret w0 90 #[.string (RT a)] (.string (RT (-a))) := by
  have T1 := Lib.hid (ret_TopR (w0 := w0) ha hk)
  have T2 := Lib.hid (ret_BottomR (w0 := w0) ha hk)
  have sn := sm_num ha (by omega)
  have N := Lib.hid (ret_NegatedI (w0 := w0) sn)
  have is1 := Tx_is1 (a.den : Int)
  have ln := sn.neg.len2
  have ld := (sm_den ha (by omega)).len2
  by_cases h1 : a.den = 1
  · have HF : RT (-a) = Tx (-a.num) := RT_one (r := -a) h1
    rw [decide_eq_true (by omega)] at is1
    rw [HF]
    clear HF h1 ha hk sn ld
    generalize Tx (-a.num) = x1 at *
    generalize Tx a.num = x3 at *
    generalize Tx (a.den : Int) = x5 at *
    generalize RT a = s at *
    intro w hg
    have HG := Lib.hid hg; clear hg
    go_enter Tryz.func90, Tryz.ntmps90
    go_wp2_with fail
    refine (T2.out _ HG.out).mono ?_
    rintro e w1 ⟨rfl, hg⟩
    replace HG := Lib.hid hg; clear hg
    go_wp2_with fail
    refine (T1.out _ HG.out).mono ?_
    rintro e w1 ⟨rfl, hg⟩
    replace HG := Lib.hid hg; clear hg
    go_wp2_with fail
    refine (N.out _ HG.out).mono ?_
    rintro e w1 ⟨rfl, hg⟩
    replace HG := Lib.hid hg; clear hg
    go_wp2
    go_ret
    exact ⟨rfl, HG.out⟩
  · have HF : RT (-a) = Tx (-a.num) ++ ⟨#[47]⟩ ++ Tx (a.den : Int) := RT_many (r := -a) h1
    rw [decide_eq_false (by omega)] at is1
    rw [HF]
    clear HF h1 ha hk sn
    generalize Tx (-a.num) = x1 at *
    generalize Tx a.num = x3 at *
    generalize Tx (a.den : Int) = x5 at *
    generalize RT a = s at *
    intro w hg
    have HG := Lib.hid hg; clear hg
    go_enter Tryz.func90, Tryz.ntmps90
    go_wp2_with fail
    refine (T2.out _ HG.out).mono ?_
    rintro e w1 ⟨rfl, hg⟩
    replace HG := Lib.hid hg; clear hg
    go_wp2_with fail
    refine (T1.out _ HG.out).mono ?_
    rintro e w1 ⟨rfl, hg⟩
    replace HG := Lib.hid hg; clear hg
    go_wp2_with fail
    refine (N.out _ HG.out).mono ?_
    rintro e w1 ⟨rfl, hg⟩
    replace HG := Lib.hid hg; clear hg
    go_wp2_with fail
    refine (T2.out _ HG.out).mono ?_
    rintro e w1 ⟨rfl, hg⟩
    replace HG := Lib.hid hg; clear hg
    go_wp2
    go_ret
    exact ⟨rfl, HG.out⟩
set_option maxHeartbeats 1000000 in
set_option maxRecDepth 100000 in
theorem ret_Minus {k k' : Nat} {a b : Rat} (ha : Sh k a) (hb : Sh k' b) (hk : k ≤ 100000) (hk' : k' ≤ 100000) : Ret w0 65 #[.string (RT a), .string (RT b)] (.string (RT (a - b))) := by
  have T1 := Lib.hid (ret_Turned (w0 := w0) hb hk')
  have P1 := Lib.hid (ret_Plus (w0 := w0) ha hb.neg hk hk')
  rw [← Rat.sub_eq_add_neg] at P1
  generalize RT (a - b) = c at *
  generalize RT (-b) = x1 at *
  generalize RT a = s at *
  generalize RT b = t at *
  intro w hg
  have HG := Lib.hid hg; clear hg
  go_enter Tryz.func65, Tryz.ntmps65
  go_wp2_with fail
  refine (T1.out _ HG.out).mono ?_
  rintro e w1 ⟨rfl, hg⟩
  replace HG := Lib.hid hg; clear hg
  go_wp2_with fail
  refine (P1.out _ HG.out).mono ?_
  rintro e w1 ⟨rfl, hg⟩
  replace HG := Lib.hid hg; clear hg
  go_wp2
  go_ret
  exact ⟨rfl, HG.out⟩
theorem half_RT : RT (1/2) = ⟨#[49, 47, 50]⟩ := by
  have h := RT_rv (s := ⟨#[49, 47, 50]⟩) (by decide +kernel)
  rw [show rv ⟨#[49, 47, 50]⟩ = 1/2 by decide +kernel] at h
  exact h
theorem half_sh : Sh 1 (1/2) := by
  refine ⟨?_, ?_⟩
  · rw [half_num.1]; exact Nat.le_of_eq (Lib.nDigits_small (by decide))
  · rw [half_num.2]; exact Nat.le_of_eq (Lib.nDigits_small (by decide))
end
end Go.Proofs.YtlbnibicehpobaaGreatDoor

/- The reference of rational numbers: the operations with their errors. -/
namespace Go.Proofs.YtlbnibicehpobaaGreatDoor
open Go.RowKit
open Z

theorem lg_neg (x : Int) : lg (-x) = lg x := by unfold lg; rw [Int.natAbs_neg]
theorem addR_neg (a b : Rat) : addR a (-b) = subR a b := by
  unfold addR subR crossL
  rw [Rat.neg_num, Rat.neg_den, Int.neg_mul, lg_neg, ← Int.sub_eq_add_neg, ← Rat.sub_eq_add_neg]
theorem InR.neg {a : Rat} (h : InR a) : InR (-a) := Sh.neg h
theorem RT_is0 (r : Rat) : ((RT r).toList == [48]) = decide (r = 0) := by
  have hl : (RT r).toList = (RT r).data.toList := ByteArray.toList_eq _
  rw [hl]
  by_cases h : r = 0
  · subst h; rw [decide_eq_true rfl, data_RT, Rat.zero_den, if_pos rfl, Rat.zero_num, itoa_zero]; rfl
  · rw [decide_eq_false h, beq_eq_false_iff_ne]
    intro e
    have h2 : RT r = RT 0 := by
      apply ba_ext
      rw [e, data_RT, Rat.zero_den, if_pos rfl, Rat.zero_num, itoa_zero]
    exact h (RT_inj h2)
section
variable {w0 : World}
theorem ba_len {s : ByteArray} (hs : s.size ≤ 400000) : s.size ≤ maxLen := by unfold maxLen; omega
theorem least_cmp {a b : Rat} : (if b < a then RT b else RT a) = if cmpQ a b < 0 then RT a else RT b := by
  rcases cmpQ_cases a b with ⟨h, e, _⟩ | ⟨rfl, e, _⟩ | ⟨h, e, _⟩
  · rw [e, if_neg (by rw [Rat.not_lt]; exact Rat.le_of_lt h), if_pos (by omega)]
  · rw [e, if_neg Rat.lt_irrefl, if_neg (by omega)]
  · rw [e, if_pos h, if_neg (by omega)]
theorem most_cmp {a b : Rat} : (if a < b then RT b else RT a) = if 0 < cmpQ a b then RT a else RT b := by
  rcases cmpQ_cases a b with ⟨h, e, _⟩ | ⟨rfl, e, _⟩ | ⟨h, e, _⟩
  · rw [e, if_pos h, if_neg (by omega)]
  · rw [e, if_neg Rat.lt_irrefl, if_neg (by omega)]
  · rw [e, if_neg (by rw [Rat.not_lt]; exact Rat.le_of_lt h), if_pos (by omega)]
theorem cmp2_zero {s t : ByteArray} (h : (cmp2 s t).2 = 0) : ∃ a b : Rat, s = RT a ∧ t = RT b ∧ InR a ∧ InR b ∧ (cmp2 s t).1 = cmpQ a b := by
  rcases both2_cases s t with h1 | ⟨a, b, rfl, rfl, ha, hb⟩
  · rw [cmp2_err h1] at h; exact absurd h h1
  · refine ⟨a, b, rfl, rfl, ha, hb, ?_⟩
    rw [cmp2_ok ha hb] at h ⊢
    split at h
    · cases h
    · rename_i hx; rw [if_neg hx]
set_option maxHeartbeats 1000000 in
set_option maxRecDepth 100000 in
theorem ret_Few2 {s : ByteArray} (hs : s.size ≤ maxLen) : Ret w0 11 #[.string s] (.bool (decide (s.size ≤ 120))) := by
  unfold maxLen at hs
  intro w hg
  have HG := Lib.hid hg; clear hg
  go_enter Tryz.func11, Tryz.ntmps11
  go_wp2
  go_ret
  exact ⟨ret_bool (by rw [decide_eq_decide]; omega), HG.out⟩
end
end Go.Proofs.YtlbnibicehpobaaGreatDoor
