/- Law 7: the program's isToken, Word, Number, Quote, Unquote. -/
import Derived.Test.YtfneikldnccepaaDoorLxJ
set_option linter.unusedVariables false
set_option linter.unusedSimpArgs false
namespace Go.Proofs.YtfneikldnccepaaDoor.Z
open Go
/-- whether a text is, as a whole, a token of a kind -/
def isTok (l : List UInt8) (kd : Int) : Bool := decide ((tokR l 0).2.1 = 0) && (decide ((tokR l 0).1.1 = kd) && decide ((tokR l 0).1.2.1 = l))
def wordR (l : List UInt8) : Int := if (Lib.hasPrefix l [34] || !isTok l 0) = true then 8 else if 24 < l.length then 13 else 0
def numR (l : List UInt8) : Int := if isTok l 1 = true then 0 else 3
def quoteR (l : List UInt8) : List UInt8 × Int := if isTok ([34] ++ l ++ [34]) 0 = true then ([34] ++ l ++ [34], 0) else ([], 3)
def unquR (l : List UInt8) : List UInt8 × Int := if (!Lib.hasPrefix l [34] || !isTok l 0) = true then ([], 3) else ((l.drop 1).take (l.length - 2), 0)
end Go.Proofs.YtfneikldnccepaaDoor.Z
namespace Go.Proofs.YtfneikldnccepaaDoor
open Go.RowKit Go.Shelf
open Z
theorem str_beq (l : List UInt8) (s : ByteArray) : ((str l).toList == s.toList) = decide (l = s.data.toList) := by
  rw [ByteArray.toList_eq, ByteArray.toList_eq]
  show (l == s.data.toList) = _
  rw [Bool.eq_iff_iff]; simp
theorem ba_beq (s t : ByteArray) : (s.toList == t.toList) = decide (s.data.toList = t.data.toList) := by
  rw [ByteArray.toList_eq, ByteArray.toList_eq, Bool.eq_iff_iff]; simp
set_option maxRecDepth 100000 in
set_option maxHeartbeats 2000000 in
theorem lx_isToken (s : ByteArray) (kd : Int) (w : World) (hs : s.size ≤ 100000) : Calls Tryd.prog 52 #[.string s, .int .i64 kd] w fun e w' => e = .returned (.bool (isTok s.data.toList kd)) ∧ Gr w w' := by
  have HR0 := Lib.hid (RdrAt.new w s)
  have HG0 := Lib.hid ((Gr.refl w).alloc (.cells #[.string s, .int .i64 0] 80))
  obtain ⟨V, hV⟩ : ∃ V, isTok s.data.toList kd = V := ⟨_, rfl⟩
  have HV := Lib.hid hV
  rw [hV]
  unfold isTok at HV
  clear hV
  have HT := Lib.hid (lx_token w.heap.size s 0 _ HR0.out hs (by omega))
  generalize tokR s.data.toList 0 = T at *
  obtain ⟨⟨k1, tx, ta⟩, er, e1⟩ := T
  simp only at HT HV
  go_enter Tryd.func52, Tryd.ntmps52
  go_wp2_with fail
  refine HT.out.mono ?_; rintro e w2 ⟨rfl, hr2, hu2⟩
  have HG2 := Lib.hid (hu2.1 w HG0.out (Nat.le_refl _))
  have HT3 := Lib.hid (TB.new w2 k1 (str tx) ta 31)
  have HG3 := Lib.hid (HG2.out.alloc (.cells #[.int .i64 k1, .string (str tx), .int .i64 ta] 31))
  obtain ⟨t0, t1, t2, g0, g1, g2⟩ := id HT3.out
  clear hr2 hu2 HT HR0 HG0
  have hq := str_beq tx s
  by_cases he : er = 0
  · have z1 : (er == 0) = true := by simp [he]
    rw [decide_eq_true he, Bool.true_and] at HV
    by_cases hk : k1 = kd
    · rw [decide_eq_true hk, Bool.true_and] at HV
      have z2 : (k1 == kd) = true := by simp [hk]
      have hv := HV.out
      rw [← hq] at hv
      have HW := Lib.hid hv
      clear HV hq he hk hv
      go_wp2
      go_ret
      exact ⟨by rw [← HW.out]; rfl, HG3.out⟩
    · rw [decide_eq_false hk, Bool.false_and] at HV
      have z2 : (k1 == kd) = false := by rw [beq_eq_false_iff_ne]; exact hk
      have hv := HV.out
      subst hv
      clear HV hq he hk
      go_wp2
      go_ret
      exact ⟨rfl, HG3.out⟩
  · rw [decide_eq_false he, Bool.false_and] at HV
    have z1 : (er == 0) = false := by rw [beq_eq_false_iff_ne]; exact he
    have hv := HV.out
    subst hv
    clear HV hq he
    go_wp2
    go_ret
    exact ⟨rfl, HG3.out⟩
set_option maxRecDepth 100000 in
set_option maxHeartbeats 1000000 in
theorem lx_Word (s : ByteArray) (w : World) (hs : s.size ≤ 100000) : Calls Tryd.prog 17 #[.string s] w fun e w' => e = .returned (.int .i64 (wordR s.data.toList)) ∧ Gr w w' := by
  have hsz : s.data.toList.length = s.size := by simp
  have HQ := Lib.hid (lx_isQuoted s w)
  have HT : Hid (Calls Tryd.prog 52 #[.string s, .int .i64 0] w fun e w' => e = .returned (.bool (isTok s.data.toList 0)) ∧ Gr w w') := Lib.hid (lx_isToken s 0 w hs)
  unfold wordR
  rw [hsz]
  generalize Lib.hasPrefix s.data.toList [34] = q at *
  generalize isTok s.data.toList 0 = t at *
  clear hsz
  cases q
  · cases t
    · go_enter Tryd.func17, Tryd.ntmps17
      go_wp2_with fail
      refine HQ.out.mono ?_; rintro e w1 ⟨rfl, rfl⟩
      go_wp2_with fail
      refine HT.out.mono ?_; rintro e w2 ⟨rfl, hg⟩
      have HG := Lib.hid hg
      clear hg
      go_wp2
      go_ret
      exact ⟨rfl, HG.out⟩
    · by_cases hl : 24 < s.size
      · rw [if_neg (by simp), if_pos hl]
        have hd : decide (24 < s.size) = true := decide_eq_true hl
        go_enter Tryd.func17, Tryd.ntmps17
        go_wp2_with fail
        refine HQ.out.mono ?_; rintro e w1 ⟨rfl, rfl⟩
        go_wp2_with fail
        refine HT.out.mono ?_; rintro e w2 ⟨rfl, hg⟩
        have HG := Lib.hid hg
        clear hg
        go_wp2
        go_ret
        exact ⟨rfl, HG.out⟩
      · rw [if_neg (by simp), if_neg hl]
        have hd : decide (24 < s.size) = false := decide_eq_false hl
        go_enter Tryd.func17, Tryd.ntmps17
        go_wp2_with fail
        refine HQ.out.mono ?_; rintro e w1 ⟨rfl, rfl⟩
        go_wp2_with fail
        refine HT.out.mono ?_; rintro e w2 ⟨rfl, hg⟩
        have HG := Lib.hid hg
        clear hg
        go_wp2
        go_ret
        exact ⟨rfl, HG.out⟩
  · rw [if_pos (by simp)]
    go_enter Tryd.func17, Tryd.ntmps17
    go_wp2_with fail
    refine HQ.out.mono ?_; rintro e w1 ⟨rfl, rfl⟩
    go_wp2
    go_ret
    exact ⟨rfl, Gr.refl _⟩
set_option maxRecDepth 100000 in
set_option maxHeartbeats 1000000 in
theorem lx_Number (s : ByteArray) (w : World) (hs : s.size ≤ 100000) : Calls Tryd.prog 19 #[.string s] w fun e w' => e = .returned (.int .i64 (numR s.data.toList)) ∧ Gr w w' := by
  have HT : Hid (Calls Tryd.prog 52 #[.string s, .int .i64 1] w fun e w' => e = .returned (.bool (isTok s.data.toList 1)) ∧ Gr w w') := Lib.hid (lx_isToken s 1 w hs)
  unfold numR
  generalize isTok s.data.toList 1 = t at *
  cases t
  all_goals
    go_enter Tryd.func19, Tryd.ntmps19
    go_wp2_with fail
    refine HT.out.mono ?_; rintro e w2 ⟨rfl, hg⟩
    have HG := Lib.hid hg
    clear hg
    go_wp2
    go_ret
    exact ⟨rfl, HG.out⟩
set_option maxRecDepth 100000 in
set_option maxHeartbeats 1000000 in
theorem lx_Quote (s : ByteArray) (w : World) (hs : s.size ≤ 90000) : Calls Tryd.prog 21 #[.string s] w fun e w' => e = .returned (.tuple #[.string (str (quoteR s.data.toList).1), .int .i64 (quoteR s.data.toList).2]) ∧ Gr w w' := by
  have hq : (⟨#[34]⟩ : ByteArray) ++ s ++ (⟨#[34]⟩ : ByteArray) = str ([34] ++ s.data.toList ++ [34]) := by
    rw [show (⟨#[34]⟩ : ByteArray) = str [34] from rfl]
    conv => lhs; arg 1; arg 2; rw [show s = str s.data.toList from rfl]
    rw [str_app, str_app]
  have HT : Hid (Calls Tryd.prog 52 #[.string ((⟨#[34]⟩ : ByteArray) ++ s ++ (⟨#[34]⟩ : ByteArray)), .int .i64 0] w fun e w' => e = .returned (.bool (isTok ([34] ++ s.data.toList ++ [34]) 0)) ∧ Gr w w') := Lib.hid (by
    rw [hq]
    exact lx_isToken (str ([34] ++ s.data.toList ++ [34])) 0 w (by rw [str_size]; simp; omega))
  have HE := Lib.hid hq
  unfold quoteR
  clear hq
  generalize isTok ([34] ++ s.data.toList ++ [34]) 0 = t at *
  cases t
  · rw [if_neg (by simp)]
    go_enter Tryd.func21, Tryd.ntmps21
    go_wp2_with fail
    refine HT.out.mono ?_; rintro e w2 ⟨rfl, hg⟩
    have HG := Lib.hid hg
    clear hg
    go_wp2
    go_ret2
    exact ⟨rfl, HG.out⟩
  · rw [if_pos rfl, ← HE.out]
    go_enter Tryd.func21, Tryd.ntmps21
    go_wp2_with fail
    refine HT.out.mono ?_; rintro e w2 ⟨rfl, hg⟩
    have HG := Lib.hid hg
    clear hg
    go_wp2
    go_ret2
    exact ⟨rfl, HG.out⟩
set_option maxRecDepth 100000 in
set_option maxHeartbeats 1000000 in
theorem lx_Unquote (s : ByteArray) (w : World) (hs : s.size ≤ 90000) (h2 : Lib.hasPrefix s.data.toList [34] = true → isTok s.data.toList 0 = true → 2 ≤ s.size) : Calls Tryd.prog 23 #[.string s] w fun e w' => e = .returned (.tuple #[.string (str (unquR s.data.toList).1), .int .i64 (unquR s.data.toList).2]) ∧ Gr w w' := by
  have hsz : s.data.toList.length = s.size := by simp
  have HQ := Lib.hid (lx_isQuoted s w)
  have HT : Hid (Calls Tryd.prog 52 #[.string s, .int .i64 0] w fun e w' => e = .returned (.bool (isTok s.data.toList 0)) ∧ Gr w w') := Lib.hid (lx_isToken s 0 w (by omega))
  have HE : Hid (2 ≤ s.size → str ((s.data.toList.drop 1).take (s.size - 2)) = s.extract 1 (s.size - 1)) := Lib.hid fun h => by
    have := cut_str (s := s) (a := 1) (b := s.size - 1) (by omega)
    unfold cutL at this
    rw [show s.size - 1 - 1 = s.size - 2 by omega] at this
    rw [← this]; rfl
  unfold unquR
  rw [hsz]
  generalize Lib.hasPrefix s.data.toList [34] = q at *
  generalize isTok s.data.toList 0 = t at *
  clear hsz
  cases q
  · rw [if_pos (by simp)]
    clear h2
    go_enter Tryd.func23, Tryd.ntmps23
    go_wp2_with fail
    refine HQ.out.mono ?_; rintro e w1 ⟨rfl, rfl⟩
    go_wp2
    go_ret2
    exact ⟨rfl, Gr.refl _⟩
  · cases t
    · rw [if_pos (by simp)]
      clear h2
      go_enter Tryd.func23, Tryd.ntmps23
      go_wp2_with fail
      refine HQ.out.mono ?_; rintro e w1 ⟨rfl, rfl⟩
      go_wp2_with fail
      refine HT.out.mono ?_; rintro e w2 ⟨rfl, hg⟩
      have HG := Lib.hid hg
      clear hg
      go_wp2
      go_ret2
      exact ⟨rfl, HG.out⟩
    · have h3 := h2 rfl rfl
      rw [if_neg (by simp), HE.out h3]
      clear h2 HE
      have hw : IntKind.i64.wrap ((s.size : Int) - 1) = ((s.size - 1 : Nat) : Int) := by rw [IntKind.wrap_i64]; omega
      go_enter Tryd.func23, Tryd.ntmps23
      go_wp2_with fail
      refine HQ.out.mono ?_; rintro e w1 ⟨rfl, rfl⟩
      go_wp2_with fail
      refine HT.out.mono ?_; rintro e w2 ⟨rfl, hg⟩
      have HG := Lib.hid hg
      clear hg
      go_wp2
      go_ret2
      exact ⟨rfl, HG.out⟩
end Go.Proofs.YtfneikldnccepaaDoor
