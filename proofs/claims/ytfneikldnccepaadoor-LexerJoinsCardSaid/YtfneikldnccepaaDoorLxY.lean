/- Law 7: one token of Join, both sides; Few. -/
import Derived.Test.YtfneikldnccepaaDoorLxX
set_option linter.unusedVariables false
set_option linter.unusedSimpArgs false
namespace Go.Proofs.YtfneikldnccepaaDoor
open Go.RowKit Go.Shelf
open Z
/-- the error of a token in a list -/
def chkR (kd : Int) (l : List UInt8) : Int := if kd < 0 ∨ 3 < kd then 1 else if isTok l kd = true then 0 else 3
def TokOk (l : List UInt8) (kd : Int) : Prop := l ≠ [] ∧ l[0]? ≠ some 32 ∧ (rtok l 0).2 = l.length ∧ (rtok l 0).1.1 = kd ∧ (rtok l 0).1.2.1 = l
theorem tokOk_iff {l : List UInt8} {kd : Int} (h3 : kd ≠ 3) : isTok l kd = true ↔ TokOk l kd := by
  rw [isTok_iff]
  unfold TokOk rtok
  constructor
  · rintro ⟨h0, h1, h2, h4, h5⟩
    rw [if_neg (by simpa using h2), h1, h4, cut_all]
    refine ⟨?_, ?_, rfl, rfl, h5⟩
    · rintro rfl
      rw [kindR_nil] at h1
      exact h3 h1.symm
    · intro h
      cases l with
      | nil => simp at h
      | cons c t =>
        simp at h
        subst h
        have hb : skipB (32 :: t) 0 = skipB (32 :: t) 1 := skipB_blank (l := 32 :: t) (k := 0) (by simp) rfl
        have := (skipB_le (l := 32 :: t) (k := 1) (by simp)).1
        omega
  · rintro ⟨g1, g2, g3, g4, g5⟩
    by_cases he : (kindR l 0).2.1 ≠ 0
    · rw [if_pos he] at g3; simp only at g3; omega
    · rw [if_neg he] at g3 g4 g5
      simp only at g3 g4 g5
      have hend : (kindR l 0).2.2 = l.length := by omega
      rw [hend, cut_all, g4] at g5
      refine ⟨skipB_stop fun hk e => g2 (by rw [List.getElem?_eq_getElem hk, e]), g4, by simpa using he, hend, g5⟩
set_option maxRecDepth 100000 in
set_option maxHeartbeats 1000000 in
theorem lx_check (kd : Int) (s : ByteArray) (a : Int) (w : World) (hs : s.size ≤ 100000) : Calls Tryd.prog 61 #[.agg #[.int .i64 kd, .string s, .int .i64 a]] w fun e w' => e = .returned (.int .i64 (chkR kd s.data.toList)) ∧ Gr w w' := by
  have HX := TB.new w kd s a 31
  have HG := Lib.hid ((Gr.refl w).alloc (.cells #[.int .i64 kd, .string s, .int .i64 a] 31))
  obtain ⟨k0, k1, k2, -, -, -⟩ := id HX
  have HT := Lib.hid (fun w => lx_isToken s kd w hs)
  unfold chkR
  by_cases h1 : kd < 0
  · rw [if_pos (.inl h1)]
    clear HT HX
    go_enter Tryd.func61, Tryd.ntmps61
    go_wp2
    go_ret
    exact ⟨rfl, HG.out⟩
  · have h1b : 0 ≤ kd := by omega
    by_cases h2 : 3 < kd
    · rw [if_pos (.inr h2)]
      clear HT HX h1
      go_enter Tryd.func61, Tryd.ntmps61
      go_wp2
      go_ret
      exact ⟨rfl, HG.out⟩
    · have h2b : kd ≤ 3 := by omega
      rw [if_neg (by omega)]
      clear h1 h2 HX
      generalize isTok s.data.toList kd = t at *
      cases t
      all_goals
        go_enter Tryd.func61, Tryd.ntmps61
        go_wp2_with fail
        refine (HT.out _).mono ?_; rintro e w2 ⟨rfl, hg⟩
        have HG2 := Lib.hid (Gr.trans HG.out hg)
        clear hg
        go_wp2
        go_ret
        exact ⟨rfl, HG2.out⟩
set_option maxRecDepth 100000 in
set_option maxHeartbeats 2000000 in
theorem r7_token (kd : Int) (s : ByteArray) (a : Int) (w : World) (hs : s.size ≤ 100000) (h3 : kd ≠ 3) : Calls Tryd.prog 63 #[.agg #[.int .i64 kd, .string s, .int .i64 a]] w fun e w' => e = .returned (.int .i64 (chkR kd s.data.toList)) ∧ Gr w w' := by
  have hsz : s.data.toList.length = s.size := by simp
  have HX := TB.new w kd s a 31
  have HG := Lib.hid ((Gr.refl w).alloc (.cells #[.int .i64 kd, .string s, .int .i64 a] 31))
  have HXX := Lib.hid HX
  obtain ⟨k0, k1, k2, -, -, -⟩ := id HX
  have HT := Lib.hid (fun w => r7_Token s 0 w hs (by omega))
  have hem := empty_beq s
  have HY : Hid (TokOk s.data.toList kd → isTok s.data.toList kd = true) := Lib.hid (tokOk_iff h3).2
  have HN : Hid (¬ TokOk s.data.toList kd → isTok s.data.toList kd = false) := Lib.hid fun h => by
    rw [Bool.eq_false_iff]; exact fun e => h ((tokOk_iff h3).1 e)
  unfold chkR
  by_cases h1 : kd < 0
  · rw [if_pos (.inl h1)]
    clear HT HX h3 hsz hem
    go_enter Tryd.func63, Tryd.ntmps63
    go_wp2
    go_ret
    exact ⟨rfl, HG.out⟩
  · have h1b : 0 ≤ kd := by omega
    by_cases h2 : 3 < kd
    · rw [if_pos (.inr h2)]
      have h2b : 3 ≤ kd := by omega
      clear HT HX h1 h3 hsz hem
      go_enter Tryd.func63, Tryd.ntmps63
      go_wp2
      go_ret
      exact ⟨rfl, HG.out⟩
    · have h2b : kd < 3 := by omega
      rw [if_neg (by omega)]
      clear h1 h2 HX h3
      by_cases h0 : s.size = 0
      · rw [HN.out (fun h => h.1 (List.eq_nil_of_length_eq_zero (by omega)))]
        rw [decide_eq_true h0] at hem
        clear h0 hsz HT
        go_enter Tryd.func63, Tryd.ntmps63
        go_wp2
        go_ret
        exact ⟨rfl, HG.out⟩
      · rw [decide_eq_false h0] at hem
        have hpos : 0 < s.size := by omega
        obtain ⟨m, HM⟩ : ∃ m : Nat, Hid (s[0].toNat = m) := ⟨_, Lib.hid rfl⟩
        have hcc : (s[0].toNat : Int) = (m : Int) := by rw [HM.out]
        have hg := getq hpos
        have h32 : ((m : Int) == 32) = (s[0] == 32) := by rw [← hcc]; exact byte_int s[0] 32 (by decide)
        by_cases hc : s[0] = 32
        · rw [HN.out (fun h => h.2.1 (by rw [hg, hc]))]
          rw [show (s[0] == 32) = true by rw [hc]; rfl] at h32
          clear h0 hsz HT hg hc HM
          go_enter Tryd.func63, Tryd.ntmps63
          go_wp2
          go_ret
          exact ⟨rfl, HG.out⟩
        · rw [show (s[0] == 32) = false by rw [beq_eq_false_iff_ne]; exact hc] at h32
          have HOK : Hid (TokOk s.data.toList kd ↔ (rtok s.data.toList 0).2 = s.size ∧ (rtok s.data.toList 0).1.1 = kd ∧ (rtok s.data.toList 0).1.2.1 = s.data.toList) := Lib.hid (by
            unfold TokOk
            rw [hsz]
            exact ⟨fun h => h.2.2, fun h => ⟨fun e => by rw [e] at hsz; simp at hsz; omega, by rw [hg]; intro e; exact hc (Option.some.inj e), h⟩⟩)
          have hq := str_beq (rtok s.data.toList 0).1.2.1 s
          have hne := bne_not (str (rtok s.data.toList 0).1.2.1).toList s.toList
          generalize rtok s.data.toList 0 = T at *
          obtain ⟨⟨kt, tx, ta⟩, en⟩ := T
          simp only at HT HOK hq hne
          clear h0 hg hc HM
          by_cases hen : en = (s.size : Int)
          · by_cases hkt : kt = kd
            · by_cases htx : tx = s.data.toList
              · rw [HY.out (HOK.out.2 ⟨hen, hkt, htx⟩)]
                rw [decide_eq_true htx] at hq
                rw [hq] at hne
                have z1 : (en != (s.size : Int)) = false := by simp [hen]
                have z2 : (kt != kd) = false := by simp [hkt]
                clear hen hkt htx HOK hsz HY HN
                generalize str tx = ts at *
                go_enter Tryd.func63, Tryd.ntmps63
                go_wp2_with fail
                refine (HT.out _).mono ?_; rintro e w2 ⟨rfl, hg⟩
                have HG2 := Lib.hid ((Gr.trans HG.out hg).alloc (.cells #[.int .i64 kt, .string ts, .int .i64 ta] 31))
                have HX2 := HXX.out.gr hg
                have HX3 := Lib.hid (HX2.gr ((Gr.refl w2).alloc (.cells #[.int .i64 kt, .string ts, .int .i64 ta] 31)))
                obtain ⟨m0, m1, m2, -, -, -⟩ := id HX3.out
                clear hg HX2 k0 k1 k2
                go_wp2
                go_ret
                exact ⟨rfl, HG2.out⟩
              · rw [HN.out (fun h => htx (HOK.out.1 h).2.2)]
                rw [decide_eq_false htx] at hq
                rw [hq] at hne
                have z1 : (en != (s.size : Int)) = false := by simp [hen]
                have z2 : (kt != kd) = false := by simp [hkt]
                clear hen hkt htx HOK hsz HY HN
                generalize str tx = ts at *
                go_enter Tryd.func63, Tryd.ntmps63
                go_wp2_with fail
                refine (HT.out _).mono ?_; rintro e w2 ⟨rfl, hg⟩
                have HG2 := Lib.hid ((Gr.trans HG.out hg).alloc (.cells #[.int .i64 kt, .string ts, .int .i64 ta] 31))
                have HX2 := HXX.out.gr hg
                have HX3 := Lib.hid (HX2.gr ((Gr.refl w2).alloc (.cells #[.int .i64 kt, .string ts, .int .i64 ta] 31)))
                obtain ⟨m0, m1, m2, -, -, -⟩ := id HX3.out
                clear hg HX2 k0 k1 k2
                go_wp2
                go_ret
                exact ⟨rfl, HG2.out⟩
            · rw [HN.out (fun h => hkt (HOK.out.1 h).2.1)]
              have z1 : (en != (s.size : Int)) = false := by simp [hen]
              have z2 : (kt != kd) = true := by simp [hkt]
              clear hen hkt HOK hsz HY HN hq hne
              generalize str tx = ts at *
              go_enter Tryd.func63, Tryd.ntmps63
              go_wp2_with fail
              refine (HT.out _).mono ?_; rintro e w2 ⟨rfl, hg⟩
              have HG2 := Lib.hid ((Gr.trans HG.out hg).alloc (.cells #[.int .i64 kt, .string ts, .int .i64 ta] 31))
              have HX2 := HXX.out.gr hg
              have HX3 := Lib.hid (HX2.gr ((Gr.refl w2).alloc (.cells #[.int .i64 kt, .string ts, .int .i64 ta] 31)))
              obtain ⟨m0, m1, m2, -, -, -⟩ := id HX3.out
              clear hg HX2 k0 k1 k2
              go_wp2
              go_ret
              exact ⟨rfl, HG2.out⟩
          · rw [HN.out (fun h => hen (HOK.out.1 h).1)]
            have z1 : (en != (s.size : Int)) = true := by simp [hen]
            clear hen HOK hsz HY HN hq hne
            generalize str tx = ts at *
            go_enter Tryd.func63, Tryd.ntmps63
            go_wp2_with fail
            refine (HT.out _).mono ?_; rintro e w2 ⟨rfl, hg⟩
            have HG2 := Lib.hid ((Gr.trans HG.out hg).alloc (.cells #[.int .i64 kt, .string ts, .int .i64 ta] 31))
            have HX2 := HXX.out.gr hg
            have HX3 := Lib.hid (HX2.gr ((Gr.refl w2).alloc (.cells #[.int .i64 kt, .string ts, .int .i64 ta] 31)))
            obtain ⟨m0, m1, m2, -, -, -⟩ := id HX3.out
            clear hg HX2 k0 k1 k2
            go_wp2
            go_ret
            exact ⟨rfl, HG2.out⟩
end Go.Proofs.YtfneikldnccepaaDoor
