/- Law 7: the reference's Word, Number, Plain, Quote, Unquote. -/
import Derived.Test.YtfneikldnccepaaDoorLxT
set_option linter.unusedVariables false
set_option linter.unusedSimpArgs false
namespace Go.Proofs.YtfneikldnccepaaDoor
open Go.RowKit Go.Shelf
open Z
theorem empty_beq (s : ByteArray) : (s.toList == []) = decide (s.size = 0) := by
  rw [ByteArray.toList_eq, Bool.eq_iff_iff, beq_iff_eq, decide_eq_true_eq]
  constructor
  · intro h
    have : s.data.toList.length = 0 := by rw [h]; rfl
    simpa using this
  · intro h
    exact List.eq_nil_of_length_eq_zero (by simpa using h)
theorem head_cons {s : ByteArray} (h : 0 < s.size) : ∃ t, s.data.toList = s[0] :: t := by
  have hl : 0 < s.data.toList.length := by simpa using h
  exact ⟨s.data.toList.drop 1, by rw [get_data s 0 h]; exact (List.drop_eq_getElem_cons hl : s.data.toList.drop 0 = _)⟩
theorem run_all {p : UInt8 → Bool} {l : List UInt8} (h : runK p l 0 = l.length) : ∀ c ∈ l, p c = true := by
  have ht : (l.takeWhile p).length = l.length := by unfold runK at h; simpa using h
  have : l.takeWhile p = l := (List.takeWhile_sublist p).eq_of_length ht
  intro c hc
  rw [← this] at hc
  exact List.all_eq_true.1 List.all_takeWhile c hc
theorem bne_not (a b : List UInt8) : (a != b) = !(a == b) := rfl
set_option maxRecDepth 100000 in
set_option maxHeartbeats 2000000 in
theorem r7_Word (s : ByteArray) (w : World) (hs : s.size ≤ 100000) : Calls Tryd.prog 18 #[.string s] w fun e w' => e = .returned (.int .i64 (wordR s.data.toList)) ∧ w' = w := by
  have hsz : s.data.toList.length = s.size := by simp
  have hem := empty_beq s
  have HY := Lib.hid (wordR_yes (l := s.data.toList))
  have HN := Lib.hid (wordR_no (l := s.data.toList))
  rw [hsz] at HY
  by_cases h0 : s.size = 0
  · rw [HN.out (by rintro ⟨c, t, e, -⟩; rw [e] at hsz; simp at hsz; omega)]
    rw [decide_eq_true h0] at hem
    clear h0 hsz
    go_enter Tryd.func18, Tryd.ntmps18
    go_wp2
    go_ret
    exact ⟨rfl, rfl⟩
  · rw [decide_eq_false h0] at hem
    have hpos : 0 < s.size := by omega
    obtain ⟨t, ht⟩ := head_cons hpos
    obtain ⟨m, HM⟩ : ∃ m : Nat, Hid (s[0].toNat = m) := ⟨_, Lib.hid rfl⟩
    have hcc : (s[0].toNat : Int) = (m : Int) := by rw [HM.out]
    have HL := Lib.hid (fun w => r7_letter s[0] w)
    rw [HM.out] at HL
    cases hc : letP s[0]
    · rw [HN.out (by rintro ⟨c, t2, e, h, -⟩; rw [ht] at e; cases e; rw [hc] at h; cases h)]
      rw [hc] at HL
      clear h0 hsz ht HM hc
      go_enter Tryd.func18, Tryd.ntmps18
      go_wp2_with fail
      refine (HL.out _).mono ?_; rintro e w1 ⟨rfl, rfl⟩
      go_wp2
      go_ret
      exact ⟨rfl, rfl⟩
    · rw [hc] at HL
      have HW : Hid (∀ w, Calls Tryd.prog 54 #[.string s, .int .i64 0] w fun e w' => e = .returned (.int .i64 (runK wordP s.data.toList 0 : Nat)) ∧ w' = w) := Lib.hid (fun w => r7_word s 0 w hs (by omega))
      have hra := run_all (p := wordP) (l := s.data.toList)
      have HX : Hid (∀ c t', s.data.toList = c :: t' → c = s[0]) := Lib.hid (fun c t' e => by rw [ht] at e; cases e; rfl)
      by_cases hr : runK wordP s.data.toList 0 = s.size
      · have HLO := Lib.hid (fun w => r7_Lower s w hs (fun c h => word_ascii (hra (by rw [hr, hsz]) c h)))
        have hq := str_beq (Lib.toLowerA s.data.toList) s
        have hne := bne_not (str (Lib.toLowerA s.data.toList)).toList s.toList
        have hz := bne_iff_ne (a := (runK wordP s.data.toList 0 : Int)) (b := (s.size : Int))
        rw [hr] at HW
        clear hz hra
        by_cases hl : Lib.toLowerA s.data.toList = s.data.toList
        · rw [HY.out ⟨s[0], t, ht, hc, by rw [hr, hsz], hl⟩]
          rw [decide_eq_true hl] at hq
          rw [hq] at hne
          clear h0 hsz ht HM hc hr hl HX
          generalize str (Lib.toLowerA s.data.toList) = lo at *
          by_cases h24 : 24 < s.size
          · rw [if_pos h24]
            go_enter Tryd.func18, Tryd.ntmps18
            go_wp2_with fail
            refine (HL.out _).mono ?_; rintro e w1 ⟨rfl, rfl⟩
            go_wp2_with fail
            refine (HW.out _).mono ?_; rintro e w1 ⟨rfl, rfl⟩
            go_wp2_with fail
            refine (HLO.out _).mono ?_; rintro e w1 ⟨rfl, rfl⟩
            go_wp2
            go_ret
            exact ⟨rfl, rfl⟩
          · rw [if_neg h24]
            have h25 : s.size ≤ 24 := by omega
            go_enter Tryd.func18, Tryd.ntmps18
            go_wp2_with fail
            refine (HL.out _).mono ?_; rintro e w1 ⟨rfl, rfl⟩
            go_wp2_with fail
            refine (HW.out _).mono ?_; rintro e w1 ⟨rfl, rfl⟩
            go_wp2_with fail
            refine (HLO.out _).mono ?_; rintro e w1 ⟨rfl, rfl⟩
            go_wp2
            go_ret
            exact ⟨rfl, rfl⟩
        · rw [HN.out (by rintro ⟨c, t2, e, -, -, h⟩; exact hl h)]
          rw [decide_eq_false hl] at hq
          rw [hq] at hne
          clear h0 hsz ht HM hc hr hl HX
          generalize str (Lib.toLowerA s.data.toList) = lo at *
          go_enter Tryd.func18, Tryd.ntmps18
          go_wp2_with fail
          refine (HL.out _).mono ?_; rintro e w1 ⟨rfl, rfl⟩
          go_wp2_with fail
          refine (HW.out _).mono ?_; rintro e w1 ⟨rfl, rfl⟩
          go_wp2_with fail
          refine (HLO.out _).mono ?_; rintro e w1 ⟨rfl, rfl⟩
          go_wp2
          go_ret
          exact ⟨rfl, rfl⟩
      · rw [HN.out (by rintro ⟨c, t2, e, -, h, -⟩; rw [hsz] at h; exact hr h)]
        have hz : ((runK wordP s.data.toList 0 : Int) != (s.size : Int)) = true := by rw [bne_iff_ne]; omega
        generalize runK wordP s.data.toList 0 = r at *
        clear h0 hsz ht HM hc hr hra HX
        go_enter Tryd.func18, Tryd.ntmps18
        go_wp2_with fail
        refine (HL.out _).mono ?_; rintro e w1 ⟨rfl, rfl⟩
        go_wp2_with fail
        refine (HW.out _).mono ?_; rintro e w1 ⟨rfl, rfl⟩
        go_wp2
        go_ret
        exact ⟨rfl, rfl⟩
set_option maxRecDepth 100000 in
set_option maxHeartbeats 2000000 in
theorem r7_Number (s : ByteArray) (w : World) (hs : s.size ≤ 100000) : Calls Tryd.prog 20 #[.string s] w fun e w' => e = .returned (.int .i64 (numR s.data.toList)) ∧ w' = w := by
  have hsz : s.data.toList.length = s.size := by simp
  have hem := empty_beq s
  have HY := Lib.hid (numR_yes (l := s.data.toList))
  have HN := Lib.hid (numR_no (l := s.data.toList))
  by_cases h0 : s.size = 0
  · rw [HN.out (by rintro ⟨c, t, e, -⟩; rw [e] at hsz; simp at hsz; omega)]
    rw [decide_eq_true h0] at hem
    clear h0 hsz
    go_enter Tryd.func20, Tryd.ntmps20
    go_wp2
    go_ret
    exact ⟨rfl, rfl⟩
  · rw [decide_eq_false h0] at hem
    have hpos : 0 < s.size := by omega
    obtain ⟨t, ht⟩ := head_cons hpos
    obtain ⟨m, HM⟩ : ∃ m : Nat, Hid (s[0].toNat = m) := ⟨_, Lib.hid rfl⟩
    have hcc : (s[0].toNat : Int) = (m : Int) := by rw [HM.out]
    have HL := Lib.hid (fun w => r7_digit s[0] w)
    rw [HM.out] at HL
    cases hc : isD s[0]
    · rw [HN.out (by rintro ⟨c, t2, e, h, -⟩; rw [ht] at e; cases e; rw [hc] at h; cases h)]
      rw [hc] at HL
      clear h0 hsz ht HM hc
      go_enter Tryd.func20, Tryd.ntmps20
      go_wp2_with fail
      refine (HL.out _).mono ?_; rintro e w1 ⟨rfl, rfl⟩
      go_wp2
      go_ret
      exact ⟨rfl, rfl⟩
    · rw [hc] at HL
      have HW : Hid (∀ w, Calls Tryd.prog 57 #[.string s, .int .i64 0] w fun e w' => e = .returned (.int .i64 (decK s.data.toList (runK isD s.data.toList 0) : Nat)) ∧ w' = w) := Lib.hid (fun w => r7_number s 0 w hs (by omega))
      by_cases hr : decK s.data.toList (runK isD s.data.toList 0) = s.size
      · rw [HY.out ⟨s[0], t, ht, hc, by rw [hr, hsz]⟩]
        rw [hr] at HW
        clear h0 hsz ht HM hc hr
        go_enter Tryd.func20, Tryd.ntmps20
        go_wp2_with fail
        refine (HL.out _).mono ?_; rintro e w1 ⟨rfl, rfl⟩
        go_wp2_with fail
        refine (HW.out _).mono ?_; rintro e w1 ⟨rfl, rfl⟩
        go_wp2
        go_ret
        exact ⟨rfl, rfl⟩
      · rw [HN.out (by rintro ⟨c, t2, e, -, h⟩; rw [hsz] at h; exact hr h)]
        have hz : ((decK s.data.toList (runK isD s.data.toList 0) : Int) != (s.size : Int)) = true := by rw [bne_iff_ne]; omega
        generalize decK s.data.toList (runK isD s.data.toList 0) = r at *
        clear h0 hsz ht HM hc hr
        go_enter Tryd.func20, Tryd.ntmps20
        go_wp2_with fail
        refine (HL.out _).mono ?_; rintro e w1 ⟨rfl, rfl⟩
        go_wp2_with fail
        refine (HW.out _).mono ?_; rintro e w1 ⟨rfl, rfl⟩
        go_wp2
        go_ret
        exact ⟨rfl, rfl⟩
set_option maxRecDepth 100000 in
set_option maxHeartbeats 2000000 in
theorem r7_Plain (s : ByteArray) (w : World) (hs : s.size ≤ 100000) : Calls Tryd.prog 58 #[.string s] w fun e w' => e = .returned (.bool (s.data.toList.all plainP)) ∧ w' = w := by
  have hsz : s.data.toList.length = s.size := by simp
  obtain ⟨P, hP⟩ : ∃ P, s.data.toList.all plainP = P := ⟨_, rfl⟩
  have HP : Hid ((s.data.toList.drop 0).all plainP = P) := Lib.hid hP
  rw [hP]
  clear hP
  go_enter Tryd.func58, Tryd.ntmps58
  go_wp2
  go_loop [3] (fun i => ∃ k : Nat, k ≤ s.size ∧ i = .int .i64 k ∧ Hid ((s.data.toList.drop k).all plainP = P)) (fun i => s.size - (intOf i).toNat)
  case atStart => exact ⟨0, by omega, rfl, HP⟩
  case round =>
    obtain ⟨k, hk, rfl, HK⟩ := hrel
    by_cases hlt : k < s.size
    · have hd : s.data.toList.drop k = s[k] :: s.data.toList.drop (k + 1) := List.drop_eq_getElem_cons (l := s.data.toList) (by omega)
      have h2 := HK.out
      rw [hd, List.all_cons] at h2
      obtain ⟨m, HM⟩ : ∃ m : Nat, Hid (s[k].toNat = m) := ⟨_, Lib.hid rfl⟩
      have hcc : (s[k].toNat : Int) = (m : Int) := by rw [HM.out]
      have HL := Lib.hid (fun w => r7_plain s[k] w)
      rw [HM.out] at HL
      cases hp : plainP s[k]
      · rw [hp, Bool.false_and] at h2
        have HF := Lib.hid h2
        rw [hp] at HL
        clear hd h2 HK HM hp hsz
        go_wp2_with fail
        refine (HL.out _).mono ?_; rintro e w1 ⟨rfl, rfl⟩
        go_wp2
        go_ret
        exact ⟨ret_bool HF.out, rfl⟩
      · rw [hp, Bool.true_and] at h2
        have HS := Lib.hid h2
        rw [hp] at HL
        clear hd h2 HK HM hp hsz
        go_wp2_with fail
        refine (HL.out _).mono ?_; rintro e w1 ⟨rfl, rfl⟩
        go_wp2
        go_round
        case rel => exact ⟨k + 1, by omega, by go_num, HS⟩
        case measure => simp [intOf]; omega
    · have HF : Hid (P = true) := Lib.hid (by rw [← HK.out, List.drop_of_length_le (by omega)]; rfl)
      clear HK
      go_wp2
      go_ret
      exact ⟨ret_bool HF.out.symm, rfl⟩
theorem quote_str (s : ByteArray) : (⟨#[34]⟩ : ByteArray) ++ s ++ (⟨#[34]⟩ : ByteArray) = str ([34] ++ s.data.toList ++ [34]) := by
  rw [show (⟨#[34]⟩ : ByteArray) = str [34] from rfl]
  conv => lhs; arg 1; arg 2; rw [show s = str s.data.toList from rfl]
  rw [str_app, str_app]
set_option maxRecDepth 100000 in
set_option maxHeartbeats 2000000 in
theorem r7_Quote (s : ByteArray) (w : World) (hs : s.size ≤ 90000) : Calls Tryd.prog 22 #[.string s] w fun e w' => e = .returned (.tuple #[.string (str (quoteR s.data.toList).1), .int .i64 (quoteR s.data.toList).2]) ∧ w' = w := by
  have HP := Lib.hid (fun w => r7_Plain s w (by omega))
  have HQ := Lib.hid (quote_str s)
  cases hp : s.data.toList.all plainP
  · rw [hp] at HP
    rw [quoteR_no hp]
    clear hp
    go_enter Tryd.func22, Tryd.ntmps22
    go_wp2_with fail
    refine (HP.out _).mono ?_; rintro e w1 ⟨rfl, rfl⟩
    go_wp2
    go_ret2
    exact ⟨rfl, rfl⟩
  · rw [hp] at HP
    rw [quoteR_yes hp]
    simp only
    rw [← HQ.out]
    clear hp
    go_enter Tryd.func22, Tryd.ntmps22
    go_wp2_with fail
    refine (HP.out _).mono ?_; rintro e w1 ⟨rfl, rfl⟩
    go_wp2
    go_ret2
    exact ⟨rfl, rfl⟩
set_option maxRecDepth 100000 in
set_option maxHeartbeats 2000000 in
theorem r7_Unquote (s : ByteArray) (w : World) (hs : s.size ≤ 90000) : Calls Tryd.prog 24 #[.string s] w fun e w' => e = .returned (.tuple #[.string (str (unquR s.data.toList).1), .int .i64 (unquR s.data.toList).2]) ∧ w' = w := by
  have hsz : s.data.toList.length = s.size := by simp
  have hem := empty_beq s
  have HY := Lib.hid (unquR_yes (l := s.data.toList))
  have HN := Lib.hid (unquR_no (l := s.data.toList))
  rw [hsz] at HY
  by_cases h0 : s.size = 0
  · rw [HN.out (by rintro ⟨t, e, -⟩; rw [e] at hsz; simp at hsz; omega)]
    rw [decide_eq_true h0] at hem
    clear h0 hsz
    go_enter Tryd.func24, Tryd.ntmps24
    go_wp2
    go_ret2
    exact ⟨rfl, rfl⟩
  · rw [decide_eq_false h0] at hem
    have hpos : 0 < s.size := by omega
    obtain ⟨t, ht⟩ := head_cons hpos
    obtain ⟨m, HM⟩ : ∃ m : Nat, Hid (s[0].toNat = m) := ⟨_, Lib.hid rfl⟩
    have hcc : (s[0].toNat : Int) = (m : Int) := by rw [HM.out]
    have h34 : ((m : Int) != 34) = !(s[0] == 34) := by rw [← hcc, ← byte34]; rfl
    by_cases hc : s[0] = 34
    · rw [hc, show (!((34 : UInt8) == 34)) = false from rfl] at h34
      rw [hc] at ht
      have HW : Hid (∀ w, Calls Tryd.prog 59 #[.string s, .int .i64 0] w fun e w' => e = .returned (.int .i64 (quotedR s.data.toList 0)) ∧ w' = w) := Lib.hid (fun w => r7_quoted s 0 w (by omega) hpos)
      by_cases hr : quotedR s.data.toList 0 = (s.size : Int)
      · have h2 : 2 ≤ s.size := by
          have := quo_two (t := t) (by rw [← ht, hr, hsz])
          rw [← ht, hsz] at this
          exact this
        rw [HY.out ⟨t, ht, by rw [hr, hsz]⟩]
        simp only
        have hcut := cut_str (s := s) (a := 1) (b := s.size - 1) (by omega)
        unfold cutL at hcut
        rw [show s.size - 1 - 1 = s.size - 2 by omega] at hcut
        rw [show str ((s.data.toList.drop 1).take (s.size - 2)) = s.extract 1 (s.size - 1) by rw [← hcut]; rfl]
        rw [hr] at HW
        have hw : IntKind.i64.wrap ((s.size : Int) - 1) = ((s.size - 1 : Nat) : Int) := by rw [IntKind.wrap_i64]; omega
        clear h0 hsz ht HM hc hr hcut
        go_enter Tryd.func24, Tryd.ntmps24
        go_wp2_with fail
        refine (HW.out _).mono ?_; rintro e w1 ⟨rfl, rfl⟩
        go_wp2
        go_ret2
        exact ⟨rfl, rfl⟩
      · rw [HN.out (by rintro ⟨t2, e, h⟩; rw [hsz] at h; exact hr h)]
        have hz : (quotedR s.data.toList 0 != (s.size : Int)) = true := by rw [bne_iff_ne]; exact hr
        generalize quotedR s.data.toList 0 = r at *
        clear h0 hsz ht HM hc hr
        go_enter Tryd.func24, Tryd.ntmps24
        go_wp2_with fail
        refine (HW.out _).mono ?_; rintro e w1 ⟨rfl, rfl⟩
        go_wp2
        go_ret2
        exact ⟨rfl, rfl⟩
    · rw [HN.out (by rintro ⟨t2, e, -⟩; rw [ht] at e; exact hc (List.cons.inj e).1)]
      rw [show (s[0] == 34) = false by rw [beq_eq_false_iff_ne]; exact hc] at h34
      rw [show (!false) = true from rfl] at h34
      clear h0 hsz ht HM hc
      go_enter Tryd.func24, Tryd.ntmps24
      go_wp2
      go_ret2
      exact ⟨rfl, rfl⟩
end Go.Proofs.YtfneikldnccepaaDoor
