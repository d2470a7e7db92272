/- Law 7: the reference's word, number, quoted. -/
import Derived.Test.YtfneikldnccepaaDoorLxN
set_option linter.unusedVariables false
set_option linter.unusedSimpArgs false
namespace Go.Proofs.YtfneikldnccepaaDoor
open Go.RowKit Go.Shelf
open Z
theorem byte95 (c : UInt8) : ((c.toNat : Int) == 95) = (c == 95) := byte_int c 95 (by decide)
theorem byte46 (c : UInt8) : ((c.toNat : Int) == 46) = (c == 46) := byte_int c 46 (by decide)
theorem byte34 (c : UInt8) : ((c.toNat : Int) == 34) = (c == 34) := byte_int c 34 (by decide)
theorem wordP_split {c : UInt8} (h1 : letP c = false) (h2 : isD c = false) : wordP c = ((c.toNat : Int) == 95) := by
  unfold wordP; rw [h1, h2, byte95]; simp
set_option maxRecDepth 100000 in
set_option maxHeartbeats 2000000 in
theorem r7_word (s : ByteArray) (k : Nat) (w : World) (hs : s.size ≤ 100000) (hk : k ≤ s.size) :
    Calls Tryd.prog 54 #[.string s, .int .i64 (k : Nat)] w fun e w' => e = .returned (.int .i64 (runK wordP s.data.toList k : Nat)) ∧ w' = w := by
  have hsz : s.data.toList.length = s.size := by simp
  obtain ⟨K, hK⟩ : ∃ K, runK wordP s.data.toList k = K := ⟨_, rfl⟩
  have HK := Lib.hid hK
  rw [hK]
  clear hK
  go_enter Tryd.func54, Tryd.ntmps54
  go_wp2
  go_loop [1] (fun i => ∃ j : Nat, j ≤ s.size ∧ i = .int .i64 j ∧ Hid (runK wordP s.data.toList j = K)) (fun i => s.size - (intOf i).toNat)
  case atStart => exact ⟨k, hk, rfl, HK⟩
  case round =>
    obtain ⟨j, hj, rfl, HJ⟩ := hrel
    by_cases hlt : j < s.size
    · obtain ⟨c, HC⟩ : ∃ c : Nat, Hid (s[j].toNat = c) := ⟨_, Lib.hid rfl⟩
      have hc : (s[j].toNat : Int) = (c : Int) := by rw [HC.out]
      have HL := Lib.hid (r7_letter s[j] w)
      have HD := Lib.hid (r7_digit s[j] w)
      rw [HC.out] at HL HD
      have HIN : Hid (wordP s[j] = true → runK wordP s.data.toList (j + 1) = K) := Lib.hid fun h => by
        rw [← HJ.out]; exact (runK_in (by omega) (by rw [← get_data s j hlt]; exact h)).symm
      have HOUT : Hid (wordP s[j] = false → j = K) := Lib.hid fun h => by
        rw [← HJ.out]; exact (runK_out fun _ => by rw [← get_data s j hlt]; exact h).symm
      have HW : Hid (letP s[j] = true → wordP s[j] = true) := Lib.hid let_word
      have HW2 : Hid (isD s[j] = true → wordP s[j] = true) := Lib.hid fun h => by unfold wordP; rw [h]; simp
      have HW3 : Hid (letP s[j] = false → isD s[j] = false → wordP s[j] = ((c : Int) == 95)) := Lib.hid fun h1 h2 => by rw [← hc]; exact wordP_split h1 h2
      generalize wordP s[j] = wp at *
      generalize letP s[j] = lp at *
      generalize isD s[j] = dp at *
      clear HC HJ HK hsz
      cases lp
      · cases dp
        · have h3 := HW3.out rfl rfl
          clear HW HW2 HW3
          cases h9 : ((c : Int) == 95)
          · rw [h9] at h3
            have HO := Lib.hid (HOUT.out h3)
            clear HIN HOUT h3
            go_wp2_with fail
            refine HL.out.mono ?_; rintro e w1 ⟨rfl, rfl⟩
            go_wp2_with fail
            refine HD.out.mono ?_; rintro e w2 ⟨rfl, rfl⟩
            go_wp2
            go_ret
            exact ⟨by rw [← HO.out]; rfl, rfl⟩
          · rw [h9] at h3
            have HO := Lib.hid (HIN.out h3)
            clear HIN HOUT h3
            go_wp2_with fail
            refine HL.out.mono ?_; rintro e w1 ⟨rfl, rfl⟩
            go_wp2_with fail
            refine HD.out.mono ?_; rintro e w2 ⟨rfl, rfl⟩
            go_wp2
            go_round
            case rel => exact ⟨j + 1, by omega, by go_num, HO⟩
            case measure => simp [intOf]; omega
        · have HO := Lib.hid (HIN.out (HW2.out rfl))
          clear HIN HOUT HW HW2 HW3
          go_wp2_with fail
          refine HL.out.mono ?_; rintro e w1 ⟨rfl, rfl⟩
          go_wp2_with fail
          refine HD.out.mono ?_; rintro e w2 ⟨rfl, rfl⟩
          go_wp2
          go_round
          case rel => exact ⟨j + 1, by omega, by go_num, HO⟩
          case measure => simp [intOf]; omega
      · have HO := Lib.hid (HIN.out (HW.out rfl))
        clear HIN HOUT HW HW2 HW3
        go_wp2_with fail
        refine HL.out.mono ?_; rintro e w1 ⟨rfl, rfl⟩
        go_wp2
        go_round
        case rel => exact ⟨j + 1, by omega, by go_num, HO⟩
        case measure => simp [intOf]; omega
    · have HO : Hid (j = K) := Lib.hid (by rw [← HJ.out]; exact (runK_out fun h => absurd h (by omega)).symm)
      clear HJ HK
      go_wp2
      go_ret
      exact ⟨by rw [← HO.out]; rfl, rfl⟩
set_option maxRecDepth 100000 in
set_option maxHeartbeats 2000000 in
theorem r7_number (s : ByteArray) (k : Nat) (w : World) (hs : s.size ≤ 100000) (hk : k ≤ s.size) :
    Calls Tryd.prog 57 #[.string s, .int .i64 (k : Nat)] w fun e w' => e = .returned (.int .i64 (decK s.data.toList (runK isD s.data.toList k) : Nat)) ∧ w' = w := by
  have hsz : s.data.toList.length = s.size := by simp
  obtain ⟨K, hK⟩ : ∃ K, runK isD s.data.toList k = K := ⟨_, rfl⟩
  have HK := Lib.hid hK
  have hKle := runK_le (p := isD) (l := s.data.toList) (k := k) (by omega)
  rw [hK, hsz] at hKle
  rw [hK]
  clear hK
  obtain ⟨M, hM⟩ : ∃ M, decK s.data.toList K = M := ⟨_, rfl⟩
  have HM := Lib.hid hM
  rw [hM]
  clear hM
  unfold decK at HM
  go_enter Tryd.func57, Tryd.ntmps57
  go_wp2
  go_loop [1] (fun i => ∃ j : Nat, j ≤ s.size ∧ i = .int .i64 j ∧ Hid (runK isD s.data.toList j = K)) (fun i => s.size - (intOf i).toNat)
  case atStart => exact ⟨k, hk, rfl, HK⟩
  case round =>
    obtain ⟨j, hj, rfl, HJ⟩ := hrel
    by_cases hin : ∃ h : j < s.size, isD s[j] = true
    · obtain ⟨hlt, hd⟩ := hin
      obtain ⟨c, HC⟩ : ∃ c : Nat, Hid (s[j].toNat = c) := ⟨_, Lib.hid rfl⟩
      have hc : (s[j].toNat : Int) = (c : Int) := by rw [HC.out]
      have HD := Lib.hid (r7_digit s[j] w)
      rw [HC.out, hd] at HD
      have HO : Hid (runK isD s.data.toList (j + 1) = K) := Lib.hid (by
        rw [← HJ.out]; exact (runK_in (by omega) (by rw [← get_data s j hlt]; exact hd)).symm)
      clear HC HJ HK hsz hd
      go_wp2_with fail
      refine HD.out.mono ?_; rintro e w2 ⟨rfl, rfl⟩
      go_wp2
      go_round
      case rel => exact ⟨j + 1, by omega, by go_num, HO⟩
      case measure => simp [intOf]; omega
    · have hjK : j = K := by
        rw [← HJ.out, runK_out fun h => by
          cases hq : isD s.data.toList[j]
          · rfl
          · exact absurd ⟨by omega, by rw [get_data s j (by omega)]; exact hq⟩ hin]
      subst hjK
      have HF : Hid (∀ h : j < s.size, isD s[j] = false) := Lib.hid fun h => by
        cases hq : isD s[j]
        · rfl
        · exact absurd ⟨h, hq⟩ hin
      clear hin HJ HK
      by_cases hjl : j < s.size
      · obtain ⟨c, HC⟩ : ∃ c : Nat, Hid (s[j].toNat = c) := ⟨_, Lib.hid rfl⟩
        have hc : (s[j].toNat : Int) = (c : Int) := by rw [HC.out]
        have HD := Lib.hid (r7_digit s[j] w)
        rw [HC.out, HF.out hjl] at HD
        have HG : Hid (s.data.toList[j]? = some 46 ↔ ((c : Int) == 46) = true) := Lib.hid (by
          rw [← hc, byte46, getq hjl]; simp)
        by_cases hj1 : j + 1 < s.size
        · cases h46 : ((c : Int) == 46)
          · have HE : Hid (j = M) := Lib.hid (by
              have := HM.out
              rw [if_neg (by rw [HG.out, h46]; simp)] at this
              exact this)
            clear HM HG HF
            go_wp2_with fail
            refine HD.out.mono ?_; rintro e w2 ⟨rfl, rfl⟩
            go_wp2
            go_ret
            exact ⟨by rw [← HE.out]; rfl, rfl⟩
          · obtain ⟨d, HC2⟩ : ∃ d : Nat, Hid (s[j + 1].toNat = d) := ⟨_, Lib.hid rfl⟩
            have hc2 : (s[j + 1].toNat : Int) = (d : Int) := by rw [HC2.out]
            have HD2 := Lib.hid (r7_digit s[j + 1] w)
            rw [HC2.out] at HD2
            cases hd2 : isD s[j + 1]
            · have HE : Hid (j = M) := Lib.hid (by
                have := HM.out
                rw [if_neg (fun h => h.2 (runK_out fun _ => by rw [← get_data s (j + 1) hj1]; exact hd2))] at this
                exact this)
              rw [hd2] at HD2
              clear HM HG HF HC HC2 hd2
              go_wp2_with fail
              refine HD.out.mono ?_; rintro e w2 ⟨rfl, rfl⟩
              go_wp2_with fail
              refine HD2.out.mono ?_; rintro e w2 ⟨rfl, rfl⟩
              go_wp2
              go_ret
              exact ⟨by rw [← HE.out]; rfl, rfl⟩
            · have HE : Hid (runK isD s.data.toList (j + 1) = M) := Lib.hid (by
                have := HM.out
                have hr := runK_in (p := isD) (l := s.data.toList) (k := j + 1) (by omega) (by rw [← get_data s (j + 1) hj1]; exact hd2)
                have hr2 := runK_le (p := isD) (l := s.data.toList) (k := j + 1 + 1) (by omega)
                rw [if_pos ⟨HG.out.2 h46, by omega⟩] at this
                exact this)
              rw [hd2] at HD2
              clear HM HG HF HC HC2 hd2
              go_wp2_with fail
              refine HD.out.mono ?_; rintro e w2 ⟨rfl, rfl⟩
              go_wp2_with fail
              refine HD2.out.mono ?_; rintro e w2 ⟨rfl, rfl⟩
              go_wp2
              clear HD HD2 hc hc2
              go_loop [1] (fun i => ∃ m : Nat, m ≤ s.size ∧ i = .int .i64 m ∧ Hid (runK isD s.data.toList m = M)) (fun i => s.size - (intOf i).toNat)
              case atStart => exact ⟨j + 1, by omega, by go_num, HE⟩
              case round =>
                obtain ⟨m, hm, rfl, HJ⟩ := hrel
                by_cases hin : ∃ h : m < s.size, isD s[m] = true
                · obtain ⟨hlt, hd⟩ := hin
                  obtain ⟨c, HC⟩ : ∃ c : Nat, Hid (s[m].toNat = c) := ⟨_, Lib.hid rfl⟩
                  have hc : (s[m].toNat : Int) = (c : Int) := by rw [HC.out]
                  have HD := Lib.hid (r7_digit s[m] w2)
                  rw [HC.out, hd] at HD
                  have HO : Hid (runK isD s.data.toList (m + 1) = M) := Lib.hid (by
                    rw [← HJ.out]; exact (runK_in (by omega) (by rw [← get_data s m hlt]; exact hd)).symm)
                  clear HC HJ hsz hd
                  go_wp2_with fail
                  refine HD.out.mono ?_; rintro e w2 ⟨rfl, rfl⟩
                  go_wp2
                  go_round
                  case rel => exact ⟨m + 1, by omega, by go_num, HO⟩
                  case measure => simp [intOf]; omega
                · have hjK : m = M := by
                    rw [← HJ.out, runK_out fun h => by
                      cases hq : isD s.data.toList[m]
                      · rfl
                      · exact absurd ⟨by omega, by rw [get_data s m (by omega)]; exact hq⟩ hin]
                  subst hjK
                  by_cases hlt : m < s.size
                  · obtain ⟨c, HC⟩ : ∃ c : Nat, Hid (s[m].toNat = c) := ⟨_, Lib.hid rfl⟩
                    have hc : (s[m].toNat : Int) = (c : Int) := by rw [HC.out]
                    have HD := Lib.hid (r7_digit s[m] w2)
                    have hd : isD s[m] = false := by
                      cases hq : isD s[m]
                      · rfl
                      · exact absurd ⟨hlt, hq⟩ hin
                    rw [HC.out, hd] at HD
                    clear HC HJ hsz hd hin HE
                    go_wp2_with fail
                    refine HD.out.mono ?_; rintro e w2 ⟨rfl, rfl⟩
                    go_wp2
                    go_ret
                    exact ⟨rfl, rfl⟩
                  · clear hin HJ HE
                    go_wp2
                    go_ret
                    exact ⟨rfl, rfl⟩
        · have HE : Hid (j = M) := Lib.hid (by
            have := HM.out
            rw [if_neg (fun h => h.2 (runK_out fun h => absurd h (by omega)))] at this
            exact this)
          clear HM HG HF
          go_wp2_with fail
          refine HD.out.mono ?_; rintro e w2 ⟨rfl, rfl⟩
          go_wp2
          go_ret
          exact ⟨by rw [← HE.out]; rfl, rfl⟩
      · have HE : Hid (j = M) := Lib.hid (by
          have := HM.out
          rw [if_neg (fun h => by rw [List.getElem?_eq_none (by omega)] at h; cases h.1)] at this
          exact this)
        clear HM HF
        go_wp2
        go_ret
        exact ⟨by rw [← HE.out]; rfl, rfl⟩
/-- the end of a text in quotes, or -1 -/
def quotedR (l : List UInt8) (k : Nat) : Int := if l[runK plainP l (k + 1)]? = some 34 then ((runK plainP l (k + 1) + 1 : Nat) : Int) else -1
set_option maxRecDepth 100000 in
set_option maxHeartbeats 2000000 in
theorem r7_quoted (s : ByteArray) (k : Nat) (w : World) (hs : s.size ≤ 100000) (hk : k < s.size) :
    Calls Tryd.prog 59 #[.string s, .int .i64 (k : Nat)] w fun e w' => e = .returned (.int .i64 (quotedR s.data.toList k)) ∧ w' = w := by
  have hsz : s.data.toList.length = s.size := by simp
  unfold quotedR
  obtain ⟨K, hK⟩ : ∃ K, runK plainP s.data.toList (k + 1) = K := ⟨_, rfl⟩
  have HK := Lib.hid hK
  rw [hK]
  clear hK
  obtain ⟨V, hV⟩ : ∃ V, (if s.data.toList[K]? = some 34 then ((K + 1 : Nat) : Int) else -1) = V := ⟨_, rfl⟩
  have HV := Lib.hid hV
  rw [hV]
  clear hV
  go_enter Tryd.func59, Tryd.ntmps59
  go_wp2
  go_loop [5] (fun i => ∃ j : Nat, j ≤ s.size ∧ i = .int .i64 j ∧ Hid (runK plainP s.data.toList j = K)) (fun i => s.size - (intOf i).toNat)
  case atStart => exact ⟨k + 1, by omega, by go_num, HK⟩
  case round =>
    obtain ⟨j, hj, rfl, HJ⟩ := hrel
    by_cases hlt : j < s.size
    · obtain ⟨c, HC⟩ : ∃ c : Nat, Hid (s[j].toNat = c) := ⟨_, Lib.hid rfl⟩
      have hc : (s[j].toNat : Int) = (c : Int) := by rw [HC.out]
      have HD := Lib.hid (r7_plain s[j] w)
      rw [HC.out] at HD
      cases hd : plainP s[j]
      · have hjK : j = K := by
          rw [← HJ.out]; exact (runK_out fun _ => by rw [← get_data s j hlt]; exact hd).symm
        subst hjK
        rw [hd] at HD
        have HG : Hid (s.data.toList[j]? = some 34 ↔ ((c : Int) == 34) = true) := Lib.hid (by
          rw [← hc, byte34, getq hlt]; simp)
        clear hd HJ HK HC
        have hj9 : ((j : Int) == (s.size : Int)) = false := by rw [beq_eq_false_iff_ne]; omega
        have hne : ((c : Int) != 34) = !((c : Int) == 34) := rfl
        cases h34 : ((c : Int) == 34)
        · rw [h34] at hne
          have hv := HV.out
          rw [if_neg (by rw [HG.out, h34]; simp)] at hv
          subst hv
          clear HG HV
          go_wp2_with fail
          refine HD.out.mono ?_; rintro e w2 ⟨rfl, rfl⟩
          go_wp2
          go_ret
          exact ⟨rfl, rfl⟩
        · rw [h34] at hne
          have hv := HV.out
          rw [if_pos (by rw [HG.out, h34])] at hv
          subst hv
          clear HG HV
          go_wp2_with fail
          refine HD.out.mono ?_; rintro e w2 ⟨rfl, rfl⟩
          go_wp2
          go_ret
          exact ⟨by go_num, rfl⟩
      · rw [hd] at HD
        have HO : Hid (runK plainP s.data.toList (j + 1) = K) := Lib.hid (by
          rw [← HJ.out]; exact (runK_in (by omega) (by rw [← get_data s j hlt]; exact hd)).symm)
        clear hd HJ HK HC
        go_wp2_with fail
        refine HD.out.mono ?_; rintro e w2 ⟨rfl, rfl⟩
        go_wp2
        go_round
        case rel => exact ⟨j + 1, by omega, by go_num, HO⟩
        case measure => simp [intOf]; omega
    · have hjK : j = K := by
        rw [← HJ.out]; exact (runK_out fun h => absurd h (by omega)).symm
      subst hjK
      have hv := HV.out
      rw [if_neg (by rw [List.getElem?_eq_none (by omega)]; simp)] at hv
      subst hv
      clear HJ HK HV
      go_wp2
      go_ret
      exact ⟨rfl, rfl⟩
end Go.Proofs.YtfneikldnccepaaDoor
