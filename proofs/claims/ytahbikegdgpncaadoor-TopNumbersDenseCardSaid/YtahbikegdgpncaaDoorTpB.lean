/- T3: numbers that come one after the other. -/
import Derived.Test.YtahbikegdgpncaaDoorTpA
set_option linter.unusedVariables false
set_option linter.unusedSimpArgs false
namespace Go.Proofs.YtahbikegdgpncaaDoor
open Go.RowKit Go.Shelf
open Z

theorem nuE_len {l : List UInt8} (h : nuE l = 0) : l.length ≤ 8 := by
  unfold nuE at h
  by_cases hf : formN l = true
  · rw [if_pos hf] at h
    by_cases hc : l = [48] ∨ 4 < (before l).length ∨ 3 < (cutB l).length
    · rw [if_pos hc] at h; cases h
    · have h1 : ¬ 4 < (before l).length := fun e => hc (.inr (.inl e))
      have h2 : ¬ 3 < (cutB l).length := fun e => hc (.inr (.inr e))
      cases hd : dotted l
      · have := before_none hd
        rw [this] at h1; omega
      · have h3 : l.length ≤ (before l).length + 1 + (cutB l).length := by
          unfold cutB
          rw [if_pos hd]
          unfold before behind
          have := congrArg List.length (List.takeWhile_append_dropWhile (p := (· != 46)) (l := l))
          rw [List.length_append] at this
          rw [List.length_tail]; omega
        omega
  · rw [if_neg hf] at h; cases h
theorem str_back (s : ByteArray) : str s.data.toList = s := ba_ext (data_str _)
set_option maxHeartbeats 4000000 in
set_option maxRecDepth 100000 in
theorem top_TopNumbersAppended (a : ByteArray) (w : World) (ha : a.size ≤ maxLen) (htab : Tab w) :
    Calls Tryd.prog 12 #[.string a] w fun e w' => e = .returned (.bool true) ∧ Gr w w' := by
  have HT := Lib.hid htab
  have HP := Lib.hid pl_play
  have C0 := Lib.hid (fun w => r5_Check a w ha)
  by_cases he : nuE a.data.toList = 0
  · rw [he] at C0
    have ha8 := nuE_len he
    obtain ⟨l0, hl0⟩ : ∃ l, a.data.toList = l := ⟨_, rfl⟩
    have hal : a = str l0 := by rw [← hl0, str_back]
    rw [hl0] at he ha8
    have HE0 := Lib.hid he
    have HL0 := Lib.hid ha8
    subst hal
    clear hl0 he ha8 ha htab
    go_enter Tryd.func12, Tryd.ntmps12
    go_wp2_with fail
    refine (C0.out _).mono ?_; rintro e w1 ⟨rfl, hg1⟩
    have HG1 := Lib.hid hg1; clear hg1
    go_wp2
    go_loopw [0, 13] (fun s i wr => ∃ (l : List UInt8) (k : Nat), s = .string (str l) ∧ i = .int .i64 k ∧ k ≤ 5 ∧ Hid (nuE l = 0) ∧ Hid (l.length ≤ 8) ∧ Hid (Gr w wr)) (fun _ i _ => 5 - (intOf i).toNat)
    case atStart => exact ⟨l0, 0, rfl, rfl, by omega, HE0.out, HL0.out, HG1.out⟩
    case round =>
      obtain ⟨l, k, rfl, rfl, hk, HE, HL, HG⟩ := hrel
      clear HG1 HE0 HL0 C0
      by_cases hlt : k < 5
      · have hsz : (str l).size ≤ 8 := by rw [str_size]; exact HL.out
        have CA := Lib.hid (fun w htab => nu_After (str l) w (by omega) htab)
        have CT := Lib.hid (fun w => nu_Thousandths (str l) w (by omega))
        rw [data_str] at CA CT
        rw [nuR_zero HE.out] at CT
        have hv := nuV_le HE.out
        have haf : aftN l = ofN (upN (nuV l) 1000 : Nat) := by unfold aftN; rw [if_pos HE.out]
        rw [haf] at CA
        unfold vTI at CA
        unfold vII at CT
        generalize nuV l = v at *
        have hup : upN v 1000 = (v / 1000 + 1) * 1000 := rfl
        obtain ⟨n, hn⟩ : ∃ n, upN v 1000 = n := ⟨_, rfl⟩
        rw [hn] at CA hup
        have HTr := Lib.hid (htab_gr HT.out HG.out)
        clear haf hn
        by_cases h9 : n ≤ 9999999
        · have ho : ofN (n : Nat) = (nuT n, 0) := by unfold ofN; rw [if_pos (by omega)]; simp
          rw [ho] at CA
          obtain ⟨t1, t2⟩ := nu_text (n := n) (by omega) h9
          have t3 := nuT_len h9
          have HE2 := Lib.hid t1
          have HL2 := Lib.hid t3
          have CN := Lib.hid (fun w => nu_Thousandths (str (nuT n)) w (by rw [str_size]; omega))
          rw [data_str, nuR_zero t1, t2] at CN
          unfold vII at CN
          simp only [] at CA CT CN
          generalize nuT n = L at *
          have hm1 : (n : Int).tmod 1000 = 0 := by
            have : (n : Int).tmod 1000 = ((n % 1000 : Nat) : Int) := rfl
            omega
          have hm2 : (n : Int) % 1000 = 0 := by omega
          have hm3 : ¬ (n : Int) ≤ (v : Int) := by omega
          have hm4 : ¬ 1000 < (n : Int) - (v : Int) := by omega
          have hv1 : v ≤ 9999999 := hv.2
          clear t1 t2 t3 ho hup hv HE
          go_wp2_with fail
          refine (CA.out _ HTr.out).mono ?_; rintro e w2 ⟨rfl, hg2⟩
          have HG2 := Lib.hid (Gr.trans HG.out hg2); clear hg2
          go_wp2_with fail
          refine (CT.out _).mono ?_; rintro e w3 ⟨rfl, hg3⟩
          have HG3 := Lib.hid (Gr.trans HG2.out hg3); clear hg3
          go_wp2_with fail
          refine (CN.out _).mono ?_; rintro e w4 ⟨rfl, hg4⟩
          have HG4 := Lib.hid (Gr.trans HG3.out hg4); clear hg4
          go_wp2
          go_roundw
          case rel => exact ⟨L, k + 1, rfl, by go_num, by omega, HE2.out, HL2.out, HG4.out⟩
          case measure => simp [intOf]; omega
        · have ho : ofN (n : Nat) = ([], 2) := by unfold ofN; rw [if_neg (by omega)]
          rw [ho] at CA
          simp only [] at CA CT
          have hv9 : 9999000 ≤ (v : Int) := by omega
          have hv1 : v ≤ 9999999 := hv.2
          clear ho hup hv h9
          go_wp2_with fail
          refine (CA.out _ HTr.out).mono ?_; rintro e w2 ⟨rfl, hg2⟩
          have HG2 := Lib.hid (Gr.trans HG.out hg2); clear hg2
          go_wp2_with fail
          refine (CT.out _).mono ?_; rintro e w3 ⟨rfl, hg3⟩
          have HG3 := Lib.hid (Gr.trans HG2.out hg3); clear hg3
          have HT3 := Lib.hid (htab_gr HT.out HG3.out)
          go_wp2_with fail
          refine (HP.out _ HT3.out).mono ?_; rintro e w4 ⟨rfl, hg4⟩
          have HG4 := Lib.hid (Gr.trans HG3.out hg4); clear hg4
          go_wp2
          go_ret
          exact ⟨rfl, HG4.out⟩
      · have HTr := Lib.hid (htab_gr HT.out HG.out)
        go_wp2_with fail
        refine (HP.out _ HTr.out).mono ?_; rintro e w4 ⟨rfl, hg4⟩
        have HG4 := Lib.hid (Gr.trans HG.out hg4); clear hg4
        go_wp2
        go_ret
        exact ⟨rfl, HG4.out⟩
  · have heb : (nuE a.data.toList != 0) = true := by simpa using he
    generalize nuE a.data.toList = E at *
    clear he ha htab
    go_enter Tryd.func12, Tryd.ntmps12
    go_wp2_with fail
    refine (C0.out _).mono ?_; rintro e w1 ⟨rfl, hg1⟩
    have HT1 := Lib.hid (htab_gr HT.out hg1)
    have HG1 := Lib.hid hg1; clear hg1
    go_wp2_with fail
    refine (HP.out _ HT1.out).mono ?_; rintro e w2 ⟨rfl, hg2⟩
    have HG2 := Lib.hid (Gr.trans HG1.out hg2); clear hg2
    go_wp2
    go_ret
    exact ⟨rfl, HG2.out⟩
end Go.Proofs.YtahbikegdgpncaaDoor
