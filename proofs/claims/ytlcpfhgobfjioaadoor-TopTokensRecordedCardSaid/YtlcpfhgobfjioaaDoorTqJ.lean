/- T4: TopTokensRecorded. -/
import Derived.Test.YtlcpfhgobfjioaaDoorTqI
set_option linter.unusedVariables false
set_option linter.unusedSimpArgs false
namespace Go.Proofs.YtlcpfhgobfjioaaDoor
open Go.RowKit Go.Shelf
open Z Rc
theorem good_Join {L : List Tk} (hG : GoodL L) {a : Option Addr} {c : Nat} (w : World) (h : TksAt w a L) : Calls Tryd.prog 10 #[.slice a L.length c] w fun e w' => e = .returned (.tuple #[.string (str (jt L (L.length - 1))), .int .i64 0]) ∧ Gr w w' := by
  obtain ⟨g1, g2, g3, g4⟩ := hG
  have H := lx_Join (c := c) w h (by omega) (by omega) (fun j hj => by have := sumT_mem (List.getElem_mem hj); omega)
  rw [g3] at H
  exact H
theorem good_Text {t : List UInt8} (h : t.length ≤ 65535) (w : World) : Calls Tryd.prog 22 #[.string (str t)] w fun e w' => e = .returned (.tuple #[.string (str (txt t)), .int .i64 0]) ∧ Gr w w' := by
  have H := rc_Text (str t) w (by rw [str_sz]; unfold maxLen; omega)
  rw [data_str] at H
  unfold xV txE at H
  rw [if_neg (by omega)] at H
  exact H
theorem good_get {P : List PL} (hg : ∀ q ∈ P, GoodL q.2.2) {k : Nat} (hk : k < P.length) (w : World) (hP : P.length ≤ 12) : Calls Tryd.prog 25 #[.string (str (DL P)), .int .i64 (((DL (P.take k)).length : Nat) : Int)] w fun e w' => e = .returned (.tuple #[.string (str (jt P[k].2.2 (P[k].2.2.length - 1))), .int .i64 (((DL (P.take (k + 1))).length : Nat) : Int), .int .i64 0]) ∧ w = w' := by
  obtain ⟨g1, g2, g3, g4⟩ := hg _ (List.getElem_mem hk)
  have hl := DL_len hg
  have H := rc_GetText (str (DL P)) (((DL (P.take k)).length : Nat) : Int) w (by rw [str_sz]; unfold maxLen; omega)
  rw [data_str, DL_split hk, getT_at _ _ _ (by omega), DL_take hk, ← DL_split hk] at H
  exact H
theorem good_again {L : List Tk} (hG : GoodL L) : (scanR (jt L (L.length - 1))).2.2 = 0 ∧ (scanR (jt L (L.length - 1))).1.length = L.length ∧ ∀ j (h1 : j < (scanR (jt L (L.length - 1))).1.length) (h2 : j < L.length), (scanR (jt L (L.length - 1))).1[j].1 = L[j].1 ∧ (scanR (jt L (L.length - 1))).1[j].2.1 = L[j].2.1 := by
  obtain ⟨g1, g2, g3, g4⟩ := hG
  have H := join_scan (L := L) (by rw [g3])
  simp only [g3] at H
  rw [if_pos g1] at H
  exact ⟨H.1, (H.2 g1).1, (H.2 g1).2⟩
set_option maxHeartbeats 4000000 in
set_option maxRecDepth 100000 in
theorem top_TopTokensRecorded (a : Option Addr) (l : List ByteArray) (cap : Nat) (w : World) (hr : RdS w a l) (hl : l.length ≤ cap) (hc : cap ≤ maxLen) :
    Calls Tryd.prog 5 #[.slice a l.length cap] w fun e w' => e = .returned (.bool true) ∧ Gr w w' := by
  obtain ⟨i0, hi, hz0, hz1, hz2⟩ := info_parts Tryd.infoTks
  have PR := Lib.hid top_playRecords
  have CF := Lib.hid (tq_ContainsS a l cap w hr hl hc)
  have HR := Lib.hid hr
  obtain ⟨n, hn⟩ : ∃ n, l.length = n := ⟨_, rfl⟩
  have HN := Lib.hid hn
  rw [hn] at hl CF ⊢
  unfold maxLen at hc
  clear hr hn
  by_cases h12 : 12 < n
  · clear CF
    go_enter Tryd.func5, Tryd.ntmps5
    go_wp2_with fail
    refine (PR.out _).mono ?_; rintro e w2 ⟨rfl, hg⟩
    have HG2 := Lib.hid hg
    clear hg
    go_wp2
    go_ret
    exact ⟨rfl, HG2.out⟩
  · cases hall : l.all (fun x => !badS x)
    · rw [hall] at CF
      clear hall
      go_enter Tryd.func5, Tryd.ntmps5
      go_wp2_with fail
      refine CF.out.mono ?_; rintro e w1 ⟨rfl, hg⟩
      have HG1 := Lib.hid hg
      clear hg CF
      go_wp2_with fail
      refine (PR.out _).mono ?_; rintro e w2 ⟨rfl, hg⟩
      have HG2 := Lib.hid (Gr.trans HG1.out hg)
      clear hg
      go_wp2
      go_ret
      exact ⟨rfl, HG2.out⟩
    · rw [hall] at CF
      have HSZ : Hid (∀ k (h : k < l.length), l[k].size ≤ 200) := Lib.hid fun k hk => by
        have := List.all_eq_true.1 hall _ (List.getElem_mem hk)
        unfold badS at this
        simpa using this
      clear hall
      go_enter Tryd.func5, Tryd.ntmps5
      go_wp2_with fail
      refine CF.out.mono ?_; rintro e w1 ⟨rfl, hg⟩
      have HG1 := Lib.hid hg
      clear hg CF
      go_wp2
      go_loopw [3, 4, 39] (fun d v i wr => ∃ (k : Nat) (P : List PL), i = .int .i64 k ∧ k ≤ n ∧ d = .string (str (DL P)) ∧ P.length ≤ k ∧ Hid (OwnP w.heap.size wr v P) ∧ Hid (Gr w wr) ∧ Hid (∀ q ∈ P, Tb wr q ∧ GoodL q.2.2)) (fun _ _ i _ => n - (intOf i).toNat)
      case atStart => exact ⟨0, [], rfl, Nat.zero_le _, rfl, by simp, Lib.hid (OwnP.nil _ _), HG1, Lib.hid (by simp)⟩
      case round =>
        obtain ⟨k, P, rfl, hk, rfl, hPk, HO, HG, HQ⟩ := hrel
        by_cases hlt : k < n
        · have k1 : k < l.length := by rw [HN.out]; exact hlt
          obtain ⟨b, o, rfl, c0⟩ := (HR.out.gr HG.out) k k1
          have hsz := HSZ.out k k1
          generalize l[k] = s at *
          have A := Lib.hid (fun w => lx_Scan s w)
          have TJ := Lib.hid (fun h => toks_join (s := s.data.toList) (by simpa using hsz) h)
          generalize scanR s.data.toList = R at *
          obtain ⟨L, at_, er⟩ := R
          simp only at A TJ
          by_cases he : er = 0
          · have hG : Hid (GoodL L) := Lib.hid (TJ.out he)
            subst he
            clear TJ
            have J := Lib.hid (fun (w : World) (a : Option Addr) (c : Nat) (h : TksAt w a L) => good_Join hG.out (c := c) w h)
            have X := Lib.hid (fun w => good_Text (t := jt L (L.length - 1)) (by have := hG.out.2.2.2; omega) w)
            have hXl : (str (txt (jt L (L.length - 1)))).size ≤ 466 := by rw [str_sz]; have := hG.out.2.2.2; have := txt_len (t := jt L (L.length - 1)) (by omega); omega
            have hDl : (str (DL P)).size ≤ 466 * 12 := by rw [str_sz]; have := DL_len (fun q hq => (HQ.out q hq).2); omega
            have haddX : ∀ w, (Op.stringOp .add (str (DL P)) (str (txt (jt L (L.length - 1))))).run Tryd.prog w = .ok (.string (str (DL P) ++ str (txt (jt L (L.length - 1))))) w := fun w => run_string_add_sum _ _ _ (by omega)
            have HD : Hid (∀ a c, str (DL P) ++ str (txt (jt L (L.length - 1))) = str (DL (P ++ [(a, c, L)]))) := Lib.hid fun a c => by rw [DL_snoc, str_app]
            go_wp2_with fail
            refine (A.out _).mono ?_; rintro e w2 ⟨v2, rfl, ho, hg⟩
            obtain ⟨a2, c2, rfl, ht⟩ := Tb.of ho
            have HO2 := Lib.hid (HO.out.gr hg)
            have HG2 := Lib.hid (Gr.trans HG.out hg)
            have HQ2 : Hid (∀ q ∈ P, Tb w2 q ∧ GoodL q.2.2) := Lib.hid fun q hq => ⟨(HQ.out q hq).1.gr hg, (HQ.out q hq).2⟩
            have HT2 := Lib.hid ht
            have HD := Lib.hid (HD.out a2 c2)
            clear hg ho ht HO HG HQ A c0
            go_wp2_with fail
            refine (J.out _ _ _ HT2.out.1).mono ?_; rintro e w3 ⟨rfl, hg⟩
            have HO3 := Lib.hid (HO2.out.gr hg)
            have HG3 := Lib.hid (Gr.trans HG2.out hg)
            have HQ3 : Hid (∀ q ∈ P, Tb w3 q ∧ GoodL q.2.2) := Lib.hid fun q hq => ⟨(HQ2.out q hq).1.gr hg, (HQ2.out q hq).2⟩
            have HT3 := Lib.hid (HT2.out.gr hg)
            clear hg HO2 HG2 HQ2 HT2 J
            go_wp2_with fail
            refine (X.out _).mono ?_; rintro e w4 ⟨rfl, hg⟩
            have HO4 := Lib.hid (HO3.out.gr hg)
            have HG4 := Lib.hid (Gr.trans HG3.out hg)
            have HQ4 : Hid (∀ q ∈ P, Tb w4 q ∧ GoodL q.2.2) := Lib.hid fun q hq => ⟨(HQ3.out q hq).1.gr hg, (HQ3.out q hq).2⟩
            have HT4 := Lib.hid (HT3.out.gr hg)
            clear hg HO3 HG3 HQ3 HT3 X hXl hDl
            have hws := HG4.out.size
            obtain ⟨TX, hTX⟩ : ∃ t, str (txt (jt L (L.length - 1))) = t := ⟨_, rfl⟩
            rw [hTX] at haddX HD ⊢
            obtain ⟨DT, hDT⟩ : ∃ t, str (DL P) = t := ⟨_, rfl⟩
            rw [hDT] at haddX HD ⊢
            obtain ⟨JT, hJT⟩ : ∃ t, str (jt L (L.length - 1)) = t := ⟨_, rfl⟩
            rw [hJT]
            clear hTX hDT hJT
            go_wp2_with (at_builtin; refine push_p hi hz0 hz1 hz2 rfl _ _ rfl _ P rfl HO4.out HG4.out.size (a2, c2, L) w4.heap.size rfl rfl (by omega) ?_; rintro v5 w5 HO5 hb5 hk5; have HB5 := Lib.hid hb5; have HK5 := Lib.hid hk5; clear hb5 hk5)
            go_roundw
            case rel => exact ⟨k + 1, P ++ [(a2, c2, L)], by go_num, by omega, by rw [HD.out], by simp; omega, HO5, Lib.hid (Below.trans HG4.out HB5.out), Lib.hid fun q hq => by
              rcases List.mem_append.1 hq with hq | hq
              · exact ⟨(HQ4.out q hq).1.block HK5.out, (HQ4.out q hq).2⟩
              · simp only [List.mem_cons, List.not_mem_nil, or_false] at hq
                subst hq
                exact ⟨HT4.out.block HK5.out, hG.out⟩⟩
            case measure => simp [intOf]; omega
          · have hz : (er != 0) = true := by simp [he]
            clear TJ he
            go_wp2_with fail
            refine (A.out _).mono ?_; rintro e w2 ⟨v2, rfl, ho, hg⟩
            have HO2 := Lib.hid (HO.out.gr hg)
            have HG2 := Lib.hid (Gr.trans HG.out hg)
            have HQ2 : Hid (∀ q ∈ P, Tb w2 q ∧ GoodL q.2.2) := Lib.hid fun q hq => ⟨(HQ.out q hq).1.gr hg, (HQ.out q hq).2⟩
            clear hg ho HO HG HQ A c0
            go_wp2
            go_roundw
            case rel => exact ⟨k + 1, P, by go_num, by omega, rfl, by omega, HO2, HG2, HQ2⟩
            case measure => simp [intOf]; omega
        · have hP12 : P.length ≤ 12 := by omega
          have HGD : Hid (∀ q ∈ P, GoodL q.2.2) := Lib.hid fun q hq => (HQ.out q hq).2
          have hDl : (str (DL P)).size ≤ 466 * 12 := by rw [str_sz]; have := DL_len HGD.out; omega
          have hDs : (str (DL P)).size = (DL P).length := str_sz _
          have GT := Lib.hid (fun k hk w => good_get HGD.out (k := k) hk w hP12)
          have HTK : Hid ((DL (P.take P.length)).length = (str (DL P)).size) := Lib.hid (by rw [List.take_length, str_sz])
          obtain ⟨a3, c3, hv, hrow⟩ := HO.out.shape
          have HROW := Lib.hid hrow
          have HTB : Hid (∀ k (h : k < P.length), Tb wr P[k]) := Lib.hid fun k h => (HQ.out _ (List.getElem_mem h)).1
          generalize hD : str (DL P) = D at *
          have hck : chkE ((7 : Int), D) = 0 := chkE_ok.2 ⟨⟨by show (0 : Int) ≤ 7; decide, by show (7 : Int) ≤ 255; decide⟩, by show D.size ≤ 65535; omega⟩
          have C1 := Lib.hid (fun w => rc_Pack ((7 : Int), D) w (by show D.size ≤ _; unfold maxLen; omega))
          unfold xV packE vE at C1
          rw [hck, if_neg (by decide)] at C1
          simp only at C1
          obtain ⟨S, hS⟩ : ∃ S, str (pkE ((7 : Int), D)) = S := ⟨_, rfl⟩
          have hSz : S.size = 5 + D.size := by rw [← hS, str_sz, pkE_len]
          have hSd : S.data.toList = pkE ((7 : Int), D) := by rw [← hS]; exact data_str _
          rw [hS] at C1
          have C2 := Lib.hid (fun w => rc_Next S 0 w (by unfold maxLen; omega))
          have hn0 : nxAt S.data.toList 0 = (((7 : Int), D), ((5 + D.size : Nat) : Int), 0) := by
            have hx := nx_pkE (x := ((7 : Int), D)) [] hck
            rw [List.append_nil] at hx
            have := nxAt_in S.data.toList 0 (Nat.zero_le _)
            rw [List.drop_zero, hSd, hx] at this
            rw [hSd]
            refine this.trans ?_
            simp
          rw [hn0, ← hSz] at C2
          unfold nV vE at C2
          simp only at C2
          obtain ⟨m, hm⟩ : ∃ m, P.length = m := ⟨_, rfl⟩
          have HM := Lib.hid hm
          rw [hv, hm]
          rw [hm] at hP12
          clear hv hrow HO hck hn0 hSd hS hD hDs HQ hm HSZ HR
          go_wp2_with fail
          refine (C1.out _).mono ?_; rintro e w2 ⟨rfl, hg2⟩
          have HG2 := Lib.hid (Gr.trans HG.out hg2)
          have HW2 := Lib.hid hg2
          clear hg2 HG
          go_wp2_with fail
          refine (C2.out _).mono ?_; rintro e w3 ⟨rfl, hg3⟩
          have hgx := Gr.trans (Gr.trans HW2.out hg3) ((Gr.refl w3).alloc (.cells #[.int .i64 7, .string D] 54))
          have HW3 := Lib.hid hgx
          have HG3 := Lib.hid ((Gr.trans HG2.out hg3).alloc (.cells #[.int .i64 7, .string D] 54))
          have e0 : (w3.alloc (.cells #[.int .i64 7, .string D] 54)).cell? ⟨w3.heap.size, 0, none⟩ = some (.int .i64 7) := by simp
          have e1 : (w3.alloc (.cells #[.int .i64 7, .string D] 54)).cell? ⟨w3.heap.size, 1, none⟩ = some (.string D) := by simp
          have E1 := Lib.hid e1
          clear hg3 hgx HG2 HW2
          go_wp2
          clear e0 e1
          generalize (w3.alloc (.cells #[.int .i64 7, .string D] 54)) = W0 at *
          generalize w3.heap.size = B0 at *
          go_loopw [18, 106] (fun t i wx => ∃ k : Nat, i = .int .i64 k ∧ k ≤ m ∧ t = .int .i64 ((DL (P.take k)).length : Nat) ∧ Hid (Gr W0 wx)) (fun _ i _ => m - (intOf i).toNat)
          case atStart => exact ⟨0, rfl, Nat.zero_le _, by simp [DL], Lib.hid (Gr.refl _)⟩
          case round =>
            obtain ⟨k, rfl, hk2, rfl, HX⟩ := hrel
            have x1 := cell_gr HX.out E1.out
            have HX1 := Lib.hid x1
            by_cases hkm : k < m
            · have kP : k < P.length := by rw [HM.out]; exact hkm
              obtain ⟨g3, rfl, r0⟩ := HROW.out k kP
              have r0 := cell_gr (Gr.trans HW3.out HX.out) r0
              have HT := Lib.hid ((HTB.out k kP).gr (Gr.trans HW3.out HX.out)).1
              have GG := Lib.hid (GT.out k kP)
              have hgd := HGD.out _ (List.getElem_mem kP)
              have AG := Lib.hid (good_again hgd)
              have h256 := hgd.1
              generalize P[k] = q at *
              obtain ⟨qa, qc, L⟩ := q
              simp only at r0 HT GG AG h256
              have A := Lib.hid (fun w => lx_Scan (str (jt L (L.length - 1))) w)
              rw [data_str] at A
              generalize scanR (jt L (L.length - 1)) = R at *
              obtain ⟨M, at2, er2⟩ := R
              simp only at A AG
              obtain ⟨hz2, hML, hEQ⟩ := AG.out
              subst hz2
              have HEQ := Lib.hid hEQ
              have HML := Lib.hid hML
              obtain ⟨JT, hJT⟩ : ∃ t, str (jt L (L.length - 1)) = t := ⟨_, rfl⟩
              rw [hJT] at GG A
              obtain ⟨NX, hNX⟩ : ∃ t, (DL (P.take (k + 1))).length = t := ⟨_, rfl⟩
              have HNX := Lib.hid hNX
              rw [hNX] at GG
              generalize (DL (P.take k)).length = at1 at *
              obtain ⟨ln, hln⟩ : ∃ t, L.length = t := ⟨_, rfl⟩
              have HLN := Lib.hid hln
              rw [hln] at r0 h256
              clear AG hEQ hML hJT hNX hln hgd
              go_wp2_with fail
              refine (GG.out _).mono ?_; rintro e w5 ⟨rfl, rfl⟩
              go_wp2_with fail
              refine (A.out _).mono ?_; rintro e w6 ⟨v6, rfl, ho, hg⟩
              obtain ⟨a6, c6, rfl, ht6, -⟩ := ho.shape
              rw [HML.out, HLN.out]
              have HT6 := Lib.hid ht6
              have HL6 := Lib.hid (HT.out.gr hg)
              have HX6 := Lib.hid (Gr.trans HX.out hg)
              clear hg ho ht6 HX r0 x1 HT A GG
              go_wp2
              go_loopw [139] (fun i wy => ∃ j : Nat, i = .int .i64 j ∧ j ≤ ln ∧ Hid (Gr w6 wy)) (fun i _ => ln - (intOf i).toNat)
              case atStart => exact ⟨0, rfl, Nat.zero_le _, Lib.hid (Gr.refl _)⟩
              case round =>
                obtain ⟨j, rfl, hj, HY⟩ := hrel
                by_cases hjl : j < ln
                · have jL : j < L.length := by rw [HLN.out]; exact hjl
                  have jM : j < M.length := by rw [HML.out]; exact jL
                  obtain ⟨q1, q2⟩ := HEQ.out j jM jL
                  obtain ⟨p1, o1, rfl, c0, c1, c2⟩ := (HL6.out.gr HY.out).at jL
                  obtain ⟨p2, o2, rfl, d0, d1, d2⟩ := (HT6.out.gr HY.out).at jM
                  rw [q1] at d0
                  rw [q2] at d1
                  generalize M[j] = y at *
                  generalize L[j] = x at *
                  obtain ⟨kd, tx, ta⟩ := x
                  obtain ⟨yk, yt, ya⟩ := y
                  simp only at c0 c1 c2 d0 d1 d2
                  generalize str tx = ts at *
                  clear q1 q2 d2
                  have HG7 := Lib.hid (HY.out.alloc (.cells #[.int .i64 kd, .string ts, .int .i64 ta] 32))
                  have f0 := cell_gr ((Gr.refl wr).alloc (.cells #[.int .i64 kd, .string ts, .int .i64 ta] 32)) d0
                  have f1 := cell_gr ((Gr.refl wr).alloc (.cells #[.int .i64 kd, .string ts, .int .i64 ta] 32)) d1
                  obtain ⟨k0, k1, k2, -, -, -⟩ := TB.new wr kd ts ta 32
                  go_wp2_with fail
                  go_quiet (fail)
                  rename_i nq
                  have HG8 := Lib.hid (below_drewN HG7.out nq)
                  go_wp2
                  go_roundw
                  case rel => exact ⟨j + 1, by go_num, by omega, HG8⟩
                  case measure => simp [intOf]; omega
                · have HXY := Lib.hid (Gr.trans HX6.out HY.out)
                  go_wp2
                  go_roundw
                  case rel => exact ⟨k + 1, by go_num, by omega, by rw [HNX.out], HXY⟩
                  case measure => simp [intOf]; omega
            · have hkm2 : k = P.length := by rw [HM.out]; omega
              have hat : (DL (P.take k)).length = D.size := by rw [hkm2]; exact HTK.out
              rw [hat]
              clear hkm2 hat
              go_wp2_with fail
              refine (PR.out _).mono ?_; rintro e w9 ⟨rfl, hg⟩
              have HG9 := Lib.hid (Gr.trans (Gr.trans HG3.out HX.out) hg)
              clear hg
              go_wp2
              go_ret
              exact ⟨rfl, HG9.out⟩
end Go.Proofs.YtlcpfhgobfjioaaDoor
