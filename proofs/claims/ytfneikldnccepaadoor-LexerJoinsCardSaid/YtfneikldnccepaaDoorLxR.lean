/- Law 7: the reference's Scan. -/
import Derived.Test.YtfneikldnccepaaDoorLxQ
set_option linter.unusedVariables false
set_option linter.unusedSimpArgs false
namespace Go.Proofs.YtfneikldnccepaaDoor.Z
open Go
theorem kindR_err (l : List UInt8) (k : Nat) : (kindR l k).2.1 = 0 ∨ (kindR l k).2.1 = 4 := by
  unfold kindR
  split
  · simp
  · repeat' split
    all_goals simp
theorem tok_rtok (l : List UInt8) (k : Nat) : tokR l k = if (rtok l (skipB l k)).2 < 0 then ((0, [], 0), 4, skipB l k) else ((rtok l (skipB l k)).1, 0, (rtok l (skipB l k)).2.toNat) := by
  unfold tokR rtok
  rcases kindR_err l (skipB l k) with h | h
  · rw [h]; simp
  · rw [h]; simp
theorem rtok_at {l : List UInt8} {k : Nat} (h : ¬ (rtok l k).2 < 0) : (rtok l k).1.2.2 = (k : Int) := by
  unfold rtok at h ⊢
  split
  · rename_i h2; rw [if_pos h2] at h; simp at h
  · rfl
theorem rtok_le {l : List UInt8} {k : Nat} (hk : k ≤ l.length) : (rtok l k).2 ≤ l.length := by
  have := (kindR_le hk).2
  unfold rtok
  split
  · simp only; omega
  · simp only; omega
end Go.Proofs.YtfneikldnccepaaDoor.Z
namespace Go.Proofs.YtfneikldnccepaaDoor
open Go.RowKit Go.Shelf
open Z
set_option maxRecDepth 100000 in
set_option maxHeartbeats 4000000 in
theorem r7_Scan (s : ByteArray) (w : World) : Calls Tryd.prog 15 #[.string s] w fun e w' => ∃ v, e = .returned (.tuple #[v, .int .i64 (scanR s.data.toList).2.1, .int .i64 (scanR s.data.toList).2.2]) ∧ OwnTk w.heap.size w' v (scanR s.data.toList).1 ∧ Gr w w' := by
  obtain ⟨i0, hi, hz0, hz1, hz2⟩ := info_parts Tryd.infoTok
  have hsz : s.data.toList.length = s.size := by simp
  obtain ⟨V, hV⟩ : ∃ V, scanR s.data.toList = V := ⟨_, rfl⟩
  have HV := Lib.hid hV
  rw [hV]
  clear hV
  unfold scanR at HV
  rw [hsz] at HV
  by_cases hl : 4096 < s.size
  · have hv := HV.out
    rw [if_pos hl] at hv
    subst hv
    clear HV hsz
    go_enter Tryd.func15, Tryd.ntmps15
    go_wp2
    go_ret3
    exact ⟨_, rfl, OwnTk.nil _ _, Gr.refl w⟩
  · have hv := HV.out
    rw [if_neg hl] at hv
    have HV := Lib.hid hv
    clear hv
    obtain ⟨b, hb⟩ : ∃ b, w.heap.size = b := ⟨_, rfl⟩
    have HBw := Lib.hid hb
    have HX := Lib.hid hi
    rw [hb]
    clear hb hi
    go_enter Tryd.func15, Tryd.ntmps15
    go_wp2
    go_loopw [5, 6] (fun ow iw wr => ∃ (k : Nat) (out : List Tk), k ≤ s.size ∧ out.length ≤ 256 ∧ iw = .int .i64 (k : Nat) ∧ ow = ow ∧ Hid (scanF s.data.toList (257 - out.length) out k = V) ∧ Hid (OwnTk b wr ow out) ∧ Hid (Gr w wr)) (fun ow _ _ => match ow with | .slice _ n _ => 257 - n | _ => 0)
    case atStart => exact ⟨0, [], by omega, by simp, rfl, rfl, HV, OwnTk.nil _ _, Gr.refl w⟩
    case round =>
      obtain ⟨k, out, hk, hol, rfl, -, HS, HO, HG⟩ := hrel
      obtain ⟨oa, ocap, rfl, -, -, -, -, -⟩ := HO.out.shape
      have hb := skipB_le (l := s.data.toList) (k := k) (by omega)
      have hS := HS.out
      obtain ⟨fu, hfu⟩ : ∃ fu, 257 - out.length = fu + 1 := ⟨256 - out.length, by omega⟩
      rw [hfu] at hS
      unfold scanF at hS
      rw [tok_rtok] at hS
      have HS2 := Lib.hid hS
      clear HS hS
      rw [hsz] at hb
      obtain ⟨k0, hk0⟩ : ∃ k0, skipB s.data.toList k = k0 := ⟨_, rfl⟩
      have HK0 := Lib.hid hk0
      rw [hk0] at HS2 hb
      have HT := Lib.hid (fun w => r7_Token s k0 w (by omega) hb.2)
      have HTA := Lib.hid (rtok_at (l := s.data.toList) (k := k0))
      have hkle := rtok_le (l := s.data.toList) (k := k0) (by omega)
      rw [hsz] at hkle
      generalize rtok s.data.toList k0 = T at *
      obtain ⟨⟨kd, tx, ta⟩, nx⟩ := T
      simp only at HT HS2 hkle HTA
      clear hk0
      go_wp2
      go_loop [6] (fun i => ∃ j : Nat, j ≤ s.size ∧ i = .int .i64 (j : Nat) ∧ Hid (skipB s.data.toList j = k0)) (fun i => s.size - (intOf i).toNat)
      case atStart => exact ⟨k, hk, rfl, HK0⟩
      case round =>
        obtain ⟨j, hj, rfl, HJ⟩ := hrel
        by_cases hin : ∃ h : j < s.size, s[j] = 32
        · obtain ⟨hlt, h32⟩ := hin
          have HO1 := Lib.hid ((skipB_blank (l := s.data.toList) (k := j) (by omega) (by rw [← get_data s j hlt]; exact h32)).symm.trans HJ.out)
          have hcc : (s[j].toNat : Int) = 32 := by rw [h32]; rfl
          clear h32 HJ HK0 hsz
          go_wp2
          go_round
          case rel => exact ⟨j + 1, by omega, by go_num, HO1⟩
          case measure => simp [intOf]; omega
        · have hjk : j = k0 := by
            rw [← HJ.out]
            exact (skipB_stop fun h => fun e => hin ⟨by omega, by rw [get_data s j (by omega)]; exact e⟩).symm
          subst hjk
          have HNB : ∀ h : j < s.size, ((s[j].toNat : Int) == 32) = false := fun h => by
            rw [show ((s[j].toNat : Int) == 32) = (s[j] == 32) from byte_int s[j] 32 (by decide), beq_eq_false_iff_ne]
            exact fun e => hin ⟨h, e⟩
          clear hin HJ HK0
          have tailgoal : True := trivial
          by_cases hjl : j < s.size
          · have hnb := HNB hjl
            clear HNB hsz
            go_wp2_with fail
            refine (HT.out _).mono ?_; rintro e w2 ⟨rfl, hg2⟩
            obtain ⟨n7, hn7⟩ : ∃ n7, w2.heap.size = n7 := ⟨_, rfl⟩
            have HN7 := Lib.hid hn7
            have HT3 := Lib.hid (TB.new w2 kd (str tx) ta 31)
            have HG3 := Lib.hid ((Gr.trans HG.out hg2).alloc (.cells #[.int .i64 kd, .string (str tx), .int .i64 ta] 31))
            have HO2 := Lib.hid (HO.out.gr hg2)
            have HO3 := Lib.hid ((HO.out.gr hg2).gr ((Gr.refl w2).alloc (.cells #[.int .i64 kd, .string (str tx), .int .i64 ta] 31)))
            have HLT := Lib.hid HO2.out.lt
            have hb5 : b ≤ w2.heap.size := by have h1 := HBw.out; have h2 := (Gr.trans HG.out hg2).size; omega
            clear hg2 HT HO HG
            obtain ⟨t0, t1, t2, g0, g1, g2⟩ := id HT3.out
            rw [hn7] at HT3 t0 t1 t2 g0 g1 g2 hb5
            by_cases hn : nx < 0
            · have hS := HS2.out
              rw [if_pos hn] at hS
              rw [if_pos (by simp)] at hS
              subst hS
              clear HS2 hfu hol hn7
              go_wp2
              go_ret3
              exact ⟨_, rfl, OwnTk.nil _ _, HG3.out⟩
            · have hS := HS2.out
              rw [if_neg hn] at hS
              rw [if_neg (by simp)] at hS
              have hta := HTA.out (by omega)
              subst hta
              obtain ⟨nn, rfl⟩ : ∃ nn : Nat, nx = (nn : Nat) := ⟨nx.toNat, by omega⟩
              simp only [Int.toNat_natCast] at hS
              have HS3 := Lib.hid hS
              clear HS2 HTA hS
              by_cases hf : out.length = 256
              · have hS := HS3.out
                rw [if_pos hf] at hS
                subst hS
                have hff : ((out.length : Int) == 256) = true := by rw [beq_iff_eq]; omega
                clear hfu hol HO2 HO3 HS3 hn7
                generalize out.length = ol at *
                clear hf
                go_wp2
                go_ret3
                exact ⟨_, rfl, OwnTk.nil _ _, HG3.out⟩
              · have hS := HS3.out
                rw [if_neg hf] at hS
                have hff : ((out.length : Int) == 256) = false := by rw [beq_eq_false_iff_ne]; omega
                have HS4 := Lib.hid hS
                have hol2 : out.length + 1 ≤ 256 := by omega
                clear hS hf hol HS3
                obtain ⟨w3, hw3⟩ : ∃ w3, w2.alloc (.cells #[.int .i64 kd, .string (str tx), .int .i64 (j : Nat)] 31) = w3 := ⟨_, rfl⟩
                have hs3 : w3.heap.size = n7 + 1 := by rw [← hw3, World.size_alloc, hn7]
                have hi := HX.out
                rw [hw3] at HO3 HG3 HT3 t0 t1 t2 g0 g1 g2
                have key : ∀ v5 w5, OwnTk b w5 v5 (out ++ [(kd, tx, (j : Int))]) → Below b w3 w5 → (∀ k, k < w3.heap.size → (∀ g, (Value.slice oa out.length ocap).ownBlock = some g → k ≠ g) → w5.heap[k]? = w3.heap[k]?) →
                    Gr w w5 ∧ TB w5 n7 kd (str tx) (j : Nat) := fun v5 w5 ho hb hk => by
                  exact ⟨Below.trans HG3.out (hb.mono (by have := HBw.out; omega)), HT3.out.of_block (hk n7 (by omega) fun g hg e => by have := HLT.out g hg; have := HN7.out; omega)⟩
                have KEY := Lib.hid key
                clear key
                by_cases hk3 : kd = 3
                · have z3 : (kd == 3) = true := by simp [hk3]
                  have hS := HS4.out
                  rw [if_pos hk3] at hS
                  subst hS
                  clear hk3 HS4
                  go_wp2_with (at_builtin; refine push_tk hi hz0 hz1 hz2 rfl _ _ rfl _ out rfl HO3.out (by omega) (kd, tx, (j : Int)) (n7 + 1) (by omega) rfl (by omega) ?_; rintro v5 w5 HO5 hb5 hk5; obtain ⟨hg5, ht5⟩ := KEY.out v5 w5 HO5.out hb5 hk5; have HG5 := Lib.hid hg5; have HT5 := Lib.hid ht5; obtain ⟨y0, y1, y2, -, -, -⟩ := id ht5; clear hg5 ht5 hb5 hk5 hw3 hs3 hn7)
                  go_ret3
                  exact ⟨_, rfl, HO5, HG5.out⟩
                · have z3 : (kd == 3) = false := by rw [beq_eq_false_iff_ne]; exact hk3
                  have hS := HS4.out
                  rw [if_neg hk3] at hS
                  have HLN := Lib.hid (show (out ++ [(kd, tx, (j : Int))]).length = out.length + 1 by simp)
                  have HS5 : Hid (scanF s.data.toList (257 - (out ++ [(kd, tx, (j : Int))]).length) (out ++ [(kd, tx, (j : Int))]) nn = V) := Lib.hid (by rw [HLN.out, show 257 - (out.length + 1) = fu by omega]; exact hS)
                  clear hk3 HS4 hS hfu
                  go_wp2_with (at_builtin; refine push_tk hi hz0 hz1 hz2 rfl _ _ rfl _ out rfl HO3.out (by omega) (kd, tx, (j : Int)) (n7 + 1) (by omega) rfl (by omega) ?_; rintro v5 w5 HO5 hb5 hk5; obtain ⟨hg5, ht5⟩ := KEY.out v5 w5 HO5.out hb5 hk5; have HG5 := Lib.hid hg5; have HT5 := Lib.hid ht5; obtain ⟨y0, y1, y2, -, -, -⟩ := id ht5; clear hg5 ht5 hb5 hk5 hw3 hs3 hn7)
                  obtain ⟨oa2, ocap2, rfl, -, -, -, -, -⟩ := HO5.out.shape
                  go_roundw
                  case rel => exact ⟨nn, out ++ [(kd, tx, (j : Int))], by omega, by rw [HLN.out]; exact hol2, rfl, trivial, HS5, HO5, HG5⟩
                  case measure =>
                    have e := HLN.out
                    simp only [e]
                    omega
          · have hje : j = s.size := by omega
            clear HNB hsz hje
            go_wp2_with fail
            refine (HT.out _).mono ?_; rintro e w2 ⟨rfl, hg2⟩
            obtain ⟨n7, hn7⟩ : ∃ n7, w2.heap.size = n7 := ⟨_, rfl⟩
            have HN7 := Lib.hid hn7
            have HT3 := Lib.hid (TB.new w2 kd (str tx) ta 31)
            have HG3 := Lib.hid ((Gr.trans HG.out hg2).alloc (.cells #[.int .i64 kd, .string (str tx), .int .i64 ta] 31))
            have HO2 := Lib.hid (HO.out.gr hg2)
            have HO3 := Lib.hid ((HO.out.gr hg2).gr ((Gr.refl w2).alloc (.cells #[.int .i64 kd, .string (str tx), .int .i64 ta] 31)))
            have HLT := Lib.hid HO2.out.lt
            have hb5 : b ≤ w2.heap.size := by have h1 := HBw.out; have h2 := (Gr.trans HG.out hg2).size; omega
            clear hg2 HT HO HG
            obtain ⟨t0, t1, t2, g0, g1, g2⟩ := id HT3.out
            rw [hn7] at HT3 t0 t1 t2 g0 g1 g2 hb5
            by_cases hn : nx < 0
            · have hS := HS2.out
              rw [if_pos hn] at hS
              rw [if_pos (by simp)] at hS
              subst hS
              clear HS2 hfu hol hn7
              go_wp2
              go_ret3
              exact ⟨_, rfl, OwnTk.nil _ _, HG3.out⟩
            · have hS := HS2.out
              rw [if_neg hn] at hS
              rw [if_neg (by simp)] at hS
              have hta := HTA.out (by omega)
              subst hta
              obtain ⟨nn, rfl⟩ : ∃ nn : Nat, nx = (nn : Nat) := ⟨nx.toNat, by omega⟩
              simp only [Int.toNat_natCast] at hS
              have HS3 := Lib.hid hS
              clear HS2 HTA hS
              by_cases hf : out.length = 256
              · have hS := HS3.out
                rw [if_pos hf] at hS
                subst hS
                have hff : ((out.length : Int) == 256) = true := by rw [beq_iff_eq]; omega
                clear hfu hol HO2 HO3 HS3 hn7
                generalize out.length = ol at *
                clear hf
                go_wp2
                go_ret3
                exact ⟨_, rfl, OwnTk.nil _ _, HG3.out⟩
              · have hS := HS3.out
                rw [if_neg hf] at hS
                have hff : ((out.length : Int) == 256) = false := by rw [beq_eq_false_iff_ne]; omega
                have HS4 := Lib.hid hS
                have hol2 : out.length + 1 ≤ 256 := by omega
                clear hS hf hol HS3
                obtain ⟨w3, hw3⟩ : ∃ w3, w2.alloc (.cells #[.int .i64 kd, .string (str tx), .int .i64 (j : Nat)] 31) = w3 := ⟨_, rfl⟩
                have hs3 : w3.heap.size = n7 + 1 := by rw [← hw3, World.size_alloc, hn7]
                have hi := HX.out
                rw [hw3] at HO3 HG3 HT3 t0 t1 t2 g0 g1 g2
                have key : ∀ v5 w5, OwnTk b w5 v5 (out ++ [(kd, tx, (j : Int))]) → Below b w3 w5 → (∀ k, k < w3.heap.size → (∀ g, (Value.slice oa out.length ocap).ownBlock = some g → k ≠ g) → w5.heap[k]? = w3.heap[k]?) →
                    Gr w w5 ∧ TB w5 n7 kd (str tx) (j : Nat) := fun v5 w5 ho hb hk => by
                  exact ⟨Below.trans HG3.out (hb.mono (by have := HBw.out; omega)), HT3.out.of_block (hk n7 (by omega) fun g hg e => by have := HLT.out g hg; have := HN7.out; omega)⟩
                have KEY := Lib.hid key
                clear key
                by_cases hk3 : kd = 3
                · have z3 : (kd == 3) = true := by simp [hk3]
                  have hS := HS4.out
                  rw [if_pos hk3] at hS
                  subst hS
                  clear hk3 HS4
                  go_wp2_with (at_builtin; refine push_tk hi hz0 hz1 hz2 rfl _ _ rfl _ out rfl HO3.out (by omega) (kd, tx, (j : Int)) (n7 + 1) (by omega) rfl (by omega) ?_; rintro v5 w5 HO5 hb5 hk5; obtain ⟨hg5, ht5⟩ := KEY.out v5 w5 HO5.out hb5 hk5; have HG5 := Lib.hid hg5; have HT5 := Lib.hid ht5; obtain ⟨y0, y1, y2, -, -, -⟩ := id ht5; clear hg5 ht5 hb5 hk5 hw3 hs3 hn7)
                  go_ret3
                  exact ⟨_, rfl, HO5, HG5.out⟩
                · have z3 : (kd == 3) = false := by rw [beq_eq_false_iff_ne]; exact hk3
                  have hS := HS4.out
                  rw [if_neg hk3] at hS
                  have HLN := Lib.hid (show (out ++ [(kd, tx, (j : Int))]).length = out.length + 1 by simp)
                  have HS5 : Hid (scanF s.data.toList (257 - (out ++ [(kd, tx, (j : Int))]).length) (out ++ [(kd, tx, (j : Int))]) nn = V) := Lib.hid (by rw [HLN.out, show 257 - (out.length + 1) = fu by omega]; exact hS)
                  clear hk3 HS4 hS hfu
                  go_wp2_with (at_builtin; refine push_tk hi hz0 hz1 hz2 rfl _ _ rfl _ out rfl HO3.out (by omega) (kd, tx, (j : Int)) (n7 + 1) (by omega) rfl (by omega) ?_; rintro v5 w5 HO5 hb5 hk5; obtain ⟨hg5, ht5⟩ := KEY.out v5 w5 HO5.out hb5 hk5; have HG5 := Lib.hid hg5; have HT5 := Lib.hid ht5; obtain ⟨y0, y1, y2, -, -, -⟩ := id ht5; clear hg5 ht5 hb5 hk5 hw3 hs3 hn7)
                  obtain ⟨oa2, ocap2, rfl, -, -, -, -, -⟩ := HO5.out.shape
                  go_roundw
                  case rel => exact ⟨nn, out ++ [(kd, tx, (j : Int))], by omega, by rw [HLN.out]; exact hol2, rfl, trivial, HS5, HO5, HG5⟩
                  case measure =>
                    have e := HLN.out
                    simp only [e]
                    omega
end Go.Proofs.YtfneikldnccepaaDoor
