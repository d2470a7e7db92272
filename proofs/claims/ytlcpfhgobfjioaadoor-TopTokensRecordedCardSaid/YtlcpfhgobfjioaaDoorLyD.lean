/- Law 7: the walk of the program's Join. -/
import Derived.Test.YtlcpfhgobfjioaaDoorLyAC
set_option linter.unusedVariables false
set_option linter.unusedSimpArgs false
namespace Go.Proofs.YtlcpfhgobfjioaaDoor
open Go.RowKit Go.Shelf
open Z
set_option maxRecDepth 100000 in
set_option maxHeartbeats 4000000 in
theorem lx_Join {a : Option Addr} {L : List Tk} {c : Nat} (w : World) (hL : TksAt w a L) (hl : L.length ≤ 400) (hs : sumT L ≤ 6000) (hb : ∀ j (h : j < L.length), L[j].2.1.length ≤ 6000) :
    Calls Tryd.prog 10 #[.slice a L.length c] w fun e w' => e = .returned (.tuple #[.string (str (joinR L).1), .int .i64 (joinR L).2]) ∧ Gr w w' := by
  obtain ⟨i0, hi, hz0, hz1, hz2⟩ := info_parts Tryd.infoStrJ
  have HL := Lib.hid hL
  have HBB := Lib.hid hb
  have HIX := Lib.hid (sl_IndexEnd (c := c) w hL (by omega))
  have HEE := Lib.hid (endI_ends (L := L))
  have hjz : (jt L (L.length - 1)).length ≤ 7000 := by
    have h1 := jt_len (L := L) (L.length - 1) (by omega)
    have h2 : sumT L = sumT (L.take (L.length - 1)) + sumT (L.drop (L.length - 1)) := by
      unfold sumT
      conv => lhs; rw [← List.take_append_drop (L.length - 1) L]
      rw [List.map_append, List.sum_append]
    omega
  have HOKK := Lib.hid (join_ok (L := L))
  have HERR := Lib.hid (fun (hE : Ends L) (k : Nat) (hk : k < L.length) h he => join_err hE hk h he)
  have HNO := Lib.hid (joinR_no (L := L))
  obtain ⟨V, hV⟩ : ∃ V, joinR L = V := ⟨_, rfl⟩
  rw [hV] at HOKK HERR HNO ⊢
  obtain ⟨n, hn⟩ : ∃ n, L.length = n := ⟨_, rfl⟩
  have HN := Lib.hid hn
  rw [hn] at hl HIX HEE hjz ⊢
  have HOK2 : Hid (Ends L → (∀ j (h : j < L.length), chkR L[j].1 L[j].2.1 = 0) → V = if 4096 < (jt L (n - 1)).length then ([], 13) else (jt L (n - 1), 0)) := Lib.hid fun h1 h2 => by
    have := HOKK.out h1 h2
    rw [show n - 1 = L.length - 1 by rw [HN.out]]
    exact this
  clear hL hn hb hV HOKK
  by_cases h0 : n = 0
  · have hv := HNO.out (fun h => by have := h.1; rw [HN.out] at this; omega)
    subst hv
    have hw : IntKind.i64.wrap ((n : Int) - 1) = -1 := by rw [IntKind.wrap_i64]; omega
    clear h0
    go_enter Tryd.func10, Tryd.ntmps10
    go_wp2
    go_ret2
    exact ⟨rfl, Gr.refl _⟩
  · have hw : IntKind.i64.wrap ((n : Int) - 1) = ((n - 1 : Nat) : Int) := by rw [IntKind.wrap_i64]; omega
    have hpos : 0 < n := by omega
    clear h0
    generalize endI L = ei at *
    by_cases he : ei = ((n - 1 : Nat) : Int)
    · have hE : Ends L := HEE.out.1 ⟨hpos, he⟩
      have HE := Lib.hid hE
      have z : (ei != ((n - 1 : Nat) : Int)) = false := by simp [he]
      clear HEE HNO he hE
      go_enter Tryd.func10, Tryd.ntmps10
      go_wp2_with fail
      refine HIX.out.mono ?_; rintro e w1 ⟨rfl, hg1⟩
      have HG1 := Lib.hid hg1; clear hg1 HIX
      go_wp2_with (at_make; refine wpList_make_full _ rfl _ _ 47 rfl w.heap.size 9 i0 (.string ⟨#[]⟩) 1 Tryd.underlying47 hi hz0 hz1 .i64 .i64 _ _ n rfl rfl rfl rfl (by rw [hz2]; omega) (by unfold maxLen; omega) HG1.out.size ?_)
      intro w2 hown2 hgr2
      obtain ⟨g, hg⟩ : ∃ g, w1.heap.size = g := ⟨_, rfl⟩
      rw [hg] at hown2 ⊢
      have HO2 : Hid (OwnJ w.heap.size w2 (.slice (some ⟨g, 0, none⟩) n n) (List.replicate n ⟨#[]⟩)) := by
        show World.ownsRow _ _ _ _ _ _ _
        rw [List.length_replicate]
        have e : (madeCells #[Value.string ⟨#[]⟩] n).toList = svJ (List.replicate n ⟨#[]⟩) := by
          rw [toList_madeCells_one]
          simp [svJ]
        rw [← e]; exact hown2
      have HG2 : Hid (Gr w w2) := Below.grown HG1.out hgr2 HG1.out.size (fun k hk => by simp at hk)
      clear hown2 hgr2 hg HG1
      go_wp2
      go_loopw [26] (fun i wr => ∃ k : Nat, i = .int .i64 k ∧ k ≤ n ∧ Hid (∀ j (h : j < L.length), j < k → chkR L[j].1 L[j].2.1 = 0) ∧ Hid (OwnJ w.heap.size wr (.slice (some ⟨g, 0, none⟩) n n) (tksK L k)) ∧ Hid (Gr w wr)) (fun i _ => n - (intOf i).toNat)
      case atStart => exact ⟨0, rfl, by omega, Lib.hid fun j _ h => absurd h (by omega), by rw [show tksK L 0 = List.replicate n ⟨#[]⟩ by unfold tksK; rw [HN.out]; simp]; exact HO2, HG2⟩
      case round =>
        obtain ⟨k, rfl, hk, HC, HO, HG⟩ := hrel
        clear HO2 HG2
        by_cases hlt : k < n
        · have k1 : k < L.length := by rw [HN.out]; exact hlt
          obtain ⟨p, o, rfl, c0, c1, c2⟩ := (HL.out.gr HG.out).at k1
          have hb := HBB.out k k1
          have HN1 := Lib.hid (tksK_next k1)
          have HTL := Lib.hid (tksK_len L (k := k) (by omega))
          have HER2 := Lib.hid (HERR.out HE.out k k1 HC.out)
          have HC2 : Hid (chkR L[k].1 L[k].2.1 = 0 → ∀ j (h : j < L.length), j < k + 1 → chkR L[j].1 L[j].2.1 = 0) := Lib.hid fun h j hj hl => by
            by_cases e : j = k
            · subst e; exact h
            · exact HC.out j hj (by omega)
          have hts : (str L[k].2.1).size = L[k].2.1.length := str_size _
          generalize L[k] = x at *
          obtain ⟨kd, tx, ta⟩ := x
          simp only at c0 c1 c2 hb HN1 HER2 HC2 hts
          have CK := Lib.hid (fun w => lx_check kd (str tx) ta w (by omega))
          have hdd : (str tx).data.toList = tx := rfl
          rw [hdd] at CK
          clear hdd
          generalize chkR kd tx = er at *
          generalize str tx = ts at *
          obtain ⟨n8, hn8⟩ : ∃ n8, wr.heap.size = n8 := ⟨_, rfl⟩
          have HB := Lib.hid (TB.new wr kd ts ta 32)
          rw [hn8] at HB
          have HGa := Lib.hid (HG.out.alloc (.cells #[.int .i64 kd, .string ts, .int .i64 ta] 32))
          have HOa := Lib.hid (HO.out.gr ((Gr.refl wr).alloc (.cells #[.int .i64 kd, .string ts, .int .i64 ta] 32)))
          have hgs : g < wr.heap.size := cellLt (HO.out.at k (by rw [HTL.out]; omega)).1
          have hgw : w.heap.size ≤ g := (World.ownsRow.lt HO.out g rfl).1
          rw [hn8] at hgs
          obtain ⟨b0, b1, b2, -, -, -⟩ := id HB.out
          clear HO HG HC
          go_wp2_with fail
          refine (CK.out _).mono ?_; rintro e w3 ⟨rfl, hg3⟩
          have HO3 := Lib.hid (HOa.out.gr hg3)
          have HB3 := Lib.hid (HB.out.gr hg3)
          have HG3 := Lib.hid (Gr.trans HGa.out hg3)
          clear hg3 b0 b1 b2 c0 c1 c2 HB HOa HGa hn8
          obtain ⟨b0, b1, b2, -, -, -⟩ := id HB3.out
          by_cases h0 : er = 0
          · have z9 : (er != 0) = false := by simp [h0]
            have HC3 := Lib.hid (HC2.out h0)
            obtain ⟨s0, s1⟩ := HO3.out.at k (by rw [HTL.out]; omega)
            have HO4 := Lib.hid (HO3.out.set k ts)
            have HG4 : Hid (Gr w (w3.setCell ⟨g, k, none⟩ (.string ts))) := Below.setCell HG3.out (show _ ≤ g from hgw) _
            rw [← HN1.out] at HO4
            clear h0 HC2 HER2
            go_wp2
            go_roundw
            case rel => exact ⟨k + 1, by go_num, by omega, HC3, HO4, HG4⟩
            case measure => simp [intOf]; omega
          · have z9 : (er != 0) = true := by simp [h0]
            have hv := HER2.out h0
            subst hv
            clear h0 HC2 HER2
            go_wp2
            go_ret2
            exact ⟨rfl, HG3.out⟩
        · have hkn : k = n := by omega
          subst hkn
          have hv := HOK2.out HE.out (fun j hj => HC.out j hj (by rw [HN.out] at hj; exact hj))
          have HV := Lib.hid hv
          have HKN : Hid (tksK L L.length = tksK L k) := Lib.hid (by rw [HN.out])
          have hgs : g < wr.heap.size := cellLt (HO.out.at (k - 1) (by rw [tksK_len L (by rw [HN.out]; omega), HN.out]; omega)).1
          have HJ : Hid (Calls Tryd.prog 34 #[.slice (some ⟨g, 0, none⟩) (k - 1) k, .string ⟨#[32]⟩] wr fun e w' => e = .returned (.string (str (jt L (k - 1)))) ∧ Gr wr w') := Lib.hid (by
            by_cases h1 : k - 1 = 0
            · rw [h1, jt_zero]
              exact (Tryd.strings_Join_none (some ⟨g, 0, none⟩) k ⟨#[32]⟩ wr).mono fun e w' h => ⟨h.1, by rw [h.2]; exact Gr.refl _⟩
            · have hxl : ((L.take (k - 1)).map fun t => str t.2.1).length = k - 1 := by rw [List.length_map, List.length_take, HN.out]; omega
              have hm : ((L.take (k - 1)).map fun t => str t.2.1).map (·.data.toList) = (L.take (k - 1)).map fun t => t.2.1 := by rw [List.map_map]; rfl
              have := Tryd.strings_Join g 0 k ((L.take (k - 1)).map fun t => str t.2.1) ⟨#[32]⟩ wr (fun j x hx => by
                have hj : j < k - 1 := by
                  rw [← hxl]
                  exact (List.getElem?_eq_some_iff.1 hx).1
                have hjL : j < L.length := by rw [HN.out]; omega
                have hxe : x = str L[j].2.1 := by
                  rw [List.getElem?_map, List.getElem?_take_of_lt hj, List.getElem?_eq_getElem hjL] at hx
                  simpa using hx.symm
                have ht := tksK_at hjL
                rw [HKN.out] at ht
                obtain ⟨hlt2, hge⟩ := List.getElem?_eq_some_iff.1 ht
                have hat := (HO.out.at j hlt2).1
                rw [hge] at hat
                rw [hxe, Nat.zero_add]
                exact hat) hgs (by rw [hxl]; omega) (by rw [hxl]; omega) (by
                  rw [hm]
                  show (jt L (k - 1)).length ≤ _
                  omega)
              rw [hxl, hm] at this
              exact this)
          have hzs : (str (jt L (k - 1))).size = (jt L (k - 1)).length := str_size _
          clear hv HOK2 HERR HC HO HKN hgs
          generalize hjj : jt L (k - 1) = J at *
          clear hjj
          go_wp2_with fail
          refine HJ.out.mono ?_; rintro e w5 ⟨rfl, hg5⟩
          have HG5 := Lib.hid (Gr.trans HG.out hg5)
          clear hg5 HJ
          by_cases h4 : 4096 < J.length
          · have hv := HV.out
            rw [if_pos h4] at hv
            subst hv
            clear HV
            generalize str J = js at *
            go_wp2
            go_ret2
            exact ⟨rfl, HG5.out⟩
          · have hv := HV.out
            rw [if_neg h4] at hv
            subst hv
            have h5 : J.length ≤ 4096 := by omega
            clear HV h4
            go_wp2
            go_ret2
            exact ⟨rfl, HG5.out⟩
    · have hv := HNO.out (fun h => he (HEE.out.2 h).2)
      subst hv
      have z : (ei != ((n - 1 : Nat) : Int)) = true := by simp [he]
      clear HEE he
      go_enter Tryd.func10, Tryd.ntmps10
      go_wp2_with fail
      refine HIX.out.mono ?_; rintro e w1 ⟨rfl, hg1⟩
      have HG1 := Lib.hid hg1; clear hg1 HIX
      go_wp2
      go_ret2
      exact ⟨rfl, HG1.out⟩
end Go.Proofs.YtlcpfhgobfjioaaDoor
