/- Law 7: the program's Scan. -/
import Derived.Test.YtlcpfhgobfjioaaDoorLxI
set_option linter.unusedVariables false
set_option linter.unusedSimpArgs false
namespace Go.Proofs.YtlcpfhgobfjioaaDoor
open Go.RowKit Go.Shelf
open Z
theorem TB.of_block {w w' : World} {n : Nat} {kd : Int} {t : ByteArray} {a : Int} (h : TB w n kd t a) (e : w'.heap[n]? = w.heap[n]?) : TB w' n kd t a := by
  refine ⟨?_, ?_, ?_, ?_, ?_, ?_⟩
  · have := h.c0; unfold World.cell? at this ⊢; rw [e]; exact this
  · have := h.c1; unfold World.cell? at this ⊢; rw [e]; exact this
  · have := h.c2; unfold World.cell? at this ⊢; rw [e]; exact this
  · have := h.f0; unfold World.frozen? at this ⊢; rw [e]; exact this
  · have := h.f1; unfold World.frozen? at this ⊢; rw [e]; exact this
  · have := h.f2; unfold World.frozen? at this ⊢; rw [e]; exact this
theorem RdrAt.new (w : World) (s : ByteArray) : RdrAt (w.alloc (.cells #[.string s, .int .i64 0] 76)) w.heap.size s 0 :=
  ⟨by rw [World.cell?_alloc_at _ _ _ _ rfl]; rfl, by rw [World.cell?_alloc_at _ _ _ _ rfl]; rfl, World.frozen?_alloc_at _ _ _ _ rfl⟩
set_option maxRecDepth 100000 in
set_option maxHeartbeats 4000000 in
theorem lx_Scan (s : ByteArray) (w : World) : Calls Tryd.prog 11 #[.string s] w fun e w' => ∃ v, e = .returned (.tuple #[v, .int .i64 (scanR s.data.toList).2.1, .int .i64 (scanR s.data.toList).2.2]) ∧ OwnTk w.heap.size w' v (scanR s.data.toList).1 ∧ Gr w w' := by
  obtain ⟨i0, hi, hz0, hz1, hz2⟩ := info_parts Tryd.infoTok
  have hsz : s.data.toList.length = s.size := by simp
  obtain ⟨V, hV⟩ : ∃ V, scanR s.data.toList = V := ⟨_, rfl⟩
  have HV := Lib.hid hV
  rw [hV]
  clear hV
  unfold scanR at HV
  rw [hsz] at HV
  by_cases hl : 4096 < s.size
  · have hv := HV.out
    rw [if_pos hl] at hv
    subst hv
    clear HV hsz
    go_enter Tryd.func11, Tryd.ntmps11
    go_wp2
    go_ret3
    exact ⟨_, rfl, OwnTk.nil _ _, Gr.refl w⟩
  · have hv := HV.out
    rw [if_neg hl] at hv
    have HV := Lib.hid hv
    clear hv
    have HR0 := Lib.hid (RdrAt.new w s)
    have HG0 := Lib.hid ((Gr.refl w).alloc (.cells #[.string s, .int .i64 0] 76))
    obtain ⟨b, hb⟩ : ∃ b, w.heap.size = b := ⟨_, rfl⟩
    have HBw := Lib.hid hb
    rw [hb] at HR0
    go_enter Tryd.func11, Tryd.ntmps11
    go_wp2
    go_loopw [5] (fun ow wr => ∃ (k : Nat) (out : List Tk), k ≤ s.size ∧ out.length ≤ 256 ∧ ow = ow ∧ Hid (scanF s.data.toList (257 - out.length) out k = V) ∧ Hid (OwnTk (b + 1) wr ow out) ∧ Hid (RdrAt wr b s k) ∧ Hid (Gr w wr)) (fun ow _ => match ow with | .slice _ n _ => 257 - n | _ => 0)
    case atStart => exact ⟨0, [], by omega, by simp, rfl, HV, OwnTk.nil _ _, HR0, HG0⟩
    case round =>
      obtain ⟨k, out, hk, hol, -, HS, HO, HR, HG⟩ := hrel
      obtain ⟨oa, ocap, rfl, -, -, -, -, -⟩ := HO.out.shape
      have HT := Lib.hid (lx_token b s k wr HR.out (by omega) hk)
      have hk1 := tokR_le (l := s.data.toList) (k := k) (by omega)
      have hS := HS.out
      obtain ⟨fu, hfu⟩ : ∃ fu, 257 - out.length = fu + 1 := ⟨256 - out.length, by omega⟩
      rw [hfu] at hS
      unfold scanF at hS
      have HS2 := Lib.hid hS
      clear HS hS
      generalize tokR s.data.toList k = T at *
      obtain ⟨⟨kd, tx, ta⟩, er, k1⟩ := T
      simp only at HT HS2 hk1
      rw [hsz] at hk1
      go_wp2_with fail
      refine HT.out.mono ?_; rintro e w2 ⟨rfl, hr2, hu2⟩
      have HO2 := Lib.hid (HO.out.upd hu2 (Nat.lt_succ_self b))
      have HG2 := Lib.hid (hu2.1 w HG.out (by have := HBw.out; omega))
      have HT3 := Lib.hid (TB.new w2 kd (str tx) ta 32)
      have HR3 := Lib.hid (hr2.gr ((Gr.refl w2).alloc (.cells #[.int .i64 kd, .string (str tx), .int .i64 ta] 32)))
      have HG3 := Lib.hid (HG2.out.alloc (.cells #[.int .i64 kd, .string (str tx), .int .i64 ta] 32))
      have HO3 := Lib.hid (HO2.out.gr ((Gr.refl w2).alloc (.cells #[.int .i64 kd, .string (str tx), .int .i64 ta] 32)))
      have hbl := hr2.lt
      have HLT := Lib.hid HO2.out.lt
      clear hr2 hu2 HT HR HO HG
      obtain ⟨c0, c1, f1⟩ := HR3.out
      obtain ⟨t0, t1, t2, g0, g1, g2⟩ := id HT3.out
      by_cases he : er = 0
      · subst he
        have hS := HS2.out
        rw [if_neg (by simp)] at hS
        clear HS2
        by_cases hf : out.length = 256
        · rw [if_pos hf] at hS
          subst hS
          have hff : ((out.length : Int) == 256) = true := by rw [beq_iff_eq]; omega
          clear hfu hol HO2 HO3
          generalize out.length = ol at *
          clear hf
          go_wp2_with fail
          go_quiet (fail)
          rename_i nq
          have HG4 := Lib.hid (below_drewN HG3.out nq)
          go_wp2
          go_ret3
          exact ⟨_, rfl, OwnTk.nil _ _, HG4.out⟩
        · rw [if_neg hf] at hS
          have hff : ((out.length : Int) == 256) = false := by rw [beq_eq_false_iff_ne]; omega
          have HS3 := Lib.hid hS
          have hol2 : out.length + 1 ≤ 256 := by omega
          clear hS hf hol
          have HIE := Lib.hid (fun w => lx_isEnd kd (str tx) ta w)
          obtain ⟨n7, hn7⟩ : ∃ n7, w2.heap.size = n7 := ⟨_, rfl⟩
          rw [hn7] at HT3 hbl t0 t1 t2 g0 g1 g2
          have HN7 := Lib.hid hn7
          obtain ⟨w3, hw3⟩ : ∃ w3, w2.alloc (.cells #[.int .i64 kd, .string (str tx), .int .i64 ta] 32) = w3 := ⟨_, rfl⟩
          have hs3 : w3.heap.size = n7 + 1 := by rw [← hw3, World.size_alloc, hn7]
          have HS3z := Lib.hid hs3
          rw [hw3] at HO3 HG3 HR3 HT3 c0 c1 f1 t0 t1 t2 g0 g1 g2
          have key : ∀ v5 w5, OwnTk (b + 1) w5 v5 (out ++ [(kd, tx, ta)]) → Below (b + 1) w3 w5 → (∀ k, k < w3.heap.size → (∀ g, (Value.slice oa out.length ocap).ownBlock = some g → k ≠ g) → w5.heap[k]? = w3.heap[k]?) →
              RdrAt w5 b s k1 ∧ Gr w w5 ∧ TB w5 n7 kd (str tx) ta := fun v5 w5 ho hb hk => by
            exact ⟨HR3.out.below hb (Nat.lt_succ_self b), Below.trans HG3.out (hb.mono (by have := HBw.out; omega)), HT3.out.of_block (hk n7 (by omega) fun g hg e => by have := HLT.out g hg; have := HN7.out; omega)⟩
          have KEY := Lib.hid key
          clear key
          go_wp2_with (at_builtin; refine push_tk hi hz0 hz1 hz2 rfl _ _ rfl _ out rfl HO3.out (by omega) (kd, tx, ta) (n7 + 1) (by omega) rfl (by omega) ?_; rintro v5 w5 HO5 hb5 hk5; obtain ⟨hr5, hg5, ht5⟩ := KEY.out v5 w5 HO5.out hb5 hk5; have HR5 := Lib.hid hr5; have HG5 := Lib.hid hg5; have HT5 := Lib.hid ht5; obtain ⟨y0, y1, y2, -, -, -⟩ := id ht5; clear hr5 hg5 ht5 hb5 hk5)
          refine (HIE.out _).mono ?_; rintro e w6 ⟨rfl, hg6⟩
          have HR6 := Lib.hid (HR5.out.gr hg6)
          have HG6 := Lib.hid (Gr.trans HG5.out hg6)
          have HO6 := Lib.hid (HO5.out.gr hg6)
          have HLN := Lib.hid (show (out ++ [(kd, tx, ta)]).length = out.length + 1 by simp)
          clear hg6 HR5 HG5 HO5 HT5 y0 y1 y2 HIE HR3 HG3 HO3 HT3 c0 c1 f1 t0 t1 t2 g0 g1 g2 hw3 hs3 hn7 KEY
          by_cases hk3 : kd = 3
          · have z3 : (kd == 3) = true := by simp [hk3]
            have hS := HS3.out
            rw [if_pos hk3] at hS
            subst hS
            clear hk3 HS3
            go_wp2
            go_ret3
            exact ⟨_, rfl, HO6.out.low (by have := HBw.out; omega), HG6.out⟩
          · have z3 : (kd == 3) = false := by rw [beq_eq_false_iff_ne]; exact hk3
            have hS := HS3.out
            rw [if_neg hk3] at hS
            have HS4 : Hid (scanF s.data.toList (257 - (out ++ [(kd, tx, ta)]).length) (out ++ [(kd, tx, ta)]) k1 = V) := Lib.hid (by rw [HLN.out, show 257 - (out.length + 1) = fu by omega]; exact hS)
            obtain ⟨oa2, ocap2, rfl, -, -, -, -, -⟩ := HO6.out.shape
            clear hk3 HS3 hS hfu
            go_wp2
            go_roundw
            case rel => exact ⟨k1, out ++ [(kd, tx, ta)], hk1, by rw [HLN.out]; exact hol2, trivial, HS4, by have h := HO6; rw [HLN.out] at h; exact h, HR6, HG6⟩
            case measure =>
              have e := HLN.out
              simp only [e]
              omega
      · have he2 : (er == 0) = false := by rw [beq_eq_false_iff_ne]; exact he
        have hS := HS2.out
        rw [if_pos he] at hS
        subst hS
        clear HS2 he hfu hol HO2 HO3
        generalize out.length = ol at *
        go_wp2_with fail
        go_quiet (fail)
        rename_i nq
        have HG4 := Lib.hid (below_drewN HG3.out nq)
        go_wp2
        go_ret3
        exact ⟨_, rfl, OwnTk.nil _ _, HG4.out⟩
end Go.Proofs.YtlcpfhgobfjioaaDoor
