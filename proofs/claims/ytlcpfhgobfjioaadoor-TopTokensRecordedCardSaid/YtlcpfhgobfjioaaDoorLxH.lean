/- Law 7: the reader's token. -/
import Derived.Test.YtlcpfhgobfjioaaDoorLxG
set_option linter.unusedVariables false
set_option linter.unusedSimpArgs false
namespace Go.Proofs.YtlcpfhgobfjioaaDoor
open Go.RowKit Go.Shelf
open Z
set_option maxRecDepth 100000 in
set_option maxHeartbeats 4000000 in
theorem lx_token (b : Nat) (s : ByteArray) (k : Nat) (w : World) (hr : RdrAt w b s k) (hs : s.size ≤ 100000) (hk : k ≤ s.size) :
    Calls Tryd.prog 35 #[.pointer (some ⟨b, 0, none⟩)] w fun e w' =>
      e = .returned (.tuple #[.agg #[.int .i64 (tokR s.data.toList k).1.1, .string (str (tokR s.data.toList k).1.2.1), .int .i64 (tokR s.data.toList k).1.2.2], .int .i64 (tokR s.data.toList k).2.1]) ∧ RdrAt w' b s (tokR s.data.toList k).2.2 ∧ Upd b w w' := by
  have hsz : s.data.toList.length = s.size := by simp
  have hb := skipB_le (l := s.data.toList) (k := k) (by omega)
  have hke := kindR_le (l := s.data.toList) (k := skipB s.data.toList k) hb.2
  have HWB := Lib.hid (word_bytes (l := s.data.toList) (k := skipB s.data.toList k) hb.2)
  obtain ⟨V, hV⟩ : ∃ V, tokR s.data.toList k = V := ⟨_, rfl⟩
  have HV := Lib.hid hV
  rw [hV]
  unfold tokR at HV
  have hbn : w.heap.size ≠ b := by have := cellLt hr.c0; omega
  have HA := Lib.hid (hr.gr ((Gr.refl w).alloc (.cells #[.int .i64 0, .string ⟨#[]⟩, .int .i64 0] 32)))
  have HB := Lib.hid (TB.new w 0 ⟨#[]⟩ 0 32)
  have HU := Lib.hid (Upd.of_gr (b := b) ((Gr.refl w).alloc (.cells #[.int .i64 0, .string ⟨#[]⟩, .int .i64 0] 32)))
  have HRUN := Lib.hid (fun v w' (h1 : RdrAt w' b s k) (h2 : ClsAt b w' v fun c => c == 32) => lx_run b s k v _ w' h1 h2 hs hk)
  have HKIND := Lib.hid (fun w' (h1 : RdrAt w' b s (skipB s.data.toList k)) => lx_kind b s (skipB s.data.toList k) w' h1 hs (by omega))
  have hsr : runK (fun c => c == 32) s.data.toList k = skipB s.data.toList k := (skipB_run _ _).symm
  rw [hsr] at HRUN
  rw [hsz] at hb hke
  clear hsr hr hV hsz
  generalize skipB s.data.toList k = k0 at *
  generalize hK : kindR s.data.toList k0 = KR at *
  obtain ⟨kd, er, k1⟩ := KR
  simp only at HV hke HKIND HWB
  clear hK
  obtain ⟨n, hn⟩ : ∃ n, w.heap.size = n := ⟨_, rfl⟩
  have HN := Lib.hid (Nat.le_of_eq hn)
  rw [hn] at HB hbn
  obtain ⟨⟨v1, v2, v3⟩, v4, v5⟩ := V
  go_enter Tryd.func35, Tryd.ntmps35
  go_wp2_with fail
  refine (lx_one_blank b _ HA.out.lt).mono ?_; rintro e w1 ⟨v, rfl, hc, hg⟩
  have HR1 := Lib.hid (HA.out.gr hg)
  have HB1 := Lib.hid (HB.out.gr hg)
  have HU1 := Lib.hid (HU.out.trans (Upd.of_gr hg))
  have HRN := Lib.hid (HRUN.out v w1 HR1.out hc)
  clear hc hg HA HB HU HRUN hn
  go_wp2_with fail
  refine HRN.out.mono ?_; rintro e w2 ⟨rfl, hr, hu⟩
  have HB2 := Lib.hid (HB1.out.upd hu hbn)
  have HR2 := Lib.hid hr
  have HU2 := Lib.hid (HU1.out.trans hu)
  obtain ⟨c0, c1, f1⟩ := hr
  clear hu HRN HR1 HU1 HB1
  go_wp2_with fail
  refine (HKIND.out _ HR2.out).mono ?_; rintro e w3 ⟨rfl, hr, hu⟩
  have HB3 := Lib.hid (HB2.out.upd hu hbn)
  have HR3 := Lib.hid hr
  have HU3 := Lib.hid (HU2.out.trans hu)
  clear hu HKIND HR2 HU2 HB2 c0 c1 f1
  by_cases he : er = 0
  · subst he
    have hv : (v1, v2, v3) = (kd, txtK kd (cutL s.data.toList k0 k1), (k0 : Int)) ∧ v4 = 0 ∧ v5 = k1 := by
      have := HV.out
      rw [if_neg (by simp)] at this
      simp only [Prod.mk.injEq] at this ⊢
      obtain ⟨⟨a, b, c⟩, d, e⟩ := this
      exact ⟨⟨a.symm, b.symm, c.symm⟩, d.symm, e.symm⟩
    simp only [Prod.mk.injEq] at hv
    obtain ⟨⟨rfl, rfl, rfl⟩, rfl, rfl⟩ := hv
    obtain ⟨c0, c1, f1⟩ := hr
    have hcut : (s.extract k0 v5).data.toList = cutL s.data.toList k0 v5 := cut_str hke.2
    have hesz : (s.extract k0 v5).size ≤ 100000 := by simp; omega
    have HC := Lib.hid hcut
    go_wp2_with fail
    go_quiet (fail)
    rename_i nq
    have HR4 := Lib.hid (HR3.out.gr (below_drewN (Gr.refl w3) nq))
    have HB4 := Lib.hid (HB3.out.gr (below_drewN (Gr.refl w3) nq))
    have HU4 := Lib.hid (HU3.out.trans (Upd.of_gr (b := b) (below_drewN (Gr.refl w3) nq)))
    clear HR3 HB3 HU3 c0 c1 f1 HV hcut
    generalize w3.drewN nq = w4 at *
    have HSE : Hid (str (cutL s.data.toList k0 v5) = s.extract k0 v5) := Lib.hid (by rw [← HC.out]; rfl)
    have HWA : Hid (v1 = 0 → Lib.hasPrefix (cutL s.data.toList k0 v5) [34] = false → ∀ (j : Nat) (x : UInt8), (s.extract k0 v5).data.toList[j]? = some x → x.toNat < 128) := Lib.hid fun h1 h2 j x hx => by
      rw [HC.out] at hx
      exact word_ascii (HWB.out h1 trivial h2 x (List.mem_of_getElem? hx))
    have HQ := Lib.hid (fun w => lx_isQuoted (s.extract k0 v5) w)
    have HLT : Hid (Lib.toLowerA (s.extract k0 v5).data.toList = Lib.toLowerA (cutL s.data.toList k0 v5)) := Lib.hid (by rw [HC.out])
    rw [HC.out] at HQ
    clear HWB
    generalize s.extract k0 v5 = tx at *
    by_cases h1 : v1 = 0
    · have z1 : (v1 == 0) = true := by simp [h1]
      cases hq : Lib.hasPrefix (cutL s.data.toList k0 v5) [34]
      · have HLO := Lib.hid (Tryd.strings_ToLower_ascii tx w4 (by omega) (HWA.out h1 hq))
        have HTX : Hid (str (txtK v1 (cutL s.data.toList k0 v5)) = (⟨(Lib.toLowerA tx.data.toList).toArray⟩ : ByteArray)) := Lib.hid (by rw [HLT.out]; unfold txtK; rw [if_pos ⟨h1, hq⟩]; rfl)
        rw [hq] at HQ
        generalize (⟨(Lib.toLowerA tx.data.toList).toArray⟩ : ByteArray) = ty at *
        clear h1 hq HWA HLT
        go_wp2_with fail
        refine (HQ.out _).mono ?_; rintro e w5 ⟨rfl, rfl⟩
        go_wp2_with fail
        refine HLO.out.mono ?_; rintro e w6 ⟨rfl, hg⟩
        have HR5 := Lib.hid (HR4.out.gr hg)
        have HB5 := Lib.hid (HB4.out.gr hg)
        have HU5 := Lib.hid (HU4.out.trans (Upd.of_gr (b := b) hg))
        clear HR4 HB4 HU4 hg HLO HQ
        obtain ⟨d0, d1, d2, g0, g1, g2⟩ := id HB5.out
        obtain ⟨x0, x1, x2, -, -, -⟩ := id (HB5.out.store v1 (ty) (k0 : Nat))
        have HR := Lib.hid (((HR5.out.other (o := 0) hbn.symm (.int .i64 v1)).other (o := 1) hbn.symm (.string (ty))).other (o := 2) hbn.symm (.int .i64 (k0 : Nat)))
        have HUx := Lib.hid (((HU5.out.fresh (o := 0) HN.out (.int .i64 v1)).fresh (o := 1) HN.out (.string (ty))).fresh (o := 2) HN.out (.int .i64 (k0 : Nat)))
        have HEQ : Hid ((ty) = str (txtK v1 (cutL s.data.toList k0 v5))) := Lib.hid (HTX.out.symm)
        go_wp2
        refine bodyPost_ret (v := .tuple #[.agg #[.int .i64 v1, .string (ty), .int .i64 (k0 : Nat)], .int .i64 0]) ?_ rfl ⟨by rw [HEQ.out], HR.out, HUx.out⟩
        simp [results, Tryd.results35, go_sem, x0, x1, x2]
      · have HTX : Hid (str (txtK v1 (cutL s.data.toList k0 v5)) = tx) := Lib.hid (by unfold txtK; rw [if_neg (by rw [hq]; simp)]; exact HSE.out)
        rw [hq] at HQ
        clear h1 hq HWA HLT
        go_wp2_with fail
        refine (HQ.out _).mono ?_; rintro e w5 ⟨rfl, rfl⟩
        have HR5 := HR4
        have HB5 := HB4
        have HU5 := HU4
        clear HR4 HB4 HU4 HQ
        obtain ⟨d0, d1, d2, g0, g1, g2⟩ := id HB5.out
        obtain ⟨x0, x1, x2, -, -, -⟩ := id (HB5.out.store v1 (tx) (k0 : Nat))
        have HR := Lib.hid (((HR5.out.other (o := 0) hbn.symm (.int .i64 v1)).other (o := 1) hbn.symm (.string (tx))).other (o := 2) hbn.symm (.int .i64 (k0 : Nat)))
        have HUx := Lib.hid (((HU5.out.fresh (o := 0) HN.out (.int .i64 v1)).fresh (o := 1) HN.out (.string (tx))).fresh (o := 2) HN.out (.int .i64 (k0 : Nat)))
        have HEQ : Hid ((tx) = str (txtK v1 (cutL s.data.toList k0 v5))) := Lib.hid (HTX.out.symm)
        go_wp2
        refine bodyPost_ret (v := .tuple #[.agg #[.int .i64 v1, .string (tx), .int .i64 (k0 : Nat)], .int .i64 0]) ?_ rfl ⟨by rw [HEQ.out], HR.out, HUx.out⟩
        simp [results, Tryd.results35, go_sem, x0, x1, x2]
    · have z1 : (v1 == 0) = false := by rw [beq_eq_false_iff_ne]; exact h1
      have HTX : Hid (str (txtK v1 (cutL s.data.toList k0 v5)) = tx) := Lib.hid (by unfold txtK; rw [if_neg (fun e => h1 e.1)]; exact HSE.out)
      have HR5 := HR4
      have HB5 := HB4
      have HU5 := HU4
      clear h1 HWA HLT HR4 HB4 HU4 HQ
      obtain ⟨d0, d1, d2, g0, g1, g2⟩ := id HB5.out
      obtain ⟨x0, x1, x2, -, -, -⟩ := id (HB5.out.store v1 (tx) (k0 : Nat))
      have HR := Lib.hid (((HR5.out.other (o := 0) hbn.symm (.int .i64 v1)).other (o := 1) hbn.symm (.string (tx))).other (o := 2) hbn.symm (.int .i64 (k0 : Nat)))
      have HUx := Lib.hid (((HU5.out.fresh (o := 0) HN.out (.int .i64 v1)).fresh (o := 1) HN.out (.string (tx))).fresh (o := 2) HN.out (.int .i64 (k0 : Nat)))
      have HEQ : Hid ((tx) = str (txtK v1 (cutL s.data.toList k0 v5))) := Lib.hid (HTX.out.symm)
      go_wp2
      refine bodyPost_ret (v := .tuple #[.agg #[.int .i64 v1, .string (tx), .int .i64 (k0 : Nat)], .int .i64 0]) ?_ rfl ⟨by rw [HEQ.out], HR.out, HUx.out⟩
      simp [results, Tryd.results35, go_sem, x0, x1, x2]
  · have hv : ((v1, v2, v3), v4, v5) = ((0, [], 0), er, k0) := by have := HV.out; rw [if_pos he] at this; exact this.symm
    simp only [Prod.mk.injEq] at hv
    obtain ⟨⟨rfl, rfl, rfl⟩, rfl, rfl⟩ := hv
    have he2 : (v4 == 0) = false := by rw [beq_eq_false_iff_ne]; exact he
    obtain ⟨c0, c1, f1⟩ := hr
    have HR4 := Lib.hid (HR3.out.set v5)
    have HU4 := Lib.hid (HU3.out.trans (Upd.set (b := b) (o := 1) w3 (.int .i64 (v5 : Nat))))
    have HB4 := Lib.hid (HB3.out.upd (Upd.set (b := b) (o := 1) w3 (.int .i64 (v5 : Nat))) hbn)
    clear HR3 HU3 HB3 HWB HV
    generalize hw4 : w3.setCell ⟨b, 1, none⟩ (.int .i64 (v5 : Nat)) = w4 at *
    obtain ⟨d0, d1, d2, g0, g1, g2⟩ := id HB4.out
    obtain ⟨x0, x1, x2, -, -, -⟩ := id (HB4.out.store 0 ⟨#[]⟩ 0)
    have HR := Lib.hid (((HR4.out.other (o := 0) hbn.symm (.int .i64 0)).other (o := 1) hbn.symm (.string ⟨#[]⟩)).other (o := 2) hbn.symm (.int .i64 0))
    have HUx := Lib.hid (((HU4.out.fresh (o := 0) HN.out (.int .i64 0)).fresh (o := 1) HN.out (.string ⟨#[]⟩)).fresh (o := 2) HN.out (.int .i64 0))
    clear he
    go_wp2
    refine bodyPost_ret (v := .tuple #[.agg #[.int .i64 0, .string ⟨#[]⟩, .int .i64 0], .int .i64 v4]) ?_ rfl ⟨rfl, HR.out, HUx.out⟩
    simp [results, Tryd.results35, go_sem, x0, x1, x2]
end Go.Proofs.YtlcpfhgobfjioaaDoor
