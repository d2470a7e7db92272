/- Law 15: PaletteChanges. -/
import Derived.Test.YtgjlcmheipmmlaaPbF
set_option linter.unusedVariables false
set_option linter.unusedSimpArgs false
namespace Go.Proofs.Ytgjlcmheipmmlaa
open Go.RowKit
open Z
set_option maxRecDepth 100000 in
set_option maxHeartbeats 8000000 in
theorem l15_PaletteChanges {al : Option Addr} {l : List Pl} {cl : Nat} {m : PV} {g : Pl} {ae : Option Addr} {es : List En} {ce : Nat} (w : World) (hr : RdP w al l) (hlen : l.length ≤ 9223372036854775807) (hin : ∀ g ∈ l, g.2.length ≤ 9223372036854775807) (hcap : l.length ≤ cl) (hcm : cl ≤ maxLen) (hok : SlOk al cl) (hx : ChAt w m g) (he : Rd shE w ae es) (hle : es.length ≤ 9223372036854775807) :
    Calls Try.prog 8 #[.slice al l.length cl, .agg #[.int .i64 m.1, psl m], .slice ae es.length ce] w fun e w' => e = .returned (.bool true) ∧ Gr w w' := by
  obtain ⟨x, c, hm, cp⟩ := m
  obtain ⟨x', L⟩ := g
  obtain ⟨rfl, rfl⟩ : x = x' ∧ hm = L.length := ⟨hx.1, hx.2.1⟩
  show Calls _ _ #[_, .agg #[.int .i64 x, .slice c L.length cp], _] _ _
  have HAW := Lib.hid (fun W => l15_awake W)
  obtain ⟨w1, hw1⟩ : ∃ w1, w1 = w.alloc (.cells #[.int .i64 x, .slice c L.length cp] 39) := ⟨_, rfl⟩
  obtain ⟨p4, hp4⟩ : ∃ p4, p4 = w.heap.size := ⟨_, rfl⟩
  have hg1 : Gr w w1 := by rw [hw1]; exact (Gr.refl w).alloc _
  have HB := Lib.hid (show Blk shG w1 p4 (x, c, L.length, cp) by rw [hw1, hp4]; exact Blk.new shG w (x, c, L.length, cp))
  have HB0 := Lib.hid (show w1.cell? ⟨p4, 0, none⟩ = some (.int .i64 x) from HB.out.cell (k := 0) rfl)
  have HB1 := Lib.hid (show w1.cell? ⟨p4, 1, none⟩ = some (.slice c L.length cp) from HB.out.cell (k := 1) rfl)
  have HG1 := Lib.hid hg1
  have hxl : L.length ≤ 9223372036854775807 := by have h1 := hx.2.2.2.1; have h2 := hx.2.2.2.2.1; unfold maxLen at h2; simp only at h1 h2; omega
  have HGV := Lib.hid (l15_given (cl := cl) (ce := ce) w1 (hr.gr hg1) hlen hin (he.gr hg1) hle)
  have HCK := Lib.hid (show ∀ W, Gr w1 W → Calls Try.prog 18 #[.slice (some ⟨W.heap.size, 0, none⟩) 1 1] (W.alloc (.cells #[.int .i64 x, .slice c L.length cp] 39)) fun e w' => e = .returned (.int .i64 (palR [(x, L)])) ∧ Gr W w' from fun W hW => by
    have := r15_Check (l := [(x, L)]) (cap := 1) _ ⟨_, (Blk.new shG W (x, c, L.length, cp)).rd1, ChL.one (hx.gr (hg1.trans (hW.alloc _)))⟩ (by show 1 ≤ _; omega) (fun g hg => by rcases List.mem_singleton.1 hg with rfl; exact hxl)
    exact this.mono fun e w' h => ⟨h.1, ((Gr.refl W).alloc _).trans h.2⟩)
  have HFW := Lib.hid (show ∀ W, Gr w1 W → Calls Try.prog 11 #[.slice (some ⟨W.heap.size, 0, none⟩) 1 1] (W.alloc (.cells #[.int .i64 x, .slice c L.length cp] 39)) fun e w' => e = .returned (.bool (fewB [(x, L)])) ∧ Gr W w' from fun W hW => by
    have := r15_Few (l := [(x, L)]) (cap := 1) _ ⟨_, (Blk.new shG W (x, c, L.length, cp)).rd1, ChL.one (hx.gr (hg1.trans (hW.alloc _)))⟩ (by show 1 ≤ _; omega)
    exact this.mono fun e w' h => ⟨h.1, by rw [← h.2]; exact (Gr.refl W).alloc _⟩)
  by_cases hD : fewB l = true ∧ es.length ≤ 200 ∧ bothR l es = 0
  · rw [decide_eq_true hD] at HGV
    obtain ⟨-, h200, hb⟩ := hD
    by_cases hE2 : palR [(x, L)] = 0
    · have hfew := one_few hE2
      have hx0 := num_pos hE2
      obtain ⟨hp0, he0⟩ := bothR_zero.1 hb
      have hy0 := (entR_zero.1 he0).2.1
      have hl32 := (palR_zero.1 hp0).1
      have hPU := put_len (x, L) l
      have HPU1 := Lib.hid (fun W (hW : Gr w1 W) => pl_Put (l := l) (cap := cl) (x := x) (L := L) (c := c) (cp := cp) W (hr.gr (hg1.trans hW)) hlen hin hcap hcm hok (hx.gr (hg1.trans hW)))
      rw [hE2] at HCK
      rw [hfew] at HFW
      have hor : or2 (palR l) (palR [(x, L)]) = 0 := by rw [hp0, hE2]; rfl
      by_cases h33 : 32 < (putL l (x, L)).length
      · have hE : putE l (x, L) = 5 := by unfold putE; rw [if_pos hor, if_pos h33]
        have hl : l.length = 32 := by omega
        rw [hE] at HPU1
        rw [hl] at HPU1 HGV ⊢
        clear hr hlen hin hcap hx he hle hE2 hfew hx0 hp0 he0 hy0 hl32 hPU hor h33 hE hl hxl hb h200
        generalize es.length = ne at *
        generalize L.length = hm at *
        generalize putV l (x, L) = PV1 at *
        have hb0 := HB0.out
        have hb1 := HB1.out
        go_enter Try.func8, Try.ntmps8
        go_wp2_with fail
        rw [← hw1, ← hp4]
        clear hw1 hp4
        go_wp2_with fail
        refine HGV.out.mono ?_; rintro e w2 ⟨rfl, hg2⟩
        have HG2 := Lib.hid (HG1.out.trans hg2)
        have HC2 := Lib.hid (HCK.out w2 hg2)
        have b0 := gr_cell hg2 HB0.out
        have b1 := gr_cell hg2 HB1.out
        have HG12 := Lib.hid hg2
        clear hg2 HGV HCK hb0 hb1
        go_wp2_with fail
        refine HC2.out.mono ?_; rintro e w3 ⟨rfl, hg3⟩
        have HG3 := Lib.hid (HG2.out.trans hg3)
        have HG13 := Lib.hid (HG12.out.trans hg3)
        have HF3 := Lib.hid (HFW.out w3 HG13.out)
        have b0 := gr_cell HG13.out HB0.out
        have b1 := gr_cell HG13.out HB1.out
        clear hg3 HC2 HFW HG2 HG12
        go_wp2_with fail
        refine HF3.out.mono ?_; rintro e w4 ⟨rfl, hg4⟩
        have HG4 := Lib.hid (HG3.out.trans hg4)
        have HG14 := Lib.hid (HG13.out.trans hg4)
        have HP4 := Lib.hid (HPU1.out w4 HG14.out)
        have b0 := gr_cell HG14.out HB0.out
        have b1 := gr_cell HG14.out HB1.out
        clear hg4 HF3 HPU1 HG3 HG13
        go_wp2_with fail
        refine HP4.out.mono ?_; rintro e w5 ⟨⟨u5, rfl, -⟩, hg5⟩
        have HG5 := Lib.hid (HG4.out.trans hg5)
        clear hg5 HP4 HG4 HG14 b0 b1
        go_wp2_with fail
        refine (HAW.out _).mono ?_; rintro e w9 ⟨rfl, hg9⟩
        have HG9 := Lib.hid (HG5.out.trans hg9)
        clear hg9
        go_wp2
        go_ret
        exact ⟨rfl, HG9.out⟩
      · have hE : putE l (x, L) = 0 := by unfold putE; rw [if_pos hor, if_neg h33]
        have hV : putV l (x, L) = putL l (x, L) := by unfold putV; rw [if_pos hor, if_neg h33]
        rw [hE, hV] at HPU1
        have hPok := put_ok hp0 hE2 (by omega)
        have hDok := dropL_ok (c := x) hPok
        have hasc := (palR_zero.1 hp0).2.2
        have HLV := Lib.hid (show ∀ (aL : Option Addr) (cL : Nat) (Q : List Pl), palR Q = 0 → ∀ y ∈ es, ∀ W, RdP W aL Q → Calls Try.prog 26 #[.slice aL Q.length cL, .agg #[.int .i64 y.2.2.1, .int .i64 y.2.2.2], .agg #[.int .i64 y.1, .int .i64 y.2.1], .int .i64 7] W fun e w' => e = .returned (.tuple #[.int .i64 (toldR Q y 7), .int .i64 0]) ∧ Gr W w' from fun aL cL Q hQ y hy W hR => by
          have h1 := palR_zero.1 hQ
          have := pl_Level (cap := cL) y 7 W hR (by have := h1.1; omega) (fun g hg => by have := (huR_zero.1 (h1.2.1 g hg).2).1; omega)
          rw [(lev_right hQ (hy0 y hy) (by omega)).1, (lev_right hQ (hy0 y hy) (by omega)).2.1] at this
          exact this)
        have HDR := Lib.hid (show ∀ (aL : Option Addr) (cL : Nat) W, RdP W aL (putL l (x, L)) → Calls Try.prog 24 #[.slice aL (putL l (x, L)).length cL, .int .i64 x] W fun e w' => (∃ v, e = .returned (.tuple #[v, .bool true, .int .i64 0]) ∧ OwnP W.heap.size w' v (dropL (putL l (x, L)) x)) ∧ Gr W w' from fun aL cL W hR => by
          have h1 := palR_zero.1 hPok
          have := pl_Drop (cap := cL) x W hR (by have := h1.1; omega) (fun g hg => by have := (huR_zero.1 (h1.2.1 g hg).2).1; omega)
          rw [decide_eq_true ⟨hPok, (x, L), mem_putL.2 (.inl rfl), rfl⟩, hPok, if_pos rfl] at this
          exact this)
        have HPU2 := Lib.hid (show ∀ (aL : Option Addr) (cL : Nat) W, Gr w1 W → RdP W aL (dropL (putL l (x, L)) x) → (dropL (putL l (x, L)) x).length ≤ cL → cL ≤ maxLen → SlOk aL cL → Calls Try.prog 21 #[.slice aL (dropL (putL l (x, L)) x).length cL, .agg #[.int .i64 x, .slice c L.length cp]] W fun e w' => (∃ u, e = .returned (.tuple #[u, .int .i64 0]) ∧ OwnP W.heap.size w' u (putL l (x, L))) ∧ Gr W w' from fun aL cL W hW hR h1 h2 h3 => by
          have h4 := palR_zero.1 hDok
          have h5 : putL (dropL (putL l (x, L)) x) (x, L) = putL l (x, L) := (put_drop _ (x, L)).trans (put_put l (x, L))
          have hor2 : or2 (palR (dropL (putL l (x, L)) x)) (palR [(x, L)]) = 0 := by rw [hDok, hE2]; rfl
          have := pl_Put (x := x) (L := L) (c := c) (cp := cp) W hR (by have := h4.1; omega) (fun g hg => by have := (huR_zero.1 (h4.2.1 g hg).2).1; omega) h1 h2 h3 (hx.gr (hg1.trans hW))
          rw [show putE (dropL (putL l (x, L)) x) (x, L) = 0 by unfold putE; rw [if_pos hor2, h5, if_neg h33], show putV (dropL (putL l (x, L)) x) (x, L) = putL l (x, L) by unfold putV; rw [if_pos hor2, h5, if_neg h33]] at this
          exact this)
        have HTP := Lib.hid (fun (y : En) (h : y.2.2.1 ≠ x) => told_put (home := 7) (g := (x, L)) (y := y) hasc h)
        have HTG := Lib.hid (fun (y : En) (h : y.2.2.1 = x) => told_gone (l := putL l (x, L)) (home := 7) hx0 h)
        have HP32 := Lib.hid (show (putL l (x, L)).length ≤ 32 by omega)
        have HPok := Lib.hid hPok
        have HDok := Lib.hid hDok
        have Hp0 := Lib.hid hp0
        have HR := Lib.hid hr
        have HE := Lib.hid he
        clear hr hin hcap hx he hle hE2 hfew hx0 hp0 he0 hy0 hPU hor h33 hE hV hPok hDok hasc hxl hb hlen hok
        generalize hP : putL l (x, L) = P at *
        clear hP
        generalize dropL P x = Q at *
        generalize L.length = hm at *
        obtain ⟨n, hn⟩ : ∃ n, es.length = n := ⟨_, rfl⟩
        have HN := Lib.hid hn
        rw [hn] at HGV h200 ⊢
        clear hn
        have hb0 := HB0.out
        have hb1 := HB1.out
        go_enter Try.func8, Try.ntmps8
        go_wp2_with fail
        rw [← hw1, ← hp4]
        clear hw1 hp4
        go_wp2_with fail
        refine HGV.out.mono ?_; rintro e w2 ⟨rfl, hg2⟩
        have HG2 := Lib.hid (HG1.out.trans hg2)
        have HC2 := Lib.hid (HCK.out w2 hg2)
        have b0 := gr_cell hg2 HB0.out
        have b1 := gr_cell hg2 HB1.out
        have HG12 := Lib.hid hg2
        clear hg2 HGV HCK hb0 hb1
        go_wp2_with fail
        refine HC2.out.mono ?_; rintro e w3 ⟨rfl, hg3⟩
        have HG3 := Lib.hid (HG2.out.trans hg3)
        have HG13 := Lib.hid (HG12.out.trans hg3)
        have HF3 := Lib.hid (HFW.out w3 HG13.out)
        have b0 := gr_cell HG13.out HB0.out
        have b1 := gr_cell HG13.out HB1.out
        clear hg3 HC2 HFW HG2 HG12
        go_wp2_with fail
        refine HF3.out.mono ?_; rintro e w4 ⟨rfl, hg4⟩
        have HG4 := Lib.hid (HG3.out.trans hg4)
        have HG14 := Lib.hid (HG13.out.trans hg4)
        have HP4 := Lib.hid (HPU1.out w4 HG14.out)
        have b0 := gr_cell HG14.out HB0.out
        have b1 := gr_cell HG14.out HB1.out
        clear hg4 HF3 HPU1 HG3 HG13
        go_wp2_with fail
        refine HP4.out.mono ?_; rintro e w5 ⟨⟨u5, rfl, ho5⟩, hg5⟩
        obtain ⟨a5, c5, rfl, r5, l5, m5, s5⟩ := ho5.shape
        have HR5 := Lib.hid r5
        have HG5 := Lib.hid (HG4.out.trans hg5)
        have HG15 := Lib.hid (HG14.out.trans hg5)
        have HD5 := Lib.hid (HDR.out a5 c5 w5 r5)
        have b0 := gr_cell HG15.out HB0.out
        have b1 := gr_cell HG15.out HB1.out
        have HLV2 := Lib.hid (fun y hy => HLV.out a5 c5 P HPok.out y hy)
        have HST := Lib.hid (fun (b : Option Addr) (cb : Nat) W (hW : Gr w5 W) (hB : RdP W b P) => r15_SameT (ca := cb) (cb := c5) W hB (r5.gr hW) (by have := HP32.out; omega))
        clear hg5 HP4 HG4 HG14 r5 l5 m5 s5 ho5 HDR
        generalize hpn : P.length = pn at *
        have HPN := Lib.hid hpn
        clear hpn
        go_wp2_with fail
        refine HD5.out.mono ?_; rintro e w6 ⟨⟨u6, rfl, ho6⟩, hg6⟩
        obtain ⟨a6, c6, rfl, r6, l6, m6, s6⟩ := ho6.shape
        have HR6 := Lib.hid r6
        have HG6 := Lib.hid (HG5.out.trans hg6)
        have HG16 := Lib.hid (HG15.out.trans hg6)
        have HG56 := Lib.hid hg6
        have HLV3 := Lib.hid (fun y hy => HLV.out a6 c6 Q HDok.out y hy)
        have HLV1 := Lib.hid (fun y hy => HLV.out al cl l Hp0.out y hy)
        have HPU3 := Lib.hid (fun W (hW : Gr w6 W) => HPU2.out a6 c6 W (HG16.out.trans hW) (r6.gr hW) l6 m6 s6)
        clear hg6 HD5 r6 l6 m6 s6 ho6 HG5 HG15 b0 b1 HPU2 HLV
        generalize Q.length = qn at *
        generalize l.length = ln at *
        go_wp2_with fail
        go_loopw [71] (fun i wr => ∃ j : Nat, i = .int .i64 j ∧ j ≤ n ∧ Hid (Gr w6 wr)) (fun i _ => n - (intOf i).toNat)
        case atStart => exact ⟨0, rfl, Nat.zero_le _, Lib.hid (Gr.refl _)⟩
        case round =>
          obtain ⟨j, rfl, hj, HG⟩ := hrel
          by_cases hlt : j < n
          · have hjl : j < es.length := by rw [HN.out]; exact hlt
            obtain ⟨b, o, rfl, k0, k1, k2, k3⟩ := en_cells (HE.out.gr (HG6.out.trans HG.out)) hjl
            have hym := List.getElem_mem hjl
            have HY1 := Lib.hid (HLV1.out _ hym)
            have HY2 := Lib.hid (HLV2.out _ hym)
            have HY3 := Lib.hid (HLV3.out _ hym)
            have HT1 := Lib.hid (HTP.out es[j])
            have HT2 := Lib.hid (HTG.out es[j])
            clear hym HLV1 HLV2 HLV3 HTP HTG
            generalize es[j] = y at *
            generalize toldR l y 7 = A1 at *
            generalize toldR P y 7 = A2 at *
            generalize toldR Q y 7 = A3 at *
            obtain ⟨wa, hwa⟩ : ∃ wa, wa = wr.alloc (.cells #[.int .i64 y.1, .int .i64 y.2.1, .int .i64 y.2.2.1, .int .i64 y.2.2.2] 57) := ⟨_, rfl⟩
            obtain ⟨p, hp⟩ : ∃ p, p = wr.heap.size := ⟨_, rfl⟩
            have hga : Gr wr wa := by rw [hwa]; exact (Gr.refl wr).alloc _
            have HBX := Lib.hid (show Blk shE wa p y by rw [hwa, hp]; exact Blk.new shE wr y)
            have HGa := Lib.hid (HG.out.trans hga)
            have HL1 := Lib.hid (HY1.out wa (HR.out.gr (HG6.out.trans HGa.out)))
            have e0 := HBX.out.cell (k := 0) rfl
            have e1 := HBX.out.cell (k := 1) rfl
            have e2 := HBX.out.cell (k := 2) rfl
            have e3 := HBX.out.cell (k := 3) rfl
            go_wp2_with fail
            rw [← hwa, ← hp]
            go_wp2_with fail
            refine HL1.out.mono ?_; rintro e w7 ⟨rfl, hg7⟩
            have HG7 := Lib.hid (HGa.out.trans hg7)
            have HB7 := Lib.hid (HBX.out.gr hg7)
            have HL2 := Lib.hid (HY2.out w7 (HR5.out.gr (HG56.out.trans HG7.out)))
            clear hg7 hwa hp hga HGa HBX HY1 HL1 HY2 HG e0 e1 e2 e3 k0 k1 k2 k3
            have e0 := HB7.out.cell (k := 0) rfl
            have e1 := HB7.out.cell (k := 1) rfl
            have e2 := HB7.out.cell (k := 2) rfl
            have e3 := HB7.out.cell (k := 3) rfl
            go_wp2_with fail
            refine HL2.out.mono ?_; rintro e w8 ⟨rfl, hg8⟩
            have HG8 := Lib.hid (HG7.out.trans hg8)
            have HB8 := Lib.hid (HB7.out.gr hg8)
            have HL3 := Lib.hid (HY3.out w8 (HR6.out.gr HG8.out))
            clear hg8 HG7 HB7 HL2 HY3 e0 e1 e2 e3
            have e0 := HB8.out.cell (k := 0) rfl
            have e1 := HB8.out.cell (k := 1) rfl
            have e2 := HB8.out.cell (k := 2) rfl
            have e3 := HB8.out.cell (k := 3) rfl
            go_wp2_with fail
            refine HL3.out.mono ?_; rintro e wb ⟨rfl, hg9⟩
            have HGb := Lib.hid (HG8.out.trans hg9)
            have HBb := Lib.hid (HB8.out.gr hg9)
            clear hg9 HG8 HB8 HL3 e0 e1 e2 e3
            have e2 := HBb.out.cell (k := 2) rfl
            have b0 := gr_cell (HG16.out.trans HGb.out) HB0.out
            by_cases hyx : y.2.2.1 = x
            · have h3 := HT2.out hyx
              subst h3
              rw [hyx] at e2
              clear HT1 HT2 hyx
              go_wp2
              go_roundw
              case rel => exact ⟨j + 1, by go_num, by omega, HGb⟩
              case measure => simp [intOf]; omega
            · obtain ⟨h3, h4⟩ := HT1.out hyx
              subst h3
              subst h4
              have hne : (y.2.2.1 == x) = false := by simp [hyx]
              clear HT1 HT2
              go_wp2
              go_roundw
              case rel => exact ⟨j + 1, by go_num, by omega, HGb⟩
              case measure => simp [intOf]; omega
          · have HP7 := Lib.hid (HPU3.out wr HG.out)
            have b0 := gr_cell (HG16.out.trans HG.out) HB0.out
            have b1 := gr_cell (HG16.out.trans HG.out) HB1.out
            have HGz := Lib.hid (HG6.out.trans HG.out)
            have HG5z := Lib.hid (HG56.out.trans HG.out)
            clear HG HPU3 HLV1 HLV2 HLV3 HTP HTG
            go_wp2_with fail
            refine HP7.out.mono ?_; rintro e w7 ⟨⟨u7, rfl, ho7⟩, hg7⟩
            obtain ⟨a7, c7, rfl, r7, l7, m7, s7⟩ := ho7.shape
            have HS7 := Lib.hid (HST.out a7 c7 w7 (HG5z.out.trans hg7) r7)
            have HG7 := Lib.hid (HGz.out.trans hg7)
            clear hg7 ho7 r7 l7 m7 s7 HP7 HGz HG5z b0 b1 HST
            rw [HPN.out]
            go_wp2_with fail
            refine HS7.out.mono ?_; rintro e w8 ⟨rfl, hg8⟩
            have HG8 := Lib.hid (HG7.out.trans hg8)
            clear hg8 HS7 HG7
            go_wp2_with fail
            refine (HAW.out _).mono ?_; rintro e w9 ⟨rfl, hg9⟩
            have HG9 := Lib.hid (HG8.out.trans hg9)
            clear hg9
            go_wp2
            go_ret
            exact ⟨rfl, HG9.out⟩
    · have hz : (palR [(x, L)] == 0) = false := by simp [hE2]
      have hz2 : (palR [(x, L)] != 0) = true := by simp [hE2]
      have hz3 : decide (palR [(x, L)] = 0) = false := by simp [hE2]
      clear hr hlen hin hcap hcm hok hx he hle hxl hb h200 HFW
      generalize palR [(x, L)] = E2 at *
      generalize l.length = ln at *
      generalize es.length = ne at *
      generalize L.length = hm at *
      have hb0 := HB0.out
      have hb1 := HB1.out
      go_enter Try.func8, Try.ntmps8
      go_wp2_with fail
      rw [← hw1, ← hp4]
      clear hw1 hp4
      go_wp2_with fail
      refine HGV.out.mono ?_; rintro e w2 ⟨rfl, hg2⟩
      have HG2 := Lib.hid (HG1.out.trans hg2)
      have HC2 := Lib.hid (HCK.out w2 hg2)
      have b0 := gr_cell hg2 HB0.out
      have b1 := gr_cell hg2 HB1.out
      clear hg2 HGV HCK hb0 hb1
      go_wp2_with fail
      refine HC2.out.mono ?_; rintro e w3 ⟨rfl, hg3⟩
      have HG3 := Lib.hid (HG2.out.trans hg3)
      clear hg3 HC2 HG2 b0 b1
      go_wp2_with fail
      refine (HAW.out _).mono ?_; rintro e w9 ⟨rfl, hg9⟩
      have HG9 := Lib.hid (HG3.out.trans hg9)
      clear hg9
      go_wp2
      go_ret
      exact ⟨rfl, HG9.out⟩
  · rw [decide_eq_false hD] at HGV
    clear hr hlen hin hcap hcm hok hx he hle hD hxl HFW HCK
    generalize l.length = ln at *
    generalize es.length = ne at *
    generalize L.length = hm at *
    have hb0 := HB0.out
    have hb1 := HB1.out
    go_enter Try.func8, Try.ntmps8
    go_wp2_with fail
    rw [← hw1, ← hp4]
    clear hw1 hp4
    go_wp2_with fail
    refine HGV.out.mono ?_; rintro e w1b ⟨rfl, hg1b⟩
    have HG1b := Lib.hid (HG1.out.trans hg1b)
    clear hg1b HGV
    go_wp2_with fail
    refine (HAW.out _).mono ?_; rintro e w9 ⟨rfl, hg9⟩
    have HG9 := Lib.hid (HG1b.out.trans hg9)
    clear hg9
    go_wp2
    go_ret
    exact ⟨rfl, HG9.out⟩
end Go.Proofs.Ytgjlcmheipmmlaa
