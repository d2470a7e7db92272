/- Law 15: PalettePuts. -/
import Derived.Test.YtgjlcmheipmmlaaPbJ
set_option linter.unusedVariables false
set_option linter.unusedSimpArgs false
namespace Go.Proofs.Ytgjlcmheipmmlaa
open Go.RowKit
open Z
theorem putV_len (l : List Pl) (g : Pl) : (putV l g).length ≤ 100000 := by
  unfold putV
  split
  · split
    · simp
    · omega
  · simp
set_option maxRecDepth 100000 in
set_option maxHeartbeats 12000000 in
theorem l15_PalettePuts {al : Option Addr} {l : List Pl} {cl : Nat} {m : PV} {g : Pl} {num : Int} (w : World) (hr : RdP w al l) (hlen : l.length ≤ 9223372036854775807) (hin : ∀ g ∈ l, g.2.length ≤ 9223372036854775807) (hcap : l.length ≤ cl) (hcm : cl ≤ maxLen) (hok : SlOk al cl) (hx : ChAt w m g) :
    Calls Try.prog 4 #[.slice al l.length cl, .agg #[.int .i64 m.1, psl m], .int .i64 num] w fun e w' => e = .returned (.bool true) ∧ Gr w w' := by
  obtain ⟨x, c, hm, cp⟩ := m
  obtain ⟨x', L⟩ := g
  obtain ⟨rfl, rfl⟩ : x = x' ∧ hm = L.length := ⟨hx.1, hx.2.1⟩
  show Calls _ _ #[_, .agg #[.int .i64 x, .slice c L.length cp], _] _ _
  have HAW := Lib.hid (fun W => l15_awake W)
  obtain ⟨w1, hw1⟩ : ∃ w1, w1 = w.alloc (.cells #[.int .i64 x, .slice c L.length cp] 39) := ⟨_, rfl⟩
  obtain ⟨p4, hp4⟩ : ∃ p4, p4 = w.heap.size := ⟨_, rfl⟩
  have hg1 : Gr w w1 := by rw [hw1]; exact (Gr.refl w).alloc _
  have HB := Lib.hid (show Blk shG w1 p4 (x, c, L.length, cp) by rw [hw1, hp4]; exact Blk.new shG w (x, c, L.length, cp))
  have HB0 := Lib.hid (show w1.cell? ⟨p4, 0, none⟩ = some (.int .i64 x) from HB.out.cell (k := 0) rfl)
  have HB1 := Lib.hid (show w1.cell? ⟨p4, 1, none⟩ = some (.slice c L.length cp) from HB.out.cell (k := 1) rfl)
  have HG1 := Lib.hid hg1
  have HF1 := Lib.hid (r15_Few (cap := cl) w1 (hr.gr hg1) hlen)
  have HFW := Lib.hid (show ∀ W, Gr w1 W → Calls Try.prog 11 #[.slice (some ⟨W.heap.size, 0, none⟩) 1 1] (W.alloc (.cells #[.int .i64 x, .slice c L.length cp] 39)) fun e w' => e = .returned (.bool (fewB [(x, L)])) ∧ Gr W w' from fun W hW => by
    have := r15_Few (l := [(x, L)]) (cap := 1) _ ⟨_, (Blk.new shG W (x, c, L.length, cp)).rd1, ChL.one (hx.gr (hg1.trans (hW.alloc _)))⟩ (by show 1 ≤ _; omega)
    exact this.mono fun e w' h => ⟨h.1, by rw [← h.2]; exact (Gr.refl W).alloc _⟩)
  have HFI1 := Lib.hid (fun W (hW : Gr w1 W) => pl_Find (cap := cl) num W (hr.gr (hg1.trans hW)) hlen hin)
  have HFI2 := Lib.hid (fun W (hW : Gr w1 W) => r15_Find (cap := cl) num W (hr.gr (hg1.trans hW)) hlen hin)
  have HPU1 := Lib.hid (fun W (hW : Gr w1 W) => pl_Put (l := l) (cap := cl) (x := x) (L := L) (c := c) (cp := cp) W (hr.gr (hg1.trans hW)) hlen hin hcap hcm hok (hx.gr (hg1.trans hW)))
  have HPU2 := Lib.hid (fun W (hW : Gr w1 W) => r15_Put (l := l) (cap := cl) (x := x) (L := L) (c := c) (cp := cp) W (hr.gr (hg1.trans hW)) hlen hin (hx.gr (hg1.trans hW)))
  have HDR1 := Lib.hid (fun W (hW : Gr w1 W) => pl_Drop (cap := cl) num W (hr.gr (hg1.trans hW)) hlen hin)
  have HDR2 := Lib.hid (fun W (hW : Gr w1 W) => r15_Drop (cap := cl) num W (hr.gr (hg1.trans hW)) hlen hin)
  have HPV := Lib.hid (putV_len l (x, L))
  have HDL : Hid ((if palR l = 0 then dropL l num else []).length ≤ 100000) := Lib.hid (by
    split
    · rename_i h; exact Nat.le_trans (List.length_filter_le _ _) (by have := (palR_zero.1 h).1; omega)
    · simp)
  have HS := Lib.hid (fun (Q : List Pl) (hQ : Q.length ≤ 100000) (a b : Option Addr) (ca cb : Nat) W (h1 : RdP W a Q) (h2 : RdP W b Q) => r15_SameT (ca := ca) (cb := cb) W h1 h2 hQ)
  clear hr hlen hin hcap hcm hok hx hg1
  generalize fewB l = F1 at *
  generalize fewB [(x, L)] = F2 at *
  generalize findI l num = FI at *
  generalize (decide (palR l = 0) && hasN l num) = FB at *
  generalize decide (palR l = 0 ∧ ∃ g ∈ l, g.1 = num) = DB at *
  generalize (if palR l = 0 then dropL l num else []) = DL at *
  generalize palR l = E at *
  generalize putE l (x, L) = PE at *
  generalize putV l (x, L) = PVv at *
  generalize l.length = ln at *
  generalize L.length = hm at *
  have hb0 := HB0.out
  have hb1 := HB1.out
  go_enter Try.func4, Try.ntmps4
  go_wp2_with fail
  rw [← hw1, ← hp4]
  clear hw1 hp4
  refine HF1.out.mono ?_; rintro e w2 ⟨rfl, rfl⟩
  cases F1
  · go_wp2_with fail
    refine (HAW.out _).mono ?_; rintro e w9 ⟨rfl, hg9⟩
    have HG9 := Lib.hid (HG1.out.trans hg9)
    clear hg9
    go_wp2
    go_ret
    exact ⟨rfl, HG9.out⟩
  · have HF2 := Lib.hid (HFW.out w1 (Gr.refl _))
    clear HFW HF1
    go_wp2_with fail
    refine HF2.out.mono ?_; rintro e w2 ⟨rfl, hg2⟩
    have HG2 := Lib.hid hg2
    have b0 := gr_cell hg2 HB0.out
    have b1 := gr_cell hg2 HB1.out
    clear hg2 HF2 hb0 hb1
    cases F2
    · have HGw := Lib.hid (HG1.out.trans HG2.out)
      go_wp2_with fail
      refine (HAW.out _).mono ?_; rintro e w9 ⟨rfl, hg9⟩
      have HG9 := Lib.hid (HGw.out.trans hg9)
      clear hg9
      go_wp2
      go_ret
      exact ⟨rfl, HG9.out⟩
    · have HX := Lib.hid (HFI1.out w2 HG2.out)
      clear b0 b1 HFI1
      go_wp2_with fail
      refine HX.out.mono ?_; rintro e w3 ⟨rfl, hg3⟩
      have HG3 := Lib.hid (HG2.out.trans hg3)
      have HX3 := Lib.hid (HFI2.out w3 HG3.out)
      clear hg3 HX HFI2 HG2
      go_wp2_with fail
      refine HX3.out.mono ?_; rintro e w4 ⟨rfl, hg4⟩
      have HG4 := Lib.hid (HG3.out.trans hg4)
      have HX4 := Lib.hid (HPU1.out w4 HG4.out)
      have b0 := gr_cell HG4.out HB0.out
      have b1 := gr_cell HG4.out HB1.out
      clear hg4 HX3 HPU1 HG3
      go_wp2_with fail
      refine HX4.out.mono ?_; rintro e w5 ⟨⟨u5, rfl, ho5⟩, hg5⟩
      obtain ⟨a5, c5, rfl, r5, -, -, -⟩ := ho5.shape
      have HR5 := Lib.hid r5
      have HG5 := Lib.hid (HG4.out.trans hg5)
      have HX5 := Lib.hid (HPU2.out w5 HG5.out)
      have b0 := gr_cell HG5.out HB0.out
      have b1 := gr_cell HG5.out HB1.out
      clear hg5 ho5 r5 HX4 HPU2 HG4
      go_wp2_with fail
      refine HX5.out.mono ?_; rintro e w6 ⟨⟨u6, rfl, ho6⟩, hg6⟩
      obtain ⟨a6, c6, rfl, r6, -, -, -⟩ := ho6.shape
      have HG6 := Lib.hid (HG5.out.trans hg6)
      have HX6 := Lib.hid (HS.out PVv HPV.out a5 a6 c5 c6 w6 (HR5.out.gr hg6) r6)
      clear hg6 ho6 r6 HX5 HG5 HR5 b0 b1
      generalize PVv.length = pn at *
      go_wp2_with fail
      refine HX6.out.mono ?_; rintro e w7 ⟨rfl, hg7⟩
      have HG7 := Lib.hid (HG6.out.trans hg7)
      have HX7 := Lib.hid (HDR1.out w7 HG7.out)
      clear hg7 HX6 HDR1 HG6
      go_wp2_with fail
      refine HX7.out.mono ?_; rintro e w8 ⟨⟨u8, rfl, ho8⟩, hg8⟩
      obtain ⟨a8, c8, rfl, r8, -, -, -⟩ := ho8.shape
      have HR8 := Lib.hid r8
      have HG8 := Lib.hid (HG7.out.trans hg8)
      have HX8 := Lib.hid (HDR2.out w8 HG8.out)
      clear hg8 ho8 r8 HX7 HDR2 HG7
      go_wp2_with fail
      refine HX8.out.mono ?_; rintro e wb ⟨⟨ub, rfl, hob⟩, hgb⟩
      obtain ⟨ab, cb, rfl, rb, -, -, -⟩ := hob.shape
      have HGb := Lib.hid (HG8.out.trans hgb)
      have HXb := Lib.hid (HS.out DL HDL.out a8 ab c8 cb wb (HR8.out.gr hgb) rb)
      clear hgb hob rb HX8 HG8 HR8
      generalize DL.length = dn at *
      go_wp2_with fail
      refine HXb.out.mono ?_; rintro e wc ⟨rfl, hgc⟩
      have HGc := Lib.hid (HG1.out.trans (HGb.out.trans hgc))
      clear hgc HXb HGb
      go_wp2_with fail
      refine (HAW.out _).mono ?_; rintro e w9 ⟨rfl, hg9⟩
      have HG9 := Lib.hid (HGc.out.trans hg9)
      clear hg9
      go_wp2
      go_ret
      exact ⟨rfl, HG9.out⟩
end Go.Proofs.Ytgjlcmheipmmlaa
