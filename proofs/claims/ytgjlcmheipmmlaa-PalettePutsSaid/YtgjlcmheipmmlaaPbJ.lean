/- Law 15: Put of the reference, PalettePuts. -/
import Derived.Test.YtgjlcmheipmmlaaPbI
set_option linter.unusedVariables false
set_option linter.unusedSimpArgs false
namespace Go.Proofs.Ytgjlcmheipmmlaa
open Go.RowKit
open Z
set_option maxRecDepth 100000 in
set_option maxHeartbeats 8000000 in
theorem r15_Put {a : Option Addr} {l : List Pl} {cap : Nat} {x : Int} {L : List Hu} {c : Option Addr} {cp : Nat} (w : World) (hr : RdP w a l) (hlen : l.length ≤ 9223372036854775807) (hin : ∀ g ∈ l, g.2.length ≤ 9223372036854775807) (hx : ChAt w (x, c, L.length, cp) (x, L)) :
    Calls Try.prog 22 #[.slice a l.length cap, .agg #[.int .i64 x, .slice c L.length cp]] w fun e w' => (∃ u, e = .returned (.tuple #[u, .int .i64 (putE l (x, L))]) ∧ OwnP w.heap.size w' u (putV l (x, L))) ∧ Gr w w' := by
  obtain ⟨w1, hw1⟩ : ∃ w1, w1 = w.alloc (.cells #[.int .i64 x, .slice c L.length cp] 39) := ⟨_, rfl⟩
  obtain ⟨p3, hp3⟩ : ∃ p3, p3 = w.heap.size := ⟨_, rfl⟩
  have hg1 : Gr w w1 := by rw [hw1]; exact (Gr.refl w).alloc _
  have HB := Lib.hid (show Blk shG w1 p3 (x, c, L.length, cp) by rw [hw1, hp3]; exact Blk.new shG w (x, c, L.length, cp))
  have HB0 := Lib.hid (show w1.cell? ⟨p3, 0, none⟩ = some (.int .i64 x) from HB.out.cell (k := 0) rfl)
  have HB1 := Lib.hid (show w1.cell? ⟨p3, 1, none⟩ = some (.slice c L.length cp) from HB.out.cell (k := 1) rfl)
  have HG1 := Lib.hid hg1
  have hxl : L.length ≤ 9223372036854775807 := by have h1 := hx.2.2.2.1; have h2 := hx.2.2.2.2.1; unfold maxLen at h2; simp only at h1 h2; omega
  have HC1 := Lib.hid (r15_Check (cap := cap) w1 (hr.gr hg1) hlen hin)
  have HCK := Lib.hid (show ∀ W, Gr w1 W → Calls Try.prog 18 #[.slice (some ⟨W.heap.size, 0, none⟩) 1 1] (W.alloc (.cells #[.int .i64 x, .slice c L.length cp] 39)) fun e w' => e = .returned (.int .i64 (palR [(x, L)])) ∧ Gr W w' from fun W hW => by
    have := r15_Check (l := [(x, L)]) (cap := 1) _ ⟨_, (Blk.new shG W (x, c, L.length, cp)).rd1, ChL.one (hx.gr (hg1.trans (hW.alloc _)))⟩ (by show 1 ≤ _; omega) (fun g hg => by rcases List.mem_singleton.1 hg with rfl; exact hxl)
    exact this.mono fun e w' h => ⟨h.1, ((Gr.refl W).alloc _).trans h.2⟩)
  by_cases h1 : palR l = 0
  · by_cases h2 : palR [(x, L)] = 0
    · have hor : or2 (palR l) (palR [(x, L)]) = 0 := by rw [h1, h2]; rfl
      have h32 := (palR_zero.1 h1).1
      have hasc := (palR_zero.1 h1).2.2
      have hpl := put_len (x, L) l
      have HPC := Lib.hid (show ∀ W, Gr w1 W → Calls Try.prog 63 #[.slice a l.length cap, .agg #[.int .i64 x, .slice c L.length cp]] W fun e w' => OwnPRet W.heap.size w' e (putL l (x, L)) ∧ Gr W w' from fun W hW => by
        obtain ⟨M, hM, hch⟩ := hr.gr (hg1.trans hW)
        have := r15_Placed (cap := cap) W hM hch (by omega) (hx.gr (hg1.trans hW))
        rwa [withF_put (x, L) l hasc] at this)
      rw [h1] at HC1
      rw [h2] at HCK
      have hPE : putE l (x, L) = if 32 < (putL l (x, L)).length then 5 else 0 := by unfold putE; rw [if_pos hor]
      have hPV : putV l (x, L) = if 32 < (putL l (x, L)).length then [] else putL l (x, L) := by unfold putV; rw [if_pos hor]
      rw [hPE, hPV]
      clear hr hlen hin hx hg1 hxl h1 h2 hor hPE hPV hasc
      generalize putL l (x, L) = P at *
      generalize l.length = n at *
      generalize L.length = hm at *
      by_cases h33 : 32 < P.length
      · rw [if_pos h33, if_pos h33]
        have hb0 := HB0.out
        have hb1 := HB1.out
        go_enter Try.func22, Try.ntmps22
        go_wp2_with fail
        rw [← hw1, ← hp3]
        clear hw1 hp3
        refine HC1.out.mono ?_; rintro e w2 ⟨rfl, hg2⟩
        have HG2 := Lib.hid hg2
        have HC2 := Lib.hid (HCK.out w2 hg2)
        have b0 := gr_cell hg2 HB0.out
        have b1 := gr_cell hg2 HB1.out
        clear hg2 HC1 HCK hb0 hb1
        go_wp2_with fail
        refine HC2.out.mono ?_; rintro e w3 ⟨rfl, hg3⟩
        have HG3 := Lib.hid (HG2.out.trans hg3)
        have HP3 := Lib.hid (HPC.out w3 HG3.out)
        have b0 := gr_cell HG3.out HB0.out
        have b1 := gr_cell HG3.out HB1.out
        clear hg3 HC2 HG2 HPC
        go_wp2_with fail
        refine HP3.out.mono ?_; rintro e w4 ⟨⟨v, rfl, ho⟩, hg4⟩
        obtain ⟨a4, c4, rfl, r4, l4, m4, s4⟩ := ho.shape
        have HG4 := Lib.hid (HG1.out.trans (HG3.out.trans hg4))
        clear hg4 ho r4 l4 m4 s4 HP3 HG3
        generalize P.length = pn at *
        go_wp2
        go_ret2
        exact ⟨⟨_, rfl, OwnP.nil _ _⟩, HG4.out⟩
      · rw [if_neg h33, if_neg h33]
        have hb0 := HB0.out
        have hb1 := HB1.out
        go_enter Try.func22, Try.ntmps22
        go_wp2_with fail
        rw [← hw1, ← hp3]
        clear hw1 hp3
        refine HC1.out.mono ?_; rintro e w2 ⟨rfl, hg2⟩
        have HG2 := Lib.hid hg2
        have HC2 := Lib.hid (HCK.out w2 hg2)
        have b0 := gr_cell hg2 HB0.out
        have b1 := gr_cell hg2 HB1.out
        clear hg2 HC1 HCK hb0 hb1
        go_wp2_with fail
        refine HC2.out.mono ?_; rintro e w3 ⟨rfl, hg3⟩
        have HG3 := Lib.hid (HG2.out.trans hg3)
        have HP3 := Lib.hid (HPC.out w3 HG3.out)
        have b0 := gr_cell HG3.out HB0.out
        have b1 := gr_cell HG3.out HB1.out
        clear hg3 HC2 HG2 HPC
        go_wp2_with fail
        refine HP3.out.mono ?_; rintro e w4 ⟨⟨v, rfl, ho⟩, hg4⟩
        have HO4 := Lib.hid (ho.low (HG1.out.trans HG3.out).size)
        obtain ⟨a4, c4, rfl, r4, l4, m4, s4⟩ := ho.shape
        have HG4 := Lib.hid (HG1.out.trans (HG3.out.trans hg4))
        clear hg4 ho r4 l4 m4 s4 HP3 HG3
        obtain ⟨pn, hpn⟩ : ∃ pn, P.length = pn := ⟨_, rfl⟩
        rw [hpn] at HO4 h33 hpl ⊢
        clear hpn
        go_wp2
        go_ret2
        exact ⟨⟨_, rfl, HO4.out⟩, HG4.out⟩
    · have hPE : putE l (x, L) = palR [(x, L)] := by unfold putE or2; rw [if_pos h1, if_neg h2]
      have hPV : putV l (x, L) = [] := by unfold putV or2; rw [if_pos h1, if_neg h2]
      have hz : (palR [(x, L)] == 0) = false := by simp [h2]
      rw [hPE, hPV]
      rw [h1] at HC1
      clear hr hlen hin hx hg1 hxl h1 hPE hPV
      generalize palR [(x, L)] = E2 at *
      generalize l.length = n at *
      generalize L.length = hm at *
      have hb0 := HB0.out
      have hb1 := HB1.out
      go_enter Try.func22, Try.ntmps22
      go_wp2_with fail
      rw [← hw1, ← hp3]
      clear hw1 hp3
      refine HC1.out.mono ?_; rintro e w2 ⟨rfl, hg2⟩
      have HG2 := Lib.hid hg2
      have HC2 := Lib.hid (HCK.out w2 hg2)
      have b0 := gr_cell hg2 HB0.out
      have b1 := gr_cell hg2 HB1.out
      clear hg2 HC1 HCK hb0 hb1
      go_wp2_with fail
      refine HC2.out.mono ?_; rintro e w3 ⟨rfl, hg3⟩
      have HG3 := Lib.hid (HG1.out.trans (HG2.out.trans hg3))
      clear hg3 HC2 HG2 b0 b1
      go_wp2
      go_ret2
      exact ⟨⟨_, rfl, OwnP.nil _ _⟩, HG3.out⟩
  · have hor : or2 (palR l) (palR [(x, L)]) = palR l := by unfold or2; rw [if_neg h1]
    have hPE : putE l (x, L) = palR l := by unfold putE; rw [hor, if_neg h1]
    have hPV : putV l (x, L) = [] := by unfold putV; rw [hor, if_neg h1]
    have hz : (palR l == 0) = false := by simp [h1]
    rw [hPE, hPV]
    clear hr hlen hin hx hg1 hxl hor hPE hPV HCK
    generalize palR l = E1 at *
    generalize l.length = n at *
    generalize L.length = hm at *
    have hb0 := HB0.out
    have hb1 := HB1.out
    go_enter Try.func22, Try.ntmps22
    go_wp2_with fail
    rw [← hw1, ← hp3]
    clear hw1 hp3
    refine HC1.out.mono ?_; rintro e w2 ⟨rfl, hg2⟩
    have HG2 := Lib.hid (HG1.out.trans hg2)
    clear hg2 HC1 hb0 hb1
    go_wp2
    go_ret2
    exact ⟨⟨_, rfl, OwnP.nil _ _⟩, HG2.out⟩
end Go.Proofs.Ytgjlcmheipmmlaa
