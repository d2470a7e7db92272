/- Law 11: the program's Check and Mix. -/
import Derived.Test.YtipfofdjngnkpaaCoF
import Derived.Deep.OwnRows
import Derived.OwnWalk
set_option linter.unusedVariables false
set_option linter.unusedSimpArgs false
namespace Go.Proofs.Ytipfofdjngnkpaa
open Go.RowKit
open Z
/-- a block of ints -/
def rowI (n : Nat) (f : Nat → Int) : Array Value := ((List.range n).map fun j => Value.int .i64 (f j)).toArray
theorem rowI_get {n : Nat} {f : Nat → Int} {k : Nat} (h : k < n) : (rowI n f)[k]? = some (.int .i64 (f k)) := by simp [rowI, h]
theorem rowI_set (n : Nat) (f : Nat → Int) (k : Nat) (v : Int) : (rowI n f).setIfInBounds k (.int .i64 v) = rowI n fun j => if j = k then v else f j := by
  apply Array.ext_getElem?
  intro i
  simp only [rowI, Array.getElem?_setIfInBounds, List.getElem?_toArray, List.getElem?_map, List.size_toArray, List.length_map, List.length_range]
  by_cases hki : k = i
  · subst hki
    by_cases hk : k < n
    · simp [hk]
    · simp [hk]
  · rw [if_neg hki]
    by_cases hi : i < n
    · rw [List.getElem?_range hi]
      simp [show ¬ i = k from fun e => hki e.symm]
    · simp [hi]
theorem rowI_zero (n : Nat) : madeCells #[.int .i64 0] n = rowI n fun _ => 0 := by
  apply Array.ext_getElem?
  intro i
  by_cases hi : i < n
  · simp [madeCells, rowI, hi, Nat.mod_one]
  · simp [madeCells, rowI, hi]
def IntsF (w : World) (g n : Nat) (f : Nat → Int) : Prop := w.heap[g]? = some (.cells (rowI n f) 3 (0, 0))
theorem IntsF.gr {w w' : World} {g n : Nat} {f : Nat → Int} (h : IntsF w g n f) (hg : Gr w w') : IntsF w' g n f := (hg.block g (Array.getElem?_eq_some_iff.1 h).1).trans h
theorem IntsF.drew {w : World} {g n : Nat} {f : Nat → Int} (h : IntsF w g n f) : IntsF w.drew g n f := h
theorem IntsF.new (w : World) (n : Nat) : IntsF (w.alloc (.cells (madeCells #[.int .i64 0] n) 3)) w.heap.size n fun _ => 0 := by
  unfold IntsF
  rw [rowI_zero]
  exact heap_alloc_last w _
theorem IntsF.cell {w : World} {g n : Nat} {f : Nat → Int} (H : IntsF w g n f) {k : Nat} (hk : k < n) : w.cell? ⟨g, k, none⟩ = some (.int .i64 (f k)) := by
  rw [cell_of_row _ _ _ _ _ _ H]; exact rowI_get hk
theorem IntsF.set {w : World} {g n : Nat} {f : Nat → Int} (H : IntsF w g n f) (k : Nat) (v : Int) : IntsF (w.setCell ⟨g, k, none⟩ (.int .i64 v)) g n fun j => if j = k then v else f j := by
  unfold IntsF at *
  rw [← rowI_set]
  exact heap_setCell_same w g k _ _ _ H
theorem IntsF.other {w : World} {g n : Nat} {f : Nat → Int} (H : IntsF w g n f) {b o : Nat} {v : Value} (hb : g ≠ b) : IntsF (w.setCell ⟨b, o, none⟩ v) g n f := by
  unfold IntsF at *
  rw [← H]; exact Below.heap_setCell w _ v g hb
theorem IntsF.fz {w : World} {g n : Nat} {f : Nat → Int} (H : IntsF w g n f) (k : Nat) : w.frozen? ⟨g, k, none⟩ = false := by
  unfold IntsF at H
  simp [World.frozen?, H]
theorem IntsF.rd {w : World} {g n : Nat} {f : Nat → Int} (H : IntsF w g n f) {L : List Int} (hL : L.length = n) (h : ∀ j (hj : j < L.length), f j = L[j]) : RdI w (some ⟨g, 0, none⟩) L := fun k hk => by
  refine ⟨g, 0, rfl, ?_⟩
  rw [Nat.zero_add, H.cell (by omega), h k hk]
theorem Try.infoI : (Try.prog.info? 3).map (fun i => (i.zero, i.size, i.bytes)) = some (some (.int .i64 0), 1, 8) := by kernel_rfl
theorem C3At.rd {w : World} {g : Nat} {c : C3} (h : C3At w g c) : RdI w (some ⟨g, 0, none⟩) [c.1, c.2.1, c.2.2] := fun k hk => by
  refine ⟨g, 0, rfl, ?_⟩
  rw [Nat.zero_add]
  have : k = 0 ∨ k = 1 ∨ k = 2 := by simp at hk; omega
  rcases this with rfl | rfl | rfl
  · exact h.c0
  · exact h.c1
  · exact h.c2
theorem palA_ok {l : List Int} (h : palR l = 0) : (palA fun k => decide (palR l = 0) && inB l k) = palA (inB l) := palA_congr fun k _ => by rw [decide_eq_true h, Bool.true_and]
theorem mixP_in (l : List Int) (c : C3) (k : Nat) : mixP (inB l) c k = mixA l c (k : Int) := by
  unfold mixP mixA whA
  have h1 : (inB l 3 && (inB l 4 && inB l 5)) = addi l := rfl
  have h2 : inB l 6 = l.contains 6 := rfl
  rw [h1, h2]
theorem cellLt {w : World} {b o : Nat} {v : Value} (hc : w.cell? ⟨b, o, none⟩ = some v) : b < w.heap.size := by
  by_cases hb : b < w.heap.size
  · exact hb
  · exfalso
    have : w.heap[b]? = none := Array.getElem?_eq_none (by omega)
    simp [World.cell?, this] at hc
theorem heap_row {w : World} {g k : Nat} {c : Array Value} (h : k ≠ g) : (w.setRow g c).heap[k]? = w.heap[k]? := by
  simp only [World.setRow, Array.getElem?_modify]
  rw [if_neg (fun e => h e.symm)]
theorem C3At.orow {w : World} {g k : Nat} {c : C3} {r : Array Value} (H : C3At w k c) (h : k ≠ g) : C3At (w.setRow g r) k c := (heap_row h).trans H
theorem PalAt.orow {w : World} {g k : Nat} {c : Nat → Bool} {r : Array Value} (H : PalAt w k c) (h : k ≠ g) : PalAt (w.setRow g r) k c := (heap_row h).trans H
theorem OutAt.orow {w : World} {g k : Nat} {c : Nat → Int} {r : Array Value} (H : OutAt w k c) (h : k ≠ g) : OutAt (w.setRow g r) k c := (heap_row h).trans H
set_option maxRecDepth 100000 in
set_option maxHeartbeats 2000000 in
theorem co_Check {a : Option Addr} {l : List Int} {cap : Nat} (w : World) (hr : RdI w a l) (hlen : l.length ≤ maxLen) :
    Calls Try.prog 13 #[.slice a l.length cap] w fun e w' => e = .returned (.int .i64 (palR l)) ∧ Gr w w' := by
  have HP := Lib.hid (co_paletteOf (cap := cap) w hr hlen)
  generalize (fun k => decide (palR l = 0) && inB l k) = F at *
  generalize palR l = E at *
  go_enter Try.func13, Try.ntmps13
  go_wp2_with fail
  refine HP.out.mono ?_; rintro e w1 ⟨rfl, hg1⟩
  have HG := Lib.hid ((hg1.alloc (.cells (palA fun _ => false) 60)).row (g := w1.heap.size) hg1.size (palA F))
  clear hg1
  go_wp2_with (refine wpl_storeP (f := F) rfl rfl rfl rfl (PalAt.new w1 (fun _ => false)) ?_)
  go_ret
  exact ⟨rfl, HG.out⟩
set_option maxRecDepth 100000 in
set_option maxHeartbeats 2000000 in
theorem co_Mix {a : Option Addr} {l : List Int} {cap : Nat} (c : C3) (w : World) (hr : RdI w a l) (hlen : l.length ≤ maxLen) :
    Calls Try.prog 11 #[.slice a l.length cap, vC c] w fun e w' => (∃ a' cap', e = .returned (.tuple #[.slice a' (mixR l c).1.length cap', .int .i64 (mixR l c).2]) ∧ RdI w' a' (mixR l c).1 ∧ (mixR l c).1.length ≤ cap' ∧ cap' ≤ maxLen) ∧ Gr w w' := by
  have HG0 := Lib.hid ((Gr.refl w).alloc (.cells #[.int .i64 c.1, .int .i64 c.2.1, .int .i64 c.2.2] 23))
  have HC0 := Lib.hid (C3At.new w c)
  have HP := Lib.hid (co_paletteOf (cap := cap) _ (hr.gr HG0.out) hlen)
  obtain ⟨V, hV⟩ : ∃ V, mixR l c = V := ⟨_, rfl⟩
  rw [hV]
  unfold mixR at hV
  by_cases hp : palR l = 0
  · rw [if_neg (by simp [hp])] at hV
    rw [palA_ok hp, hp] at HP
    have hl15 : l.length ≤ 15 := (palR_zero.1 hp).1
    have HL := Lib.hid (palR_zero.1 hp).2.1
    have HR := Lib.hid hr
    have HM := Lib.hid (fun hc w => co_mix (inB l) c hc w)
    have HK : Hid (∀ (w : World) g (h : C3At w g c), Calls Try.prog 31 #[.slice (some ⟨g, 0, none⟩) 3 3] w fun e w' => e = .returned (.int .i64 (if [c.1, c.2.1, c.2.2].all isL = true then 0 else 2)) ∧ w' = w) := Lib.hid (fun (w : World) g (h : C3At w g c) => co_checkLevels (cap := 3) w h.rd (by show 3 ≤ maxLen; decide))
    have hall : ([c.1, c.2.1, c.2.2].all isL) = isC c := by simp [isC]
    rw [hall] at HK
    have HX : Hid (∀ k : Nat, mixP (inB l) c k = mixA l c (k : Int)) := Lib.hid (mixP_in l c)
    generalize hic : isC c = ic at *
    cases ic
    · rw [if_neg (by simp)] at hV
      subst hV
      rw [if_neg (by simp)] at HK
      clear hall hp hic HM HX
      unfold vC
      obtain ⟨x, y, z⟩ := c
      simp only at HG0 HC0 HP HK
      go_enter Try.func11, Try.ntmps11
      go_wp2_with fail
      refine HP.out.mono ?_; rintro e w1 ⟨rfl, hg1⟩
      obtain ⟨w2, hw2⟩ : ∃ v, v = (w1.alloc (.cells #[.bool false, .bool false, .bool false, .bool false, .bool false, .bool false, .bool false, .bool false, .bool false, .bool false, .bool false, .bool false, .bool false, .bool false, .bool false] 60)).setRow w1.heap.size (palA (inB l)) := ⟨_, rfl⟩
      have HG := Lib.hid (show Gr w w2 by rw [hw2]; exact ((HG0.out.trans hg1).alloc (.cells (palA fun _ => false) 60)).row (g := w1.heap.size) (HG0.out.trans hg1).size (palA (inB l)))
      have HCa := HC0.out.gr hg1
      have hlt : w.heap.size < w1.heap.size := cellLt HCa.c0
      have HC2 := Lib.hid (show C3At w2 w.heap.size (x, y, z) by rw [hw2]; exact (HCa.gr ((Gr.refl w1).alloc (.cells (palA fun _ => false) 60))).orow (by omega))
      have HP2 := Lib.hid (show PalAt w2 w1.heap.size (inB l) by rw [hw2]; exact (PalAt.new w1 (fun _ => false)).row (inB l))
      clear hg1 HCa hlt
      go_wp2_with (refine wpl_storeP (f := inB l) rfl rfl rfl rfl (PalAt.new w1 (fun _ => false)) ?_)
      rw [← hw2]
      clear hw2
      refine (HK.out w2 _ HC2.out).mono ?_; rintro e w' ⟨rfl, hw'⟩
      subst hw'
      go_wp2
      go_ret2
      exact ⟨⟨none, 0, rfl, fun k hk => absurd hk (by simp), by simp, by decide⟩, HG.out⟩
    · rw [if_pos rfl] at hV
      rw [if_pos rfl] at HK
      have HV : Hid (V = (mixL l c, 0)) := Lib.hid hV.symm
      have HM2 := Lib.hid (HM.out rfl)
      generalize mixP (inB l) c = F at *
      clear hV hall hp hic HM
      obtain ⟨n, hn⟩ : ∃ n, n = l.length := ⟨_, rfl⟩
      have HN := Lib.hid hn
      rw [← hn] at hl15 HP ⊢
      clear hn hr hlen
      obtain ⟨i0, hi, hz0, hz1, hz2⟩ := info_parts Try.infoI
      have HMc : Hid (∀ w, Calls Try.prog 32 #[.agg (palA (inB l)), vC c] w fun e w' => e = .returned (.agg (outA F)) ∧ Gr w w') := Lib.hid (fun w => HM2.out w)
      clear HM2
      unfold vC
      obtain ⟨x, y, z⟩ := c
      simp only at HG0 HC0 HP HK
      go_enter Try.func11, Try.ntmps11
      go_wp2_with fail
      refine HP.out.mono ?_; rintro e w1 ⟨rfl, hg1⟩
      obtain ⟨w2, hw2⟩ : ∃ v, v = (w1.alloc (.cells #[.bool false, .bool false, .bool false, .bool false, .bool false, .bool false, .bool false, .bool false, .bool false, .bool false, .bool false, .bool false, .bool false, .bool false, .bool false] 60)).setRow w1.heap.size (palA (inB l)) := ⟨_, rfl⟩
      have HG := Lib.hid (show Gr w w2 by rw [hw2]; exact ((HG0.out.trans hg1).alloc (.cells (palA fun _ => false) 60)).row (g := w1.heap.size) (HG0.out.trans hg1).size (palA (inB l)))
      have HCa := HC0.out.gr hg1
      have hlt : w.heap.size < w1.heap.size := cellLt HCa.c0
      have HC2 := Lib.hid (show C3At w2 w.heap.size (x, y, z) by rw [hw2]; exact (HCa.gr ((Gr.refl w1).alloc (.cells (palA fun _ => false) 60))).orow (by omega))
      have HP2 := Lib.hid (show PalAt w2 w1.heap.size (inB l) by rw [hw2]; exact (PalAt.new w1 (fun _ => false)).row (inB l))
      clear hg1 HCa hlt
      go_wp2_with (refine wpl_storeP (f := inB l) rfl rfl rfl rfl (PalAt.new w1 (fun _ => false)) ?_)
      rw [← hw2]
      clear hw2
      refine (HK.out w2 _ HC2.out).mono ?_; rintro e w' ⟨rfl, hw'⟩
      subst hw'
      go_wp2_with (first | (refine wpl_loadP (f := inB l) rfl rfl rfl HP2.out ?_) | (refine wpl_load3 (c := (x, y, z)) rfl rfl rfl HC2.out ?_))
      refine (HMc.out _).mono ?_; rintro e w3 ⟨rfl, hg3⟩
      obtain ⟨w4, hw4⟩ : ∃ v, v = (w3.alloc (.cells #[.int .i64 0, .int .i64 0, .int .i64 0, .int .i64 0, .int .i64 0, .int .i64 0, .int .i64 0, .int .i64 0, .int .i64 0, .int .i64 0, .int .i64 0, .int .i64 0, .int .i64 0, .int .i64 0, .int .i64 0] 64)).setRow w3.heap.size (outA F) := ⟨_, rfl⟩
      have HG4 := Lib.hid (show Gr w w4 by rw [hw4]; exact ((HG.out.trans hg3).alloc (.cells (outA fun _ => 0) 64)).row (g := w3.heap.size) (HG.out.trans hg3).size (outA F))
      have HO4 := Lib.hid (show OutAt w4 w3.heap.size F by rw [hw4]; exact (OutAt.new w3 (fun _ => 0)).row F)
      have HW4 := Lib.hid hw4
      clear hg3 hw4
      have hlt4 : w3.heap.size < w4.heap.size := cellLt (HO4.out.cell (k := 0) (by decide))
      have HO5 := Lib.hid (HO4.out.gr ((Gr.refl w4).alloc (.cells (madeCells #[.int .i64 0] n) 3)))
      have HG5 := Lib.hid (HG4.out.alloc (.cells (madeCells #[.int .i64 0] n) 3))
      have HI5 := Lib.hid (IntsF.new w4 n)
      clear HO4 HG HC2 HP2 HC0 HG0 HP HK HMc
      go_wp2_with (first | (refine wpl_storeO (f := F) rfl rfl rfl rfl (OutAt.new w3 (fun _ => 0)) ?_; rw [← HW4.out]) | (at_make; refine wpList_make_row _ rfl _ _ 22 rfl 3 i0 (.int .i64 0) Try.underlying22 hi hz0 hz1 rfl .i64 .i64 n rfl rfl (by rw [hz2]; omega) (by omega) ?_))
      clear HW4
      generalize w4.alloc (.cells (madeCells #[.int .i64 0] n) 3) = w5 at *
      have HXL : Hid (∀ k (hk : k < l.length) (m : Nat), l[k] = (m : Int) → F m = mixA l (x, y, z) l[k]) := Lib.hid fun k hk m hm => by rw [HX.out, hm]
      clear HX
      go_loopw [11, 12, 34] (fun _ _ i wr => ∃ k : Nat, i = .int .i64 k ∧ k ≤ n ∧ Hid (Gr w wr) ∧ Hid (OutAt wr w3.heap.size F) ∧ Hid (IntsF wr w4.heap.size n (fun j => if j < k then mixA l (x, y, z) (l.getD j 0) else 0))) (fun _ _ i _ => n - (intOf i).toNat)
      case atStart => exact ⟨0, rfl, Nat.zero_le _, HG5.out, HO5.out, Lib.hid (by simpa using HI5.out)⟩
      case round =>
        obtain ⟨k, rfl, hk, HGr, HOr, HIr⟩ := hrel
        by_cases hlt : k < n
        · have hkl : k < l.length := by rw [← HN.out]; exact hlt
          obtain ⟨b, o, rfl, hc⟩ := (HR.out.gr HGr.out) k hkl
          have hm1 := HL.out l[k] (List.getElem_mem hkl)
          have HX1 := Lib.hid (HXL.out k hkl)
          have hgd : l.getD k 0 = l[k] := by simp [List.getD, List.getElem?_eq_getElem hkl]
          have HQ : Hid (∀ j : Nat, (if j = k then mixA l (x, y, z) l[k] else if j < k then mixA l (x, y, z) (l.getD j 0) else 0) = if j < k + 1 then mixA l (x, y, z) (l.getD j 0) else 0) := Lib.hid fun j => by
            by_cases hjk : j = k
            · subst hjk; rw [if_pos rfl, if_pos (by omega), hgd]
            · rw [if_neg hjk]
              by_cases h2 : j < k
              · rw [if_pos h2, if_pos (by omega)]
              · rw [if_neg h2, if_neg (by omega)]
          clear hgd
          generalize mixA l (x, y, z) l[k] = v at *
          generalize l[k] = u at *
          obtain ⟨m, rfl⟩ : ∃ m : Nat, u = (m : Int) := ⟨u.toNat, by omega⟩
          have hm15 : m < 15 := by omega
          have hm15' : (m : Int) < 15 := by omega
          have c0 := HOr.out.cell hm15
          rw [HX1.out m rfl] at c0
          have c1 := HIr.out.cell hlt
          have c2 := HIr.out.fz k
          have HGs := Lib.hid (HGr.out.set (g := w4.heap.size) (o := k) (v := .int .i64 v) HG4.out.size)
          have HOs := Lib.hid (HOr.out.other (b := w4.heap.size) (o := k) (v := .int .i64 v) (by omega))
          have HIs := Lib.hid (show IntsF (wr.setCell ⟨w4.heap.size, k, none⟩ (.int .i64 v)) w4.heap.size n (fun j => if j < k + 1 then mixA l (x, y, z) (l.getD j 0) else 0) by rw [← funext HQ.out]; exact HIr.out.set k v)
          clear HQ HX1 HGr HOr HIr
          go_wp2
          go_roundw
          case rel => exact ⟨k + 1, by go_num, by omega, HGs.out, HOs.out, HIs.out⟩
          case measure => simp [intOf]; omega
        · have hkn : k = n := by omega
          subst hkn
          have HF : Hid (RdI wr (some ⟨w4.heap.size, 0, none⟩) (mixL l (x, y, z))) := Lib.hid (HIr.out.rd (by unfold mixL; rw [List.length_map]; exact HN.out.symm) (fun j hj => by
            have hjl : j < l.length := by simpa [mixL] using hj
            have hgd : l.getD j 0 = l[j] := by simp [List.getD, List.getElem?_eq_getElem hjl]
            rw [if_pos (by have := HN.out; omega), hgd]; simp [mixL]))
          have hln : (mixL l (x, y, z)).length = k := by unfold mixL; rw [List.length_map]; exact HN.out.symm
          have hv := HV.out
          subst hv
          have HGr2 := HGr
          clear HV HIr HOr HXL
          go_wp2
          go_ret2
          exact ⟨⟨some ⟨w4.heap.size, 0, none⟩, k, rfl, HF.out, Nat.le_refl _, by unfold maxLen; omega⟩, HGr2.out⟩
  · rw [if_pos hp] at hV
    subst hV
    have hz : (palR l == 0) = false := by simp [hp]
    generalize (fun k => decide (palR l = 0) && inB l k) = F at *
    generalize palR l = E at *
    obtain ⟨x, y, z⟩ := c
    unfold vC
    simp only at HG0 HC0 HP
    go_enter Try.func11, Try.ntmps11
    go_wp2_with fail
    refine HP.out.mono ?_; rintro e w1 ⟨rfl, hg1⟩
    have HG := Lib.hid (((HG0.out.trans hg1).alloc (.cells (palA fun _ => false) 60)).row (g := w1.heap.size) (HG0.out.trans hg1).size (palA F))
    clear hg1
    go_wp2_with (refine wpl_storeP (f := F) rfl rfl rfl rfl (PalAt.new w1 (fun _ => false)) ?_)
    go_ret2
    exact ⟨⟨none, 0, rfl, fun k hk => absurd hk (by simp), by simp, by decide⟩, HG.out⟩
end Go.Proofs.Ytipfofdjngnkpaa
