/- What the theorems T3 share: a fixed example. -/
import Derived.Test.YtjideokeokmbaaaGreatDoorNuD
import Derived.Test.YtjideokeokmbaaaGreatDoorRaH
set_option linter.unusedVariables false
set_option linter.unusedSimpArgs false
namespace Go.Proofs.YtjideokeokmbaaaGreatDoor
open Go.RowKit Go.Shelf
open Z

theorem pl_parse : parseR [51, 32, 116, 104, 114, 117, 32, 53, 32, 45, 32, 52] = ([(3, 3), (5, 5)], 0, 0) := by decide +kernel
theorem pl_between : betN [49] [49, 46, 49] = ([49, 46, 48, 49], 0) := by decide +kernel
theorem Tryz.infoStr : (Tryz.prog.info? 9).map (fun i => (i.zero, i.size, i.bytes)) = some (some (.string ⟨#[]⟩), 1, 16) := by kernel_rfl
theorem pl_make (u : World) : (Instr.makeSlice 67 (.int .i64 2) (.int .i64 2)).run Tryz.prog u = .ok (.slice (some ⟨u.heap.size, 0, none⟩) 2 2) (u.alloc (.cells #[.string ⟨#[]⟩, .string ⟨#[]⟩] 9)) := by
  obtain ⟨i0, hi, hz0, hz1, hz2⟩ := info_parts Tryz.infoStr
  have h := run_make (P := Tryz.prog) u 67 9 i0 (.string ⟨#[]⟩) Tryz.underlying67 hi hz0 .i64 .i64 2 2 (by omega) (Int.le_refl _) (by rw [hz2]; omega) (by omega)
  rw [hz1] at h
  have e : madeCells (Value.string ⟨#[]⟩).cells (Int.toNat 2 * 1) = #[.string ⟨#[]⟩, .string ⟨#[]⟩] := by first | kernel_rfl | (simp [madeCells, Value.cells]; rfl)
  rw [e] at h
  exact h
theorem gr_cellT {W w1 : World} (h : Gr W w1) {b o : Nat} {v : Value} (hc : W.cell? ⟨b, o, none⟩ = some v) : w1.cell? ⟨b, o, none⟩ = some v :=
  (Below.cell h (p := ⟨b, o, none⟩) (cellLt hc)).trans hc
/-- two texts in a block -/
structure FS (w : World) (g : Nat) (x y : ByteArray) : Prop where
  c0 : w.cell? ⟨g, 0, none⟩ = some (.string x)
  c1 : w.cell? ⟨g, 1, none⟩ = some (.string y)
  f0 : w.frozen? ⟨g, 0, none⟩ = false
  f1 : w.frozen? ⟨g, 1, none⟩ = false
theorem FS.gr {w w' : World} {g : Nat} {x y : ByteArray} (h : FS w g x y) (hg : Gr w w') : FS w' g x y := by
  have e := hg.block g (cellLt h.c0)
  refine ⟨?_, ?_, ?_, ?_⟩
  · have := h.c0; unfold World.cell? at this ⊢; rw [e]; exact this
  · have := h.c1; unfold World.cell? at this ⊢; rw [e]; exact this
  · have := h.f0; unfold World.frozen? at this ⊢; rw [e]; exact this
  · have := h.f1; unfold World.frozen? at this ⊢; rw [e]; exact this
theorem FS.set0 {w : World} {g : Nat} {x y : ByteArray} (h : FS w g x y) (z : ByteArray) : FS (w.setCell ⟨g, 0, none⟩ (.string z)) g z y :=
  ⟨World.cell?_setCell_same _ _ _ h.c0, (World.cell?_setCell_other _ _ _ _ (by simp)).trans h.c1, by rw [World.frozen?_setCell]; exact h.f0, by rw [World.frozen?_setCell]; exact h.f1⟩
theorem FS.set1 {w : World} {g : Nat} {x y : ByteArray} (h : FS w g x y) (z : ByteArray) : FS (w.setCell ⟨g, 1, none⟩ (.string z)) g x z :=
  ⟨(World.cell?_setCell_other _ _ _ _ (by simp)).trans h.c0, World.cell?_setCell_same _ _ _ h.c1, by rw [World.frozen?_setCell]; exact h.f0, by rw [World.frozen?_setCell]; exact h.f1⟩
set_option maxHeartbeats 2000000 in
set_option maxRecDepth 100000 in
theorem pl_Format (a : Option Addr) (cap : Nat) (w : World) (hr : RngAt w a [(3, 3), (5, 5)]) (hcap : a = none → cap = 0) (htab : Tab w) :
    Calls Tryz.prog 18 #[.slice a 2 cap] w fun e w' => e = .returned (.tuple #[.string ⟨#[51, 32, 43, 32, 53]⟩, .int .i64 0]) ∧ Gr w w' := by
  have C := Lib.hid (ra_Check a [(3, 3), (5, 5)] cap w hr hcap (by simp))
  have e0 : checkR [(3, 3), (5, 5)] = 0 := by decide +kernel
  rw [e0] at C
  have HR := Lib.hid hr
  go_enter Tryz.func18, Tryz.ntmps18
  go_wp2_with fail
  refine C.out.mono ?_; rintro e w1 ⟨rfl, hg1⟩
  have HG1 := Lib.hid hg1
  obtain ⟨b, off, rfl, hc⟩ : ∃ b off, a = some ⟨b, off, none⟩ ∧ (w.cell? ⟨b, off, none⟩ = some (.int .i64 3) ∧ w.cell? ⟨b, off + 1, none⟩ = some (.int .i64 3) ∧ w.cell? ⟨b, off + 2, none⟩ = some (.int .i64 5) ∧ w.cell? ⟨b, off + 3, none⟩ = some (.int .i64 5)) := by
    rcases HR.out with ⟨-, h⟩ | ⟨b, off, rfl, h⟩
    · cases h
    · exact ⟨b, off, rfl, (h 0 (by simp)).1, (h 0 (by simp)).2, (h 1 (by simp)).1, (h 1 (by simp)).2⟩
  have HP := Lib.hid hc
  clear hc
  have I3 := Lib.hid (fun w htab => nu_Itoa 3 w (by omega) htab)
  have I5 := Lib.hid (fun w htab => nu_Itoa 5 w (by omega) htab)
  have hd3 : str (Lib.decDigits 3) = ⟨#[51]⟩ := by rw [Lib.decDigits, dif_pos (by omega)]; rfl
  have hd5 : str (Lib.decDigits 5) = ⟨#[53]⟩ := by rw [Lib.decDigits, dif_pos (by omega)]; rfl
  rw [hd3] at I3
  rw [hd5] at I5
  have HT := Lib.hid htab
  have hmk := pl_make w1
  clear hg1 hd3 hd5 HR hr hcap htab
  go_wp2
  obtain ⟨g, hg⟩ : ∃ g, g = w1.heap.size := ⟨_, rfl⟩
  rw [← hg]
  have HF0 : Hid (FS (w1.alloc (.cells #[.string ⟨#[]⟩, .string ⟨#[]⟩] 9)) g ⟨#[]⟩ ⟨#[]⟩) := by
    rw [hg]
    exact ⟨by rw [World.cell?_alloc_at _ _ _ _ rfl]; rfl, by rw [World.cell?_alloc_at _ _ _ _ rfl]; rfl, World.frozen?_alloc_at _ _ _ _ rfl, World.frozen?_alloc_at _ _ _ _ rfl⟩
  have HW : Hid (Gr w (w1.alloc (.cells #[.string ⟨#[]⟩, .string ⟨#[]⟩] 9))) := HG1.out.alloc _
  have hwg : w.heap.size ≤ g := by rw [hg]; exact HG1.out.size
  clear hmk hg HG1
  generalize w1.alloc (.cells #[.string ⟨#[]⟩, .string ⟨#[]⟩] 9) = W at *
  go_loopw [18] (fun i wr => ∃ k : Nat, i = .int .i64 k ∧ k ≤ 2 ∧ Hid (Gr w wr) ∧ Hid (FS wr g (if 1 ≤ k then ⟨#[51]⟩ else ⟨#[]⟩) (if 2 ≤ k then ⟨#[53]⟩ else ⟨#[]⟩))) (fun i _ => 2 - (intOf i).toNat)
  case atStart => exact ⟨0, rfl, by omega, HW.out, HF0.out⟩
  case round =>
    obtain ⟨k, rfl, hk, HG, HF⟩ := hrel
    clear HW HF0
    have hk3 : k = 0 ∨ k = 1 ∨ k = 2 := by omega
    rcases hk3 with rfl | rfl | rfl
    · obtain ⟨p0, p1, p2, p3⟩ := HP.out
      have c0 := gr_cellT HG.out p0
      have c1 := gr_cellT HG.out p1
      clear p0 p1 p2 p3
      have l0 : (wr.alloc (.cells #[.int .i64 3, .int .i64 3] 37)).cell? ⟨wr.heap.size, 0, none⟩ = some (.int .i64 3) := by simp
      have l1 : (wr.alloc (.cells #[.int .i64 3, .int .i64 3] 37)).cell? ⟨wr.heap.size, 1, none⟩ = some (.int .i64 3) := by simp
      have HGa := Lib.hid (HG.out.alloc (.cells #[.int .i64 3, .int .i64 3] 37))
      have HFa := Lib.hid (HF.out.gr ((Gr.refl wr).alloc (.cells #[.int .i64 3, .int .i64 3] 37)))
      have HTa := Lib.hid (htab_gr HT.out HGa.out)
      have hgs : g < wr.heap.size := cellLt HF.out.c0
      go_wp2_with fail
      refine (I3.out _ HTa.out).mono ?_; rintro e w2 ⟨rfl, hg2⟩
      have l0' := gr_cellT hg2 l0
      have l1' := gr_cellT hg2 l1
      have HF2 := Lib.hid (HFa.out.gr hg2)
      obtain ⟨s0, s1, t0, t1⟩ := id HF2.out
      have HF3 := Lib.hid (HF2.out.set0 ⟨#[51]⟩)
      have HG3 : Hid (Gr w (w2.setCell ⟨g, 0, none⟩ (.string ⟨#[51]⟩))) := Below.setCell (Gr.trans HGa.out hg2) (show _ ≤ g from hwg) _
      have l0'' : (w2.setCell ⟨g, 0, none⟩ (.string ⟨#[51]⟩)).cell? ⟨wr.heap.size, 0, none⟩ = some (.int .i64 3) := (World.cell?_setCell_other _ _ _ _ (by simp only [ne_eq, Addr.mk.injEq, not_and]; omega)).trans l0'
      have l1'' : (w2.setCell ⟨g, 0, none⟩ (.string ⟨#[51]⟩)).cell? ⟨wr.heap.size, 1, none⟩ = some (.int .i64 3) := (World.cell?_setCell_other _ _ _ _ (by simp only [ne_eq, Addr.mk.injEq, not_and]; omega)).trans l1'
      clear hg2 l0 l1 c0 c1
      go_wp2
      go_roundw
      case rel => exact ⟨1, rfl, by omega, HG3.out, HF3.out⟩
      case measure => simp [intOf]
    · obtain ⟨p0, p1, p2, p3⟩ := HP.out
      have c0 := gr_cellT HG.out p2
      have c1 := gr_cellT HG.out p3
      clear p0 p1 p2 p3
      have l0 : (wr.alloc (.cells #[.int .i64 5, .int .i64 5] 37)).cell? ⟨wr.heap.size, 0, none⟩ = some (.int .i64 5) := by simp
      have l1 : (wr.alloc (.cells #[.int .i64 5, .int .i64 5] 37)).cell? ⟨wr.heap.size, 1, none⟩ = some (.int .i64 5) := by simp
      have HGa := Lib.hid (HG.out.alloc (.cells #[.int .i64 5, .int .i64 5] 37))
      have HFa := Lib.hid (HF.out.gr ((Gr.refl wr).alloc (.cells #[.int .i64 5, .int .i64 5] 37)))
      have HTa := Lib.hid (htab_gr HT.out HGa.out)
      have hgs : g < wr.heap.size := cellLt HF.out.c0
      go_wp2_with fail
      refine (I5.out _ HTa.out).mono ?_; rintro e w2 ⟨rfl, hg2⟩
      have l0' := gr_cellT hg2 l0
      have l1' := gr_cellT hg2 l1
      have HF2 := Lib.hid (HFa.out.gr hg2)
      obtain ⟨s0, s1, t0, t1⟩ := id HF2.out
      have HF3 := Lib.hid (HF2.out.set1 ⟨#[53]⟩)
      have HG3 : Hid (Gr w (w2.setCell ⟨g, 1, none⟩ (.string ⟨#[53]⟩))) := Below.setCell (Gr.trans HGa.out hg2) (show _ ≤ g from hwg) _
      have l0'' : (w2.setCell ⟨g, 1, none⟩ (.string ⟨#[53]⟩)).cell? ⟨wr.heap.size, 0, none⟩ = some (.int .i64 5) := (World.cell?_setCell_other _ _ _ _ (by simp only [ne_eq, Addr.mk.injEq, not_and]; omega)).trans l0'
      have l1'' : (w2.setCell ⟨g, 1, none⟩ (.string ⟨#[53]⟩)).cell? ⟨wr.heap.size, 1, none⟩ = some (.int .i64 5) := (World.cell?_setCell_other _ _ _ _ (by simp only [ne_eq, Addr.mk.injEq, not_and]; omega)).trans l1'
      clear hg2 l0 l1 c0 c1
      go_wp2
      go_roundw
      case rel => exact ⟨2, rfl, by omega, HG3.out, HF3.out⟩
      case measure => simp [intOf]
    · have HFN : FS wr g ⟨#[51]⟩ ⟨#[53]⟩ := HF.out
      have HJ := Lib.hid (Tryz.strings_Join g 0 2 [⟨#[51]⟩, ⟨#[53]⟩] ⟨#[32, 43, 32]⟩ wr (fun j x hx => by
        match j, hx with
        | 0, hx => simp only [List.getElem?_cons_zero, Option.some.injEq] at hx; subst hx; exact HFN.c0
        | 1, hx => simp only [List.getElem?_cons_succ, List.getElem?_cons_zero, Option.some.injEq] at hx; subst hx; exact HFN.c1
        | j + 2, hx => simp at hx) (cellLt HFN.c0) (by simp) (by simp) (by decide))
      have ej : (⟨(Lib.join ([(⟨#[51]⟩ : ByteArray), ⟨#[53]⟩].map (·.data.toList)) (⟨#[32, 43, 32]⟩ : ByteArray).data.toList).toArray⟩ : ByteArray) = ⟨#[51, 32, 43, 32, 53]⟩ := by decide
      rw [ej] at HJ
      clear HFN ej
      go_wp2_with fail
      refine HJ.out.mono ?_; rintro e w2 ⟨rfl, hg2⟩
      have HG2 : Hid (Gr w w2) := Gr.trans HG.out hg2
      clear hg2
      go_wp2
      go_ret2
      exact ⟨rfl, HG2.out⟩
set_option maxHeartbeats 2000000 in
set_option maxRecDepth 100000 in
theorem pl_play (w : World) (htab : Tab w) : Calls Tryz.prog 5 #[] w fun e w' => e = .returned (.bool true) ∧ Gr w w' := by
  have HT := Lib.hid htab
  have CB := Lib.hid (nu_Between ⟨#[49]⟩ ⟨#[49, 46, 49]⟩ w (by decide) (by decide) htab)
  rw [pl_between] at CB
  have CP := Lib.hid (ra_Parse ⟨#[51, 32, 116, 104, 114, 117, 32, 53, 32, 45, 32, 52]⟩)
  rw [pl_parse] at CP
  simp only [] at CP
  have eb : str [49, 46, 48, 49] = ⟨#[49, 46, 48, 49]⟩ := rfl
  unfold vTI at CB
  simp only [eb] at CB
  clear eb htab
  go_enter Tryz.func5, Tryz.ntmps5
  go_wp2_with fail
  refine CB.out.mono ?_; rintro e w1 ⟨rfl, hg1⟩
  have HG1 := Lib.hid hg1; clear hg1
  go_wp2_with fail
  refine (CP.out _).mono ?_; rintro e w2 ⟨v, rfl, hown, hg2⟩
  obtain ⟨a', c', rfl, hrng, hcap, -, -⟩ := hown.shape
  have HG2 := Lib.hid (Gr.trans HG1.out hg2); clear hg2
  have CF := Lib.hid (pl_Format a' c' w2 hrng hcap (htab_gr HT.out HG2.out))
  clear hown hrng hcap
  go_wp2_with fail
  refine CF.out.mono ?_; rintro e w3 ⟨rfl, hg3⟩
  have HG3 := Lib.hid (Gr.trans HG2.out hg3); clear hg3
  go_wp2
  go_ret
  exact ⟨rfl, HG3.out⟩
end Go.Proofs.YtjideokeokmbaaaGreatDoor
