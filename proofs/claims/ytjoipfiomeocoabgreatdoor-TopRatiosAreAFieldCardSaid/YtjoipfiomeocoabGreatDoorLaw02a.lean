/- The law's helpers of layer 2: awake and short. -/
import Derived.Test.YtjoipfiomeocoabGreatDoorRat21
set_option linter.unusedVariables false
set_option linter.unusedSimpArgs false
namespace Go.Proofs.YtjoipfiomeocoabGreatDoor
open Go.RowKit Go.Shelf
open Z

theorem mix_sh {k k' j : Nat} {a b w : Rat} (ha : Sh k a) (hb : Sh k' b) (hw : Sh j w) (hk : k + k' + j + 2 + k ≤ 4096) : mixR (RT a) (RT b) (RT w) = (RT (a + (b - a) * w), 0) := by
  have := ha.pos; have := hb.pos; have := hw.pos
  have ia := ha.inR (by omega)
  have ib := hb.inR (by omega)
  have iw := hw.inR (by omega)
  have hd : Sh (k' + k + 1) (b - a) := hb.sub ha
  have hm : Sh (k' + k + 1 + j) ((b - a) * w) := hd.mul hw
  have d : op2 (RT b) (RT a) subR = (RT (b - a), 0) := by rw [op2_ok ib ia, subR_sh hb ha (by omega)]
  have m : op2 (RT (b - a)) (RT w) mulR = (RT ((b - a) * w), 0) := by rw [op2_ok (hd.inR (by omega)) iw, mulR_sh hd hw (by omega)]
  have r : op2 (RT a) (RT ((b - a) * w)) addR = (RT (a + (b - a) * w), 0) := by rw [op2_ok ia (hm.inR (by omega)), addR_sh ha hm (by omega)]
  have h := mixR_then (s := RT a) (t := RT b) (u := RT w) (three_zero.2 ⟨chkS_RT ia, chkS_RT ib, chkS_RT iw⟩) (RT (b - a), 0) (RT ((b - a) * w), 0) (RT (a + (b - a) * w), 0) d m r
  rw [h]; rfl
theorem sh_mix {k k' j : Nat} {a b w : Rat} (ha : Sh k a) (hb : Sh k' b) (hw : Sh j w) : Sh (k + (k' + k + 1 + j) + 1) (a + (b - a) * w) := ha.add ((hb.sub ha).mul hw)
theorem lit_mixR {s t u v : ByteArray} (hs : chkS s = 0) (ht : chkS t = 0) (hu : chkS u = 0) (hv : chkS v = 0) (ls : s.size ≤ 100) (lt : t.size ≤ 100) (lu : u.size ≤ 100) (he : rv s + (rv t - rv s) * rv u = rv v) : mixR s t u = (v, 0) := by
  obtain ⟨a, rfl, ha, ea⟩ := text_sh hs ls
  obtain ⟨b, rfl, hb, eb⟩ := text_sh ht lt
  obtain ⟨w, rfl, hw, ew⟩ := text_sh hu lu
  rw [mix_sh ha hb hw (by omega), ← ea, ← eb, ← ew, he, RT_rv hv]
theorem sh_intQ {n : Int} (h : isI n) : Sh 19 ((n : Int) : Rat) := by
  have h1 := h.1
  have h2 := h.2
  exact ⟨by rw [Rat.num_intCast]; exact (nDigits_le_iff _ 19 (by omega)).2 (by omega), by rw [Rat.den_intCast, Lib.nDigits_small (by decide)]; omega⟩
theorem clamp_sh {k : Nat} {a : Rat} {low high : Int} (ha : Sh k a) (hl : isI low) (hh : isI high) (hk : k ≤ 4000) (hle : low ≤ high) :
    clampR (RT a) low high = (if cmpQ a (low : Rat) < 0 then Tx low else if 0 < cmpQ a (high : Rat) then Tx high else RT a, 0) := by
  have ia := ha.inR (by omega)
  have e1 := cmp2_sh ha (sh_intQ hl) (by omega)
  have e2 := cmp2_sh ha (sh_intQ hh) (by omega)
  rw [RT_int] at e1 e2
  unfold clampR
  rw [if_neg (fun e => e (chkS_RT ia)), if_neg (by omega), e1, e2]
  simp only [ne_eq, not_true_eq_false, if_false]
  split
  · rfl
  · split <;> rfl
theorem lit_clampR {s u : ByteArray} {low high : Int} (hs : chkS s = 0) (ls : s.size ≤ 100) (hl : isI low) (hh : isI high) (hle : low ≤ high) (h1 : ¬ cmpQ (rv s) (low : Rat) < 0) (h2 : 0 < cmpQ (rv s) (high : Rat)) (hu : Tx high = u) : clampR s low high = (u, 0) := by
  obtain ⟨a, rfl, ha, ea⟩ := text_sh hs ls
  rw [ea] at h1 h2
  rw [clamp_sh ha hl hh (by omega) hle, if_neg h1, if_pos h2, hu]
theorem RetG.of {w0 : World} {f : FuncId} {args : Array Value} {v : Value} (h : ∀ w1, Gr w0 w1 → Ret w1 f args v) : RetG w0 f args v := fun w hg => h w hg w (Gr.refl w)
section
variable {w0 : World} (htab : Tab w0) (hmx : Mx w0)
include htab hmx
set_option maxHeartbeats 4000000 in
set_option maxRecDepth 100000 in
theorem l2_awake : Ret w0 11 #[] (.bool true) := by
  have H1 := Lib.hid ((ret_QOf htab (s := ⟨#[54]⟩) (t := ⟨#[45, 52]⟩) (by decide) (by decide)).si (lit_ofR (u := ⟨#[45, 51, 47, 50]⟩) (a := 6) (b := -4) (by decide +kernel) (by decide +kernel) (by decide +kernel) (by decide) (by decide +kernel) (by decide +kernel)))
  have H2 := Lib.hid ((ret_QFloor htab hmx (s := ⟨#[45, 51, 47, 50]⟩) (by decide)).si (lit_floorR (u := ⟨#[45, 50]⟩) (by decide +kernel) (by decide +kernel) (by decide +kernel)))
  have H3 := Lib.hid ((ret_QRound htab hmx (s := ⟨#[45, 51, 47, 50]⟩) (by decide)).si (lit_roundR (u := ⟨#[45, 49]⟩) (by decide +kernel) (by decide +kernel) (by decide +kernel)))
  have H4 := Lib.hid ((ret_QRound htab hmx (s := ⟨#[53, 47, 50]⟩) (by decide)).si (lit_roundR (u := ⟨#[51]⟩) (by decide +kernel) (by decide +kernel) (by decide +kernel)))
  have H5 := Lib.hid ((ret_QAdd htab hmx (s := ⟨#[49, 47, 54]⟩) (t := ⟨#[49, 47, 51]⟩) (by decide) (by decide)).si (lit_addR (u := ⟨#[49, 47, 50]⟩) (by decide +kernel) (by decide +kernel) (by decide +kernel) (by decide) (by decide) (by decide +kernel)))
  have H6 := Lib.hid ((ret_QSub htab hmx (s := ⟨#[49, 47, 54]⟩) (t := ⟨#[49, 47, 51]⟩) (by decide) (by decide)).si (lit_subR (u := ⟨#[45, 49, 47, 54]⟩) (by decide +kernel) (by decide +kernel) (by decide +kernel) (by decide) (by decide) (by decide +kernel)))
  have H7 := Lib.hid ((ret_QMul htab hmx (s := ⟨#[49, 47, 54]⟩) (t := ⟨#[49, 47, 51]⟩) (by decide) (by decide)).si (lit_mulR (u := ⟨#[49, 47, 49, 56]⟩) (by decide +kernel) (by decide +kernel) (by decide +kernel) (by decide) (by decide) (by decide +kernel)))
  have H8 := Lib.hid ((ret_QDiv htab hmx (s := ⟨#[49, 47, 54]⟩) (t := ⟨#[49, 47, 51]⟩) (by decide) (by decide)).si (lit_divR (u := ⟨#[49, 47, 50]⟩) (by decide +kernel) (by decide +kernel) (by decide +kernel) (by decide) (by decide) (by decide +kernel) (by decide +kernel)))
  have H9 := Lib.hid ((ret_QMix htab hmx (s := ⟨#[49, 48]⟩) (t := ⟨#[51, 48]⟩) (u := ⟨#[49, 47, 52]⟩) (by decide) (by decide) (by decide)).si (lit_mixR (v := ⟨#[49, 53]⟩) (by decide +kernel) (by decide +kernel) (by decide +kernel) (by decide +kernel) (by decide) (by decide) (by decide) (by decide +kernel)))
  have H10 := Lib.hid ((ret_QClamp htab hmx (s := ⟨#[55, 47, 50]⟩) (low := 0) (high := 3) (by decide) (by unfold isI; omega) (by unfold isI; omega)).si (lit_clampR (u := ⟨#[51]⟩) (by decide +kernel) (by decide) (by unfold isI; omega) (by unfold isI; omega) (by omega) (by decide +kernel) (by decide +kernel) (Tx_ival ⟨#[51]⟩ (by decide +kernel))))
  have K0 := Lib.hid (RetG.of (v := .int .i64 3) fun w1 h => (ret_QCheck (htab_gr htab h) (hmx.gr h) (s := ⟨#[50, 47, 52]⟩) (by decide)).cast (by rw [show chkS ⟨#[50, 47, 52]⟩ = 3 by decide +kernel]))
  have K1 := Lib.hid (RetG.of (v := .int .i64 3) fun w1 h => (ret_QCheck (htab_gr htab h) (hmx.gr h) (s := ⟨#[51, 47, 49]⟩) (by decide)).cast (by rw [show chkS ⟨#[51, 47, 49]⟩ = 3 by decide +kernel]))
  have K2 := Lib.hid (RetG.of (v := .int .i64 3) fun w1 h => (ret_QCheck (htab_gr htab h) (hmx.gr h) (s := ⟨#[49, 47, 45, 50]⟩) (by decide)).cast (by rw [show chkS ⟨#[49, 47, 45, 50]⟩ = 3 by decide +kernel]))
  have K3 := Lib.hid (RetG.of (v := .int .i64 3) fun w1 h => (ret_QCheck (htab_gr htab h) (hmx.gr h) (s := ⟨#[45, 48]⟩) (by decide)).cast (by rw [show chkS ⟨#[45, 48]⟩ = 3 by decide +kernel]))
  have K4 := Lib.hid (RetG.of (v := .int .i64 3) fun w1 h => (ret_QCheck (htab_gr htab h) (hmx.gr h) (s := ⟨#[48, 49]⟩) (by decide)).cast (by rw [show chkS ⟨#[48, 49]⟩ = 3 by decide +kernel]))
  have K5 := Lib.hid (RetG.of (v := .int .i64 0) fun w1 h => (ret_QCheck (htab_gr htab h) (hmx.gr h) (s := ⟨#[45, 49, 47, 50]⟩) (by decide)).cast (by rw [show chkS ⟨#[45, 49, 47, 50]⟩ = 0 by decide +kernel]))
  clear htab hmx
  intro w hg
  have HG := Lib.hid hg; clear hg
  go_enter Tryz.func11, Tryz.ntmps11
  go_wp2_with fail
  refine (H1.out _ HG.out).mono ?_
  rintro e w1 ⟨rfl, hg⟩
  replace HG := Lib.hid hg; clear hg
  go_wp2_with fail
  refine (H2.out _ HG.out).mono ?_
  rintro e w1 ⟨rfl, hg⟩
  replace HG := Lib.hid hg; clear hg
  go_wp2_with fail
  refine (H3.out _ HG.out).mono ?_
  rintro e w1 ⟨rfl, hg⟩
  replace HG := Lib.hid hg; clear hg
  go_wp2_with fail
  refine (H4.out _ HG.out).mono ?_
  rintro e w1 ⟨rfl, hg⟩
  replace HG := Lib.hid hg; clear hg
  go_wp2_with fail
  refine (H5.out _ HG.out).mono ?_
  rintro e w1 ⟨rfl, hg⟩
  replace HG := Lib.hid hg; clear hg
  go_wp2_with fail
  refine (H6.out _ HG.out).mono ?_
  rintro e w1 ⟨rfl, hg⟩
  replace HG := Lib.hid hg; clear hg
  go_wp2_with fail
  refine (H7.out _ HG.out).mono ?_
  rintro e w1 ⟨rfl, hg⟩
  replace HG := Lib.hid hg; clear hg
  go_wp2_with fail
  refine (H8.out _ HG.out).mono ?_
  rintro e w1 ⟨rfl, hg⟩
  replace HG := Lib.hid hg; clear hg
  go_wp2_with fail
  refine (H9.out _ HG.out).mono ?_
  rintro e w1 ⟨rfl, hg⟩
  replace HG := Lib.hid hg; clear hg
  go_wp2_with fail
  refine (H10.out _ HG.out).mono ?_
  rintro e w1 ⟨rfl, hg⟩
  replace HG := Lib.hid hg; clear hg
  go_wp2
  obtain ⟨W, hW⟩ : ∃ W, W = w1.alloc (.cells #[.string ⟨#[50, 47, 52]⟩, .string ⟨#[51, 47, 49]⟩, .string ⟨#[49, 47, 45, 50]⟩, .string ⟨#[45, 48]⟩, .string ⟨#[48, 49]⟩] 25) := ⟨_, rfl⟩
  have c0 : W.cell? ⟨w1.heap.size, 0, none⟩ = some (.string ⟨#[50, 47, 52]⟩) := by rw [hW]; simp
  have c1 : W.cell? ⟨w1.heap.size, 1, none⟩ = some (.string ⟨#[51, 47, 49]⟩) := by rw [hW]; simp
  have c2 : W.cell? ⟨w1.heap.size, 2, none⟩ = some (.string ⟨#[49, 47, 45, 50]⟩) := by rw [hW]; simp
  have c3 : W.cell? ⟨w1.heap.size, 3, none⟩ = some (.string ⟨#[45, 48]⟩) := by rw [hW]; simp
  have c4 : W.cell? ⟨w1.heap.size, 4, none⟩ = some (.string ⟨#[48, 49]⟩) := by rw [hW]; simp
  have HGW : Hid (Gr w0 W) := by show Gr w0 W; rw [hW]; exact HG.out.alloc _
  rw [← hW]
  clear hW
  go_loopw [18, 123] (fun _ i wr => ∃ k : Nat, k ≤ 5 ∧ i = .int .i64 k ∧ Hid (Gr W wr)) (fun _ i _ => 5 - (intOf i).toNat)
  case atStart => exact ⟨0, Nat.zero_le _, rfl, Gr.refl _⟩
  case round =>
    obtain ⟨k, hk, rfl, HR⟩ := hrel
    have hk5 : k = 0 ∨ k = 1 ∨ k = 2 ∨ k = 3 ∨ k = 4 ∨ k = 5 := by omega
    rcases hk5 with rfl | rfl | rfl | rfl | rfl | rfl
    · have d := gr_cell HR.out c0
      go_wp2_with fail
      refine (K0.out _ (Gr.trans HGW.out HR.out)).mono ?_
      rintro e w2 ⟨rfl, hg⟩
      have HR2 := Lib.hid (Gr.trans HR.out hg)
      clear hg d
      go_wp2
      go_roundw
      case rel => exact ⟨1, by omega, by go_num, HR2.out⟩
      case measure => simp [intOf]
    · have d := gr_cell HR.out c1
      go_wp2_with fail
      refine (K1.out _ (Gr.trans HGW.out HR.out)).mono ?_
      rintro e w2 ⟨rfl, hg⟩
      have HR2 := Lib.hid (Gr.trans HR.out hg)
      clear hg d
      go_wp2
      go_roundw
      case rel => exact ⟨2, by omega, by go_num, HR2.out⟩
      case measure => simp [intOf]
    · have d := gr_cell HR.out c2
      go_wp2_with fail
      refine (K2.out _ (Gr.trans HGW.out HR.out)).mono ?_
      rintro e w2 ⟨rfl, hg⟩
      have HR2 := Lib.hid (Gr.trans HR.out hg)
      clear hg d
      go_wp2
      go_roundw
      case rel => exact ⟨3, by omega, by go_num, HR2.out⟩
      case measure => simp [intOf]
    · have d := gr_cell HR.out c3
      go_wp2_with fail
      refine (K3.out _ (Gr.trans HGW.out HR.out)).mono ?_
      rintro e w2 ⟨rfl, hg⟩
      have HR2 := Lib.hid (Gr.trans HR.out hg)
      clear hg d
      go_wp2
      go_roundw
      case rel => exact ⟨4, by omega, by go_num, HR2.out⟩
      case measure => simp [intOf]
    · have d := gr_cell HR.out c4
      go_wp2_with fail
      refine (K4.out _ (Gr.trans HGW.out HR.out)).mono ?_
      rintro e w2 ⟨rfl, hg⟩
      have HR2 := Lib.hid (Gr.trans HR.out hg)
      clear hg d
      go_wp2
      go_roundw
      case rel => exact ⟨5, by omega, by go_num, HR2.out⟩
      case measure => simp [intOf]
    · go_wp2_with fail
      refine (K5.out _ (Gr.trans HGW.out HR.out)).mono ?_
      rintro e w2 ⟨rfl, hg⟩
      have HR2 := Lib.hid (Gr.trans (Gr.trans HGW.out HR.out) hg)
      clear hg
      go_wp2
      go_ret
      exact ⟨rfl, HR2.out⟩
end
end Go.Proofs.YtjoipfiomeocoabGreatDoor
