/- Law 6: the reference's Members, Set, Make, Of. -/
import Derived.Test.YtifccpdkpgfnlaaDoorRbHJ
set_option linter.unusedVariables false
set_option linter.unusedSimpArgs false
namespace Go.Proofs.YtifccpdkpgfnlaaDoor
open Go.RowKit Go.Shelf
open Z
theorem Tryd.infoBool : (Tryd.prog.info? 4).map (fun i => (i.zero, i.size, i.bytes)) = some (some (.bool false), 1, 1) := by kernel_rfl
set_option maxRecDepth 100000 in
set_option maxHeartbeats 4000000 in
theorem r6_Members (a : Option Addr) (R : List (Int × Int)) (cap : Nat) (w : World) (hR : RngAt w a R) (hlen : R.length ≤ 1000) (hrg : ∀ r ∈ R, isRg r = true) :
    Calls Tryd.prog 54 #[.slice a R.length cap] w fun e w' => ∃ b, e = .returned (.slice (some ⟨b, 0, none⟩) 1001 1001) ∧ TruAt w' b (inR R) ∧ w.heap.size ≤ b ∧ Gr w w' := by
  obtain ⟨i0, hi, hz0, hz1, hz2⟩ := info_parts Tryd.infoBool
  have HR := Lib.hid hR
  have HP := Lib.hid hrg
  obtain ⟨n, hn⟩ : ∃ n, R.length = n := ⟨_, rfl⟩
  have HN := Lib.hid hn
  rw [hn] at hlen ⊢
  clear hR hn hrg
  have HT0 := Lib.hid (TruAt.new w)
  have HG0 := Lib.hid ((Gr.refl w).alloc (.cells (madeCells #[.bool false] 1001) 4))
  go_enter Tryd.func54, Tryd.ntmps54
  go_wp2_with (at_make; refine wpList_make_row _ rfl _ _ 85 rfl 4 i0 (.bool false) Tryd.underlying85 hi hz0 hz1 rfl .i64 .i64 1001 rfl rfl (by rw [hz2]; omega) (by omega) ?_; generalize w.alloc (.cells (madeCells #[.bool false] 1001) 4) = w1 at *)
  have HMB := Lib.hid (Nat.le_refl w.heap.size)
  obtain ⟨mb, hmb⟩ : ∃ mb, w.heap.size = mb := ⟨_, rfl⟩
  have HMB := Lib.hid (Nat.le_of_eq hmb)
  rw [hmb] at HT0 ⊢
  clear hmb
  go_loopw [4] (fun i wr => ∃ k : Nat, i = .int .i64 k ∧ k ≤ n ∧ Hid (TruAt wr mb (inR (R.take k))) ∧ Hid (Gr w wr)) (fun i _ => n - (intOf i).toNat)
  case atStart => exact ⟨0, rfl, by omega, Lib.hid (HT0.out.congr fun k => by simp [inR, chans, updM]), HG0⟩
  case round =>
    obtain ⟨k, rfl, hk, HO, HG⟩ := hrel
    by_cases hlt : k < n
    · have hkR : k < R.length := by rw [HN.out]; exact hlt
      obtain ⟨b, off, rfl, e0, e1⟩ := HR.out.at hkR
      have c0 := cell_gr HG.out e0
      have c1 := cell_gr HG.out e1
      have hb := (isRg_iff _).1 (HP.out _ (List.getElem_mem hkR))
      have HX : Hid (∀ j, inR (R.take (k + 1)) j = updM (fun _ => false) (chans (R.take k) ++ runL R[k]) true j) := Lib.hid fun j => by unfold inR; rw [chans_take hkR]
      have HY : Hid (∀ j, updM (fun _ => false) (chans (R.take k) ++ runP R[k].1 0) true j = inR (R.take k) j) := Lib.hid fun j => by unfold inR; simp [runP]
      generalize R[k] = r at *
      obtain ⟨f, t⟩ := r
      simp only at c0 c1 e0 e1 hb HY
      obtain ⟨hb1, hb2, hb3⟩ := hb
      generalize chans (R.take k) = xs at *
      go_wp2
      obtain ⟨wo, rfl⟩ : ∃ wo : World, wo = wr := ⟨_, rfl⟩
      have HO0 := Lib.hid (HO.out.congr HY.out)
      have HC1 := Lib.hid e1
      clear HO HY c0 c1 e0 e1
      go_loopw [5] (fun c wr => ∃ m : Nat, c = .int .i64 (f + m) ∧ f + m ≤ t + 1 ∧ Hid (TruAt wr mb (updM (fun _ => false) (xs ++ runP f m) true)) ∧ Hid (Gr w wr)) (fun c _ => (t + 1 - intOf c).toNat)
      case atStart => exact ⟨0, by simp, by omega, HO0, HG⟩
      case round =>
        obtain ⟨m, rfl, hm, HOi, HGi⟩ := hrel
        have d1 := cell_gr HGi.out HC1.out
        clear HO0 HG
        by_cases hlm : f + m ≤ t
        · obtain ⟨i, hi2⟩ : ∃ i : Nat, f + (m : Int) = i := ⟨(f + (m : Int)).toNat, by omega⟩
          have hi9 : i < 1001 := by omega
          have m0 := (HOi.out i hi9).1
          have m1 := (HOi.out i hi9).2
          have HO2 : Hid (TruAt (wr.setCell ⟨mb, i, none⟩ (.bool true)) mb (updM (fun _ => false) (xs ++ runP f (m + 1)) true)) := Lib.hid ((HOi.out.set hi9 true).congr fun k => by
            rw [runP_succ, ← List.append_assoc, updM_snoc, hi2]; simp only [Int.ofNat_inj])
          have HG2 : Hid (Gr w (wr.setCell ⟨mb, i, none⟩ (.bool true))) := Lib.hid (Below.setCell HGi.out HMB.out _)
          clear HOi
          rw [hi2] at hlm ⊢
          have HI := Lib.hid hi2
          clear hi2
          go_wp2
          go_roundw
          case rel => exact ⟨m + 1, by rw [show f + ((m + 1 : Nat) : Int) = (i : Int) + 1 by have := HI.out; omega], by have := HI.out; omega, HO2, HG2⟩
          case measure => simp [intOf]; omega
        · have hkc := runL_all hb2 (show f + (m : Int) = t + 1 by omega)
          rw [hkc] at HOi
          have HOj := Lib.hid (HOi.out.congr HX.out)
          clear HOi HX
          go_wp2
          go_roundw
          case rel => exact ⟨k + 1, by go_num, by omega, HOj, HGi⟩
          case measure => simp [intOf]; omega
    · have hk2 : k = R.length := by rw [HN.out]; omega
      have ho := HO.out
      rw [hk2, List.take_length] at ho
      have HOe := Lib.hid ho
      clear HO ho hk2
      go_wp2
      go_ret
      exact ⟨_, rfl, HOe.out, HMB.out, HG.out⟩
set_option maxRecDepth 100000 in
set_option maxHeartbeats 2000000 in
theorem r6_Set (a : Option Addr) (L : List Int) (cap : Nat) (w : World) (hR : IntsAt w a L) (hlen : L.length ≤ 1000000) (hch : ∀ x ∈ L, isCh x = true) :
    Calls Tryd.prog 56 #[.slice a L.length cap] w fun e w' => ∃ v, e = .returned v ∧ OwnF w.heap.size w' v (setS (ofL L) 1000) ∧ Gr w w' := by
  obtain ⟨i0, hi, hz0, hz1, hz2⟩ := info_parts Tryd.infoBool
  have HR := Lib.hid hR
  have HP := Lib.hid hch
  obtain ⟨n, hn⟩ : ∃ n, L.length = n := ⟨_, rfl⟩
  have HN := Lib.hid hn
  rw [hn] at hlen ⊢
  clear hR hn hch
  have HT0 := Lib.hid (TruAt.new w)
  have HG0 := Lib.hid ((Gr.refl w).alloc (.cells (madeCells #[.bool false] 1001) 4))
  go_enter Tryd.func56, Tryd.ntmps56
  go_wp2_with (at_make; refine wpList_make_row _ rfl _ _ 85 rfl 4 i0 (.bool false) Tryd.underlying85 hi hz0 hz1 rfl .i64 .i64 1001 rfl rfl (by rw [hz2]; omega) (by omega) ?_; generalize w.alloc (.cells (madeCells #[.bool false] 1001) 4) = w1 at *)
  obtain ⟨mb, hmb⟩ : ∃ mb, w.heap.size = mb := ⟨_, rfl⟩
  have HMB := Lib.hid (Nat.le_of_eq hmb)
  rw [hmb] at HT0 ⊢
  clear hmb
  go_loopw [4] (fun i wr => ∃ k : Nat, i = .int .i64 k ∧ k ≤ n ∧ Hid (TruAt wr mb (ofL (L.take k))) ∧ Hid (Gr w wr)) (fun i _ => n - (intOf i).toNat)
  case atStart => exact ⟨0, rfl, by omega, Lib.hid (HT0.out.congr fun k => by simp [ofL, updM]), HG0⟩
  case round =>
    obtain ⟨k, rfl, hk, HO, HG⟩ := hrel
    by_cases hlt : k < n
    · have hkR : k < L.length := by rw [HN.out]; exact hlt
      obtain ⟨b, off, rfl, e0⟩ := HR.out.at hkR
      have c0 := cell_gr HG.out e0
      have hx := (isCh_iff _).1 (HP.out _ (List.getElem_mem hkR))
      have HT := Lib.hid (fun j => updM_take hkR (fun _ => false) true j)
      generalize L[k] = x at *
      obtain ⟨i, rfl⟩ : ∃ i : Nat, x = (i : Int) := ⟨x.toNat, by omega⟩
      have hi9 : i < 1001 := by omega
      have m0 := (HO.out i hi9).1
      have m1 := (HO.out i hi9).2
      have HO2 : Hid (TruAt (wr.setCell ⟨mb, i, none⟩ (.bool true)) mb (ofL (L.take (k + 1)))) := Lib.hid ((HO.out.set hi9 true).congr fun j => by unfold ofL; rw [HT.out]; simp only [Int.ofNat_inj])
      have HG2 : Hid (Gr w (wr.setCell ⟨mb, i, none⟩ (.bool true))) := Lib.hid (Below.setCell HG.out HMB.out _)
      clear HO HT e0
      go_wp2
      go_roundw
      case rel => exact ⟨k + 1, by go_num, by omega, HO2, HG2⟩
      case measure => simp [intOf]; omega
    · have hk2 : k = L.length := by rw [HN.out]; omega
      have ho := HO.out
      rw [hk2, List.take_length] at ho
      have hz := ofL_zero HP.out
      have HS := Lib.hid (r6_Ranges mb (ofL L) wr ho hz)
      clear HO ho hk2 hz
      obtain ⟨g, hgE⟩ : ∃ g, ofL L = g := ⟨_, rfl⟩
      rw [hgE] at HS
      have HGE := Lib.hid hgE
      clear hgE
      go_wp2_with fail
      refine HS.out.mono ?_; rintro e w4 ⟨v, rfl, ho, hg⟩
      have HOe := Lib.hid (ho.low HG.out.size)
      have HG4 := Lib.hid (Gr.trans HG.out hg)
      clear ho hg HS
      go_wp2
      go_ret
      exact ⟨v, rfl, by show OwnF _ _ _ (setS (ofL L) 1000); rw [HGE.out]; exact HOe.out, HG4.out⟩
end Go.Proofs.YtifccpdkpgfnlaaDoor
