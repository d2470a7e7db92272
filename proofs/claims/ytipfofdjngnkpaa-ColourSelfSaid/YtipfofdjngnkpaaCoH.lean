/- Law 11: the program's Light. -/
import Derived.Test.YtipfofdjngnkpaaCoG
set_option linter.unusedVariables false
set_option linter.unusedSimpArgs false
namespace Go.Proofs.Ytipfofdjngnkpaa
open Go.RowKit
open Z
theorem lightP_in (l v : List Int) : lightP (inB l) (fun k => atA l v (k : Int)) = lightR l v := rfl
set_option maxRecDepth 100000 in
set_option maxHeartbeats 2000000 in
theorem co_Light {a b : Option Addr} {l v : List Int} {ca cb : Nat} (w : World) (hr : RdI w a l) (hv : RdI w b v) (hl : l.length ≤ maxLen) (hvl : v.length ≤ maxLen) :
    Calls Try.prog 17 #[.slice a l.length ca, .slice b v.length cb] w fun e w' => e = .returned (.tuple #[vC (lightE l v).1, .int .i64 (lightE l v).2]) ∧ Gr w w' := by
  have HG0 := Lib.hid ((Gr.refl w).alloc (.cells #[.int .i64 0, .int .i64 0, .int .i64 0] 23))
  have HC0 := Lib.hid (C3At.new w (0, 0, 0))
  have HP := Lib.hid (co_paletteOf (cap := ca) _ (hr.gr HG0.out) hl)
  obtain ⟨V, hV⟩ : ∃ V, lightE l v = V := ⟨_, rfl⟩
  rw [hV]
  unfold lightE at hV
  by_cases hp : palR l = 0
  · rw [if_neg (by simp [hp])] at hV
    rw [palA_ok hp, hp] at HP
    by_cases hll : l.length = v.length
    · rw [if_neg (by simp [hll])] at hV
      have HK : Hid (∀ w1, Gr w w1 → Calls Try.prog 31 #[.slice b v.length cb] w1 fun e w' => e = .returned (.int .i64 (if v.all isL = true then 0 else 2)) ∧ w' = w1) := Lib.hid (fun w1 h => co_checkLevels (cap := cb) w1 (hv.gr h) hvl)
      have hvi := fun k => atA_isL (l := l) (v := v) (k := k)
      have HL := Lib.hid (palR_zero.1 hp).2.1
      have HN2 := Lib.hid (palR_zero.1 hp).2.2.1
      have hl15 : l.length ≤ 15 := (palR_zero.1 hp).1
      have HLL := Lib.hid hll
      rw [← hll] at HK ⊢
      obtain ⟨n, hn⟩ : ∃ n, n = l.length := ⟨_, rfl⟩
      have HN := Lib.hid hn
      have HR := Lib.hid hr
      have HRv := Lib.hid hv
      rw [← hn] at hl15 HP HK ⊢
      clear hn hr hv hl hvl hp hll
      generalize hva : v.all isL = va at *
      cases va
      · rw [if_neg (by simp)] at hV HK
        subst hV
        clear hva hvi
        go_enter Try.func17, Try.ntmps17
        go_wp2_with fail
        refine HP.out.mono ?_; rintro e w1 ⟨rfl, hg1⟩
        obtain ⟨w2, hw2⟩ : ∃ v, v = (w1.alloc (.cells #[.bool false, .bool false, .bool false, .bool false, .bool false, .bool false, .bool false, .bool false, .bool false, .bool false, .bool false, .bool false, .bool false, .bool false, .bool false] 60)).setRow w1.heap.size (palA (inB l)) := ⟨_, rfl⟩
        have HG2 := Lib.hid (show Gr w w2 by rw [hw2]; exact ((HG0.out.trans hg1).alloc (.cells (palA fun _ => false) 60)).row (g := w1.heap.size) (HG0.out.trans hg1).size (palA (inB l)))
        have HCa := HC0.out.gr hg1
        have hlt : w.heap.size < w1.heap.size := cellLt HCa.c0
        have HC2 := Lib.hid (show C3At w2 w.heap.size (0, 0, 0) by rw [hw2]; exact (HCa.gr ((Gr.refl w1).alloc (.cells (palA fun _ => false) 60))).orow (by omega))
        have HP2 := Lib.hid (show PalAt w2 w1.heap.size (inB l) by rw [hw2]; exact (PalAt.new w1 (fun _ => false)).row (inB l))
        have HW2 := Lib.hid hw2
        clear hg1 HCa hw2
        go_wp2_with (first | (refine wpl_storeP (f := inB l) rfl rfl rfl rfl (PalAt.new w1 (fun _ => false)) ?_; rw [← HW2.out]) | (refine wpl_store3 (c := (0, 0, 0)) rfl rfl rfl rfl HC2.out ?_))
        refine (HK.out _ HG2.out).mono ?_; rintro e w' ⟨rfl, hw'⟩
        subst hw'
        go_wp2_with (refine wpl_store3 (c := (0, 0, 0)) rfl rfl rfl rfl HC2.out ?_)
        refine bodyPost_ret (v := .tuple #[vC (0, 0, 0), .int .i64 2]) ?_ rfl ⟨by first | rfl | simp, HG2.out.row (Nat.le_refl _) _⟩
        rw [results_cell_tmp rfl]
        simp [asAddr, Result.andThen]
        rw [run_load3 (show C3At _ _ _ from HC2.out.row (0, 0, 0))]
      · rw [if_pos rfl] at hV HK
        have HV : Hid (V = (lightR l v, 0)) := Lib.hid hV.symm
        have HM := Lib.hid (fun w => co_light (inB l) (fun k => atA l v (k : Int)) (fun k => hvi k rfl) w)
        clear hV hva hvi
        rw [lightP_in] at HM
        go_enter Try.func17, Try.ntmps17
        go_wp2_with fail
        refine HP.out.mono ?_; rintro e w1 ⟨rfl, hg1⟩
        obtain ⟨w2, hw2⟩ : ∃ v, v = (w1.alloc (.cells #[.bool false, .bool false, .bool false, .bool false, .bool false, .bool false, .bool false, .bool false, .bool false, .bool false, .bool false, .bool false, .bool false, .bool false, .bool false] 60)).setRow w1.heap.size (palA (inB l)) := ⟨_, rfl⟩
        have HG2 := Lib.hid (show Gr w w2 by rw [hw2]; exact ((HG0.out.trans hg1).alloc (.cells (palA fun _ => false) 60)).row (g := w1.heap.size) (HG0.out.trans hg1).size (palA (inB l)))
        have HCa := HC0.out.gr hg1
        have hlt : w.heap.size < w1.heap.size := cellLt HCa.c0
        have HC2 := Lib.hid (show C3At w2 w.heap.size (0, 0, 0) by rw [hw2]; exact (HCa.gr ((Gr.refl w1).alloc (.cells (palA fun _ => false) 60))).orow (by omega))
        have HP2 := Lib.hid (show PalAt w2 w1.heap.size (inB l) by rw [hw2]; exact (PalAt.new w1 (fun _ => false)).row (inB l))
        have HW2 := Lib.hid hw2
        clear hg1 HCa hw2
        go_wp2_with (refine wpl_storeP (f := inB l) rfl rfl rfl rfl (PalAt.new w1 (fun _ => false)) ?_; rw [← HW2.out])
        refine (HK.out _ HG2.out).mono ?_; rintro e w' ⟨rfl, hw'⟩
        subst hw'
        have HO5 := Lib.hid (OutAt.new w' (fun _ => 0))
        have HC5 := Lib.hid (HC2.out.gr ((Gr.refl w').alloc (.cells (outA fun _ => 0) 64)))
        have HP5 := Lib.hid (HP2.out.gr ((Gr.refl w').alloc (.cells (outA fun _ => 0) 64)))
        have HG5 := Lib.hid (HG2.out.alloc (.cells (outA fun _ => 0) 64))
        have hl1 : w1.heap.size < w'.heap.size := cellLt (HP2.out.cell (k := 0) (by decide))
        go_wp2
        clear HK HP HW2 HP2 HC2
        go_loopw [10, 11, 35] (fun _ _ i wr => ∃ k : Nat, i = .int .i64 k ∧ k ≤ n ∧ Hid (Gr w wr) ∧ Hid (PalAt wr w1.heap.size (inB l)) ∧ Hid (C3At wr w.heap.size (0, 0, 0)) ∧ Hid (OutAt wr w'.heap.size (fun j => atA (l.take k) (v.take k) (j : Int)))) (fun _ _ i _ => n - (intOf i).toNat)
        case atStart => exact ⟨0, rfl, Nat.zero_le _, HG5.out, HP5.out, HC5.out, Lib.hid (HO5.out.congr fun k _ => rfl)⟩
        case round =>
          obtain ⟨k, rfl, hk, HGr, HPr, HCr, HOr⟩ := hrel
          have hw0 : w.heap.size < w1.heap.size := hlt
          by_cases hlt : k < n
          · have hkl : k < l.length := by rw [← HN.out]; exact hlt
            have hkv : k < v.length := by have := HLL.out; omega
            obtain ⟨b1, o1, rfl, hc⟩ := (HR.out.gr HGr.out) k hkl
            obtain ⟨b2, o2, rfl, hd⟩ := (HRv.out.gr HGr.out) k hkv
            have hm1 := HL.out l[k] (List.getElem_mem hkl)
            have HT := Lib.hid (fun j => atA_take hkl HLL.out HN2.out j)
            generalize l[k] = u at *
            generalize v[k] = x at *
            obtain ⟨m, rfl⟩ : ∃ m : Nat, u = (m : Int) := ⟨u.toNat, by omega⟩
            have hm15 : m < 15 := by omega
            have hm15' : (m : Int) < 15 := by omega
            have c1 := HOr.out.cell hm15
            have c2 := HOr.out.fz m
            have HGs := Lib.hid (HGr.out.set (g := w'.heap.size) (o := m) (v := .int .i64 x) HG2.out.size)
            have HPs := Lib.hid (HPr.out.other (b := w'.heap.size) (o := m) (v := .int .i64 x) (by omega))
            have HCs := Lib.hid (HCr.out.other (b := w'.heap.size) (o := m) (v := .int .i64 x) (by omega))
            have HOs := Lib.hid ((HOr.out.set hm15 x).congr (h := fun j => atA (l.take (k + 1)) (v.take (k + 1)) (j : Int)) (fun j _ => by
              rw [HT.out]
              by_cases hj : j = m
              · rw [if_pos hj, if_pos (by omega)]
              · rw [if_neg hj, if_neg (by omega)]))
            clear HT HGr HPr HCr HOr
            go_wp2
            go_roundw
            case rel => exact ⟨k + 1, by go_num, by omega, HGs.out, HPs.out, HCs.out, HOs.out⟩
            case measure => simp [intOf]; omega
          · have hkn : k = n := by omega
            subst hkn
            have HOe : Hid (OutAt wr w'.heap.size (fun j => atA l v (j : Int))) := Lib.hid (by
              have h := HOr.out
              rwa [List.take_of_length_le (by have := HN.out; omega), List.take_of_length_le (by have := HN.out; have := HLL.out; omega)] at h)
            have hv := HV.out
            subst hv
            clear HOr HV
            go_wp2_with (first | (refine wpl_loadP (f := inB l) rfl rfl rfl HPr.out ?_) | (refine wpl_loadO (f := fun j => atA l v (j : Int)) rfl rfl rfl HOe.out ?_))
            refine (HM.out _).mono ?_; rintro e w6 ⟨rfl, hg6⟩
            have HC6 := Lib.hid (HCr.out.gr hg6)
            have HG6 := Lib.hid (HGr.out.trans hg6)
            clear hg6 HM HCr HGr HPr HOe
            go_wp2_with (refine wpl_store3 (c := lightR l v) rfl rfl rfl rfl HC6.out ?_)
            refine bodyPost_ret (v := .tuple #[vC (lightR l v), .int .i64 0]) ?_ rfl ⟨by first | rfl | simp, HG6.out.row (Nat.le_refl _) _⟩
            rw [results_cell_tmp rfl]
            simp [asAddr, Result.andThen]
            rw [run_load3 (show C3At _ _ _ from HC6.out.row (lightR l v))]
    · rw [if_pos hll] at hV
      subst hV
      have hne : ((v.length : Int) != (l.length : Int)) = true := by simp; omega
      go_enter Try.func17, Try.ntmps17
      go_wp2_with fail
      refine HP.out.mono ?_; rintro e w1 ⟨rfl, hg1⟩
      obtain ⟨w2, hw2⟩ : ∃ v, v = (w1.alloc (.cells #[.bool false, .bool false, .bool false, .bool false, .bool false, .bool false, .bool false, .bool false, .bool false, .bool false, .bool false, .bool false, .bool false, .bool false, .bool false] 60)).setRow w1.heap.size (palA (inB l)) := ⟨_, rfl⟩
      have HG2 := Lib.hid (show Gr w w2 by rw [hw2]; exact ((HG0.out.trans hg1).alloc (.cells (palA fun _ => false) 60)).row (g := w1.heap.size) (HG0.out.trans hg1).size (palA (inB l)))
      have HCa := HC0.out.gr hg1
      have hlt : w.heap.size < w1.heap.size := cellLt HCa.c0
      have HC2 := Lib.hid (show C3At w2 w.heap.size (0, 0, 0) by rw [hw2]; exact (HCa.gr ((Gr.refl w1).alloc (.cells (palA fun _ => false) 60))).orow (by omega))
      have HP2 := Lib.hid (show PalAt w2 w1.heap.size (inB l) by rw [hw2]; exact (PalAt.new w1 (fun _ => false)).row (inB l))
      have HW2 := Lib.hid hw2
      clear hg1 HCa hw2
      generalize l.length = n1 at *
      generalize v.length = n2 at *
      unfold maxLen at hl hvl
      go_wp2_with (first | (refine wpl_storeP (f := inB l) rfl rfl rfl rfl (PalAt.new w1 (fun _ => false)) ?_; rw [← HW2.out]) | (refine wpl_store3 (c := (0, 0, 0)) rfl rfl rfl rfl HC2.out ?_))
      refine bodyPost_ret (v := .tuple #[vC (0, 0, 0), .int .i64 14]) ?_ rfl ⟨by first | rfl | simp, HG2.out.row (Nat.le_refl _) _⟩
      rw [results_cell_tmp rfl]
      simp [asAddr, Result.andThen]
      rw [run_load3 (show C3At _ _ _ from HC2.out.row (0, 0, 0))]
  · rw [if_pos hp] at hV
    subst hV
    have hz : (palR l == 0) = false := by simp [hp]
    generalize (fun k => decide (palR l = 0) && inB l k) = F at *
    generalize palR l = E at *
    go_enter Try.func17, Try.ntmps17
    go_wp2_with fail
    refine HP.out.mono ?_; rintro e w1 ⟨rfl, hg1⟩
    obtain ⟨w2, hw2⟩ : ∃ v, v = (w1.alloc (.cells #[.bool false, .bool false, .bool false, .bool false, .bool false, .bool false, .bool false, .bool false, .bool false, .bool false, .bool false, .bool false, .bool false, .bool false, .bool false] 60)).setRow w1.heap.size (palA F) := ⟨_, rfl⟩
    have HG2 := Lib.hid (show Gr w w2 by rw [hw2]; exact ((HG0.out.trans hg1).alloc (.cells (palA fun _ => false) 60)).row (g := w1.heap.size) (HG0.out.trans hg1).size (palA F))
    have HCa := HC0.out.gr hg1
    have hlt : w.heap.size < w1.heap.size := cellLt HCa.c0
    have HC2 := Lib.hid (show C3At w2 w.heap.size (0, 0, 0) by rw [hw2]; exact (HCa.gr ((Gr.refl w1).alloc (.cells (palA fun _ => false) 60))).orow (by omega))
    have HP2 := Lib.hid (show PalAt w2 w1.heap.size F by rw [hw2]; exact (PalAt.new w1 (fun _ => false)).row F)
    have HW2 := Lib.hid hw2
    clear hg1 HCa hw2
    go_wp2_with (first | (refine wpl_storeP (f := F) rfl rfl rfl rfl (PalAt.new w1 (fun _ => false)) ?_; rw [← HW2.out]) | (refine wpl_store3 (c := (0, 0, 0)) rfl rfl rfl rfl HC2.out ?_))
    refine bodyPost_ret (v := .tuple #[vC (0, 0, 0), .int .i64 E]) ?_ rfl ⟨by first | rfl | simp, HG2.out.row (Nat.le_refl _) _⟩
    rw [results_cell_tmp rfl]
    simp [asAddr, Result.andThen]
    rw [run_load3 (show C3At _ _ _ from HC2.out.row (0, 0, 0))]
end Go.Proofs.Ytipfofdjngnkpaa
