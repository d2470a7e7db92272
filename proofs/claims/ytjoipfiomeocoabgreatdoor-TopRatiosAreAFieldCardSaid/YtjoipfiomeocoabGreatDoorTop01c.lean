/- T1: TopRatiosAreAField. -/
import Derived.Test.YtjoipfiomeocoabGreatDoorTop01a
import Derived.Test.YtjoipfiomeocoabGreatDoorLaw02g
set_option linter.unusedVariables false
set_option linter.unusedSimpArgs false
namespace Go.Proofs.YtjoipfiomeocoabGreatDoor
open Go.RowKit Go.Shelf
open Z

section
variable {w0 : World} (htab : Tab w0) (hmx : Mx w0)
include htab hmx
set_option maxHeartbeats 4000000 in
set_option maxRecDepth 100000 in
theorem top_TopRatiosAreAField {s t u : ByteArray} (hs : s.size ≤ maxLen) (ht : t.size ≤ maxLen) (hu : u.size ≤ maxLen) : Ret w0 9 #[.string s, .string t, .string u] (.bool true) := by
  have RI := Lib.hid (top_runIntegers htab hmx)
  unfold maxLen at hs ht hu
  by_cases z0 : s.size ≤ 40
  · have K0 := Lib.hid (retG_Check2 (w0 := w0) (s := s) (by omega))
    by_cases y0 : chkS s = 0
    · rw [y0] at K0
      by_cases z1 : t.size ≤ 40
      · have K1 := Lib.hid (retG_Check2 (w0 := w0) (s := t) (by omega))
        by_cases y1 : chkS t = 0
        · rw [y1] at K1
          by_cases z2 : u.size ≤ 40
          · have K2 := Lib.hid (retG_Check2 (w0 := w0) (s := u) (by omega))
            by_cases y2 : chkS u = 0
            · rw [y2] at K2
              obtain ⟨a, ea, ka, -⟩ := text_sh y0 z0
              obtain ⟨b, eb, kb, -⟩ := text_sh y1 z1
              obtain ⟨c, ec, kc, -⟩ := text_sh y2 z2
              have is0 := RT_is0 b
              have nf : Lib.nDigits a.floor.natAbs ≤ 40 := Nat.le_trans (nDigits_mono (floor_abs a)) ka.1
              have ng : Lib.nDigits b.floor.natAbs ≤ 40 := Nat.le_trans (nDigits_mono (floor_abs b)) kb.1
              have kf := sh_of_int nf
              have kg := sh_of_int ng
              have kbc := kb.add kc
              have kab := ka.mul kb
              have kac := ka.mul kc
              have kd := ka.sub kb
              have A1 := Lib.hid ((ret_QAdd htab hmx (s := RT (b)) (t := RT (c)) (RT_small (kb.inR (by omega))) (RT_small (kc.inR (by omega)))).si ((op2_ok (kb.inR (by omega)) (kc.inR (by omega))).trans (addR_sh kb kc (by omega))))
              have M1 := Lib.hid ((ret_QMul htab hmx (s := RT (a)) (t := RT (b + c)) (RT_small (ka.inR (by omega))) (RT_small (kbc.inR (by omega)))).si ((op2_ok (ka.inR (by omega)) (kbc.inR (by omega))).trans (mulR_sh ka kbc (by omega))))
              have M2 := Lib.hid ((ret_QMul htab hmx (s := RT (a)) (t := RT (b)) (RT_small (ka.inR (by omega))) (RT_small (kb.inR (by omega)))).si ((op2_ok (ka.inR (by omega)) (kb.inR (by omega))).trans (mulR_sh ka kb (by omega))))
              have M3 := Lib.hid ((ret_QMul htab hmx (s := RT (a)) (t := RT (c)) (RT_small (ka.inR (by omega))) (RT_small (kc.inR (by omega)))).si ((op2_ok (ka.inR (by omega)) (kc.inR (by omega))).trans (mulR_sh ka kc (by omega))))
              have A2 := Lib.hid ((ret_QAdd htab hmx (s := RT (a * b)) (t := RT (a * c)) (RT_small (kab.inR (by omega))) (RT_small (kac.inR (by omega)))).si ((op2_ok (kab.inR (by omega)) (kac.inR (by omega))).trans (addR_sh kab kac (by omega))))
              have S1 := Lib.hid ((ret_QSub htab hmx (s := RT (a)) (t := RT (b)) (RT_small (ka.inR (by omega))) (RT_small (kb.inR (by omega)))).si ((op2_ok (ka.inR (by omega)) (kb.inR (by omega))).trans (subR_sh ka kb (by omega))))
              have A3 := Lib.hid ((ret_QAdd htab hmx (s := RT (a - b)) (t := RT (b)) (RT_small (kd.inR (by omega))) (RT_small (kb.inR (by omega)))).si ((op2_ok (kd.inR (by omega)) (kb.inR (by omega))).trans (addR_sh kd kb (by omega))))
              rw [Rat.mul_add] at M1
              rw [Rat.sub_add_cancel] at A3
              have F1 := Lib.hid ((ret_QFloor htab hmx (RT_small (ka.inR (by omega)))).si (floorR_ok (ka.inR (by omega))))
              have F2 := Lib.hid ((ret_QFloor htab hmx (RT_small (kb.inR (by omega)))).si (floorR_ok (kb.inR (by omega))))
              have J1 := Lib.hid (ret_Add htab (a := a.floor) (b := b.floor) (Nat.le_trans nf (by omega)) (Nat.le_trans ng (by omega)) (Nat.le_trans (nd_add nf ng (by omega)) (by omega)))
              have J2 := Lib.hid (ret_Mul htab (a := a.floor) (b := b.floor) (Nat.le_trans nf (by omega)) (Nat.le_trans ng (by omega)) (Nat.le_trans (nd_mul nf ng (by omega) (by omega)) (by omega)))
              have U1 := Lib.hid ((ret_QAdd htab hmx (s := RT ((a.floor : Rat))) (t := RT ((b.floor : Rat))) (RT_small (kf.inR (by omega))) (RT_small (kg.inR (by omega)))).si ((op2_ok (kf.inR (by omega)) (kg.inR (by omega))).trans (addR_sh kf kg (by omega))))
              have U2 := Lib.hid ((ret_QMul htab hmx (s := RT ((a.floor : Rat))) (t := RT ((b.floor : Rat))) (RT_small (kf.inR (by omega))) (RT_small (kg.inR (by omega)))).si ((op2_ok (kf.inR (by omega)) (kg.inR (by omega))).trans (mulR_sh kf kg (by omega))))
              rw [← Rat.intCast_add, RT_int, RT_int, RT_int] at U1
              rw [← Rat.intCast_mul, RT_int, RT_int, RT_int] at U2
              by_cases hb : b = 0
              · rw [decide_eq_true hb] at is0
                clear ka kb kc kf kg nf ng kbc kab kac kd htab hmx y0 y1 y2 hb
                generalize RT (a * b + a * c) = x1 at *
                generalize RT (a * b) = x2 at *
                generalize RT (a * c) = x3 at *
                generalize RT (b + c) = x4 at *
                generalize RT (a - b) = x5 at *
                generalize Tx (a.floor + b.floor) = x6 at *
                generalize Tx (a.floor * b.floor) = x7 at *
                generalize Tx a.floor = x8 at *
                generalize Tx b.floor = x9 at *
                generalize RT a = a' at *
                generalize RT b = b' at *
                generalize RT c = c' at *
                subst ea eb ec
                intro w hg
                have HG := Lib.hid hg; clear hg
                go_enter Tryz.func9, Tryz.ntmps9
                go_wp2_with fail
                refine (RI.out _ HG.out).mono ?_
                rintro e w1 ⟨rfl, hg⟩
                replace HG := Lib.hid hg; clear hg
                go_wp2
                obtain ⟨W, hW⟩ : ∃ W, W = w1.alloc (.cells #[.string s, .string t, .string u] 25) := ⟨_, rfl⟩
                have c0 : W.cell? ⟨w1.heap.size, 0, none⟩ = some (.string s) := by rw [hW]; simp
                have c1 : W.cell? ⟨w1.heap.size, 1, none⟩ = some (.string t) := by rw [hW]; simp
                have c2 : W.cell? ⟨w1.heap.size, 2, none⟩ = some (.string u) := by rw [hW]; simp
                have HGW : Hid (Gr w0 W) := by show Gr w0 W; rw [hW]; exact HG.out.alloc _
                rw [← hW]
                clear hW HG
                go_loopw [8, 40] (fun _ i wr => ∃ k : Nat, k ≤ 3 ∧ i = .int .i64 k ∧ Hid (Gr W wr)) (fun _ i _ => 4 - (intOf i).toNat)
                case atStart => exact ⟨0, Nat.zero_le _, rfl, Gr.refl _⟩
                case round =>
                  obtain ⟨k, hk, rfl, HR⟩ := hrel
                  have hkk : k = 0 ∨ k = 1 ∨ k = 2 ∨ k = 3 := by omega
                  rcases hkk with rfl | rfl | rfl | rfl
                  · have d := gr_cell HR.out c0
                    go_wp2_with fail
                    refine (K0.out _ (Gr.trans HGW.out HR.out)).mono ?_
                    rintro e w2 ⟨rfl, hg⟩
                    have HR2 := Lib.hid (Gr.trans HR.out hg)
                    clear hg d
                    go_wp2
                    go_roundw
                    case rel => exact ⟨1, by omega, by go_num, HR2.out⟩
                    case measure => simp [intOf]
                  · have d := gr_cell HR.out c1
                    go_wp2_with fail
                    refine (K1.out _ (Gr.trans HGW.out HR.out)).mono ?_
                    rintro e w2 ⟨rfl, hg⟩
                    have HR2 := Lib.hid (Gr.trans HR.out hg)
                    clear hg d
                    go_wp2
                    go_roundw
                    case rel => exact ⟨2, by omega, by go_num, HR2.out⟩
                    case measure => simp [intOf]
                  · have d := gr_cell HR.out c2
                    go_wp2_with fail
                    refine (K2.out _ (Gr.trans HGW.out HR.out)).mono ?_
                    rintro e w2 ⟨rfl, hg⟩
                    have HR2 := Lib.hid (Gr.trans HR.out hg)
                    clear hg d
                    go_wp2
                    go_roundw
                    case rel => exact ⟨3, by omega, by go_num, HR2.out⟩
                    case measure => simp [intOf]
                  · have HG := Lib.hid (Gr.trans HGW.out HR.out)
                    clear HR c0 c1 c2
                    go_wp2_with fail
                    refine (A1.out _ HG.out).mono ?_
                    rintro e w1 ⟨rfl, hg⟩
                    replace HG := Lib.hid hg; clear hg
                    go_wp2_with fail
                    refine (M1.out _ HG.out).mono ?_
                    rintro e w1 ⟨rfl, hg⟩
                    replace HG := Lib.hid hg; clear hg
                    go_wp2_with fail
                    refine (M2.out _ HG.out).mono ?_
                    rintro e w1 ⟨rfl, hg⟩
                    replace HG := Lib.hid hg; clear hg
                    go_wp2_with fail
                    refine (M3.out _ HG.out).mono ?_
                    rintro e w1 ⟨rfl, hg⟩
                    replace HG := Lib.hid hg; clear hg
                    go_wp2_with fail
                    refine (A2.out _ HG.out).mono ?_
                    rintro e w1 ⟨rfl, hg⟩
                    replace HG := Lib.hid hg; clear hg
                    go_wp2_with fail
                    refine (S1.out _ HG.out).mono ?_
                    rintro e w1 ⟨rfl, hg⟩
                    replace HG := Lib.hid hg; clear hg
                    go_wp2_with fail
                    refine (A3.out _ HG.out).mono ?_
                    rintro e w1 ⟨rfl, hg⟩
                    replace HG := Lib.hid hg; clear hg
                    go_wp2_with fail
                    refine (F1.out _ HG.out).mono ?_
                    rintro e w1 ⟨rfl, hg⟩
                    replace HG := Lib.hid hg; clear hg
                    go_wp2_with fail
                    refine (F2.out _ HG.out).mono ?_
                    rintro e w1 ⟨rfl, hg⟩
                    replace HG := Lib.hid hg; clear hg
                    go_wp2_with fail
                    refine (J1.out _ HG.out).mono ?_
                    rintro e w1 ⟨rfl, hg⟩
                    replace HG := Lib.hid hg; clear hg
                    go_wp2_with fail
                    refine (J2.out _ HG.out).mono ?_
                    rintro e w1 ⟨rfl, hg⟩
                    replace HG := Lib.hid hg; clear hg
                    go_wp2_with fail
                    refine (U1.out _ HG.out).mono ?_
                    rintro e w1 ⟨rfl, hg⟩
                    replace HG := Lib.hid hg; clear hg
                    go_wp2_with fail
                    refine (U2.out _ HG.out).mono ?_
                    rintro e w1 ⟨rfl, hg⟩
                    replace HG := Lib.hid hg; clear hg
                    go_wp2
                    go_ret
                    exact ⟨rfl, HG.out⟩
              · rw [decide_eq_false hb] at is0
                have kq := ka.div kb hb
                have D1 := Lib.hid ((ret_QDiv htab hmx (s := RT (a)) (t := RT (b)) (RT_small (ka.inR (by omega))) (RT_small (kb.inR (by omega)))).si ((op2_ok (ka.inR (by omega)) (kb.inR (by omega))).trans (divR_sh ka kb (by omega) hb)))
                have D2 := Lib.hid ((ret_QMul htab hmx (s := RT (a / b)) (t := RT (b)) (RT_small (kq.inR (by omega))) (RT_small (kb.inR (by omega)))).si ((op2_ok (kq.inR (by omega)) (kb.inR (by omega))).trans (mulR_sh kq kb (by omega))))
                rw [Rat.div_mul_cancel hb] at D2
                clear ka kb kc kf kg nf ng kbc kab kac kd htab hmx y0 y1 y2 hb kq
                generalize RT (a * b + a * c) = x1 at *
                generalize RT (a * b) = x2 at *
                generalize RT (a * c) = x3 at *
                generalize RT (b + c) = x4 at *
                generalize RT (a - b) = x5 at *
                generalize Tx (a.floor + b.floor) = x6 at *
                generalize Tx (a.floor * b.floor) = x7 at *
                generalize Tx a.floor = x8 at *
                generalize Tx b.floor = x9 at *
                generalize RT (a / b) = x10 at *
                generalize RT a = a' at *
                generalize RT b = b' at *
                generalize RT c = c' at *
                subst ea eb ec
                intro w hg
                have HG := Lib.hid hg; clear hg
                go_enter Tryz.func9, Tryz.ntmps9
                go_wp2_with fail
                refine (RI.out _ HG.out).mono ?_
                rintro e w1 ⟨rfl, hg⟩
                replace HG := Lib.hid hg; clear hg
                go_wp2
                obtain ⟨W, hW⟩ : ∃ W, W = w1.alloc (.cells #[.string s, .string t, .string u] 25) := ⟨_, rfl⟩
                have c0 : W.cell? ⟨w1.heap.size, 0, none⟩ = some (.string s) := by rw [hW]; simp
                have c1 : W.cell? ⟨w1.heap.size, 1, none⟩ = some (.string t) := by rw [hW]; simp
                have c2 : W.cell? ⟨w1.heap.size, 2, none⟩ = some (.string u) := by rw [hW]; simp
                have HGW : Hid (Gr w0 W) := by show Gr w0 W; rw [hW]; exact HG.out.alloc _
                rw [← hW]
                clear hW HG
                go_loopw [8, 40] (fun _ i wr => ∃ k : Nat, k ≤ 3 ∧ i = .int .i64 k ∧ Hid (Gr W wr)) (fun _ i _ => 4 - (intOf i).toNat)
                case atStart => exact ⟨0, Nat.zero_le _, rfl, Gr.refl _⟩
                case round =>
                  obtain ⟨k, hk, rfl, HR⟩ := hrel
                  have hkk : k = 0 ∨ k = 1 ∨ k = 2 ∨ k = 3 := by omega
                  rcases hkk with rfl | rfl | rfl | rfl
                  · have d := gr_cell HR.out c0
                    go_wp2_with fail
                    refine (K0.out _ (Gr.trans HGW.out HR.out)).mono ?_
                    rintro e w2 ⟨rfl, hg⟩
                    have HR2 := Lib.hid (Gr.trans HR.out hg)
                    clear hg d
                    go_wp2
                    go_roundw
                    case rel => exact ⟨1, by omega, by go_num, HR2.out⟩
                    case measure => simp [intOf]
                  · have d := gr_cell HR.out c1
                    go_wp2_with fail
                    refine (K1.out _ (Gr.trans HGW.out HR.out)).mono ?_
                    rintro e w2 ⟨rfl, hg⟩
                    have HR2 := Lib.hid (Gr.trans HR.out hg)
                    clear hg d
                    go_wp2
                    go_roundw
                    case rel => exact ⟨2, by omega, by go_num, HR2.out⟩
                    case measure => simp [intOf]
                  · have d := gr_cell HR.out c2
                    go_wp2_with fail
                    refine (K2.out _ (Gr.trans HGW.out HR.out)).mono ?_
                    rintro e w2 ⟨rfl, hg⟩
                    have HR2 := Lib.hid (Gr.trans HR.out hg)
                    clear hg d
                    go_wp2
                    go_roundw
                    case rel => exact ⟨3, by omega, by go_num, HR2.out⟩
                    case measure => simp [intOf]
                  · have HG := Lib.hid (Gr.trans HGW.out HR.out)
                    clear HR c0 c1 c2
                    go_wp2_with fail
                    refine (A1.out _ HG.out).mono ?_
                    rintro e w1 ⟨rfl, hg⟩
                    replace HG := Lib.hid hg; clear hg
                    go_wp2_with fail
                    refine (M1.out _ HG.out).mono ?_
                    rintro e w1 ⟨rfl, hg⟩
                    replace HG := Lib.hid hg; clear hg
                    go_wp2_with fail
                    refine (M2.out _ HG.out).mono ?_
                    rintro e w1 ⟨rfl, hg⟩
                    replace HG := Lib.hid hg; clear hg
                    go_wp2_with fail
                    refine (M3.out _ HG.out).mono ?_
                    rintro e w1 ⟨rfl, hg⟩
                    replace HG := Lib.hid hg; clear hg
                    go_wp2_with fail
                    refine (A2.out _ HG.out).mono ?_
                    rintro e w1 ⟨rfl, hg⟩
                    replace HG := Lib.hid hg; clear hg
                    go_wp2_with fail
                    refine (S1.out _ HG.out).mono ?_
                    rintro e w1 ⟨rfl, hg⟩
                    replace HG := Lib.hid hg; clear hg
                    go_wp2_with fail
                    refine (A3.out _ HG.out).mono ?_
                    rintro e w1 ⟨rfl, hg⟩
                    replace HG := Lib.hid hg; clear hg
                    go_wp2_with fail
                    refine (D1.out _ HG.out).mono ?_
                    rintro e w1 ⟨rfl, hg⟩
                    replace HG := Lib.hid hg; clear hg
                    go_wp2_with fail
                    refine (D2.out _ HG.out).mono ?_
                    rintro e w1 ⟨rfl, hg⟩
                    replace HG := Lib.hid hg; clear hg
                    go_wp2_with fail
                    refine (F1.out _ HG.out).mono ?_
                    rintro e w1 ⟨rfl, hg⟩
                    replace HG := Lib.hid hg; clear hg
                    go_wp2_with fail
                    refine (F2.out _ HG.out).mono ?_
                    rintro e w1 ⟨rfl, hg⟩
                    replace HG := Lib.hid hg; clear hg
                    go_wp2_with fail
                    refine (J1.out _ HG.out).mono ?_
                    rintro e w1 ⟨rfl, hg⟩
                    replace HG := Lib.hid hg; clear hg
                    go_wp2_with fail
                    refine (J2.out _ HG.out).mono ?_
                    rintro e w1 ⟨rfl, hg⟩
                    replace HG := Lib.hid hg; clear hg
                    go_wp2_with fail
                    refine (U1.out _ HG.out).mono ?_
                    rintro e w1 ⟨rfl, hg⟩
                    replace HG := Lib.hid hg; clear hg
                    go_wp2_with fail
                    refine (U2.out _ HG.out).mono ?_
                    rintro e w1 ⟨rfl, hg⟩
                    replace HG := Lib.hid hg; clear hg
                    go_wp2
                    go_ret
                    exact ⟨rfl, HG.out⟩
            · have hne : (chkS u == 0) = false := beq_eq_false_iff_ne.2 y2
              have hne2 : (chkS u != 0) = true := bne_iff_ne.2 y2
              clear htab hmx
              generalize chkS u = c at *
              intro w hg
              have HG := Lib.hid hg; clear hg
              go_enter Tryz.func9, Tryz.ntmps9
              go_wp2_with fail
              refine (RI.out _ HG.out).mono ?_
              rintro e w1 ⟨rfl, hg⟩
              replace HG := Lib.hid hg; clear hg
              go_wp2
              obtain ⟨W, hW⟩ : ∃ W, W = w1.alloc (.cells #[.string s, .string t, .string u] 25) := ⟨_, rfl⟩
              have c0 : W.cell? ⟨w1.heap.size, 0, none⟩ = some (.string s) := by rw [hW]; simp
              have c1 : W.cell? ⟨w1.heap.size, 1, none⟩ = some (.string t) := by rw [hW]; simp
              have c2 : W.cell? ⟨w1.heap.size, 2, none⟩ = some (.string u) := by rw [hW]; simp
              have HGW : Hid (Gr w0 W) := by show Gr w0 W; rw [hW]; exact HG.out.alloc _
              rw [← hW]
              clear hW HG
              go_loopw [8, 40] (fun _ i wr => ∃ k : Nat, k ≤ 2 ∧ i = .int .i64 k ∧ Hid (Gr W wr)) (fun _ i _ => 4 - (intOf i).toNat)
              case atStart => exact ⟨0, Nat.zero_le _, rfl, Gr.refl _⟩
              case round =>
                obtain ⟨k, hk, rfl, HR⟩ := hrel
                have hkk : k = 0 ∨ k = 1 ∨ k = 2 := by omega
                rcases hkk with rfl | rfl | rfl
                · have d := gr_cell HR.out c0
                  go_wp2_with fail
                  refine (K0.out _ (Gr.trans HGW.out HR.out)).mono ?_
                  rintro e w2 ⟨rfl, hg⟩
                  have HR2 := Lib.hid (Gr.trans HR.out hg)
                  clear hg d
                  go_wp2
                  go_roundw
                  case rel => exact ⟨1, by omega, by go_num, HR2.out⟩
                  case measure => simp [intOf]
                · have d := gr_cell HR.out c1
                  go_wp2_with fail
                  refine (K1.out _ (Gr.trans HGW.out HR.out)).mono ?_
                  rintro e w2 ⟨rfl, hg⟩
                  have HR2 := Lib.hid (Gr.trans HR.out hg)
                  clear hg d
                  go_wp2
                  go_roundw
                  case rel => exact ⟨2, by omega, by go_num, HR2.out⟩
                  case measure => simp [intOf]
                · have d := gr_cell HR.out c2
                  go_wp2_with fail
                  refine (K2.out _ (Gr.trans HGW.out HR.out)).mono ?_
                  rintro e w2 ⟨rfl, hg⟩
                  have HR2 := Lib.hid (Gr.trans (Gr.trans HGW.out HR.out) hg)
                  clear hg d
                  go_wp2
                  go_ret
                  exact ⟨rfl, HR2.out⟩
          · have z2' : 40 < u.size := by omega
            clear z2 htab hmx
            intro w hg
            have HG := Lib.hid hg; clear hg
            go_enter Tryz.func9, Tryz.ntmps9
            go_wp2_with fail
            refine (RI.out _ HG.out).mono ?_
            rintro e w1 ⟨rfl, hg⟩
            replace HG := Lib.hid hg; clear hg
            go_wp2
            obtain ⟨W, hW⟩ : ∃ W, W = w1.alloc (.cells #[.string s, .string t, .string u] 25) := ⟨_, rfl⟩
            have c0 : W.cell? ⟨w1.heap.size, 0, none⟩ = some (.string s) := by rw [hW]; simp
            have c1 : W.cell? ⟨w1.heap.size, 1, none⟩ = some (.string t) := by rw [hW]; simp
            have c2 : W.cell? ⟨w1.heap.size, 2, none⟩ = some (.string u) := by rw [hW]; simp
            have HGW : Hid (Gr w0 W) := by show Gr w0 W; rw [hW]; exact HG.out.alloc _
            rw [← hW]
            clear hW HG
            go_loopw [8, 40] (fun _ i wr => ∃ k : Nat, k ≤ 2 ∧ i = .int .i64 k ∧ Hid (Gr W wr)) (fun _ i _ => 4 - (intOf i).toNat)
            case atStart => exact ⟨0, Nat.zero_le _, rfl, Gr.refl _⟩
            case round =>
              obtain ⟨k, hk, rfl, HR⟩ := hrel
              have hkk : k = 0 ∨ k = 1 ∨ k = 2 := by omega
              rcases hkk with rfl | rfl | rfl
              · have d := gr_cell HR.out c0
                go_wp2_with fail
                refine (K0.out _ (Gr.trans HGW.out HR.out)).mono ?_
                rintro e w2 ⟨rfl, hg⟩
                have HR2 := Lib.hid (Gr.trans HR.out hg)
                clear hg d
                go_wp2
                go_roundw
                case rel => exact ⟨1, by omega, by go_num, HR2.out⟩
                case measure => simp [intOf]
              · have d := gr_cell HR.out c1
                go_wp2_with fail
                refine (K1.out _ (Gr.trans HGW.out HR.out)).mono ?_
                rintro e w2 ⟨rfl, hg⟩
                have HR2 := Lib.hid (Gr.trans HR.out hg)
                clear hg d
                go_wp2
                go_roundw
                case rel => exact ⟨2, by omega, by go_num, HR2.out⟩
                case measure => simp [intOf]
              · have d := gr_cell HR.out c2
                go_wp2
                go_ret
                exact ⟨rfl, Gr.trans HGW.out HR.out⟩
        · have hne : (chkS t == 0) = false := beq_eq_false_iff_ne.2 y1
          have hne2 : (chkS t != 0) = true := bne_iff_ne.2 y1
          clear htab hmx
          generalize chkS t = c at *
          intro w hg
          have HG := Lib.hid hg; clear hg
          go_enter Tryz.func9, Tryz.ntmps9
          go_wp2_with fail
          refine (RI.out _ HG.out).mono ?_
          rintro e w1 ⟨rfl, hg⟩
          replace HG := Lib.hid hg; clear hg
          go_wp2
          obtain ⟨W, hW⟩ : ∃ W, W = w1.alloc (.cells #[.string s, .string t, .string u] 25) := ⟨_, rfl⟩
          have c0 : W.cell? ⟨w1.heap.size, 0, none⟩ = some (.string s) := by rw [hW]; simp
          have c1 : W.cell? ⟨w1.heap.size, 1, none⟩ = some (.string t) := by rw [hW]; simp
          have c2 : W.cell? ⟨w1.heap.size, 2, none⟩ = some (.string u) := by rw [hW]; simp
          have HGW : Hid (Gr w0 W) := by show Gr w0 W; rw [hW]; exact HG.out.alloc _
          rw [← hW]
          clear hW HG
          go_loopw [8, 40] (fun _ i wr => ∃ k : Nat, k ≤ 1 ∧ i = .int .i64 k ∧ Hid (Gr W wr)) (fun _ i _ => 4 - (intOf i).toNat)
          case atStart => exact ⟨0, Nat.zero_le _, rfl, Gr.refl _⟩
          case round =>
            obtain ⟨k, hk, rfl, HR⟩ := hrel
            have hkk : k = 0 ∨ k = 1 := by omega
            rcases hkk with rfl | rfl
            · have d := gr_cell HR.out c0
              go_wp2_with fail
              refine (K0.out _ (Gr.trans HGW.out HR.out)).mono ?_
              rintro e w2 ⟨rfl, hg⟩
              have HR2 := Lib.hid (Gr.trans HR.out hg)
              clear hg d
              go_wp2
              go_roundw
              case rel => exact ⟨1, by omega, by go_num, HR2.out⟩
              case measure => simp [intOf]
            · have d := gr_cell HR.out c1
              go_wp2_with fail
              refine (K1.out _ (Gr.trans HGW.out HR.out)).mono ?_
              rintro e w2 ⟨rfl, hg⟩
              have HR2 := Lib.hid (Gr.trans (Gr.trans HGW.out HR.out) hg)
              clear hg d
              go_wp2
              go_ret
              exact ⟨rfl, HR2.out⟩
      · have z1' : 40 < t.size := by omega
        clear z1 htab hmx
        intro w hg
        have HG := Lib.hid hg; clear hg
        go_enter Tryz.func9, Tryz.ntmps9
        go_wp2_with fail
        refine (RI.out _ HG.out).mono ?_
        rintro e w1 ⟨rfl, hg⟩
        replace HG := Lib.hid hg; clear hg
        go_wp2
        obtain ⟨W, hW⟩ : ∃ W, W = w1.alloc (.cells #[.string s, .string t, .string u] 25) := ⟨_, rfl⟩
        have c0 : W.cell? ⟨w1.heap.size, 0, none⟩ = some (.string s) := by rw [hW]; simp
        have c1 : W.cell? ⟨w1.heap.size, 1, none⟩ = some (.string t) := by rw [hW]; simp
        have c2 : W.cell? ⟨w1.heap.size, 2, none⟩ = some (.string u) := by rw [hW]; simp
        have HGW : Hid (Gr w0 W) := by show Gr w0 W; rw [hW]; exact HG.out.alloc _
        rw [← hW]
        clear hW HG
        go_loopw [8, 40] (fun _ i wr => ∃ k : Nat, k ≤ 1 ∧ i = .int .i64 k ∧ Hid (Gr W wr)) (fun _ i _ => 4 - (intOf i).toNat)
        case atStart => exact ⟨0, Nat.zero_le _, rfl, Gr.refl _⟩
        case round =>
          obtain ⟨k, hk, rfl, HR⟩ := hrel
          have hkk : k = 0 ∨ k = 1 := by omega
          rcases hkk with rfl | rfl
          · have d := gr_cell HR.out c0
            go_wp2_with fail
            refine (K0.out _ (Gr.trans HGW.out HR.out)).mono ?_
            rintro e w2 ⟨rfl, hg⟩
            have HR2 := Lib.hid (Gr.trans HR.out hg)
            clear hg d
            go_wp2
            go_roundw
            case rel => exact ⟨1, by omega, by go_num, HR2.out⟩
            case measure => simp [intOf]
          · have d := gr_cell HR.out c1
            go_wp2
            go_ret
            exact ⟨rfl, Gr.trans HGW.out HR.out⟩
    · have hne : (chkS s == 0) = false := beq_eq_false_iff_ne.2 y0
      have hne2 : (chkS s != 0) = true := bne_iff_ne.2 y0
      clear htab hmx
      generalize chkS s = c at *
      intro w hg
      have HG := Lib.hid hg; clear hg
      go_enter Tryz.func9, Tryz.ntmps9
      go_wp2_with fail
      refine (RI.out _ HG.out).mono ?_
      rintro e w1 ⟨rfl, hg⟩
      replace HG := Lib.hid hg; clear hg
      go_wp2
      obtain ⟨W, hW⟩ : ∃ W, W = w1.alloc (.cells #[.string s, .string t, .string u] 25) := ⟨_, rfl⟩
      have c0 : W.cell? ⟨w1.heap.size, 0, none⟩ = some (.string s) := by rw [hW]; simp
      have c1 : W.cell? ⟨w1.heap.size, 1, none⟩ = some (.string t) := by rw [hW]; simp
      have c2 : W.cell? ⟨w1.heap.size, 2, none⟩ = some (.string u) := by rw [hW]; simp
      have HGW : Hid (Gr w0 W) := by show Gr w0 W; rw [hW]; exact HG.out.alloc _
      rw [← hW]
      clear hW HG
      go_loopw [8, 40] (fun _ i wr => ∃ k : Nat, k ≤ 0 ∧ i = .int .i64 k ∧ Hid (Gr W wr)) (fun _ i _ => 4 - (intOf i).toNat)
      case atStart => exact ⟨0, Nat.zero_le _, rfl, Gr.refl _⟩
      case round =>
        obtain ⟨k, hk, rfl, HR⟩ := hrel
        have hkk : k = 0 := by omega
        obtain rfl : k = 0 := by omega
        have d := gr_cell HR.out c0
        go_wp2_with fail
        refine (K0.out _ (Gr.trans HGW.out HR.out)).mono ?_
        rintro e w2 ⟨rfl, hg⟩
        have HR2 := Lib.hid (Gr.trans (Gr.trans HGW.out HR.out) hg)
        clear hg d
        go_wp2
        go_ret
        exact ⟨rfl, HR2.out⟩
  · have z0' : 40 < s.size := by omega
    clear z0 htab hmx
    intro w hg
    have HG := Lib.hid hg; clear hg
    go_enter Tryz.func9, Tryz.ntmps9
    go_wp2_with fail
    refine (RI.out _ HG.out).mono ?_
    rintro e w1 ⟨rfl, hg⟩
    replace HG := Lib.hid hg; clear hg
    go_wp2
    obtain ⟨W, hW⟩ : ∃ W, W = w1.alloc (.cells #[.string s, .string t, .string u] 25) := ⟨_, rfl⟩
    have c0 : W.cell? ⟨w1.heap.size, 0, none⟩ = some (.string s) := by rw [hW]; simp
    have c1 : W.cell? ⟨w1.heap.size, 1, none⟩ = some (.string t) := by rw [hW]; simp
    have c2 : W.cell? ⟨w1.heap.size, 2, none⟩ = some (.string u) := by rw [hW]; simp
    have HGW : Hid (Gr w0 W) := by show Gr w0 W; rw [hW]; exact HG.out.alloc _
    rw [← hW]
    clear hW HG
    go_loopw [8, 40] (fun _ i wr => ∃ k : Nat, k ≤ 0 ∧ i = .int .i64 k ∧ Hid (Gr W wr)) (fun _ i _ => 4 - (intOf i).toNat)
    case atStart => exact ⟨0, Nat.zero_le _, rfl, Gr.refl _⟩
    case round =>
      obtain ⟨k, hk, rfl, HR⟩ := hrel
      have hkk : k = 0 := by omega
      obtain rfl : k = 0 := by omega
      have d := gr_cell HR.out c0
      go_wp2
      go_ret
      exact ⟨rfl, Gr.trans HGW.out HR.out⟩
end
end Go.Proofs.YtjoipfiomeocoabGreatDoor
