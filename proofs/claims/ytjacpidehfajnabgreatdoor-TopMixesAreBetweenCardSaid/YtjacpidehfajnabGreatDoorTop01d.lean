/- T1: TopMixesAreBetween. -/
import Derived.Test.YtjacpidehfajnabGreatDoorTop01a
import Derived.Test.YtjacpidehfajnabGreatDoorLaw02g
set_option linter.unusedVariables false
set_option linter.unusedSimpArgs false
namespace Go.Proofs.YtjacpidehfajnabGreatDoor
open Go.RowKit Go.Shelf
open Z

section
variable {w0 : World} (htab : Tab w0) (hmx : Mx w0)
include htab hmx
set_option maxHeartbeats 4000000 in
set_option maxRecDepth 100000 in
theorem top_TopMixesAreBetween {s t u : ByteArray} (hs : s.size ≤ maxLen) (ht : t.size ≤ maxLen) (hu : u.size ≤ maxLen) : Ret w0 9 #[.string s, .string t, .string u] (.bool true) := by
  have RI := Lib.hid (top_runIntegers htab hmx)
  unfold maxLen at hs ht hu
  by_cases z0 : s.size ≤ 30
  · have K0 := Lib.hid (retG_Check2 (w0 := w0) (s := s) (by omega))
    by_cases y0 : chkS s = 0
    · rw [y0] at K0
      by_cases z1 : t.size ≤ 30
      · have K1 := Lib.hid (retG_Check2 (w0 := w0) (s := t) (by omega))
        by_cases y1 : chkS t = 0
        · rw [y1] at K1
          by_cases z2 : u.size ≤ 30
          · have K2 := Lib.hid (retG_Check2 (w0 := w0) (s := u) (by omega))
            by_cases y2 : chkS u = 0
            · rw [y2] at K2
              obtain ⟨a, ea, ka, -⟩ := text_sh y0 z0
              obtain ⟨b, eb, kb, -⟩ := text_sh y1 z1
              obtain ⟨c, ec, kc, -⟩ := text_sh y2 z2
              have z5 := lit_RT (s := ⟨#[48]⟩) (r := 0) (by decide +kernel) (by decide +kernel)
              have z6 := lit_RT (s := ⟨#[49]⟩) (r := 1) (by decide +kernel) (by decide +kernel)
              have k0 := sh_lit (s := ⟨#[48]⟩) (r := 0) (by decide +kernel) (by decide +kernel) (by decide)
              have k1 := sh_lit (s := ⟨#[49]⟩) (r := 1) (by decide +kernel) (by decide +kernel) (by decide)
              have O1 := ret_OrderR (w0 := w0) kc k0 (by omega) (by omega)
              have O2 := ret_OrderR (w0 := w0) kc k1 (by omega) (by omega)
              rw [z5] at O1
              rw [z6] at O2
              by_cases v0 : c < 0
              · rw [cmpQ_lt v0] at O1
                have O1' := Lib.hid O1
                clear O1 O2 v0 z5 z6 k0 k1 ka kb kc htab hmx y0 y1 y2
                generalize RT a = a' at *
                generalize RT b = b' at *
                generalize RT c = c' at *
                subst ea eb ec
                intro w hg
                have HG := Lib.hid hg; clear hg
                go_enter Tryz.func9, Tryz.ntmps9
                go_wp2_with fail
                refine (RI.out _ HG.out).mono ?_
                rintro e w1 ⟨rfl, hg⟩
                replace HG := Lib.hid hg; clear hg
                go_wp2
                obtain ⟨W, hW⟩ : ∃ W, W = w1.alloc (.cells #[.string s, .string t, .string u] 22) := ⟨_, rfl⟩
                have c0 : W.cell? ⟨w1.heap.size, 0, none⟩ = some (.string s) := by rw [hW]; simp
                have c1 : W.cell? ⟨w1.heap.size, 1, none⟩ = some (.string t) := by rw [hW]; simp
                have c2 : W.cell? ⟨w1.heap.size, 2, none⟩ = some (.string u) := by rw [hW]; simp
                have HGW : Hid (Gr w0 W) := by show Gr w0 W; rw [hW]; exact HG.out.alloc _
                rw [← hW]
                clear hW HG
                go_loopw [8, 34] (fun _ i wr => ∃ k : Nat, k ≤ 3 ∧ i = .int .i64 k ∧ Hid (Gr W wr)) (fun _ i _ => 4 - (intOf i).toNat)
                case atStart => exact ⟨0, Nat.zero_le _, rfl, Gr.refl _⟩
                case round =>
                  obtain ⟨k, hk, rfl, HR⟩ := hrel
                  have hkk : k = 0 ∨ k = 1 ∨ k = 2 ∨ k = 3 := by omega
                  rcases hkk with rfl | rfl | rfl | rfl
                  · have d := gr_cell HR.out c0
                    go_wp2_with fail
                    refine (K0.out _ (Gr.trans HGW.out HR.out)).mono ?_
                    rintro e w2 ⟨rfl, hg⟩
                    have HR2 := Lib.hid (Gr.trans HR.out hg)
                    clear hg d
                    go_wp2
                    go_roundw
                    case rel => exact ⟨1, by omega, by go_num, HR2.out⟩
                    case measure => simp [intOf]
                  · have d := gr_cell HR.out c1
                    go_wp2_with fail
                    refine (K1.out _ (Gr.trans HGW.out HR.out)).mono ?_
                    rintro e w2 ⟨rfl, hg⟩
                    have HR2 := Lib.hid (Gr.trans HR.out hg)
                    clear hg d
                    go_wp2
                    go_roundw
                    case rel => exact ⟨2, by omega, by go_num, HR2.out⟩
                    case measure => simp [intOf]
                  · have d := gr_cell HR.out c2
                    go_wp2_with fail
                    refine (K2.out _ (Gr.trans HGW.out HR.out)).mono ?_
                    rintro e w2 ⟨rfl, hg⟩
                    have HR2 := Lib.hid (Gr.trans HR.out hg)
                    clear hg d
                    go_wp2
                    go_roundw
                    case rel => exact ⟨3, by omega, by go_num, HR2.out⟩
                    case measure => simp [intOf]
                  · have HG := Lib.hid (Gr.trans HGW.out HR.out)
                    clear HR c0 c1 c2
                    go_wp2_with fail
                    refine (O1'.out _ HG.out).mono ?_
                    rintro e w1 ⟨rfl, hg⟩
                    replace HG := Lib.hid hg; clear hg
                    go_wp2
                    go_ret
                    exact ⟨rfl, HG.out⟩
              · have n1 : ¬ cmpQ c 0 < 0 := by have := cmpQ_ge' (Rat.not_lt.1 v0); omega
                by_cases v1 : 1 < c
                · rw [cmpQ_gt v1] at O2
                  have O1' := Lib.hid O1
                  have O2' := Lib.hid O2
                  clear O1 O2 v0 v1 z5 z6 k0 k1 ka kb kc htab hmx y0 y1 y2
                  generalize cmpQ c 0 = o1 at *
                  generalize RT a = a' at *
                  generalize RT b = b' at *
                  generalize RT c = c' at *
                  subst ea eb ec
                  intro w hg
                  have HG := Lib.hid hg; clear hg
                  go_enter Tryz.func9, Tryz.ntmps9
                  go_wp2_with fail
                  refine (RI.out _ HG.out).mono ?_
                  rintro e w1 ⟨rfl, hg⟩
                  replace HG := Lib.hid hg; clear hg
                  go_wp2
                  obtain ⟨W, hW⟩ : ∃ W, W = w1.alloc (.cells #[.string s, .string t, .string u] 22) := ⟨_, rfl⟩
                  have c0 : W.cell? ⟨w1.heap.size, 0, none⟩ = some (.string s) := by rw [hW]; simp
                  have c1 : W.cell? ⟨w1.heap.size, 1, none⟩ = some (.string t) := by rw [hW]; simp
                  have c2 : W.cell? ⟨w1.heap.size, 2, none⟩ = some (.string u) := by rw [hW]; simp
                  have HGW : Hid (Gr w0 W) := by show Gr w0 W; rw [hW]; exact HG.out.alloc _
                  rw [← hW]
                  clear hW HG
                  go_loopw [8, 34] (fun _ i wr => ∃ k : Nat, k ≤ 3 ∧ i = .int .i64 k ∧ Hid (Gr W wr)) (fun _ i _ => 4 - (intOf i).toNat)
                  case atStart => exact ⟨0, Nat.zero_le _, rfl, Gr.refl _⟩
                  case round =>
                    obtain ⟨k, hk, rfl, HR⟩ := hrel
                    have hkk : k = 0 ∨ k = 1 ∨ k = 2 ∨ k = 3 := by omega
                    rcases hkk with rfl | rfl | rfl | rfl
                    · have d := gr_cell HR.out c0
                      go_wp2_with fail
                      refine (K0.out _ (Gr.trans HGW.out HR.out)).mono ?_
                      rintro e w2 ⟨rfl, hg⟩
                      have HR2 := Lib.hid (Gr.trans HR.out hg)
                      clear hg d
                      go_wp2
                      go_roundw
                      case rel => exact ⟨1, by omega, by go_num, HR2.out⟩
                      case measure => simp [intOf]
                    · have d := gr_cell HR.out c1
                      go_wp2_with fail
                      refine (K1.out _ (Gr.trans HGW.out HR.out)).mono ?_
                      rintro e w2 ⟨rfl, hg⟩
                      have HR2 := Lib.hid (Gr.trans HR.out hg)
                      clear hg d
                      go_wp2
                      go_roundw
                      case rel => exact ⟨2, by omega, by go_num, HR2.out⟩
                      case measure => simp [intOf]
                    · have d := gr_cell HR.out c2
                      go_wp2_with fail
                      refine (K2.out _ (Gr.trans HGW.out HR.out)).mono ?_
                      rintro e w2 ⟨rfl, hg⟩
                      have HR2 := Lib.hid (Gr.trans HR.out hg)
                      clear hg d
                      go_wp2
                      go_roundw
                      case rel => exact ⟨3, by omega, by go_num, HR2.out⟩
                      case measure => simp [intOf]
                    · have HG := Lib.hid (Gr.trans HGW.out HR.out)
                      clear HR c0 c1 c2
                      go_wp2_with fail
                      refine (O1'.out _ HG.out).mono ?_
                      rintro e w1 ⟨rfl, hg⟩
                      replace HG := Lib.hid hg; clear hg
                      go_wp2_with fail
                      refine (O2'.out _ HG.out).mono ?_
                      rintro e w1 ⟨rfl, hg⟩
                      replace HG := Lib.hid hg; clear hg
                      go_wp2
                      go_ret
                      exact ⟨rfl, HG.out⟩
                · have n2 : ¬ 0 < cmpQ c 1 := by have := cmpQ_le' (Rat.not_lt.1 v1); omega
                  have km := sh_mix ka kb kc
                  have M := (ret_QMix htab hmx (s := RT (a)) (t := RT (b)) (u := RT (c)) (RT_small (ka.inR (by omega))) (RT_small (kb.inR (by omega))) (RT_small (kc.inR (by omega)))).si (mix_sh ka kb kc (by omega))
                  have X := (ret_QMix htab hmx (s := RT (a)) (t := RT (b)) (u := RT (0)) (RT_small (ka.inR (by omega))) (RT_small (kb.inR (by omega))) (RT_small (k0.inR (by omega)))).si (mix_sh ka kb k0 (by omega))
                  have Y := (ret_QMix htab hmx (s := RT (a)) (t := RT (b)) (u := RT (1)) (RT_small (ka.inR (by omega))) (RT_small (kb.inR (by omega))) (RT_small (k1.inR (by omega)))).si (mix_sh ka kb k1 (by omega))
                  have N := (ret_QMix htab hmx (s := RT (a + (b - a) * c)) (t := RT (b)) (u := RT (c)) (RT_small (km.inR (by omega))) (RT_small (kb.inR (by omega))) (RT_small (kc.inR (by omega)))).si (mix_sh km kb kc (by omega))
                  rw [mix0, z5] at X
                  rw [mix1, z6] at Y
                  have kn := sh_mix km kb kc
                  have hbt : (∃ lo hi : Rat, Sh 30 lo ∧ Sh 30 hi ∧ minR (RT a) (RT b) = (RT lo, 0) ∧ maxR (RT a) (RT b) = (RT hi, 0) ∧ lo ≤ a + (b - a) * c ∧ a + (b - a) * c ≤ hi) := by
                    have e := cmp2_sh ka kb (by omega)
                    unfold minR maxR
                    rw [e]
                    simp only [if_true]
                    rcases cmpQ_cases a b with ⟨h, e1, _⟩ | ⟨h, e1, _⟩ | ⟨h, e1, _⟩
                    · obtain ⟨p, q⟩ := mix_ge (Rat.le_of_lt h) (Rat.not_lt.1 v0) (Rat.not_lt.1 v1)
                      exact ⟨a, b, ka, kb, by rw [e1, if_pos (by omega)], by rw [e1, if_neg (by omega)], p, q⟩
                    · subst h
                      obtain ⟨p, q⟩ := mix_ge (a := a) (b := a) Rat.le_refl (Rat.not_lt.1 v0) (Rat.not_lt.1 v1)
                      exact ⟨a, a, ka, ka, by rw [e1, if_neg (by omega)], by rw [e1, if_neg (by omega)], p, q⟩
                    · obtain ⟨p, q⟩ := mix_le (Rat.le_of_lt h) (Rat.not_lt.1 v0) (Rat.not_lt.1 v1)
                      exact ⟨b, a, kb, ka, by rw [e1, if_neg (by omega)], by rw [e1, if_pos (by omega)], p, q⟩
                  obtain ⟨lo, hi, kl, kh, el, eh, hl, hh⟩ := hbt
                  have MI := Lib.hid ((ret_QMin htab hmx (RT_small (ka.inR (by omega))) (RT_small (kb.inR (by omega)))).si el)
                  have MA := Lib.hid ((ret_QMax htab hmx (RT_small (ka.inR (by omega))) (RT_small (kb.inR (by omega)))).si eh)
                  have S1 := Lib.hid ((ret_QSub htab hmx (s := RT (b)) (t := RT (a + (b - a) * c)) (RT_small (kb.inR (by omega))) (RT_small (km.inR (by omega)))).si ((op2_ok (kb.inR (by omega)) (km.inR (by omega))).trans (subR_sh kb km (by omega))))
                  have S2 := Lib.hid ((ret_QSub htab hmx (s := RT (b)) (t := RT (a + (b - a) * c + (b - (a + (b - a) * c)) * c)) (RT_small (kb.inR (by omega))) (RT_small (kn.inR (by omega)))).si ((op2_ok (kb.inR (by omega)) (kn.inR (by omega))).trans (subR_sh kb kn (by omega))))
                  have S3 := Lib.hid ((ret_QSub htab hmx (s := RT (1)) (t := RT (c)) (RT_small (k1.inR (by omega))) (RT_small (kc.inR (by omega)))).si ((op2_ok (k1.inR (by omega)) (kc.inR (by omega))).trans (subR_sh k1 kc (by omega))))
                  have kfrom := kb.sub km
                  have krest := k1.sub kc
                  have P := Lib.hid ((ret_QMul htab hmx (s := RT (b - (a + (b - a) * c))) (t := RT (1 - c)) (RT_small (kfrom.inR (by omega))) (RT_small (krest.inR (by omega)))).si ((op2_ok (kfrom.inR (by omega)) (krest.inR (by omega))).trans (mulR_sh kfrom krest (by omega))))
                  rw [mix_less b (a + (b - a) * c) c] at S2
                  rw [z6] at S3
                  have C1 := Lib.hid ((ret_QCompare htab hmx (s := RT (lo)) (t := RT (a + (b - a) * c)) (RT_small (kl.inR (by omega))) (RT_small (km.inR (by omega)))).ii (cmp2_sh kl km (by omega)))
                  have C2 := Lib.hid ((ret_QCompare htab hmx (s := RT (a + (b - a) * c)) (t := RT (hi)) (RT_small (km.inR (by omega))) (RT_small (kh.inR (by omega)))).ii (cmp2_sh km kh (by omega)))
                  have h1 := cmpQ_le' hl
                  have h2 := cmpQ_le' hh
                  have O1' := Lib.hid O1
                  have O2' := Lib.hid O2
                  have M' := Lib.hid M
                  have X' := Lib.hid X
                  have Y' := Lib.hid Y
                  have N' := Lib.hid N
                  clear O1 O2 M X Y N v0 v1 z5 z6 k0 k1 ka kb kc km kn kl kh el eh hl hh kfrom krest htab hmx y0 y1 y2
                  generalize cmpQ c 0 = o1 at *
                  generalize cmpQ c 1 = o2 at *
                  generalize cmpQ lo (a + (b - a) * c) = o3 at *
                  generalize cmpQ (a + (b - a) * c) hi = o4 at *
                  generalize RT ((b - (a + (b - a) * c)) * (1 - c)) = x1 at *
                  generalize RT (b - (a + (b - a) * c)) = x2 at *
                  generalize RT (a + (b - a) * c + (b - (a + (b - a) * c)) * c) = x3 at *
                  generalize RT (a + (b - a) * c) = x4 at *
                  generalize RT (1 - c) = x5 at *
                  generalize RT lo = x6 at *
                  generalize RT hi = x7 at *
                  generalize RT a = a' at *
                  generalize RT b = b' at *
                  generalize RT c = c' at *
                  subst ea eb ec
                  intro w hg
                  have HG := Lib.hid hg; clear hg
                  go_enter Tryz.func9, Tryz.ntmps9
                  go_wp2_with fail
                  refine (RI.out _ HG.out).mono ?_
                  rintro e w1 ⟨rfl, hg⟩
                  replace HG := Lib.hid hg; clear hg
                  go_wp2
                  obtain ⟨W, hW⟩ : ∃ W, W = w1.alloc (.cells #[.string s, .string t, .string u] 22) := ⟨_, rfl⟩
                  have c0 : W.cell? ⟨w1.heap.size, 0, none⟩ = some (.string s) := by rw [hW]; simp
                  have c1 : W.cell? ⟨w1.heap.size, 1, none⟩ = some (.string t) := by rw [hW]; simp
                  have c2 : W.cell? ⟨w1.heap.size, 2, none⟩ = some (.string u) := by rw [hW]; simp
                  have HGW : Hid (Gr w0 W) := by show Gr w0 W; rw [hW]; exact HG.out.alloc _
                  rw [← hW]
                  clear hW HG
                  go_loopw [8, 34] (fun _ i wr => ∃ k : Nat, k ≤ 3 ∧ i = .int .i64 k ∧ Hid (Gr W wr)) (fun _ i _ => 4 - (intOf i).toNat)
                  case atStart => exact ⟨0, Nat.zero_le _, rfl, Gr.refl _⟩
                  case round =>
                    obtain ⟨k, hk, rfl, HR⟩ := hrel
                    have hkk : k = 0 ∨ k = 1 ∨ k = 2 ∨ k = 3 := by omega
                    rcases hkk with rfl | rfl | rfl | rfl
                    · have d := gr_cell HR.out c0
                      go_wp2_with fail
                      refine (K0.out _ (Gr.trans HGW.out HR.out)).mono ?_
                      rintro e w2 ⟨rfl, hg⟩
                      have HR2 := Lib.hid (Gr.trans HR.out hg)
                      clear hg d
                      go_wp2
                      go_roundw
                      case rel => exact ⟨1, by omega, by go_num, HR2.out⟩
                      case measure => simp [intOf]
                    · have d := gr_cell HR.out c1
                      go_wp2_with fail
                      refine (K1.out _ (Gr.trans HGW.out HR.out)).mono ?_
                      rintro e w2 ⟨rfl, hg⟩
                      have HR2 := Lib.hid (Gr.trans HR.out hg)
                      clear hg d
                      go_wp2
                      go_roundw
                      case rel => exact ⟨2, by omega, by go_num, HR2.out⟩
                      case measure => simp [intOf]
                    · have d := gr_cell HR.out c2
                      go_wp2_with fail
                      refine (K2.out _ (Gr.trans HGW.out HR.out)).mono ?_
                      rintro e w2 ⟨rfl, hg⟩
                      have HR2 := Lib.hid (Gr.trans HR.out hg)
                      clear hg d
                      go_wp2
                      go_roundw
                      case rel => exact ⟨3, by omega, by go_num, HR2.out⟩
                      case measure => simp [intOf]
                    · have HG := Lib.hid (Gr.trans HGW.out HR.out)
                      clear HR c0 c1 c2
                      go_wp2_with fail
                      refine (O1'.out _ HG.out).mono ?_
                      rintro e w1 ⟨rfl, hg⟩
                      replace HG := Lib.hid hg; clear hg
                      go_wp2_with fail
                      refine (O2'.out _ HG.out).mono ?_
                      rintro e w1 ⟨rfl, hg⟩
                      replace HG := Lib.hid hg; clear hg
                      go_wp2_with fail
                      refine (M'.out _ HG.out).mono ?_
                      rintro e w1 ⟨rfl, hg⟩
                      replace HG := Lib.hid hg; clear hg
                      go_wp2_with fail
                      refine (X'.out _ HG.out).mono ?_
                      rintro e w1 ⟨rfl, hg⟩
                      replace HG := Lib.hid hg; clear hg
                      go_wp2_with fail
                      refine (Y'.out _ HG.out).mono ?_
                      rintro e w1 ⟨rfl, hg⟩
                      replace HG := Lib.hid hg; clear hg
                      go_wp2_with fail
                      refine (N'.out _ HG.out).mono ?_
                      rintro e w1 ⟨rfl, hg⟩
                      replace HG := Lib.hid hg; clear hg
                      go_wp2_with fail
                      refine (MI.out _ HG.out).mono ?_
                      rintro e w1 ⟨rfl, hg⟩
                      replace HG := Lib.hid hg; clear hg
                      go_wp2_with fail
                      refine (MA.out _ HG.out).mono ?_
                      rintro e w1 ⟨rfl, hg⟩
                      replace HG := Lib.hid hg; clear hg
                      go_wp2_with fail
                      refine (S1.out _ HG.out).mono ?_
                      rintro e w1 ⟨rfl, hg⟩
                      replace HG := Lib.hid hg; clear hg
                      go_wp2_with fail
                      refine (S2.out _ HG.out).mono ?_
                      rintro e w1 ⟨rfl, hg⟩
                      replace HG := Lib.hid hg; clear hg
                      go_wp2_with fail
                      refine (S3.out _ HG.out).mono ?_
                      rintro e w1 ⟨rfl, hg⟩
                      replace HG := Lib.hid hg; clear hg
                      go_wp2_with fail
                      refine (P.out _ HG.out).mono ?_
                      rintro e w1 ⟨rfl, hg⟩
                      replace HG := Lib.hid hg; clear hg
                      go_wp2_with fail
                      refine (C1.out _ HG.out).mono ?_
                      rintro e w1 ⟨rfl, hg⟩
                      replace HG := Lib.hid hg; clear hg
                      go_wp2_with fail
                      refine (C2.out _ HG.out).mono ?_
                      rintro e w1 ⟨rfl, hg⟩
                      replace HG := Lib.hid hg; clear hg
                      go_wp2
                      go_ret
                      exact ⟨rfl, HG.out⟩
            · have hne : (chkS u == 0) = false := beq_eq_false_iff_ne.2 y2
              have hne2 : (chkS u != 0) = true := bne_iff_ne.2 y2
              clear htab hmx
              generalize chkS u = c at *
              intro w hg
              have HG := Lib.hid hg; clear hg
              go_enter Tryz.func9, Tryz.ntmps9
              go_wp2_with fail
              refine (RI.out _ HG.out).mono ?_
              rintro e w1 ⟨rfl, hg⟩
              replace HG := Lib.hid hg; clear hg
              go_wp2
              obtain ⟨W, hW⟩ : ∃ W, W = w1.alloc (.cells #[.string s, .string t, .string u] 22) := ⟨_, rfl⟩
              have c0 : W.cell? ⟨w1.heap.size, 0, none⟩ = some (.string s) := by rw [hW]; simp
              have c1 : W.cell? ⟨w1.heap.size, 1, none⟩ = some (.string t) := by rw [hW]; simp
              have c2 : W.cell? ⟨w1.heap.size, 2, none⟩ = some (.string u) := by rw [hW]; simp
              have HGW : Hid (Gr w0 W) := by show Gr w0 W; rw [hW]; exact HG.out.alloc _
              rw [← hW]
              clear hW HG
              go_loopw [8, 34] (fun _ i wr => ∃ k : Nat, k ≤ 2 ∧ i = .int .i64 k ∧ Hid (Gr W wr)) (fun _ i _ => 4 - (intOf i).toNat)
              case atStart => exact ⟨0, Nat.zero_le _, rfl, Gr.refl _⟩
              case round =>
                obtain ⟨k, hk, rfl, HR⟩ := hrel
                have hkk : k = 0 ∨ k = 1 ∨ k = 2 := by omega
                rcases hkk with rfl | rfl | rfl
                · have d := gr_cell HR.out c0
                  go_wp2_with fail
                  refine (K0.out _ (Gr.trans HGW.out HR.out)).mono ?_
                  rintro e w2 ⟨rfl, hg⟩
                  have HR2 := Lib.hid (Gr.trans HR.out hg)
                  clear hg d
                  go_wp2
                  go_roundw
                  case rel => exact ⟨1, by omega, by go_num, HR2.out⟩
                  case measure => simp [intOf]
                · have d := gr_cell HR.out c1
                  go_wp2_with fail
                  refine (K1.out _ (Gr.trans HGW.out HR.out)).mono ?_
                  rintro e w2 ⟨rfl, hg⟩
                  have HR2 := Lib.hid (Gr.trans HR.out hg)
                  clear hg d
                  go_wp2
                  go_roundw
                  case rel => exact ⟨2, by omega, by go_num, HR2.out⟩
                  case measure => simp [intOf]
                · have d := gr_cell HR.out c2
                  go_wp2_with fail
                  refine (K2.out _ (Gr.trans HGW.out HR.out)).mono ?_
                  rintro e w2 ⟨rfl, hg⟩
                  have HR2 := Lib.hid (Gr.trans (Gr.trans HGW.out HR.out) hg)
                  clear hg d
                  go_wp2
                  go_ret
                  exact ⟨rfl, HR2.out⟩
          · have z2' : 30 < u.size := by omega
            clear z2 htab hmx
            intro w hg
            have HG := Lib.hid hg; clear hg
            go_enter Tryz.func9, Tryz.ntmps9
            go_wp2_with fail
            refine (RI.out _ HG.out).mono ?_
            rintro e w1 ⟨rfl, hg⟩
            replace HG := Lib.hid hg; clear hg
            go_wp2
            obtain ⟨W, hW⟩ : ∃ W, W = w1.alloc (.cells #[.string s, .string t, .string u] 22) := ⟨_, rfl⟩
            have c0 : W.cell? ⟨w1.heap.size, 0, none⟩ = some (.string s) := by rw [hW]; simp
            have c1 : W.cell? ⟨w1.heap.size, 1, none⟩ = some (.string t) := by rw [hW]; simp
            have c2 : W.cell? ⟨w1.heap.size, 2, none⟩ = some (.string u) := by rw [hW]; simp
            have HGW : Hid (Gr w0 W) := by show Gr w0 W; rw [hW]; exact HG.out.alloc _
            rw [← hW]
            clear hW HG
            go_loopw [8, 34] (fun _ i wr => ∃ k : Nat, k ≤ 2 ∧ i = .int .i64 k ∧ Hid (Gr W wr)) (fun _ i _ => 4 - (intOf i).toNat)
            case atStart => exact ⟨0, Nat.zero_le _, rfl, Gr.refl _⟩
            case round =>
              obtain ⟨k, hk, rfl, HR⟩ := hrel
              have hkk : k = 0 ∨ k = 1 ∨ k = 2 := by omega
              rcases hkk with rfl | rfl | rfl
              · have d := gr_cell HR.out c0
                go_wp2_with fail
                refine (K0.out _ (Gr.trans HGW.out HR.out)).mono ?_
                rintro e w2 ⟨rfl, hg⟩
                have HR2 := Lib.hid (Gr.trans HR.out hg)
                clear hg d
                go_wp2
                go_roundw
                case rel => exact ⟨1, by omega, by go_num, HR2.out⟩
                case measure => simp [intOf]
              · have d := gr_cell HR.out c1
                go_wp2_with fail
                refine (K1.out _ (Gr.trans HGW.out HR.out)).mono ?_
                rintro e w2 ⟨rfl, hg⟩
                have HR2 := Lib.hid (Gr.trans HR.out hg)
                clear hg d
                go_wp2
                go_roundw
                case rel => exact ⟨2, by omega, by go_num, HR2.out⟩
                case measure => simp [intOf]
              · have d := gr_cell HR.out c2
                go_wp2
                go_ret
                exact ⟨rfl, Gr.trans HGW.out HR.out⟩
        · have hne : (chkS t == 0) = false := beq_eq_false_iff_ne.2 y1
          have hne2 : (chkS t != 0) = true := bne_iff_ne.2 y1
          clear htab hmx
          generalize chkS t = c at *
          intro w hg
          have HG := Lib.hid hg; clear hg
          go_enter Tryz.func9, Tryz.ntmps9
          go_wp2_with fail
          refine (RI.out _ HG.out).mono ?_
          rintro e w1 ⟨rfl, hg⟩
          replace HG := Lib.hid hg; clear hg
          go_wp2
          obtain ⟨W, hW⟩ : ∃ W, W = w1.alloc (.cells #[.string s, .string t, .string u] 22) := ⟨_, rfl⟩
          have c0 : W.cell? ⟨w1.heap.size, 0, none⟩ = some (.string s) := by rw [hW]; simp
          have c1 : W.cell? ⟨w1.heap.size, 1, none⟩ = some (.string t) := by rw [hW]; simp
          have c2 : W.cell? ⟨w1.heap.size, 2, none⟩ = some (.string u) := by rw [hW]; simp
          have HGW : Hid (Gr w0 W) := by show Gr w0 W; rw [hW]; exact HG.out.alloc _
          rw [← hW]
          clear hW HG
          go_loopw [8, 34] (fun _ i wr => ∃ k : Nat, k ≤ 1 ∧ i = .int .i64 k ∧ Hid (Gr W wr)) (fun _ i _ => 4 - (intOf i).toNat)
          case atStart => exact ⟨0, Nat.zero_le _, rfl, Gr.refl _⟩
          case round =>
            obtain ⟨k, hk, rfl, HR⟩ := hrel
            have hkk : k = 0 ∨ k = 1 := by omega
            rcases hkk with rfl | rfl
            · have d := gr_cell HR.out c0
              go_wp2_with fail
              refine (K0.out _ (Gr.trans HGW.out HR.out)).mono ?_
              rintro e w2 ⟨rfl, hg⟩
              have HR2 := Lib.hid (Gr.trans HR.out hg)
              clear hg d
              go_wp2
              go_roundw
              case rel => exact ⟨1, by omega, by go_num, HR2.out⟩
              case measure => simp [intOf]
            · have d := gr_cell HR.out c1
              go_wp2_with fail
              refine (K1.out _ (Gr.trans HGW.out HR.out)).mono ?_
              rintro e w2 ⟨rfl, hg⟩
              have HR2 := Lib.hid (Gr.trans (Gr.trans HGW.out HR.out) hg)
              clear hg d
              go_wp2
              go_ret
              exact ⟨rfl, HR2.out⟩
      · have z1' : 30 < t.size := by omega
        clear z1 htab hmx
        intro w hg
        have HG := Lib.hid hg; clear hg
        go_enter Tryz.func9, Tryz.ntmps9
        go_wp2_with fail
        refine (RI.out _ HG.out).mono ?_
        rintro e w1 ⟨rfl, hg⟩
        replace HG := Lib.hid hg; clear hg
        go_wp2
        obtain ⟨W, hW⟩ : ∃ W, W = w1.alloc (.cells #[.string s, .string t, .string u] 22) := ⟨_, rfl⟩
        have c0 : W.cell? ⟨w1.heap.size, 0, none⟩ = some (.string s) := by rw [hW]; simp
        have c1 : W.cell? ⟨w1.heap.size, 1, none⟩ = some (.string t) := by rw [hW]; simp
        have c2 : W.cell? ⟨w1.heap.size, 2, none⟩ = some (.string u) := by rw [hW]; simp
        have HGW : Hid (Gr w0 W) := by show Gr w0 W; rw [hW]; exact HG.out.alloc _
        rw [← hW]
        clear hW HG
        go_loopw [8, 34] (fun _ i wr => ∃ k : Nat, k ≤ 1 ∧ i = .int .i64 k ∧ Hid (Gr W wr)) (fun _ i _ => 4 - (intOf i).toNat)
        case atStart => exact ⟨0, Nat.zero_le _, rfl, Gr.refl _⟩
        case round =>
          obtain ⟨k, hk, rfl, HR⟩ := hrel
          have hkk : k = 0 ∨ k = 1 := by omega
          rcases hkk with rfl | rfl
          · have d := gr_cell HR.out c0
            go_wp2_with fail
            refine (K0.out _ (Gr.trans HGW.out HR.out)).mono ?_
            rintro e w2 ⟨rfl, hg⟩
            have HR2 := Lib.hid (Gr.trans HR.out hg)
            clear hg d
            go_wp2
            go_roundw
            case rel => exact ⟨1, by omega, by go_num, HR2.out⟩
            case measure => simp [intOf]
          · have d := gr_cell HR.out c1
            go_wp2
            go_ret
            exact ⟨rfl, Gr.trans HGW.out HR.out⟩
    · have hne : (chkS s == 0) = false := beq_eq_false_iff_ne.2 y0
      have hne2 : (chkS s != 0) = true := bne_iff_ne.2 y0
      clear htab hmx
      generalize chkS s = c at *
      intro w hg
      have HG := Lib.hid hg; clear hg
      go_enter Tryz.func9, Tryz.ntmps9
      go_wp2_with fail
      refine (RI.out _ HG.out).mono ?_
      rintro e w1 ⟨rfl, hg⟩
      replace HG := Lib.hid hg; clear hg
      go_wp2
      obtain ⟨W, hW⟩ : ∃ W, W = w1.alloc (.cells #[.string s, .string t, .string u] 22) := ⟨_, rfl⟩
      have c0 : W.cell? ⟨w1.heap.size, 0, none⟩ = some (.string s) := by rw [hW]; simp
      have c1 : W.cell? ⟨w1.heap.size, 1, none⟩ = some (.string t) := by rw [hW]; simp
      have c2 : W.cell? ⟨w1.heap.size, 2, none⟩ = some (.string u) := by rw [hW]; simp
      have HGW : Hid (Gr w0 W) := by show Gr w0 W; rw [hW]; exact HG.out.alloc _
      rw [← hW]
      clear hW HG
      go_loopw [8, 34] (fun _ i wr => ∃ k : Nat, k ≤ 0 ∧ i = .int .i64 k ∧ Hid (Gr W wr)) (fun _ i _ => 4 - (intOf i).toNat)
      case atStart => exact ⟨0, Nat.zero_le _, rfl, Gr.refl _⟩
      case round =>
        obtain ⟨k, hk, rfl, HR⟩ := hrel
        have hkk : k = 0 := by omega
        obtain rfl : k = 0 := by omega
        have d := gr_cell HR.out c0
        go_wp2_with fail
        refine (K0.out _ (Gr.trans HGW.out HR.out)).mono ?_
        rintro e w2 ⟨rfl, hg⟩
        have HR2 := Lib.hid (Gr.trans (Gr.trans HGW.out HR.out) hg)
        clear hg d
        go_wp2
        go_ret
        exact ⟨rfl, HR2.out⟩
  · have z0' : 30 < s.size := by omega
    clear z0 htab hmx
    intro w hg
    have HG := Lib.hid hg; clear hg
    go_enter Tryz.func9, Tryz.ntmps9
    go_wp2_with fail
    refine (RI.out _ HG.out).mono ?_
    rintro e w1 ⟨rfl, hg⟩
    replace HG := Lib.hid hg; clear hg
    go_wp2
    obtain ⟨W, hW⟩ : ∃ W, W = w1.alloc (.cells #[.string s, .string t, .string u] 22) := ⟨_, rfl⟩
    have c0 : W.cell? ⟨w1.heap.size, 0, none⟩ = some (.string s) := by rw [hW]; simp
    have c1 : W.cell? ⟨w1.heap.size, 1, none⟩ = some (.string t) := by rw [hW]; simp
    have c2 : W.cell? ⟨w1.heap.size, 2, none⟩ = some (.string u) := by rw [hW]; simp
    have HGW : Hid (Gr w0 W) := by show Gr w0 W; rw [hW]; exact HG.out.alloc _
    rw [← hW]
    clear hW HG
    go_loopw [8, 34] (fun _ i wr => ∃ k : Nat, k ≤ 0 ∧ i = .int .i64 k ∧ Hid (Gr W wr)) (fun _ i _ => 4 - (intOf i).toNat)
    case atStart => exact ⟨0, Nat.zero_le _, rfl, Gr.refl _⟩
    case round =>
      obtain ⟨k, hk, rfl, HR⟩ := hrel
      have hkk : k = 0 := by omega
      obtain rfl : k = 0 := by omega
      have d := gr_cell HR.out c0
      go_wp2
      go_ret
      exact ⟨rfl, Gr.trans HGW.out HR.out⟩
end
end Go.Proofs.YtjacpidehfajnabGreatDoor
