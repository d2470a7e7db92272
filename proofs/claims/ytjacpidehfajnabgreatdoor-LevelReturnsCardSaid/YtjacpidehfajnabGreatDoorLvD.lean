/- LvD: Lv13, Lv14, Lv15, joined. -/
import Derived.Test.YtjacpidehfajnabGreatDoorLvC
set_option linter.unusedVariables false
set_option linter.unusedSimpArgs false

/- The law's helper of layer 4: awake. -/
namespace Go.Proofs.YtjacpidehfajnabGreatDoor
open Go.RowKit Go.Shelf
open Z

theorem text_mid : textI 32768 = (⟨#[53, 48]⟩, 0) := by
  unfold textI
  rw [if_pos (by decide)]
  have e : textR (32768 : Int).toNat = [53, 48] := by
    show textR 32768 = _
    unfold textR
    rw [if_neg (by decide), show decN 32768 = 0 by decide, show leastM 32768 0 = 50 by decide]
    unfold pText
    rw [unit0, if_pos rfl, dig_more (by decide), dig_one (by decide)]; rfl
  rw [e]; rfl
theorem text_one : textI 1 = (⟨#[48, 46, 48, 48, 49]⟩, 0) := by
  unfold textI
  rw [if_pos (by decide)]
  have e : textR (1 : Int).toNat = [48, 46, 48, 48, 49] := by
    show textR 1 = _
    unfold textR
    rw [if_neg (by decide), show decN 1 = 3 by decide, show leastM 1 3 = 1 by decide]
    unfold pText
    rw [unit3, if_neg (by decide), show 1 / 1000 = 0 by decide, show 1 % 1000 = 1 by decide, tail3 (by decide), dig_one (by decide)]; rfl
  rw [e]; rfl
theorem text_high : textI 65534 = (⟨#[57, 57, 46, 57, 57, 56]⟩, 0) := by
  unfold textI
  rw [if_pos (by decide)]
  have e : textR (65534 : Int).toNat = [57, 57, 46, 57, 57, 56] := by
    show textR 65534 = _
    unfold textR
    rw [if_neg (by decide), show decN 65534 = 3 by decide, show leastM 65534 3 = 99998 by decide]
    unfold pText
    rw [unit3, if_neg (by decide), show 99998 / 1000 = 99 by decide, show 99998 % 1000 = 998 by decide, tail3 (by decide), dig_more (by decide), dig_one (by decide)]; rfl
  rw [e]; rfl
theorem eight_lit : eightR ⟨#[51, 50, 55, 54, 56]⟩ = (128, 0) := by decide +kernel
theorem lit_pct {s : ByteArray} {v : Int} (hs : s.size ≤ 100) (h : pctR s.data.toList = (v, 0)) (w : World) :
    Calls Tryz.prog 25 #[.string s] w fun e w' => e = .returned (.tuple #[.int .i64 v, .int .i64 0]) ∧ Gr w w' := by
  have H := lv_Percent s w (lit_len hs)
  rw [h] at H; exact H
section
variable {w0 : World} (htab : Tab w0) (hmx : Mx w0) (herr : ErrR w0)
include htab hmx herr
set_option maxHeartbeats 4000000 in
set_option maxRecDepth 100000 in
theorem l4_awake : Ret w0 11 #[] (.bool true) := by
  have P0 := Lib.hid (lit_pct (s := ⟨#[53, 48]⟩) (v := 32768) (by decide) (by decide +kernel))
  have P1 := Lib.hid (lit_pct (s := ⟨#[51, 55, 46, 53]⟩) (v := 24576) (by decide) (by decide +kernel))
  have P2 := Lib.hid (lit_pct (s := ⟨#[48, 46, 48, 48, 49]⟩) (v := 1) (by decide) (by decide +kernel))
  have P3 := Lib.hid (lit_pct (s := ⟨#[102, 117, 108, 108]⟩) (v := 65535) (by decide) (by decide +kernel))
  have P4 := Lib.hid (lit_pct (s := ⟨#[49, 48, 48]⟩) (v := 65535) (by decide) (by decide +kernel))
  have P5 := Lib.hid (lit_pct (s := ⟨#[48]⟩) (v := 0) (by decide) (by decide +kernel))
  have T1 : Hid (Ret w0 24 #[.int .i64 32768] (.tuple #[.string ⟨#[53, 48]⟩, .int .i64 0])) := .mk fun w hg => by
    have H := lv_Text 32768 w (by unfold isJ; omega) (htab_gr htab hg)
    rw [text_mid] at H; exact H
  have T2 : Hid (Ret w0 24 #[.int .i64 1] (.tuple #[.string ⟨#[48, 46, 48, 48, 49]⟩, .int .i64 0])) := .mk fun w hg => by
    have H := lv_Text 1 w (by unfold isJ; omega) (htab_gr htab hg)
    rw [text_one] at H; exact H
  have T3 : Hid (Ret w0 24 #[.int .i64 65534] (.tuple #[.string ⟨#[57, 57, 46, 57, 57, 56]⟩, .int .i64 0])) := .mk fun w hg => by
    have H := lv_Text 65534 w (by unfold isJ; omega) (htab_gr htab hg)
    rw [text_high] at H; exact H
  have E1 := Lib.hid ((ret_LEight htab hmx herr (s := ⟨#[51, 50, 55, 54, 56]⟩) (by decide)).ii eight_lit)
  have O1 : Hid (Ret w0 16 #[.int .i64 128, .int .i64 8] (.tuple #[.int .i64 32896, .int .i64 0])) := .same fun w => lv_Of 128 8 w (by unfold isJ; omega) (by unfold isJ; omega)
  have S1 : Hid (Ret w0 22 #[.int .i64 32768, .int .i64 32768] (.tuple #[.int .i64 16384, .int .i64 0])) := .same fun w => lv_Scale 32768 32768 w (by unfold isJ; omega) (by unfold isJ; omega)
  clear htab hmx herr
  intro w hg
  have HG := Lib.hid hg; clear hg
  go_enter Tryz.func11, Tryz.ntmps11
  go_wp2
  obtain ⟨W, hW⟩ : ∃ W, W = w.alloc (.cells #[.string ⟨#[53, 48]⟩, .int .i64 32768, .string ⟨#[51, 55, 46, 53]⟩, .int .i64 24576, .string ⟨#[48, 46, 48, 48, 49]⟩, .int .i64 1, .string ⟨#[102, 117, 108, 108]⟩, .int .i64 65535, .string ⟨#[49, 48, 48]⟩, .int .i64 65535, .string ⟨#[48]⟩, .int .i64 0] 60) := ⟨_, rfl⟩
  have c0 : W.cell? ⟨w.heap.size, 0, none⟩ = some (.string ⟨#[53, 48]⟩) := by rw [hW]; simp
  have c1 : W.cell? ⟨w.heap.size, 1, none⟩ = some (.int .i64 32768) := by rw [hW]; simp
  have c2 : W.cell? ⟨w.heap.size, 2, none⟩ = some (.string ⟨#[51, 55, 46, 53]⟩) := by rw [hW]; simp
  have c3 : W.cell? ⟨w.heap.size, 3, none⟩ = some (.int .i64 24576) := by rw [hW]; simp
  have c4 : W.cell? ⟨w.heap.size, 4, none⟩ = some (.string ⟨#[48, 46, 48, 48, 49]⟩) := by rw [hW]; simp
  have c5 : W.cell? ⟨w.heap.size, 5, none⟩ = some (.int .i64 1) := by rw [hW]; simp
  have c6 : W.cell? ⟨w.heap.size, 6, none⟩ = some (.string ⟨#[102, 117, 108, 108]⟩) := by rw [hW]; simp
  have c7 : W.cell? ⟨w.heap.size, 7, none⟩ = some (.int .i64 65535) := by rw [hW]; simp
  have c8 : W.cell? ⟨w.heap.size, 8, none⟩ = some (.string ⟨#[49, 48, 48]⟩) := by rw [hW]; simp
  have c9 : W.cell? ⟨w.heap.size, 9, none⟩ = some (.int .i64 65535) := by rw [hW]; simp
  have c10 : W.cell? ⟨w.heap.size, 10, none⟩ = some (.string ⟨#[48]⟩) := by rw [hW]; simp
  have c11 : W.cell? ⟨w.heap.size, 11, none⟩ = some (.int .i64 0) := by rw [hW]; simp
  have HGW : Hid (Gr w0 W) := by show Gr w0 W; rw [hW]; exact HG.out.alloc _
  rw [← hW]
  clear hW
  go_loopw [2, 3, 4, 25] (fun _ _ _ i wr => ∃ k : Nat, k ≤ 6 ∧ i = .int .i64 k ∧ Hid (Gr W wr)) (fun _ _ _ i _ => 6 - (intOf i).toNat)
  case atStart => exact ⟨0, Nat.zero_le _, rfl, Gr.refl _⟩
  case round =>
    obtain ⟨k, hk, rfl, HR⟩ := hrel
    have hk6 : k = 0 ∨ k = 1 ∨ k = 2 ∨ k = 3 ∨ k = 4 ∨ k = 5 ∨ k = 6 := by omega
    rcases hk6 with rfl | rfl | rfl | rfl | rfl | rfl | rfl
    · have d1 := gr_cell HR.out c0
      have d2 := gr_cell HR.out c1
      go_wp2_with fail
      refine (P0.out _).mono ?_
      rintro e w2 ⟨rfl, hg⟩
      have b1 := gr_cell hg (show (wr.alloc (.cells #[.string ⟨#[53, 48]⟩, .int .i64 32768] 60)).cell? ⟨wr.heap.size, 1, none⟩ = some (.int .i64 32768) by simp)
      have HR2 := Lib.hid (Gr.trans (HR.out.alloc _) hg)
      clear hg d1 d2
      go_wp2
      go_roundw
      case rel => exact ⟨1, by omega, by go_num, HR2.out⟩
      case measure => simp [intOf]
    · have d1 := gr_cell HR.out c2
      have d2 := gr_cell HR.out c3
      go_wp2_with fail
      refine (P1.out _).mono ?_
      rintro e w2 ⟨rfl, hg⟩
      have b1 := gr_cell hg (show (wr.alloc (.cells #[.string ⟨#[51, 55, 46, 53]⟩, .int .i64 24576] 60)).cell? ⟨wr.heap.size, 1, none⟩ = some (.int .i64 24576) by simp)
      have HR2 := Lib.hid (Gr.trans (HR.out.alloc _) hg)
      clear hg d1 d2
      go_wp2
      go_roundw
      case rel => exact ⟨2, by omega, by go_num, HR2.out⟩
      case measure => simp [intOf]
    · have d1 := gr_cell HR.out c4
      have d2 := gr_cell HR.out c5
      go_wp2_with fail
      refine (P2.out _).mono ?_
      rintro e w2 ⟨rfl, hg⟩
      have b1 := gr_cell hg (show (wr.alloc (.cells #[.string ⟨#[48, 46, 48, 48, 49]⟩, .int .i64 1] 60)).cell? ⟨wr.heap.size, 1, none⟩ = some (.int .i64 1) by simp)
      have HR2 := Lib.hid (Gr.trans (HR.out.alloc _) hg)
      clear hg d1 d2
      go_wp2
      go_roundw
      case rel => exact ⟨3, by omega, by go_num, HR2.out⟩
      case measure => simp [intOf]
    · have d1 := gr_cell HR.out c6
      have d2 := gr_cell HR.out c7
      go_wp2_with fail
      refine (P3.out _).mono ?_
      rintro e w2 ⟨rfl, hg⟩
      have b1 := gr_cell hg (show (wr.alloc (.cells #[.string ⟨#[102, 117, 108, 108]⟩, .int .i64 65535] 60)).cell? ⟨wr.heap.size, 1, none⟩ = some (.int .i64 65535) by simp)
      have HR2 := Lib.hid (Gr.trans (HR.out.alloc _) hg)
      clear hg d1 d2
      go_wp2
      go_roundw
      case rel => exact ⟨4, by omega, by go_num, HR2.out⟩
      case measure => simp [intOf]
    · have d1 := gr_cell HR.out c8
      have d2 := gr_cell HR.out c9
      go_wp2_with fail
      refine (P4.out _).mono ?_
      rintro e w2 ⟨rfl, hg⟩
      have b1 := gr_cell hg (show (wr.alloc (.cells #[.string ⟨#[49, 48, 48]⟩, .int .i64 65535] 60)).cell? ⟨wr.heap.size, 1, none⟩ = some (.int .i64 65535) by simp)
      have HR2 := Lib.hid (Gr.trans (HR.out.alloc _) hg)
      clear hg d1 d2
      go_wp2
      go_roundw
      case rel => exact ⟨5, by omega, by go_num, HR2.out⟩
      case measure => simp [intOf]
    · have d1 := gr_cell HR.out c10
      have d2 := gr_cell HR.out c11
      go_wp2_with fail
      refine (P5.out _).mono ?_
      rintro e w2 ⟨rfl, hg⟩
      have b1 := gr_cell hg (show (wr.alloc (.cells #[.string ⟨#[48]⟩, .int .i64 0] 60)).cell? ⟨wr.heap.size, 1, none⟩ = some (.int .i64 0) by simp)
      have HR2 := Lib.hid (Gr.trans (HR.out.alloc _) hg)
      clear hg d1 d2
      go_wp2
      go_roundw
      case rel => exact ⟨6, by omega, by go_num, HR2.out⟩
      case measure => simp [intOf]
    · have HH := Lib.hid (Gr.trans HGW.out HR.out)
      clear c0 c1 c2 c3 c4 c5 c6 c7 c8 c9 c10 c11 HG
      obtain ⟨HG, -⟩ : Hid (Gr w0 wr) ∧ True := ⟨HH, trivial⟩
      go_wp2_with fail
      refine (T1.out _ HG.out).mono ?_
      rintro e w1 ⟨rfl, hg⟩
      replace HG := Lib.hid hg; clear hg
      go_wp2_with fail
      refine (T2.out _ HG.out).mono ?_
      rintro e w1 ⟨rfl, hg⟩
      replace HG := Lib.hid hg; clear hg
      go_wp2_with fail
      refine (T3.out _ HG.out).mono ?_
      rintro e w1 ⟨rfl, hg⟩
      replace HG := Lib.hid hg; clear hg
      go_wp2_with fail
      refine (E1.out _ HG.out).mono ?_
      rintro e w1 ⟨rfl, hg⟩
      replace HG := Lib.hid hg; clear hg
      go_wp2_with fail
      refine (O1.out _ HG.out).mono ?_
      rintro e w1 ⟨rfl, hg⟩
      replace HG := Lib.hid hg; clear hg
      go_wp2_with fail
      refine (S1.out _ HG.out).mono ?_
      rintro e w1 ⟨rfl, hg⟩
      replace HG := Lib.hid hg; clear hg
      go_wp2
      go_ret
      exact ⟨rfl, HG.out⟩
end
end Go.Proofs.YtjacpidehfajnabGreatDoor

/- Laws of layer 4. -/
namespace Go.Proofs.YtjacpidehfajnabGreatDoor
open Go.RowKit Go.Shelf
open Z

theorem Ret.iii {w0 : World} {f : FuncId} {args : Array Value} {p : Int × Int × Int} {x y e : Int} (h : Ret w0 f args (vIII p)) (hp : p = (x, y, e)) : Ret w0 f args (.tuple #[.int .i64 x, .int .i64 y, .int .i64 e]) := by subst hp; exact h
/-- without its last decimal a text has one decimal less -/
theorem pText_less (m d : Nat) (hd : 2 ≤ d ∧ d ≤ 3) : (pText m d).take ((pText m d).length - 1) = pText (m / 10) (d - 1) := by
  have e : ∀ (a : List UInt8) (b c : UInt8) (r : List UInt8), (a ++ (r ++ [c])).take ((a ++ (r ++ [c])).length - 1) = a ++ r := fun a b c r => by
    rw [← List.append_assoc, List.length_append, List.length_singleton, Nat.add_sub_cancel, List.take_left' rfl]
  have : d = 2 ∨ d = 3 := by omega
  rcases this with rfl | rfl
  · have h1 : pText m 2 = Lib.decDigits (m / 100) ++ ([46, UInt8.ofNat (48 + m % 100 / 10)] ++ [UInt8.ofNat (48 + m % 100 % 10)]) := by
      unfold pText; rw [if_neg (by decide), unit2, tail2 (Nat.mod_lt _ (by decide))]; rfl
    have h2 : pText (m / 10) 1 = Lib.decDigits (m / 100) ++ [46, UInt8.ofNat (48 + m % 100 / 10)] := by
      unfold pText; rw [if_neg (by decide), unit1, tail1 (Nat.mod_lt _ (by decide)), show m / 10 / 10 = m / 100 by omega, show m / 10 % 10 = m % 100 / 10 by omega]
    rw [h1, e _ 0]; exact h2.symm
  · have h1 : pText m 3 = Lib.decDigits (m / 1000) ++ ([46, UInt8.ofNat (48 + m % 1000 / 100), UInt8.ofNat (48 + m % 1000 / 10 % 10)] ++ [UInt8.ofNat (48 + m % 1000 % 10)]) := by
      unfold pText; rw [if_neg (by decide), unit3, tail3 (Nat.mod_lt _ (by decide))]; rfl
    have h2 : pText (m / 10) 2 = Lib.decDigits (m / 1000) ++ [46, UInt8.ofNat (48 + m % 1000 / 100), UInt8.ofNat (48 + m % 1000 / 10 % 10)] := by
      unfold pText; rw [if_neg (by decide), unit2, tail2 (Nat.mod_lt _ (by decide)), show m / 10 / 100 = m / 1000 by omega, show m / 10 % 100 / 10 = m % 1000 / 100 by omega, show m / 10 % 100 % 10 = m % 1000 / 10 % 10 by omega]
    rw [h1, e _ 0]; exact h2.symm
theorem pText_one (m : Nat) : before (pText m 1) = pText (m / 10) 0 := by
  have w4 := (dec_decDigits (m / unitN 1)).2.1
  have e : pText m 1 = Lib.decDigits (m / unitN 1) ++ 46 :: (Lib.decDigits (unitN 1 + m % unitN 1)).tail := by unfold pText; rw [if_neg (by decide)]
  rw [e, (dotted_of w4).2.1]
  unfold pText; rw [unit1, unit0, Nat.div_one, if_pos rfl, List.append_nil]
theorem pText_facts (m d : Nat) (hd : 1 ≤ d ∧ d ≤ 3) : dotted (pText m d) = true ∧ (cutR (pText m d)).length = d := by
  have w4 := (dec_decDigits (m / unitN d)).2.1
  have e : pText m d = Lib.decDigits (m / unitN d) ++ 46 :: (Lib.decDigits (unitN d + m % unitN d)).tail := by unfold pText; rw [if_neg (by omega)]
  have h := dotted_of (b := (Lib.decDigits (unitN d + m % unitN d)).tail) w4
  rw [e]
  refine ⟨h.1, ?_⟩
  unfold cutR
  rw [h.1, if_pos rfl, h.2.2]
  exact (tail_facts hd).2.1
/-- a text with a point, and what is left of it without the last decimal, or all of them -/
theorem text_parts {n : Nat} (hn : n ≤ 65535) (hdt : dotted (textR n) = true) : ∃ (m d : Nat), 1 ≤ d ∧ d ≤ 3 ∧ textR n = pText m d ∧ (cutR (textR n)).length = d ∧
    (d = 1 → ∃ y : Nat, pctR (before (textR n)) = ((y : Int), 0) ∧ y ≠ n) ∧ (2 ≤ d → ∃ y : Nat, pctR ((textR n).take ((textR n).length - 1)) = ((y : Int), 0) ∧ y ≠ n) := by
  by_cases h5 : n = 65535
  · subst h5
    have e : textR 65535 = fullL := by unfold textR; rw [if_pos rfl]
    rw [e] at hdt; exact absurd hdt (by decide)
  · have e : textR n = pText (leastM n (decN n)) (decN n) := by unfold textR; rw [if_neg h5]
    have hd3 := decN_le n
    have hm := least_le (v := n) (by omega) hd3
    by_cases h0 : decN n = 0
    · rw [e, h0] at hdt
      have w4 := (dec_decDigits (leastM n 0 / unitN 0)).2.1
      have e2 : pText (leastM n 0) 0 = Lib.decDigits (leastM n 0 / unitN 0) := by unfold pText; simp
      rw [e2, (undotted_of w4).1] at hdt; cases hdt
    · refine ⟨leastM n (decN n), decN n, by omega, hd3, e, by rw [e]; exact (pText_facts _ _ ⟨by omega, hd3⟩).2, fun h1 => ?_, fun h2 => ?_⟩
      · rw [e]
        have hno := decN_none (v := n) (d := 0) (by omega)
        rw [h1] at hm ⊢
        rw [pText_one, pct_pText (by omega) (by rw [unit0]; rw [unit1] at hm; omega)]
        exact ⟨_, rfl, hasD_none (by omega) hno⟩
      · rw [e, pText_less _ _ ⟨h2, hd3⟩]
        have hno := decN_none (v := n) (d := decN n - 1) (by omega)
        have hle : leastM n (decN n) / 10 ≤ 100 * unitN (decN n - 1) := by
          have : decN n = 2 ∨ decN n = 3 := by omega
          rcases this with h | h
          · rw [h] at hm ⊢; rw [unit2] at hm; rw [show (2 : Nat) - 1 = 1 from rfl, unit1]; omega
          · rw [h] at hm ⊢; rw [unit3] at hm; rw [show (3 : Nat) - 1 = 2 from rfl, unit2]; omega
        rw [pct_pText (by omega) hle]
        exact ⟨_, rfl, hasD_none (by omega) hno⟩
theorem textR_size {n : Nat} (hn : n ≤ 65535) : (textR n).length ≤ 100 := by
  unfold textR
  split
  · decide
  · have hd3 := decN_le n
    have hm := least_le (v := n) (by omega) hd3
    generalize decN n = d at *
    generalize leastM n d = m at *
    unfold pText
    have h1 := Lib.decDigits_length (m / unitN d)
    have h2 := Lib.decDigits_length (unitN d + m % unitN d)
    have hu : unitN d ≤ 1000 := by
      have : d = 0 ∨ d = 1 ∨ d = 2 ∨ d = 3 := by omega
      rcases this with rfl | rfl | rfl | rfl <;> decide
    have hmm := Nat.mod_le m (unitN d)
    have hdd := Nat.div_le_self m (unitN d)
    have h3 : Lib.nDigits (m / unitN d) ≤ 10 := (nDigits_le_iff _ 10 (by omega)).2 (by omega)
    have h4 : Lib.nDigits (unitN d + m % unitN d) ≤ 10 := (nDigits_le_iff _ 10 (by omega)).2 (by omega)
    rw [List.length_append]
    split
    · simp; omega
    · rw [List.length_cons, List.length_tail]; omega
theorem eight_int {n : Int} (h0 : 0 ≤ n) (h1 : n ≤ 65535) : eightR (Tx n) = ((2 * n + 257) / 514, 0) := by
  have hin := lit_in n (by omega)
  have hc : compE (Tx n) = 0 := by rw [← RT_int, compE_RT hin, lvlQ_int h0 h1]; rfl
  unfold eightR
  rw [if_pos hc, ← RT_int, rv_RT, nearest_int]
theorem sixteen_int {n : Int} (h0 : 0 ≤ n) (h1 : n ≤ 65535) : sixteenR (Tx n) = (n, 0) := by
  have hin := lit_in n (by omega)
  have hc : compE (Tx n) = 0 := by rw [← RT_int, compE_RT hin, lvlQ_int h0 h1]; rfl
  unfold sixteenR
  rw [if_pos hc, ← RT_int, rv_RT, nearest_int]
theorem tx_short {n : Int} (h0 : 0 ≤ n) (h1 : n ≤ 65535) : (Tx n).size ≤ 400000 := by
  obtain ⟨x, rfl⟩ : ∃ x : Nat, n = (x : Int) := ⟨n.toNat, by omega⟩
  have := (Tx_small (n := x) (by omega)).1; omega
section
variable {w0 : World} (htab : Tab w0) (hmx : Mx w0) (herr : ErrR w0)
include htab hmx herr
set_option maxHeartbeats 1000000 in
set_option maxRecDepth 100000 in
theorem l4_LevelRaws {s : ByteArray} (hs : s.size ≤ maxLen) : Ret w0 3 #[.string s] (.bool true) := by
  have AW := Lib.hid (l4_awake htab hmx herr)
  have F := Lib.hid (ret_Few2 (w0 := w0) hs)
  by_cases h : s.size ≤ 120
  · rw [decide_eq_true h] at F
    have C1 := ret_LEight htab hmx herr (s := s) (by omega)
    have C2 := ret4_Eight (w0 := w0) (s := s) (by omega)
    have C3 := ret_LSixteen htab hmx herr (s := s) (by omega)
    have C4 := ret4_Sixteen (w0 := w0) (s := s) (by omega)
    obtain ⟨p, hp⟩ : ∃ p, eightR s = p := ⟨_, rfl⟩
    obtain ⟨q, hq⟩ : ∃ q, sixteenR s = q := ⟨_, rfl⟩
    rw [hp] at C1 C2
    rw [hq] at C3 C4
    obtain ⟨x, e⟩ := p
    obtain ⟨y, f⟩ := q
    have C1 := Lib.hid (C1.ii rfl)
    have C2 := Lib.hid (C2.ii rfl)
    have C3 := Lib.hid (C3.ii rfl)
    have C4 := Lib.hid (C4.ii rfl)
    clear htab hmx herr hs hp hq h
    intro w hg
    have HG := Lib.hid hg; clear hg
    go_enter Tryz.func3, Tryz.ntmps3
    go_wp2_with fail
    refine (F.out _ HG.out).mono ?_
    rintro e w1 ⟨rfl, hg⟩
    replace HG := Lib.hid hg; clear hg
    go_wp2_with fail
    refine (C1.out _ HG.out).mono ?_
    rintro e w1 ⟨rfl, hg⟩
    replace HG := Lib.hid hg; clear hg
    go_wp2_with fail
    refine (C2.out _ HG.out).mono ?_
    rintro e w1 ⟨rfl, hg⟩
    replace HG := Lib.hid hg; clear hg
    go_wp2_with fail
    refine (C3.out _ HG.out).mono ?_
    rintro e w1 ⟨rfl, hg⟩
    replace HG := Lib.hid hg; clear hg
    go_wp2_with fail
    refine (C4.out _ HG.out).mono ?_
    rintro e w1 ⟨rfl, hg⟩
    replace HG := Lib.hid hg; clear hg
    go_wp2_with fail
    refine (AW.out _ HG.out).mono ?_
    rintro e w1 ⟨rfl, hg⟩
    replace HG := Lib.hid hg; clear hg
    go_wp2
    go_ret
    exact ⟨rfl, HG.out⟩
  · rw [decide_eq_false h] at F
    clear htab hmx herr hs h
    intro w hg
    have HG := Lib.hid hg; clear hg
    go_enter Tryz.func3, Tryz.ntmps3
    go_wp2_with fail
    refine (F.out _ HG.out).mono ?_
    rintro e w1 ⟨rfl, hg⟩
    replace HG := Lib.hid hg; clear hg
    go_wp2_with fail
    refine (AW.out _ HG.out).mono ?_
    rintro e w1 ⟨rfl, hg⟩
    replace HG := Lib.hid hg; clear hg
    go_wp2
    go_ret
    exact ⟨rfl, HG.out⟩
set_option maxHeartbeats 1000000 in
set_option maxRecDepth 100000 in
theorem l4_LevelBytes {a b : Int} (ha : isJ a) (hb : isJ b) : Ret w0 4 #[.int .i64 a, .int .i64 b] (.bool true) := by
  have AW := Lib.hid (l4_awake htab hmx herr)
  have C1 : Ret w0 16 #[.int .i64 a, .int .i64 b] (vII (ofI a b)) := .same fun w => lv_Of a b w ha hb
  have C2 : Ret w0 17 #[.int .i64 a, .int .i64 b] (vII (ofI a b)) := .same fun w => r4_Raw a b w ha hb
  have C3 : Ret w0 18 #[.int .i64 a] (vIII (splitI a)) := .same fun w => lv_Split a w ha
  have C4 : Ret w0 19 #[.int .i64 a] (vIII (splitI a)) := .same fun w => r4_Split a w ha
  have C5 : Ret w0 20 #[.int .i64 a, .int .i64 b] (vII (joinI a b)) := .same fun w => lv_Join a b w ha hb
  have C6 : Ret w0 21 #[.int .i64 a, .int .i64 b] (vII (joinI a b)) := .same fun w => r4_Join a b w ha hb
  have C7 : Ret w0 22 #[.int .i64 a, .int .i64 b] (vII (scaleI a b)) := .same fun w => lv_Scale a b w ha hb
  have C8 : Ret w0 23 #[.int .i64 a, .int .i64 b] (vII (scaleI a b)) := .same fun w => r4_Scale a b w ha hb
  obtain ⟨p, hp⟩ : ∃ p, ofI a b = p := ⟨_, rfl⟩
  obtain ⟨q, hq⟩ : ∃ q, splitI a = q := ⟨_, rfl⟩
  obtain ⟨r, hr⟩ : ∃ r, joinI a b = r := ⟨_, rfl⟩
  obtain ⟨t, ht⟩ : ∃ t, scaleI a b = t := ⟨_, rfl⟩
  rw [hp] at C1 C2
  rw [hq] at C3 C4
  rw [hr] at C5 C6
  rw [ht] at C7 C8
  obtain ⟨p1, p2⟩ := p
  obtain ⟨q1, q2, q3⟩ := q
  obtain ⟨r1, r2⟩ := r
  obtain ⟨t1, t2⟩ := t
  have C1 := Lib.hid (C1.ii rfl)
  have C2 := Lib.hid (C2.ii rfl)
  have C3 := Lib.hid (C3.iii rfl)
  have C4 := Lib.hid (C4.iii rfl)
  have C5 := Lib.hid (C5.ii rfl)
  have C6 := Lib.hid (C6.ii rfl)
  have C7 := Lib.hid (C7.ii rfl)
  have C8 := Lib.hid (C8.ii rfl)
  clear htab hmx herr ha hb hp hq hr ht
  intro w hg
  have HG := Lib.hid hg; clear hg
  go_enter Tryz.func4, Tryz.ntmps4
  go_wp2_with fail
  refine (C1.out _ HG.out).mono ?_
  rintro e w1 ⟨rfl, hg⟩
  replace HG := Lib.hid hg; clear hg
  go_wp2_with fail
  refine (C2.out _ HG.out).mono ?_
  rintro e w1 ⟨rfl, hg⟩
  replace HG := Lib.hid hg; clear hg
  go_wp2_with fail
  refine (C3.out _ HG.out).mono ?_
  rintro e w1 ⟨rfl, hg⟩
  replace HG := Lib.hid hg; clear hg
  go_wp2_with fail
  refine (C4.out _ HG.out).mono ?_
  rintro e w1 ⟨rfl, hg⟩
  replace HG := Lib.hid hg; clear hg
  go_wp2_with fail
  refine (C5.out _ HG.out).mono ?_
  rintro e w1 ⟨rfl, hg⟩
  replace HG := Lib.hid hg; clear hg
  go_wp2_with fail
  refine (C6.out _ HG.out).mono ?_
  rintro e w1 ⟨rfl, hg⟩
  replace HG := Lib.hid hg; clear hg
  go_wp2_with fail
  refine (C7.out _ HG.out).mono ?_
  rintro e w1 ⟨rfl, hg⟩
  replace HG := Lib.hid hg; clear hg
  go_wp2_with fail
  refine (C8.out _ HG.out).mono ?_
  rintro e w1 ⟨rfl, hg⟩
  replace HG := Lib.hid hg; clear hg
  go_wp2_with fail
  refine (AW.out _ HG.out).mono ?_
  rintro e w1 ⟨rfl, hg⟩
  replace HG := Lib.hid hg; clear hg
  go_wp2
  go_ret
  exact ⟨rfl, HG.out⟩
set_option maxHeartbeats 1000000 in
set_option maxRecDepth 100000 in
theorem l4_LevelReads {u : Int} (hu : 0 ≤ u ∧ u ≤ 65535) : Ret w0 5 #[.int .u16 u] (.bool true) := by
  have AW := Lib.hid (l4_awake htab hmx herr)
  obtain ⟨h0, h1⟩ := hu
  obtain ⟨n, rfl⟩ : ∃ n : Nat, u = (n : Int) := ⟨u.toNat, by omega⟩
  have hn : n ≤ 65535 := by omega
  have hsz := textR_size hn
  have C1 : Hid (Ret w0 24 #[.int .i64 (n : Int)] (.tuple #[.string (str (textR n)), .int .i64 0])) := .mk fun w hg => by
    have H := lv_Text (n : Int) w (by unfold isJ; omega) (htab_gr htab hg)
    unfold textI at H
    rw [lvl_yes h0 h1, if_pos rfl, Int.toNat_natCast] at H; exact H
  have C2 : Hid (Ret w0 25 #[.string (str (textR n))] (.tuple #[.int .i64 (n : Int), .int .i64 0])) := .mk fun w _ => by
    have H := lv_Percent (str (textR n)) w (by rw [str_size]; unfold maxLen; omega)
    rw [data_str, pct_text hn] at H; exact H
  have C3 : Ret w0 26 #[.string (str (textR n)), .string ⟨#[46]⟩] (.tuple #[.string (str (before (textR n))), .string (str (cutR (textR n))), .bool (dotted (textR n))]) := .mk fun w _ => by
    have H := s_cutDot (str (textR n)) w (by rw [str_size]; unfold maxLen; omega)
    rw [data_str] at H; exact H
  cases hdt : dotted (textR n)
  · rw [hdt] at C3
    have C3 := Lib.hid C3
    clear htab hmx herr hsz hdt
    generalize str (textR n) = t at *
    generalize str (before (textR n)) = a at *
    generalize str (cutR (textR n)) = b at *
    intro w hg
    have HG := Lib.hid hg; clear hg
    go_enter Tryz.func5, Tryz.ntmps5
    go_wp2_with fail
    refine (C1.out _ HG.out).mono ?_
    rintro e w1 ⟨rfl, hg⟩
    replace HG := Lib.hid hg; clear hg
    go_wp2_with fail
    refine (C2.out _ HG.out).mono ?_
    rintro e w1 ⟨rfl, hg⟩
    replace HG := Lib.hid hg; clear hg
    go_wp2_with fail
    refine (C3.out _ HG.out).mono ?_
    rintro e w1 ⟨rfl, hg⟩
    replace HG := Lib.hid hg; clear hg
    go_wp2_with fail
    refine (AW.out _ HG.out).mono ?_
    rintro e w1 ⟨rfl, hg⟩
    replace HG := Lib.hid hg; clear hg
    go_wp2
    go_ret
    exact ⟨rfl, HG.out⟩
  · rw [hdt] at C3
    have C3 := Lib.hid C3
    obtain ⟨m, d, d1, d3, he, hcl, hone, hmore⟩ := text_parts hn hdt
    have hbl : ((str (cutR (textR n))).size : Int) = (d : Int) := by rw [str_size, hcl]
    by_cases hd : d = 1
    · obtain ⟨y, hy, hne⟩ := hone hd
      have hlen1 := before_len (textR n)
      have C4 : Hid (Ret w0 25 #[.string (str (before (textR n)))] (.tuple #[.int .i64 (y : Int), .int .i64 0])) := .mk fun w _ => by
        have H := lv_Percent (str (before (textR n))) w (by rw [str_size]; unfold maxLen; omega)
        rw [data_str, hy] at H; exact H
      have hyn : ((y : Int) != (n : Int)) = true := by simp; omega
      have hbs : (str (cutR (textR n))).size = 1 := by omega
      clear htab hmx herr hsz hdt he hcl hone hmore hbl hlen1 hy hne
      generalize str (textR n) = t at *
      generalize str (before (textR n)) = a at *
      generalize str (cutR (textR n)) = b at *
      intro w hg
      have HG := Lib.hid hg; clear hg
      go_enter Tryz.func5, Tryz.ntmps5
      go_wp2_with fail
      refine (C1.out _ HG.out).mono ?_
      rintro e w1 ⟨rfl, hg⟩
      replace HG := Lib.hid hg; clear hg
      go_wp2_with fail
      refine (C2.out _ HG.out).mono ?_
      rintro e w1 ⟨rfl, hg⟩
      replace HG := Lib.hid hg; clear hg
      go_wp2_with fail
      refine (C3.out _ HG.out).mono ?_
      rintro e w1 ⟨rfl, hg⟩
      replace HG := Lib.hid hg; clear hg
      go_wp2_with fail
      refine (C4.out _ HG.out).mono ?_
      rintro e w1 ⟨rfl, hg⟩
      replace HG := Lib.hid hg; clear hg
      go_wp2_with fail
      refine (AW.out _ HG.out).mono ?_
      rintro e w1 ⟨rfl, hg⟩
      replace HG := Lib.hid hg; clear hg
      go_wp2
      go_ret
      exact ⟨rfl, HG.out⟩
    · obtain ⟨y, hy, hne⟩ := hmore (by omega)
      have hpos : 1 ≤ (textR n).length := by
        have := congrArg List.length he
        have h2 := cutR_len (textR n)
        omega
      have hts : (str (textR n)).size = (textR n).length := str_size _
      have C4 : Hid (Ret w0 25 #[.string ((str (textR n)).extract 0 ((str (textR n)).size - 1))] (.tuple #[.int .i64 (y : Int), .int .i64 0])) := .mk fun w _ => by
        rw [ext_take, data_str, hts]
        have H := lv_Percent (str ((textR n).take ((textR n).length - 1))) w (by rw [str_size, List.length_take]; unfold maxLen; omega)
        rw [data_str, hy] at H; exact H
      have hyn : ((y : Int) != (n : Int)) = true := by simp; omega
      have hbs : 2 ≤ (str (cutR (textR n))).size := by omega
      have ht1 : 1 ≤ (str (textR n)).size := by omega
      have ht2 : (str (textR n)).size ≤ 100 := by omega
      clear htab hmx herr hsz hdt he hcl hone hmore hbl hy hne hpos hts
      generalize str (textR n) = t at *
      generalize str (before (textR n)) = a at *
      generalize str (cutR (textR n)) = b at *
      intro w hg
      have HG := Lib.hid hg; clear hg
      go_enter Tryz.func5, Tryz.ntmps5
      go_wp2_with fail
      refine (C1.out _ HG.out).mono ?_
      rintro e w1 ⟨rfl, hg⟩
      replace HG := Lib.hid hg; clear hg
      go_wp2_with fail
      refine (C2.out _ HG.out).mono ?_
      rintro e w1 ⟨rfl, hg⟩
      replace HG := Lib.hid hg; clear hg
      go_wp2_with fail
      refine (C3.out _ HG.out).mono ?_
      rintro e w1 ⟨rfl, hg⟩
      replace HG := Lib.hid hg; clear hg
      go_wp2_with fail
      refine (C4.out _ HG.out).mono ?_
      rintro e w1 ⟨rfl, hg⟩
      replace HG := Lib.hid hg; clear hg
      go_wp2_with fail
      refine (AW.out _ HG.out).mono ?_
      rintro e w1 ⟨rfl, hg⟩
      replace HG := Lib.hid hg; clear hg
      go_wp2
      go_ret
      exact ⟨rfl, HG.out⟩
set_option maxHeartbeats 1000000 in
set_option maxRecDepth 100000 in
theorem l4_LevelRises {a b by' : Int} (ha : 0 ≤ a ∧ a ≤ 65535) (hb : 0 ≤ b ∧ b ≤ 65535) (hc : 0 ≤ by' ∧ by' ≤ 65535) : Ret w0 7 #[.int .u16 a, .int .u16 b, .int .u16 by'] (.bool true) := by
  have AW := Lib.hid (l4_awake htab hmx herr)
  have key : ∀ a b : Int, 0 ≤ a → a ≤ b → b ≤ 65535 → ∃ x y v z : Int, x ≤ y ∧ v ≤ z ∧ v ≤ a ∧ v ≤ by' ∧
      Hid (Ret w0 27 #[.int .i64 a] (.string (Tx a))) ∧ Hid (Ret w0 12 #[.string (Tx a)] (.tuple #[.int .i64 x, .int .i64 0])) ∧
      Hid (Ret w0 27 #[.int .i64 b] (.string (Tx b))) ∧ Hid (Ret w0 12 #[.string (Tx b)] (.tuple #[.int .i64 y, .int .i64 0])) ∧
      Hid (Ret w0 22 #[.int .i64 a, .int .i64 by'] (.tuple #[.int .i64 v, .int .i64 0])) ∧ Hid (Ret w0 22 #[.int .i64 b, .int .i64 by'] (.tuple #[.int .i64 z, .int .i64 0])) ∧
      Hid (Ret w0 22 #[.int .i64 by', .int .i64 a] (.tuple #[.int .i64 v, .int .i64 0])) := by
    intro a b a0 hab b1
    have sc : ∀ p q : Int, 0 ≤ p → p ≤ 65535 → 0 ≤ q → q ≤ 65535 → Ret w0 22 #[.int .i64 p, .int .i64 q] (.tuple #[.int .i64 ((2 * (p * q) + 65535) / 131070), .int .i64 0]) := fun p q p0 p1 q0 q1 => .same fun w => by
      have H := lv_Scale p q w (by unfold isJ; omega) (by unfold isJ; omega)
      unfold scaleI at H
      rw [lvl_yes p0 p1, lvl_yes q0 q1] at H; exact H
    have m1 : a * by' ≤ b * by' := Int.mul_le_mul_of_nonneg_right hab hc.1
    have m2 : a * by' ≤ a * 65535 := Int.mul_le_mul_of_nonneg_left hc.2 a0
    have m3 : a * by' ≤ 65535 * by' := Int.mul_le_mul_of_nonneg_right (by omega) hc.1
    have s1 := sc a by' a0 (by omega) hc.1 hc.2
    have s2 := sc b by' (by omega) b1 hc.1 hc.2
    have s3 := sc by' a hc.1 hc.2 a0 (by omega)
    rw [Int.mul_comm by' a] at s3
    generalize a * by' = p at *
    generalize b * by' = q at *
    exact ⟨(2 * a + 257) / 514, (2 * b + 257) / 514, (2 * p + 65535) / 131070, (2 * q + 65535) / 131070, by omega, by omega, by omega, by omega,
      ret_Whole2 (by omega) (by omega), (ret_LEight htab hmx herr (tx_short a0 (by omega))).ii (eight_int a0 (by omega)),
      ret_Whole2 (by omega) (by omega), (ret_LEight htab hmx herr (tx_short (by omega) b1)).ii (eight_int (by omega) b1), s1, s2, s3⟩
  obtain ⟨a0, a1⟩ := ha
  obtain ⟨b0, b1⟩ := hb
  obtain ⟨c0, c1⟩ := hc
  by_cases hab : b < a
  · obtain ⟨x, y, v, z, h1, h2, h3, h4, C1, C2, C3, C4, C5, C6, C7⟩ := key b a b0 (by omega) a1
    clear key htab hmx herr
    generalize Tx a = s at *
    generalize Tx b = t at *
    intro w hg
    have HG := Lib.hid hg; clear hg
    go_enter Tryz.func7, Tryz.ntmps7
    go_wp2_with fail
    refine (C1.out _ HG.out).mono ?_
    rintro e w1 ⟨rfl, hg⟩
    replace HG := Lib.hid hg; clear hg
    go_wp2_with fail
    refine (C2.out _ HG.out).mono ?_
    rintro e w1 ⟨rfl, hg⟩
    replace HG := Lib.hid hg; clear hg
    go_wp2_with fail
    refine (C3.out _ HG.out).mono ?_
    rintro e w1 ⟨rfl, hg⟩
    replace HG := Lib.hid hg; clear hg
    go_wp2_with fail
    refine (C4.out _ HG.out).mono ?_
    rintro e w1 ⟨rfl, hg⟩
    replace HG := Lib.hid hg; clear hg
    go_wp2_with fail
    refine (C5.out _ HG.out).mono ?_
    rintro e w1 ⟨rfl, hg⟩
    replace HG := Lib.hid hg; clear hg
    go_wp2_with fail
    refine (C6.out _ HG.out).mono ?_
    rintro e w1 ⟨rfl, hg⟩
    replace HG := Lib.hid hg; clear hg
    go_wp2_with fail
    refine (C7.out _ HG.out).mono ?_
    rintro e w1 ⟨rfl, hg⟩
    replace HG := Lib.hid hg; clear hg
    go_wp2_with fail
    refine (AW.out _ HG.out).mono ?_
    rintro e w1 ⟨rfl, hg⟩
    replace HG := Lib.hid hg; clear hg
    go_wp2
    go_ret
    exact ⟨rfl, HG.out⟩
  · obtain ⟨x, y, v, z, h1, h2, h3, h4, C1, C2, C3, C4, C5, C6, C7⟩ := key a b a0 (by omega) b1
    clear key htab hmx herr
    generalize Tx a = s at *
    generalize Tx b = t at *
    intro w hg
    have HG := Lib.hid hg; clear hg
    go_enter Tryz.func7, Tryz.ntmps7
    go_wp2_with fail
    refine (C1.out _ HG.out).mono ?_
    rintro e w1 ⟨rfl, hg⟩
    replace HG := Lib.hid hg; clear hg
    go_wp2_with fail
    refine (C2.out _ HG.out).mono ?_
    rintro e w1 ⟨rfl, hg⟩
    replace HG := Lib.hid hg; clear hg
    go_wp2_with fail
    refine (C3.out _ HG.out).mono ?_
    rintro e w1 ⟨rfl, hg⟩
    replace HG := Lib.hid hg; clear hg
    go_wp2_with fail
    refine (C4.out _ HG.out).mono ?_
    rintro e w1 ⟨rfl, hg⟩
    replace HG := Lib.hid hg; clear hg
    go_wp2_with fail
    refine (C5.out _ HG.out).mono ?_
    rintro e w1 ⟨rfl, hg⟩
    replace HG := Lib.hid hg; clear hg
    go_wp2_with fail
    refine (C6.out _ HG.out).mono ?_
    rintro e w1 ⟨rfl, hg⟩
    replace HG := Lib.hid hg; clear hg
    go_wp2_with fail
    refine (C7.out _ HG.out).mono ?_
    rintro e w1 ⟨rfl, hg⟩
    replace HG := Lib.hid hg; clear hg
    go_wp2_with fail
    refine (AW.out _ HG.out).mono ?_
    rintro e w1 ⟨rfl, hg⟩
    replace HG := Lib.hid hg; clear hg
    go_wp2
    go_ret
    exact ⟨rfl, HG.out⟩
end
end Go.Proofs.YtjacpidehfajnabGreatDoor

/- Laws of layer 4: LevelNearest, LevelReturns. -/
namespace Go.Proofs.YtjacpidehfajnabGreatDoor
open Go.RowKit Go.Shelf
open Z

theorem half_text : (⟨#[49, 47, 50]⟩ : ByteArray) = RT (1/2) := by
  rw [← RT_rv (s := ⟨#[49, 47, 50]⟩) (by decide +kernel), show rv ⟨#[49, 47, 50]⟩ = 1/2 by decide +kernel]
theorem mhalf_text : (⟨#[45, 49, 47, 50]⟩ : ByteArray) = RT (-(1/2)) := by
  rw [← RT_rv (s := ⟨#[45, 49, 47, 50]⟩) (by decide +kernel), show rv ⟨#[45, 49, 47, 50]⟩ = -(1/2) by decide +kernel]
theorem sh_half : Sh 3 (1/2 : Rat) := ⟨(nDigits_le_iff _ 3 (by omega)).2 (by decide +kernel), (nDigits_le_iff _ 3 (by omega)).2 (by decide +kernel)⟩
theorem sh_mhalf : Sh 3 (-(1/2) : Rat) := ⟨(nDigits_le_iff _ 3 (by omega)).2 (by decide +kernel), (nDigits_le_iff _ 3 (by omega)).2 (by decide +kernel)⟩
theorem sh_lvl {n : Int} (h0 : 0 ≤ n) (h1 : n ≤ 65535) : Sh 5 ((n : Int) : Rat) :=
  ⟨by rw [Rat.num_intCast]; exact (nDigits_le_iff _ 5 (by omega)).2 (by omega), by rw [Rat.den_intCast]; exact (nDigits_le_iff _ 5 (by omega)).2 (by omega)⟩
theorem near_diff (x : Rat) : x - (nearest x : Rat) < 1/2 ∧ -(1/2) ≤ x - (nearest x : Rat) := by
  have h1 : nearest x ≤ nearest x := Int.le_refl _
  have h2 : nearest x < nearest x + 1 := by omega
  rw [near_ge] at h1
  rw [near_lt, Rat.intCast_add, show ((1 : Int) : Rat) = 1 from rfl] at h2
  constructor <;> grind
section
variable {w0 : World} (htab : Tab w0) (hmx : Mx w0) (herr : ErrR w0)
include htab hmx herr
theorem near_calls {x : Rat} (hx : Sh 20 x) (hl : lvlQ x = true) : ∃ (n c d : Int) (t : ByteArray), c < 0 ∧ 0 ≤ d ∧
    Hid (Ret w0 14 #[.string (RT x)] (.tuple #[.int .i64 n, .int .i64 0])) ∧ Hid (Ret w0 27 #[.int .i64 n] (.string (Tx n))) ∧
    Hid (Ret w0 30 #[.string (RT x), .string (Tx n)] (.string t)) ∧
    Hid (Ret w0 31 #[.string t, .string ⟨#[49, 47, 50]⟩] (.int .i64 c)) ∧ Hid (Ret w0 31 #[.string t, .string ⟨#[45, 49, 47, 50]⟩] (.int .i64 d)) := by
  obtain ⟨n0, n1⟩ := nearest_lvl hl
  obtain ⟨d1, d2⟩ := near_diff x
  have hxr := hx.inR (by omega)
  have hsn := sh_lvl n0 n1
  have hsd := hx.sub hsn
  have hsz := RT_size hx
  have S := ret_LSixteen htab hmx herr (s := RT x) (by omega)
  unfold sixteenR at S
  rw [if_pos (by rw [compE_RT hxr, hl]; rfl), rv_RT] at S
  have M := ret_Minus (w0 := w0) hx hsn (by omega) (by omega)
  rw [RT_int] at M
  have O1 := ret_OrderR (w0 := w0) hsd sh_half (by omega) (by omega)
  have O2 := ret_OrderR (w0 := w0) hsd sh_mhalf (by omega) (by omega)
  rw [← half_text] at O1
  rw [← mhalf_text] at O2
  refine ⟨nearest x, _, _, _, ?_, ?_, S, ret_Whole2 (by omega) (by omega), M, O1, O2⟩
  · rcases cmpQ_cases (x - (nearest x : Rat)) (1/2) with ⟨_, e, _⟩ | ⟨h, _, _⟩ | ⟨h, _, _⟩
    · omega
    · exact absurd d1 (by rw [h]; exact Rat.lt_irrefl)
    · exact absurd d1 (Rat.not_lt.2 (Rat.le_of_lt h))
  · rcases cmpQ_cases (x - (nearest x : Rat)) (-(1/2)) with ⟨h, _, _⟩ | ⟨_, e, _⟩ | ⟨_, e, _⟩
    · exact absurd d2 (Rat.not_le.2 h)
    · omega
    · omega
set_option maxHeartbeats 1000000 in
set_option maxRecDepth 100000 in
theorem l4_LevelNearest {u p : Int} (hu : 0 ≤ u ∧ u ≤ 65535) (hp : 0 ≤ p ∧ p ≤ 255) : Ret w0 6 #[.int .u16 u, .int .u8 p] (.bool true) := by
  have AW := Lib.hid (l4_awake htab hmx herr)
  obtain ⟨u0, u1⟩ := hu
  obtain ⟨p0, p1⟩ := hp
  obtain ⟨r, hr⟩ : ∃ r, (2 * u + 257) / 514 = r := ⟨_, rfl⟩
  have r0 : 0 ≤ r := by omega
  have r1 : r ≤ 255 := by omega
  have f1 : ¬ 257 ≤ 2 * (u - 257 * r) := by omega
  have f2 : ¬ 2 * (u - 257 * r) < -257 := by omega
  have C1 := Lib.hid (ret_Whole2 (w0 := w0) (n := u) (by omega) (by omega))
  have C2 := (ret_LEight htab hmx herr (tx_short u0 u1)).ii (eight_int u0 u1)
  rw [hr] at C2
  have C2 := Lib.hid C2
  have C4 := Lib.hid (ret_Over (w0 := w0) (n := p) (d := 256) (by omega) (by omega) (by omega) (by omega) (by omega))
  have hso : Sh 5 (Rat.divInt p 256) := Sh.divInt (by omega) ((nDigits_le_iff _ 5 (by omega)).2 (by omega)) ((nDigits_le_iff _ 5 (by omega)).2 (by decide))
  have hsu := sh_lvl u0 u1
  have C5 := ret_Plus (w0 := w0) hsu hso (by omega) (by omega)
  rw [RT_int] at C5
  have C5 := Lib.hid C5
  by_cases h5 : u = 65535
  · have hl : lvlQ ((u : Int) : Rat) = true := lvlQ_int u0 u1
    obtain ⟨n, c, d, t, hc, hd, S, W, M, O1, O2⟩ := near_calls htab hmx herr (hsu.mono (by omega)) hl
    rw [RT_int] at S M
    clear htab hmx herr hso hsu hl hr
    generalize RT ((u : Rat) + Rat.divInt p 256) = y at *
    generalize RT (Rat.divInt p 256) = z at *
    subst h5
    generalize Tx 65535 = a at *
    generalize Tx n = b at *
    intro w hg
    have HG := Lib.hid hg; clear hg
    go_enter Tryz.func6, Tryz.ntmps6
    go_wp2_with fail
    refine (C1.out _ HG.out).mono ?_
    rintro e w1 ⟨rfl, hg⟩
    replace HG := Lib.hid hg; clear hg
    go_wp2_with fail
    refine (C2.out _ HG.out).mono ?_
    rintro e w1 ⟨rfl, hg⟩
    replace HG := Lib.hid hg; clear hg
    go_wp2_with fail
    refine (C1.out _ HG.out).mono ?_
    rintro e w1 ⟨rfl, hg⟩
    replace HG := Lib.hid hg; clear hg
    go_wp2_with fail
    refine (C4.out _ HG.out).mono ?_
    rintro e w1 ⟨rfl, hg⟩
    replace HG := Lib.hid hg; clear hg
    go_wp2_with fail
    refine (C5.out _ HG.out).mono ?_
    rintro e w1 ⟨rfl, hg⟩
    replace HG := Lib.hid hg; clear hg
    go_wp2_with fail
    refine (C1.out _ HG.out).mono ?_
    rintro e w1 ⟨rfl, hg⟩
    replace HG := Lib.hid hg; clear hg
    go_wp2_with fail
    refine (S.out _ HG.out).mono ?_
    rintro e w1 ⟨rfl, hg⟩
    replace HG := Lib.hid hg; clear hg
    go_wp2_with fail
    refine (W.out _ HG.out).mono ?_
    rintro e w1 ⟨rfl, hg⟩
    replace HG := Lib.hid hg; clear hg
    go_wp2_with fail
    refine (M.out _ HG.out).mono ?_
    rintro e w1 ⟨rfl, hg⟩
    replace HG := Lib.hid hg; clear hg
    go_wp2_with fail
    refine (O1.out _ HG.out).mono ?_
    rintro e w1 ⟨rfl, hg⟩
    replace HG := Lib.hid hg; clear hg
    go_wp2_with fail
    refine (O2.out _ HG.out).mono ?_
    rintro e w1 ⟨rfl, hg⟩
    replace HG := Lib.hid hg; clear hg
    go_wp2_with fail
    refine (AW.out _ HG.out).mono ?_
    rintro e w1 ⟨rfl, hg⟩
    replace HG := Lib.hid hg; clear hg
    go_wp2
    go_ret
    exact ⟨rfl, HG.out⟩
  · have h5' : (u == 65535) = false := beq_eq_false_iff_ne.2 h5
    have hl : lvlQ ((u : Rat) + Rat.divInt p 256) = true := by
      have w1 : (0 : Rat) ≤ Rat.divInt p 256 := Rat.divInt_nonneg p0 (by omega)
      have w2 : Rat.divInt p 256 ≤ 1 := by
        rw [Rat.divInt_eq_div]
        have e : (p : Rat) ≤ 256 := by
          have := Rat.intCast_le_intCast.2 (show p ≤ 256 by omega)
          exact this
        have e2 : ((256 : Int) : Rat) = 256 := rfl
        rw [e2]
        grind
      have w3 : (u : Rat) ≤ 65534 := by
        have := Rat.intCast_le_intCast.2 (show u ≤ 65534 by omega)
        exact this
      have w4 : (0 : Rat) ≤ (u : Rat) := by
        have := Rat.intCast_le_intCast.2 u0
        exact this
      rw [lvlQ_iff]
      constructor <;> grind
    obtain ⟨n, c, d, t, hc, hd, S, W, M, O1, O2⟩ := near_calls htab hmx herr ((hsu.add hso).mono (by omega)) hl
    clear htab hmx herr hso hsu hl hr h5
    generalize RT ((u : Rat) + Rat.divInt p 256) = y at *
    generalize RT (Rat.divInt p 256) = z at *
    generalize Tx u = a at *
    generalize Tx n = b at *
    intro w hg
    have HG := Lib.hid hg; clear hg
    go_enter Tryz.func6, Tryz.ntmps6
    go_wp2_with fail
    refine (C1.out _ HG.out).mono ?_
    rintro e w1 ⟨rfl, hg⟩
    replace HG := Lib.hid hg; clear hg
    go_wp2_with fail
    refine (C2.out _ HG.out).mono ?_
    rintro e w1 ⟨rfl, hg⟩
    replace HG := Lib.hid hg; clear hg
    go_wp2_with fail
    refine (C1.out _ HG.out).mono ?_
    rintro e w1 ⟨rfl, hg⟩
    replace HG := Lib.hid hg; clear hg
    go_wp2_with fail
    refine (C4.out _ HG.out).mono ?_
    rintro e w1 ⟨rfl, hg⟩
    replace HG := Lib.hid hg; clear hg
    go_wp2_with fail
    refine (C5.out _ HG.out).mono ?_
    rintro e w1 ⟨rfl, hg⟩
    replace HG := Lib.hid hg; clear hg
    go_wp2_with fail
    refine (S.out _ HG.out).mono ?_
    rintro e w1 ⟨rfl, hg⟩
    replace HG := Lib.hid hg; clear hg
    go_wp2_with fail
    refine (W.out _ HG.out).mono ?_
    rintro e w1 ⟨rfl, hg⟩
    replace HG := Lib.hid hg; clear hg
    go_wp2_with fail
    refine (M.out _ HG.out).mono ?_
    rintro e w1 ⟨rfl, hg⟩
    replace HG := Lib.hid hg; clear hg
    go_wp2_with fail
    refine (O1.out _ HG.out).mono ?_
    rintro e w1 ⟨rfl, hg⟩
    replace HG := Lib.hid hg; clear hg
    go_wp2_with fail
    refine (O2.out _ HG.out).mono ?_
    rintro e w1 ⟨rfl, hg⟩
    replace HG := Lib.hid hg; clear hg
    go_wp2_with fail
    refine (AW.out _ HG.out).mono ?_
    rintro e w1 ⟨rfl, hg⟩
    replace HG := Lib.hid hg; clear hg
    go_wp2
    go_ret
    exact ⟨rfl, HG.out⟩
set_option maxHeartbeats 1000000 in
set_option maxRecDepth 100000 in
theorem l4_LevelReturns {u : Int} (hu : 0 ≤ u ∧ u ≤ 65535) : Ret w0 8 #[.int .u16 u] (.bool true) := by
  have AW := Lib.hid (l4_awake htab hmx herr)
  obtain ⟨u0, u1⟩ := hu
  have k0 : 0 ≤ u / 256 := by omega
  have k1 : u / 256 ≤ 255 := by omega
  have hb : byteB (u / 256) = true := by unfold byteB; rw [decide_eq_true k0, decide_eq_true k1]; rfl
  have hb2 : byteB (u % 256) = true := by unfold byteB; rw [decide_eq_true (by omega), decide_eq_true (by omega)]; rfl
  have C1 : Hid (Ret w0 16 #[.int .i64 (u / 256), .int .i64 8] (.tuple #[.int .i64 (257 * (u / 256)), .int .i64 0])) := .same fun w => by
    have H := lv_Of (u / 256) 8 w (by unfold isJ; omega) (by unfold isJ; omega)
    rw [ofI_8, hb] at H; exact H
  have C2 := Lib.hid (ret_Whole2 (w0 := w0) (n := 257 * (u / 256)) (by omega) (by omega))
  have C3 := (ret_LEight htab hmx herr (tx_short (n := 257 * (u / 256)) (by omega) (by omega))).ii (eight_int (by omega) (by omega))
  rw [show (2 * (257 * (u / 256)) + 257) / 514 = u / 256 by omega] at C3
  have C3 := Lib.hid C3
  have C4 : Hid (Ret w0 16 #[.int .i64 u, .int .i64 16] (.tuple #[.int .i64 u, .int .i64 0])) := .same fun w => by
    have H := lv_Of u 16 w (by unfold isJ; omega) (by unfold isJ; omega)
    rw [ofI_16, lvl_yes u0 u1] at H; exact H
  have C5 := Lib.hid (ret_WholeI (w0 := w0) (n := u) (by omega) (by omega))
  have C6 := Lib.hid ((ret_LSixteen htab hmx herr (tx_short u0 u1)).ii (sixteen_int u0 u1))
  have C7 : Hid (Ret w0 18 #[.int .i64 u] (.tuple #[.int .i64 (u / 256), .int .i64 (u % 256), .int .i64 0])) := .same fun w => by
    have H := lv_Split u w (by unfold isJ; omega)
    unfold splitI at H
    rw [lvl_yes u0 u1] at H; exact H
  have C8 : Hid (Ret w0 20 #[.int .i64 (u / 256), .int .i64 (u % 256)] (.tuple #[.int .i64 u, .int .i64 0])) := .same fun w => by
    have H := lv_Join (u / 256) (u % 256) w (by unfold isJ; omega) (by unfold isJ; omega)
    unfold joinI at H
    rw [hb, hb2, Bool.and_self, if_pos rfl, show 256 * (u / 256) + u % 256 = u by omega] at H; exact H
  have C9 : Hid (Ret w0 22 #[.int .i64 u, .int .i64 65535] (.tuple #[.int .i64 u, .int .i64 0])) := .same fun w => by
    have H := lv_Scale u 65535 w (by unfold isJ; omega) (by unfold isJ; omega)
    unfold scaleI at H
    rw [lvl_yes u0 u1, lvl_yes (v := 65535) (by omega) (by omega), Bool.and_self, if_pos rfl, show (2 * (u * 65535) + 65535) / 131070 = u by omega] at H; exact H
  have C10 : Hid (Ret w0 22 #[.int .i64 u, .int .i64 0] (.tuple #[.int .i64 0, .int .i64 0])) := .same fun w => by
    have H := lv_Scale u 0 w (by unfold isJ; omega) (by unfold isJ; omega)
    unfold scaleI at H
    rw [lvl_yes u0 u1, lvl_yes (v := 0) (by omega) (by omega), Bool.and_self, if_pos rfl, Int.mul_zero] at H; exact H
  clear htab hmx herr hb hb2
  generalize Tx (257 * (u / 256)) = a at *
  generalize Tx u = b at *
  intro w hg
  have HG := Lib.hid hg; clear hg
  go_enter Tryz.func8, Tryz.ntmps8
  go_wp2_with fail
  refine (C1.out _ HG.out).mono ?_
  rintro e w1 ⟨rfl, hg⟩
  replace HG := Lib.hid hg; clear hg
  go_wp2_with fail
  refine (C2.out _ HG.out).mono ?_
  rintro e w1 ⟨rfl, hg⟩
  replace HG := Lib.hid hg; clear hg
  go_wp2_with fail
  refine (C3.out _ HG.out).mono ?_
  rintro e w1 ⟨rfl, hg⟩
  replace HG := Lib.hid hg; clear hg
  go_wp2_with fail
  refine (C4.out _ HG.out).mono ?_
  rintro e w1 ⟨rfl, hg⟩
  replace HG := Lib.hid hg; clear hg
  go_wp2_with fail
  refine (C5.out _ HG.out).mono ?_
  rintro e w1 ⟨rfl, hg⟩
  replace HG := Lib.hid hg; clear hg
  go_wp2_with fail
  refine (C6.out _ HG.out).mono ?_
  rintro e w1 ⟨rfl, hg⟩
  replace HG := Lib.hid hg; clear hg
  go_wp2_with fail
  refine (C7.out _ HG.out).mono ?_
  rintro e w1 ⟨rfl, hg⟩
  replace HG := Lib.hid hg; clear hg
  go_wp2_with fail
  refine (C8.out _ HG.out).mono ?_
  rintro e w1 ⟨rfl, hg⟩
  replace HG := Lib.hid hg; clear hg
  go_wp2_with fail
  refine (C9.out _ HG.out).mono ?_
  rintro e w1 ⟨rfl, hg⟩
  replace HG := Lib.hid hg; clear hg
  go_wp2_with fail
  refine (C10.out _ HG.out).mono ?_
  rintro e w1 ⟨rfl, hg⟩
  replace HG := Lib.hid hg; clear hg
  go_wp2_with fail
  refine (AW.out _ HG.out).mono ?_
  rintro e w1 ⟨rfl, hg⟩
  replace HG := Lib.hid hg; clear hg
  go_wp2
  go_ret
  exact ⟨rfl, HG.out⟩
end
end Go.Proofs.YtjacpidehfajnabGreatDoor
