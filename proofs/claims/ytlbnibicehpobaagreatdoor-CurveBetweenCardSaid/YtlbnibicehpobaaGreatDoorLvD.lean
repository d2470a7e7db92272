/- LvD: Lv13, Lv14, Lv15, joined. -/
import Derived.Test.YtlbnibicehpobaaGreatDoorLvC
set_option linter.unusedVariables false
set_option linter.unusedSimpArgs false

/- The law's helper of layer 4: awake. -/
namespace Go.Proofs.YtlbnibicehpobaaGreatDoor
open Go.RowKit Go.Shelf
open Z

theorem text_mid : textI 32768 = (⟨#[53, 48]⟩, 0) := by
  unfold textI
  rw [if_pos (by decide)]
  have e : textR (32768 : Int).toNat = [53, 48] := by
    show textR 32768 = _
    unfold textR
    rw [if_neg (by decide), show decN 32768 = 0 by decide, show leastM 32768 0 = 50 by decide]
    unfold pText
    rw [unit0, if_pos rfl, dig_more (by decide), dig_one (by decide)]; rfl
  rw [e]; rfl
theorem text_one : textI 1 = (⟨#[48, 46, 48, 48, 49]⟩, 0) := by
  unfold textI
  rw [if_pos (by decide)]
  have e : textR (1 : Int).toNat = [48, 46, 48, 48, 49] := by
    show textR 1 = _
    unfold textR
    rw [if_neg (by decide), show decN 1 = 3 by decide, show leastM 1 3 = 1 by decide]
    unfold pText
    rw [unit3, if_neg (by decide), show 1 / 1000 = 0 by decide, show 1 % 1000 = 1 by decide, tail3 (by decide), dig_one (by decide)]; rfl
  rw [e]; rfl
theorem text_high : textI 65534 = (⟨#[57, 57, 46, 57, 57, 56]⟩, 0) := by
  unfold textI
  rw [if_pos (by decide)]
  have e : textR (65534 : Int).toNat = [57, 57, 46, 57, 57, 56] := by
    show textR 65534 = _
    unfold textR
    rw [if_neg (by decide), show decN 65534 = 3 by decide, show leastM 65534 3 = 99998 by decide]
    unfold pText
    rw [unit3, if_neg (by decide), show 99998 / 1000 = 99 by decide, show 99998 % 1000 = 998 by decide, tail3 (by decide), dig_more (by decide), dig_one (by decide)]; rfl
  rw [e]; rfl
theorem eight_lit : eightR ⟨#[51, 50, 55, 54, 56]⟩ = (128, 0) := by decide +kernel
section
variable {w0 : World} (htab : Tab w0) (hmx : Mx w0) (herr : ErrR w0)
include htab hmx herr
end
end Go.Proofs.YtlbnibicehpobaaGreatDoor

/- Laws of layer 4. -/
namespace Go.Proofs.YtlbnibicehpobaaGreatDoor
open Go.RowKit Go.Shelf
open Z

theorem Ret.iii {w0 : World} {f : FuncId} {args : Array Value} {p : Int × Int × Int} {x y e : Int} (h : Ret w0 f args (vIII p)) (hp : p = (x, y, e)) : Ret w0 f args (.tuple #[.int .i64 x, .int .i64 y, .int .i64 e]) := by subst hp; exact h
/-- without its last decimal a text has one decimal less -/
theorem pText_less (m d : Nat) (hd : 2 ≤ d ∧ d ≤ 3) : (pText m d).take ((pText m d).length - 1) = pText (m / 10) (d - 1) := by
  have e : ∀ (a : List UInt8) (b c : UInt8) (r : List UInt8), (a ++ (r ++ [c])).take ((a ++ (r ++ [c])).length - 1) = a ++ r := fun a b c r => by
    rw [← List.append_assoc, List.length_append, List.length_singleton, Nat.add_sub_cancel, List.take_left' rfl]
  have : d = 2 ∨ d = 3 := by omega
  rcases this with rfl | rfl
  · have h1 : pText m 2 = Lib.decDigits (m / 100) ++ ([46, UInt8.ofNat (48 + m % 100 / 10)] ++ [UInt8.ofNat (48 + m % 100 % 10)]) := by
      unfold pText; rw [if_neg (by decide), unit2, tail2 (Nat.mod_lt _ (by decide))]; rfl
    have h2 : pText (m / 10) 1 = Lib.decDigits (m / 100) ++ [46, UInt8.ofNat (48 + m % 100 / 10)] := by
      unfold pText; rw [if_neg (by decide), unit1, tail1 (Nat.mod_lt _ (by decide)), show m / 10 / 10 = m / 100 by omega, show m / 10 % 10 = m % 100 / 10 by omega]
    rw [h1, e _ 0]; exact h2.symm
  · have h1 : pText m 3 = Lib.decDigits (m / 1000) ++ ([46, UInt8.ofNat (48 + m % 1000 / 100), UInt8.ofNat (48 + m % 1000 / 10 % 10)] ++ [UInt8.ofNat (48 + m % 1000 % 10)]) := by
      unfold pText; rw [if_neg (by decide), unit3, tail3 (Nat.mod_lt _ (by decide))]; rfl
    have h2 : pText (m / 10) 2 = Lib.decDigits (m / 1000) ++ [46, UInt8.ofNat (48 + m % 1000 / 100), UInt8.ofNat (48 + m % 1000 / 10 % 10)] := by
      unfold pText; rw [if_neg (by decide), unit2, tail2 (Nat.mod_lt _ (by decide)), show m / 10 / 100 = m / 1000 by omega, show m / 10 % 100 / 10 = m % 1000 / 100 by omega, show m / 10 % 100 % 10 = m % 1000 / 10 % 10 by omega]
    rw [h1, e _ 0]; exact h2.symm
theorem pText_one (m : Nat) : before (pText m 1) = pText (m / 10) 0 := by
  have w4 := (dec_decDigits (m / unitN 1)).2.1
  have e : pText m 1 = Lib.decDigits (m / unitN 1) ++ 46 :: (Lib.decDigits (unitN 1 + m % unitN 1)).tail := by unfold pText; rw [if_neg (by decide)]
  rw [e, (dotted_of w4).2.1]
  unfold pText; rw [unit1, unit0, Nat.div_one, if_pos rfl, List.append_nil]
theorem pText_facts (m d : Nat) (hd : 1 ≤ d ∧ d ≤ 3) : dotted (pText m d) = true ∧ (cutR (pText m d)).length = d := by
  have w4 := (dec_decDigits (m / unitN d)).2.1
  have e : pText m d = Lib.decDigits (m / unitN d) ++ 46 :: (Lib.decDigits (unitN d + m % unitN d)).tail := by unfold pText; rw [if_neg (by omega)]
  have h := dotted_of (b := (Lib.decDigits (unitN d + m % unitN d)).tail) w4
  rw [e]
  refine ⟨h.1, ?_⟩
  unfold cutR
  rw [h.1, if_pos rfl, h.2.2]
  exact (tail_facts hd).2.1
/-- a text with a point, and what is left of it without the last decimal, or all of them -/
theorem text_parts {n : Nat} (hn : n ≤ 65535) (hdt : dotted (textR n) = true) : ∃ (m d : Nat), 1 ≤ d ∧ d ≤ 3 ∧ textR n = pText m d ∧ (cutR (textR n)).length = d ∧
    (d = 1 → ∃ y : Nat, pctR (before (textR n)) = ((y : Int), 0) ∧ y ≠ n) ∧ (2 ≤ d → ∃ y : Nat, pctR ((textR n).take ((textR n).length - 1)) = ((y : Int), 0) ∧ y ≠ n) := by
  by_cases h5 : n = 65535
  · subst h5
    have e : textR 65535 = fullL := by unfold textR; rw [if_pos rfl]
    rw [e] at hdt; exact absurd hdt (by decide)
  · have e : textR n = pText (leastM n (decN n)) (decN n) := by unfold textR; rw [if_neg h5]
    have hd3 := decN_le n
    have hm := least_le (v := n) (by omega) hd3
    by_cases h0 : decN n = 0
    · rw [e, h0] at hdt
      have w4 := (dec_decDigits (leastM n 0 / unitN 0)).2.1
      have e2 : pText (leastM n 0) 0 = Lib.decDigits (leastM n 0 / unitN 0) := by unfold pText; simp
      rw [e2, (undotted_of w4).1] at hdt; cases hdt
    · refine ⟨leastM n (decN n), decN n, by omega, hd3, e, by rw [e]; exact (pText_facts _ _ ⟨by omega, hd3⟩).2, fun h1 => ?_, fun h2 => ?_⟩
      · rw [e]
        have hno := decN_none (v := n) (d := 0) (by omega)
        rw [h1] at hm ⊢
        rw [pText_one, pct_pText (by omega) (by rw [unit0]; rw [unit1] at hm; omega)]
        exact ⟨_, rfl, hasD_none (by omega) hno⟩
      · rw [e, pText_less _ _ ⟨h2, hd3⟩]
        have hno := decN_none (v := n) (d := decN n - 1) (by omega)
        have hle : leastM n (decN n) / 10 ≤ 100 * unitN (decN n - 1) := by
          have : decN n = 2 ∨ decN n = 3 := by omega
          rcases this with h | h
          · rw [h] at hm ⊢; rw [unit2] at hm; rw [show (2 : Nat) - 1 = 1 from rfl, unit1]; omega
          · rw [h] at hm ⊢; rw [unit3] at hm; rw [show (3 : Nat) - 1 = 2 from rfl, unit2]; omega
        rw [pct_pText (by omega) hle]
        exact ⟨_, rfl, hasD_none (by omega) hno⟩
theorem textR_size {n : Nat} (hn : n ≤ 65535) : (textR n).length ≤ 100 := by
  unfold textR
  split
  · decide
  · have hd3 := decN_le n
    have hm := least_le (v := n) (by omega) hd3
    generalize decN n = d at *
    generalize leastM n d = m at *
    unfold pText
    have h1 := Lib.decDigits_length (m / unitN d)
    have h2 := Lib.decDigits_length (unitN d + m % unitN d)
    have hu : unitN d ≤ 1000 := by
      have : d = 0 ∨ d = 1 ∨ d = 2 ∨ d = 3 := by omega
      rcases this with rfl | rfl | rfl | rfl <;> decide
    have hmm := Nat.mod_le m (unitN d)
    have hdd := Nat.div_le_self m (unitN d)
    have h3 : Lib.nDigits (m / unitN d) ≤ 10 := (nDigits_le_iff _ 10 (by omega)).2 (by omega)
    have h4 : Lib.nDigits (unitN d + m % unitN d) ≤ 10 := (nDigits_le_iff _ 10 (by omega)).2 (by omega)
    rw [List.length_append]
    split
    · simp; omega
    · rw [List.length_cons, List.length_tail]; omega
theorem eight_int {n : Int} (h0 : 0 ≤ n) (h1 : n ≤ 65535) : eightR (Tx n) = ((2 * n + 257) / 514, 0) := by
  have hin := lit_in n (by omega)
  have hc : compE (Tx n) = 0 := by rw [← RT_int, compE_RT hin, lvlQ_int h0 h1]; rfl
  unfold eightR
  rw [if_pos hc, ← RT_int, rv_RT, nearest_int]
theorem sixteen_int {n : Int} (h0 : 0 ≤ n) (h1 : n ≤ 65535) : sixteenR (Tx n) = (n, 0) := by
  have hin := lit_in n (by omega)
  have hc : compE (Tx n) = 0 := by rw [← RT_int, compE_RT hin, lvlQ_int h0 h1]; rfl
  unfold sixteenR
  rw [if_pos hc, ← RT_int, rv_RT, nearest_int]
theorem tx_short {n : Int} (h0 : 0 ≤ n) (h1 : n ≤ 65535) : (Tx n).size ≤ 400000 := by
  obtain ⟨x, rfl⟩ : ∃ x : Nat, n = (x : Int) := ⟨n.toNat, by omega⟩
  have := (Tx_small (n := x) (by omega)).1; omega
section
variable {w0 : World} (htab : Tab w0) (hmx : Mx w0) (herr : ErrR w0)
include htab hmx herr
end
end Go.Proofs.YtlbnibicehpobaaGreatDoor

/- Laws of layer 4: LevelNearest, LevelReturns. -/
namespace Go.Proofs.YtlbnibicehpobaaGreatDoor
open Go.RowKit Go.Shelf
open Z

theorem half_text : (⟨#[49, 47, 50]⟩ : ByteArray) = RT (1/2) := by
  rw [← RT_rv (s := ⟨#[49, 47, 50]⟩) (by decide +kernel), show rv ⟨#[49, 47, 50]⟩ = 1/2 by decide +kernel]
theorem mhalf_text : (⟨#[45, 49, 47, 50]⟩ : ByteArray) = RT (-(1/2)) := by
  rw [← RT_rv (s := ⟨#[45, 49, 47, 50]⟩) (by decide +kernel), show rv ⟨#[45, 49, 47, 50]⟩ = -(1/2) by decide +kernel]
theorem sh_half : Sh 3 (1/2 : Rat) := ⟨(nDigits_le_iff _ 3 (by omega)).2 (by decide +kernel), (nDigits_le_iff _ 3 (by omega)).2 (by decide +kernel)⟩
theorem sh_mhalf : Sh 3 (-(1/2) : Rat) := ⟨(nDigits_le_iff _ 3 (by omega)).2 (by decide +kernel), (nDigits_le_iff _ 3 (by omega)).2 (by decide +kernel)⟩
theorem sh_lvl {n : Int} (h0 : 0 ≤ n) (h1 : n ≤ 65535) : Sh 5 ((n : Int) : Rat) :=
  ⟨by rw [Rat.num_intCast]; exact (nDigits_le_iff _ 5 (by omega)).2 (by omega), by rw [Rat.den_intCast]; exact (nDigits_le_iff _ 5 (by omega)).2 (by omega)⟩
theorem near_diff (x : Rat) : x - (nearest x : Rat) < 1/2 ∧ -(1/2) ≤ x - (nearest x : Rat) := by
  have h1 : nearest x ≤ nearest x := Int.le_refl _
  have h2 : nearest x < nearest x + 1 := by omega
  rw [near_ge] at h1
  rw [near_lt, Rat.intCast_add, show ((1 : Int) : Rat) = 1 from rfl] at h2
  constructor <;> grind
section
variable {w0 : World} (htab : Tab w0) (hmx : Mx w0) (herr : ErrR w0)
include htab hmx herr
end
end Go.Proofs.YtlbnibicehpobaaGreatDoor
