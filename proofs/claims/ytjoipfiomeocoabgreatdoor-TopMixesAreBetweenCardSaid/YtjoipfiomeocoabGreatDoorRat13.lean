/- The program's rational numbers: writing, products, sums. -/
import Derived.Test.YtjoipfiomeocoabGreatDoorRat12
set_option linter.unusedVariables false
set_option linter.unusedSimpArgs false
namespace Go.Proofs.YtjoipfiomeocoabGreatDoor
open Go.RowKit Go.Shelf
open Z
attribute [local go_sem ↓] Go.wp_at_zero Go.wp_at_succ

theorem minus_Tx (n : Nat) (h : 0 < n) : (⟨#[45]⟩ : ByteArray) ++ Tx (n : Int) = Tx (-(n : Int)) := Tx_minus (n : Int) (by omega)
set_option maxHeartbeats 2000000 in
set_option maxRecDepth 100000 in
theorem q_write {p q : Int} (hp : In p) (hq : In q) (h0 : q ≠ 0) (w : World) (htab : Tab w) :
    Calls Tryz.prog 46 #[vFr (Tx p) (Tx q)] w (fun e w' => e = .returned (.string (RT (Rat.divInt p q))) ∧ Gr w w') := by
  have HG0 : Hid (Gr w (w.alloc (oFr (Tx p) (Tx q)))) := (Gr.refl w).alloc _
  have HF0 := Lib.hid (FB.new w (Tx p) (Tx q) 64)
  have HT0 := Lib.hid (htab_gr htab HG0.out)
  have hgin := gcd_in (a := p) hq h0
  have hgpos := gcd_pos (p := p) h0
  have hgne := gs_ne (p := p) h0
  have hn := gs_num (p := p) h0
  have hd := gs_den (p := p) h0
  have inn : In (Rat.divInt p q).num := Nat.le_trans (nDigits_mono (num_le h0)) hp
  have ind : In ((Rat.divInt p q).den : Int) := Nat.le_trans (nDigits_mono (by rw [Int.natAbs_natCast]; exact den_le h0)) hq
  have C1 : Hid (∀ w, Tab w → Calls Tryz.prog 81 #[.string (Tx p), .string (Tx q)] w (fun e w' => e = .returned (.tuple #[.string (Tx ((Nat.gcd p.natAbs q.natAbs : Nat) : Int)), .int .i64 0]) ∧ Gr w w')) := by
    intro w ht
    have H := i_Gcd (Tx p) (Tx q) w hp.len hq.len ht
    rw [opR_Tx hp hq, longR_in hgin] at H
    exact H
  have C2 := Lib.hid (q_minus q)
  obtain ⟨D, HD⟩ : ∃ D, Hid (D = if q < 0 then (⟨#[45]⟩ : ByteArray) ++ Tx ((Nat.gcd p.natAbs q.natAbs : Nat) : Int) else Tx ((Nat.gcd p.natAbs q.natAbs : Nat) : Int)) := ⟨_, rfl⟩
  have hD : D = Tx (gs p q) := by
    rw [HD.out]; unfold gs
    by_cases h : q < 0
    · rw [if_pos h, if_pos h, minus_Tx _ hgpos]
    · rw [if_neg h, if_neg h]
  have hgsin : In (gs p q) := by
    unfold gs; split
    · exact hgin.sm.neg.in (Nat.le_refl _)
    · exact hgin
  have C3 : Hid (∀ w, Tab w → Calls Tryz.prog 73 #[.string (Tx p), .string D] w (fun e w' => e = .returned (.tuple #[.string (Tx (Rat.divInt p q).num), .int .i64 0]) ∧ Gr w w')) := by
    intro w ht
    have H := i_Quo (Tx p) (Tx (gs p q)) w hp.len hgsin.len ht
    rw [opR_Tx hp hgsin, if_neg hgne, hn, longR_in inn, ← hD] at H
    exact H
  have C4 : Hid (∀ w, Tab w → Calls Tryz.prog 73 #[.string (Tx q), .string D] w (fun e w' => e = .returned (.tuple #[.string (Tx ((Rat.divInt p q).den : Int)), .int .i64 0]) ∧ Gr w w')) := by
    intro w ht
    have H := i_Quo (Tx q) (Tx (gs p q)) w hq.len hgsin.len ht
    rw [opR_Tx hq hgsin, if_neg hgne, hd, longR_in ind, ← hD] at H
    exact H
  have lg := hgin.sm.len2
  have ln := inn.sm.len2
  have ld := ind.sm.len2
  have is1 := Tx_is1 ((Rat.divInt p q).den : Int)
  have HR : RT (Rat.divInt p q) = if (Rat.divInt p q).den = 1 then Tx (Rat.divInt p q).num else Tx (Rat.divInt p q).num ++ ⟨#[47]⟩ ++ Tx ((Rat.divInt p q).den : Int) := by
    split
    · rename_i h; exact RT_one h
    · rename_i h; exact RT_many h
  rw [HR]
  clear HR hgin hgpos hgne hn hd inn ind hD hgsin hp hq htab
  generalize Tx ((Nat.gcd p.natAbs q.natAbs : Nat) : Int) = g at *
  generalize Tx (Rat.divInt p q).num = n at *
  generalize Tx ((Rat.divInt p q).den : Int) = d at *
  generalize (Rat.divInt p q).den = dd at *
  generalize Tx p = sp at *
  generalize Tx q = sq at *
  by_cases h : q < 0
  · rw [decide_eq_true h] at C2
    have HD' : Hid (D = (⟨#[45]⟩ : ByteArray) ++ g) := by show _ = _; rw [HD.out, if_pos h]
    rw [HD'.out] at C3 C4
    clear HD HD' h h0
    by_cases h1 : dd = 1
    · rw [decide_eq_true (by omega)] at is1
      rw [if_pos h1]
      clear h1 dd
      go_enter Tryz.func46, Tryz.ntmps46
      go_wp2_with fail
      refine (C1.out _ HT0.out).mono ?_
      rintro e w1 ⟨rfl, hg⟩
      have hF := HF0.out.gr hg
      obtain ⟨k1, k2, k3, k4⟩ := id hF
      have HF1 := Lib.hid hF
      have HG1 := Lib.hid (Gr.trans HG0.out hg)
      have HT1 := Lib.hid (htab_gr HT0.out hg)
      clear hg hF
      go_wp2_with fail
      refine (C2.out _).mono ?_
      rintro e w' ⟨rfl, rfl⟩
      go_wp2_with fail
      refine (C3.out _ HT1.out).mono ?_
      rintro e w2 ⟨rfl, hg⟩
      have hF := HF1.out.gr hg
      clear k1 k2 k3 k4
      obtain ⟨k1, k2, k3, k4⟩ := id hF
      have HG2 := Lib.hid (Gr.trans HG1.out hg)
      have HT2 := Lib.hid (htab_gr HT1.out hg)
      clear hg hF
      go_wp2_with fail
      refine (C4.out _ HT2.out).mono ?_
      rintro e w3 ⟨rfl, hg⟩
      have HG3 := Lib.hid (Gr.trans HG2.out hg)
      clear hg k1 k2 k3 k4
      go_wp2
      go_ret
      exact ⟨rfl, HG3.out⟩
    · rw [decide_eq_false (by omega)] at is1
      rw [if_neg h1]
      clear h1 dd
      go_enter Tryz.func46, Tryz.ntmps46
      go_wp2_with fail
      refine (C1.out _ HT0.out).mono ?_
      rintro e w1 ⟨rfl, hg⟩
      have hF := HF0.out.gr hg
      obtain ⟨k1, k2, k3, k4⟩ := id hF
      have HF1 := Lib.hid hF
      have HG1 := Lib.hid (Gr.trans HG0.out hg)
      have HT1 := Lib.hid (htab_gr HT0.out hg)
      clear hg hF
      go_wp2_with fail
      refine (C2.out _).mono ?_
      rintro e w' ⟨rfl, rfl⟩
      go_wp2_with fail
      refine (C3.out _ HT1.out).mono ?_
      rintro e w2 ⟨rfl, hg⟩
      have hF := HF1.out.gr hg
      clear k1 k2 k3 k4
      obtain ⟨k1, k2, k3, k4⟩ := id hF
      have HG2 := Lib.hid (Gr.trans HG1.out hg)
      have HT2 := Lib.hid (htab_gr HT1.out hg)
      clear hg hF
      go_wp2_with fail
      refine (C4.out _ HT2.out).mono ?_
      rintro e w3 ⟨rfl, hg⟩
      have HG3 := Lib.hid (Gr.trans HG2.out hg)
      clear hg k1 k2 k3 k4
      go_wp2
      go_ret
      exact ⟨rfl, HG3.out⟩
  · rw [decide_eq_false h] at C2
    have HD' : Hid (D = g) := by show _ = _; rw [HD.out, if_neg h]
    rw [HD'.out] at C3 C4
    clear HD HD' h h0
    by_cases h1 : dd = 1
    · rw [decide_eq_true (by omega)] at is1
      rw [if_pos h1]
      clear h1 dd
      go_enter Tryz.func46, Tryz.ntmps46
      go_wp2_with fail
      refine (C1.out _ HT0.out).mono ?_
      rintro e w1 ⟨rfl, hg⟩
      have hF := HF0.out.gr hg
      obtain ⟨k1, k2, k3, k4⟩ := id hF
      have HF1 := Lib.hid hF
      have HG1 := Lib.hid (Gr.trans HG0.out hg)
      have HT1 := Lib.hid (htab_gr HT0.out hg)
      clear hg hF
      go_wp2_with fail
      refine (C2.out _).mono ?_
      rintro e w' ⟨rfl, rfl⟩
      go_wp2_with fail
      refine (C3.out _ HT1.out).mono ?_
      rintro e w2 ⟨rfl, hg⟩
      have hF := HF1.out.gr hg
      clear k1 k2 k3 k4
      obtain ⟨k1, k2, k3, k4⟩ := id hF
      have HG2 := Lib.hid (Gr.trans HG1.out hg)
      have HT2 := Lib.hid (htab_gr HT1.out hg)
      clear hg hF
      go_wp2_with fail
      refine (C4.out _ HT2.out).mono ?_
      rintro e w3 ⟨rfl, hg⟩
      have HG3 := Lib.hid (Gr.trans HG2.out hg)
      clear hg k1 k2 k3 k4
      go_wp2
      go_ret
      exact ⟨rfl, HG3.out⟩
    · rw [decide_eq_false (by omega)] at is1
      rw [if_neg h1]
      clear h1 dd
      go_enter Tryz.func46, Tryz.ntmps46
      go_wp2_with fail
      refine (C1.out _ HT0.out).mono ?_
      rintro e w1 ⟨rfl, hg⟩
      have hF := HF0.out.gr hg
      obtain ⟨k1, k2, k3, k4⟩ := id hF
      have HF1 := Lib.hid hF
      have HG1 := Lib.hid (Gr.trans HG0.out hg)
      have HT1 := Lib.hid (htab_gr HT0.out hg)
      clear hg hF
      go_wp2_with fail
      refine (C2.out _).mono ?_
      rintro e w' ⟨rfl, rfl⟩
      go_wp2_with fail
      refine (C3.out _ HT1.out).mono ?_
      rintro e w2 ⟨rfl, hg⟩
      have hF := HF1.out.gr hg
      clear k1 k2 k3 k4
      obtain ⟨k1, k2, k3, k4⟩ := id hF
      have HG2 := Lib.hid (Gr.trans HG1.out hg)
      have HT2 := Lib.hid (htab_gr HT1.out hg)
      clear hg hF
      go_wp2_with fail
      refine (C4.out _ HT2.out).mono ?_
      rintro e w3 ⟨rfl, hg⟩
      have HG3 := Lib.hid (Gr.trans HG2.out hg)
      clear hg k1 k2 k3 k4
      go_wp2
      go_ret
      exact ⟨rfl, HG3.out⟩
end Go.Proofs.YtjoipfiomeocoabGreatDoor
