/- Law 9: CurveChains. -/
import Derived.Test.YtlbnibicehpobaaGreatDoorCwDE
set_option linter.unusedVariables false
set_option linter.unusedSimpArgs false
namespace Go.Proofs.YtlbnibicehpobaaGreatDoor
open Go.RowKit Go.Shelf
open Z
set_option maxHeartbeats 4000000 in
set_option maxRecDepth 100000 in
theorem r9_FewAll {a : Option Addr} {cap : Nat} {L : List Pts} (w : World) (hp : CsAt w a L) (hlen : L.length ≤ 10000000000000) :
    Calls Tryz.prog 20 #[.slice a L.length cap] w fun e w' => (∃ b, e = .returned (.bool b)) ∧ Gr w w' := by
  have HP := Lib.hid hp
  obtain ⟨n, hn⟩ : ∃ n, L.length = n := ⟨_, rfl⟩
  have HN := Lib.hid hn
  rw [hn] at hlen ⊢
  clear hp hn
  go_enter Tryz.func20, Tryz.ntmps20
  go_wp2
  go_loopw [3] (fun i wr => ∃ j : Nat, i = .int .i64 j ∧ j ≤ n ∧ Hid (Gr w wr)) (fun i _ => n - (intOf i).toNat)
  case atStart => exact ⟨0, rfl, Nat.zero_le _, Lib.hid (Gr.refl w)⟩
  case round =>
    obtain ⟨j, rfl, hj, HG⟩ := hrel
    by_cases hlt : j < n
    · have l0 : j < L.length := by rw [HN.out]; exact hlt
      obtain ⟨b, off, c, cp, rfl, d0, hc⟩ := (HP.out.gr HG.out).at l0
      have C := Lib.hid (r9_Few c L[j].length cp wr)
      clear hc
      generalize L[j].length = m at *
      have kn : decide ((j : Int) < n) = true := decide_eq_true (by omega)
      by_cases h40 : j < 40
      · have k4 : decide ((j : Int) < 40) = true := decide_eq_true (by omega)
        by_cases hm : m ≤ 40
        · rw [decide_eq_true hm] at C
          go_wp2_with fail
          refine C.out.mono ?_; rintro e w1 ⟨rfl, rfl⟩
          clear C d0
          go_wp2
          go_roundw
          case rel => exact ⟨j + 1, by go_num, by omega, HG⟩
          case measure => simp [intOf]; omega
        · rw [decide_eq_false hm] at C
          go_wp2_with fail
          refine C.out.mono ?_; rintro e w1 ⟨rfl, rfl⟩
          clear C d0
          go_wp2
          go_ret
          exact ⟨⟨_, rfl⟩, HG.out⟩
      · have k4 : decide ((j : Int) < 40) = false := decide_eq_false (by omega)
        clear C d0
        go_wp2
        go_ret
        exact ⟨⟨_, rfl⟩, HG.out⟩
    · obtain rfl : j = n := by omega
      go_wp2
      go_ret
      exact ⟨⟨_, rfl⟩, HG.out⟩
section
variable {w0 : World} (htab : Tab w0) (hmx : Mx w0) (herr : ErrR w0)
include htab hmx herr
set_option maxHeartbeats 4000000 in
set_option maxRecDepth 100000 in
theorem l9_CurveChains {a : Option Addr} {cap : Nat} {L : List Pts} {s : ByteArray} (hp : CsAt w0 a L) (hR : ∀ c ∈ L, ∀ p ∈ c, isJ p.1 ∧ isJ p.2) (hlen : L.length ≤ 10000000000000) (hs : s.size ≤ maxLen) : Ret w0 4 #[.slice a L.length cap, .string s] (.bool true) := by
  have AW := Lib.hid (RetG.of4 (w0 := w0) fun w1 h => l9_awake (htab_gr htab h) (hmx.gr h) (herr.gr h))
  have HF := Lib.hid (RetG.of4 (w0 := w0) fun w1 _ => ret_Few2 (w0 := w1) hs)
  have CF := Lib.hid (fun w (hg : Gr w0 w) => r9_FewAll (cap := cap) w (hp.gr hg) hlen)
  have C1 := Lib.hid (fun (h2 : s.size ≤ 2000) w (hg : Gr w0 w) => cv_Through (cap := cap) htab hmx herr w hg (hp.gr hg) hR hlen (s := s) h2)
  have C2 := Lib.hid (fun (h2 : s.size ≤ 2000) w (hg : Gr w0 w) => r9_Through (cap := cap) w (hp.gr hg) hR hlen (s := s) h2)
  generalize L.length = n at *
  obtain ⟨A, hA⟩ : ∃ A, thruC L s = A := ⟨_, rfl⟩
  rw [hA] at C1 C2
  obtain ⟨A1, A2⟩ := A
  unfold vSI at C1 C2
  simp only [] at C1 C2
  have hbeq := cw_beq A1
  clear htab hmx herr hp hA
  intro w hg
  have HG := Lib.hid hg
  clear hg
  go_enter Tryz.func4, Tryz.ntmps4
  go_wp2_with fail
  refine (CF.out _ HG.out).mono ?_; rintro e w1 ⟨⟨b, rfl⟩, hg⟩
  have HG1 := Lib.hid (Gr.trans HG.out hg); clear hg CF
  cases b
  · clear C1 C2 HF
    go_wp2_with fail
    refine (AW.out _ HG1.out).mono ?_; rintro e wx ⟨rfl, hg⟩
    have HGx := Lib.hid (Gr.trans HG1.out hg); clear hg
    go_wp2
    go_ret
    exact ⟨rfl, HGx.out⟩
  · by_cases h5 : 5 < n
    · have k5 : decide ((5 : Int) < n) = true := decide_eq_true (by omega)
      have k5' : decide ((n : Int) > 5) = true := decide_eq_true (by omega)
      by_cases h16 : n ≤ 16
      · have k6 : decide ((n : Int) ≤ 16) = true := decide_eq_true (by omega)
        clear C1 C2 HF
        go_wp2_with fail
        refine (AW.out _ HG1.out).mono ?_; rintro e wx ⟨rfl, hg⟩
        have HGx := Lib.hid (Gr.trans HG1.out hg); clear hg
        go_wp2
        go_ret
        exact ⟨rfl, HGx.out⟩
      · have k6 : decide ((n : Int) ≤ 16) = false := decide_eq_false (by omega)
        by_cases h120 : s.size ≤ 120
        · rw [decide_eq_true h120] at HF
          have D1 := Lib.hid (C1.out (by omega))
          have D2 := Lib.hid (C2.out (by omega))
          clear C1 C2
          go_wp2_with fail
          refine (HF.out _ HG1.out).mono ?_; rintro e w2 ⟨rfl, hg⟩
          have HG2 := Lib.hid (Gr.trans HG1.out hg); clear hg
          go_wp2_with fail
          refine (D1.out _ HG2.out).mono ?_; rintro e w3 ⟨rfl, hg⟩
          have HG3 := Lib.hid (Gr.trans HG2.out hg); clear hg
          go_wp2_with fail
          refine (D2.out _ HG3.out).mono ?_; rintro e w4 ⟨rfl, hg⟩
          have HG4 := Lib.hid (Gr.trans HG3.out hg); clear hg D1 D2 HF
          go_wp2_with fail
          refine (AW.out _ HG4.out).mono ?_; rintro e wx ⟨rfl, hg⟩
          have HGx := Lib.hid (Gr.trans HG4.out hg); clear hg
          go_wp2
          go_ret
          exact ⟨rfl, HGx.out⟩
        · rw [decide_eq_false h120] at HF
          clear C1 C2
          go_wp2_with fail
          refine (HF.out _ HG1.out).mono ?_; rintro e w2 ⟨rfl, hg⟩
          have HG2 := Lib.hid (Gr.trans HG1.out hg); clear hg
          go_wp2_with fail
          refine (AW.out _ HG2.out).mono ?_; rintro e wx ⟨rfl, hg⟩
          have HGx := Lib.hid (Gr.trans HG2.out hg); clear hg
          go_wp2
          go_ret
          exact ⟨rfl, HGx.out⟩
    · have k5 : decide ((5 : Int) < n) = false := decide_eq_false (by omega)
      have k5' : decide ((n : Int) > 5) = false := decide_eq_false (by omega)
      by_cases h120 : s.size ≤ 120
      · rw [decide_eq_true h120] at HF
        have D1 := Lib.hid (C1.out (by omega))
        have D2 := Lib.hid (C2.out (by omega))
        clear C1 C2
        go_wp2_with fail
        refine (HF.out _ HG1.out).mono ?_; rintro e w2 ⟨rfl, hg⟩
        have HG2 := Lib.hid (Gr.trans HG1.out hg); clear hg
        go_wp2_with fail
        refine (D1.out _ HG2.out).mono ?_; rintro e w3 ⟨rfl, hg⟩
        have HG3 := Lib.hid (Gr.trans HG2.out hg); clear hg
        go_wp2_with fail
        refine (D2.out _ HG3.out).mono ?_; rintro e w4 ⟨rfl, hg⟩
        have HG4 := Lib.hid (Gr.trans HG3.out hg); clear hg D1 D2 HF
        go_wp2_with fail
        refine (AW.out _ HG4.out).mono ?_; rintro e wx ⟨rfl, hg⟩
        have HGx := Lib.hid (Gr.trans HG4.out hg); clear hg
        go_wp2
        go_ret
        exact ⟨rfl, HGx.out⟩
      · rw [decide_eq_false h120] at HF
        clear C1 C2
        go_wp2_with fail
        refine (HF.out _ HG1.out).mono ?_; rintro e w2 ⟨rfl, hg⟩
        have HG2 := Lib.hid (Gr.trans HG1.out hg); clear hg
        go_wp2_with fail
        refine (AW.out _ HG2.out).mono ?_; rintro e wx ⟨rfl, hg⟩
        have HGx := Lib.hid (Gr.trans HG2.out hg); clear hg
        go_wp2
        go_ret
        exact ⟨rfl, HGx.out⟩
end
end Go.Proofs.YtlbnibicehpobaaGreatDoor
