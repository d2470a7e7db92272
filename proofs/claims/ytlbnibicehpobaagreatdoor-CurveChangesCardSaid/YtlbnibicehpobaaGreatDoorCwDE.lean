/- CwDE: CwD, CwE, joined. -/
import Derived.Test.YtlbnibicehpobaaGreatDoorCwABC
set_option linter.unusedVariables false
set_option linter.unusedSimpArgs false

/- Law 9: the examples of the chapter. -/
namespace Go.Proofs.YtlbnibicehpobaaGreatDoor
open Go.RowKit Go.Shelf
open Z
theorem lit_at {l : Pts} {s u : ByteArray} (h : cvC l = 0) (hs : chkS s = 0) (hl : lvlQ (rv s) = true) (hu : chkS u = 0) (he : valC l (rv s) = rv u) : atC l s = (u, 0) := by
  unfold atC
  rw [if_neg (by simp [h]), if_neg (by unfold compE; rw [if_pos hs, if_pos hl]; simp), he, RT_rv hu]
def exC : Pts := [(0, 0), (20000, 60000), (65535, 65535)]
def exI : Pts := [(0, 0), (60000, 20000), (65535, 65535)]
def exD : Pts := [(0, 0), (100, 0), (65535, 65535)]
def exT : Pts := [(0, 0), (10, 20), (20, 40), (65535, 40)]
def exU : Pts := [(0, 0), (20, 40), (65535, 40)]
theorem ex1 : atC exC ⟨#[49, 48, 48, 48, 48]⟩ = (⟨#[51, 48, 48, 48, 48]⟩, 0) := lit_at (by decide +kernel) (by decide +kernel) (by decide +kernel) (by decide +kernel) (by decide +kernel)
theorem ex2 : atC exC ⟨#[50, 48, 48, 48, 48]⟩ = (⟨#[54, 48, 48, 48, 48]⟩, 0) := lit_at (by decide +kernel) (by decide +kernel) (by decide +kernel) (by decide +kernel) (by decide +kernel)
theorem ex3 : atC exC ⟨#[49, 47, 51]⟩ = (⟨#[49]⟩, 0) := lit_at (by decide +kernel) (by decide +kernel) (by decide +kernel) (by decide +kernel) (by decide +kernel)
theorem ex4 : invC exC = (exI, 0) := by decide +kernel
theorem ex5 : invC exD = ([], 16) := by decide +kernel
theorem ex6 : tidyC exT = (exU, 0) := by decide +kernel
theorem exJ : (∀ p ∈ exC, isJ p.1 ∧ isJ p.2) ∧ (∀ p ∈ exD, isJ p.1 ∧ isJ p.2) ∧ ∀ p ∈ exT, isJ p.1 ∧ isJ p.2 := by
  unfold isJ
  decide
theorem pts3 (w : World) (a b c d e f : Int) : PtAt (w.alloc (.cells #[.int .i64 a, .int .i64 b, .int .i64 c, .int .i64 d, .int .i64 e, .int .i64 f] 52)) (some ⟨w.heap.size, 0, none⟩) [(a, b), (c, d), (e, f)] := .inr ⟨_, _, rfl, fun j hj => by
  have h : j = 0 ∨ j = 1 ∨ j = 2 := by simp at hj; omega
  rcases h with rfl | rfl | rfl
  all_goals exact ⟨by rw [World.cell?_alloc_at _ _ _ _ rfl]; rfl, by rw [World.cell?_alloc_at _ _ _ _ rfl]; rfl⟩⟩
theorem pts4 (w : World) (a b c d e f g h : Int) : PtAt (w.alloc (.cells #[.int .i64 a, .int .i64 b, .int .i64 c, .int .i64 d, .int .i64 e, .int .i64 f, .int .i64 g, .int .i64 h] 52)) (some ⟨w.heap.size, 0, none⟩) [(a, b), (c, d), (e, f), (g, h)] := .inr ⟨_, _, rfl, fun j hj => by
  have h : j = 0 ∨ j = 1 ∨ j = 2 ∨ j = 3 := by simp at hj; omega
  rcases h with rfl | rfl | rfl | rfl
  all_goals exact ⟨by rw [World.cell?_alloc_at _ _ _ _ rfl]; rfl, by rw [World.cell?_alloc_at _ _ _ _ rfl]; rfl⟩⟩
section
variable {w0 : World} (htab : Tab w0) (hmx : Mx w0) (herr : ErrR w0)
theorem aw_Inv {w : World} {a : Option Addr} {L M : Pts} {n c : Nat} {E : Int} (hp : PtAt w a L) (hn : L.length = n) (hJ : ∀ p ∈ L, isJ p.1 ∧ isJ p.2) (hnc : n ≤ c) (hc : c ≤ maxLen) (hn2 : n ≤ 100) (h : invC L = (M, E)) :
    Calls Tryz.prog 25 #[.slice a n c] w fun e w' => ∃ a' c', e = .returned (.tuple #[.slice a' M.length c', .int .i64 E]) ∧ PtAt w' a' M ∧ Gr w w' := by
  subst hn
  have := cv_Inverse a L c w hp hJ hnc hc (by omega)
  rw [h] at this
  refine this.mono ?_
  rintro e w' ⟨v, rfl, ho, hg⟩
  obtain ⟨a', c', rfl, hp'⟩ := ho.shape
  exact ⟨a', c', rfl, hp', hg⟩
theorem aw_Tid {w : World} {a : Option Addr} {L M : Pts} {n c : Nat} {E : Int} (hp : PtAt w a L) (hn : L.length = n) (hJ : ∀ p ∈ L, isJ p.1 ∧ isJ p.2) (hnc : n ≤ c) (hc : c ≤ maxLen) (hn2 : n ≤ 100) (h : tidyC L = (M, E)) :
    Calls Tryz.prog 29 #[.slice a n c] w fun e w' => ∃ a' c', e = .returned (.tuple #[.slice a' M.length c', .int .i64 E]) ∧ PtAt w' a' M ∧ Gr w w' := by
  subst hn
  have := cv_Tidy a L c w hp hJ hnc hc (by omega)
  rw [h] at this
  refine this.mono ?_
  rintro e w' ⟨v, rfl, ho, hg⟩
  obtain ⟨a', c', rfl, hp'⟩ := ho.shape
  exact ⟨a', c', rfl, hp', hg⟩
include htab hmx herr
theorem aw_At {w : World} (hg0 : Gr w0 w) {a : Option Addr} {L : Pts} {n c : Nat} {s u : ByteArray} {E : Int} (hp : PtAt w a L) (hn : L.length = n) (hJ : ∀ p ∈ L, isJ p.1 ∧ isJ p.2) (hn2 : n ≤ 100) (hs : s.size ≤ 2000) (h : atC L s = (u, E)) :
    Calls Tryz.prog 13 #[.slice a n c, .string s] w fun e w' => e = .returned (.tuple #[.string u, .int .i64 E]) ∧ Gr w w' := by
  subst hn
  have := cv_At (cap := c) htab hmx herr w hg0 hp hJ (by omega) hs
  rw [h] at this
  exact this
set_option maxHeartbeats 8000000 in
set_option maxRecDepth 100000 in
theorem l9_awake : Ret w0 12 #[] (.bool true) := by
  have A1 := Lib.hid (fun (w : World) (hg0 : Gr w0 w) (a : Option Addr) (hp : PtAt w a exC) => aw_At (c := 3) (n := 3) htab hmx herr hg0 hp rfl exJ.1 (by omega) (by decide) ex1)
  have A2 := Lib.hid (fun (w : World) (hg0 : Gr w0 w) (a : Option Addr) (hp : PtAt w a exC) => aw_At (c := 3) (n := 3) htab hmx herr hg0 hp rfl exJ.1 (by omega) (by decide) ex2)
  have A3 := Lib.hid (fun (w : World) (hg0 : Gr w0 w) (a : Option Addr) (hp : PtAt w a exC) => aw_At (c := 3) (n := 3) htab hmx herr hg0 hp rfl exJ.1 (by omega) (by decide) ex3)
  have I1 := Lib.hid (fun (w : World) (a : Option Addr) (hp : PtAt w a exC) => aw_Inv (c := 3) (n := 3) hp rfl exJ.1 (by omega) (by unfold maxLen; omega) (by omega) ex4)
  have I2 := Lib.hid (fun (w : World) (a : Option Addr) (hp : PtAt w a exD) => aw_Inv (c := 3) (n := 3) hp rfl exJ.2.1 (by omega) (by unfold maxLen; omega) (by omega) ex5)
  have T1 := Lib.hid (fun (w : World) (a : Option Addr) (hp : PtAt w a exT) => aw_Tid (c := 4) (n := 4) hp rfl exJ.2.2 (by omega) (by unfold maxLen; omega) (by omega) ex6)
  have S1 := Lib.hid (fun (w : World) (a b : Option Addr) (c : Nat) (hp : PtAt w a exI) (hq : PtAt w b exI) => (by
    have := r9_Same a b exI exI c 3 w hp hq (by decide) (by decide)
    rwa [decide_eq_true rfl] at this : Calls Tryz.prog 17 #[.slice a 3 c, .slice b 3 3] w fun e w' => e = .returned (.bool true) ∧ Gr w w'))
  have S2 := Lib.hid (fun (w : World) (a b : Option Addr) (c : Nat) (hp : PtAt w a exU) (hq : PtAt w b exU) => (by
    have := r9_Same a b exU exU c 3 w hp hq (by decide) (by decide)
    rwa [decide_eq_true rfl] at this : Calls Tryz.prog 17 #[.slice a 3 c, .slice b 3 3] w fun e w' => e = .returned (.bool true) ∧ Gr w w'))
  have P1 : Hid (∀ w : World, PtAt (w.alloc (.cells #[.int .i64 0, .int .i64 0, .int .i64 20000, .int .i64 60000, .int .i64 65535, .int .i64 65535] 52)) (some ⟨w.heap.size, 0, none⟩) exC) := Lib.hid fun w => pts3 w _ _ _ _ _ _
  have P2 : Hid (∀ w : World, PtAt (w.alloc (.cells #[.int .i64 0, .int .i64 0, .int .i64 100, .int .i64 0, .int .i64 65535, .int .i64 65535] 52)) (some ⟨w.heap.size, 0, none⟩) exD) := Lib.hid fun w => pts3 w _ _ _ _ _ _
  have P3 : Hid (∀ w : World, PtAt (w.alloc (.cells #[.int .i64 0, .int .i64 0, .int .i64 10, .int .i64 20, .int .i64 20, .int .i64 40, .int .i64 65535, .int .i64 40] 52)) (some ⟨w.heap.size, 0, none⟩) exT) := Lib.hid fun w => pts4 w _ _ _ _ _ _ _ _
  have P4 : Hid (∀ w : World, PtAt (w.alloc (.cells #[.int .i64 0, .int .i64 0, .int .i64 60000, .int .i64 20000, .int .i64 65535, .int .i64 65535] 52)) (some ⟨w.heap.size, 0, none⟩) exI) := Lib.hid fun w => pts3 w _ _ _ _ _ _
  have P5 : Hid (∀ w : World, PtAt (w.alloc (.cells #[.int .i64 0, .int .i64 0, .int .i64 20, .int .i64 40, .int .i64 65535, .int .i64 40] 52)) (some ⟨w.heap.size, 0, none⟩) exU) := Lib.hid fun w => pts3 w _ _ _ _ _ _
  have lI : exI.length = 3 := rfl
  have lU : exU.length = 3 := rfl
  rw [lI] at I1
  rw [lU] at T1
  generalize exC = C at *
  generalize exI = I at *
  generalize exD = D at *
  generalize exT = T at *
  generalize exU = U at *
  clear htab hmx herr lI lU
  intro w hg
  have HG := Lib.hid (hg.alloc (.cells #[.int .i64 0, .int .i64 0, .int .i64 20000, .int .i64 60000, .int .i64 65535, .int .i64 65535] 52))
  have HC := Lib.hid (P1.out w)
  clear hg
  go_enter Tryz.func12, Tryz.ntmps12
  go_wp2_with fail
  refine (A1.out _ HG.out _ HC.out).mono ?_; rintro e w1 ⟨rfl, hg⟩
  have HG1 := Lib.hid (Gr.trans HG.out hg)
  have HC1 := Lib.hid (HC.out.gr hg)
  clear hg A1
  go_wp2_with fail
  refine (A2.out _ HG1.out _ HC1.out).mono ?_; rintro e w2 ⟨rfl, hg⟩
  have HG2 := Lib.hid (Gr.trans HG1.out hg)
  have HC2 := Lib.hid (HC1.out.gr hg)
  clear hg A2
  go_wp2_with fail
  refine (A3.out _ HG2.out _ HC2.out).mono ?_; rintro e w3 ⟨rfl, hg⟩
  have HG3 := Lib.hid (Gr.trans HG2.out hg)
  have HC3 := Lib.hid (HC2.out.gr hg)
  clear hg A3
  go_wp2_with fail
  refine (I1.out _ _ HC3.out).mono ?_; rintro e w4 ⟨ai, ci, rfl, hi, hg⟩
  have HG4 := Lib.hid ((Gr.trans HG3.out hg).alloc (.cells #[.int .i64 0, .int .i64 0, .int .i64 100, .int .i64 0, .int .i64 65535, .int .i64 65535] 52))
  have HI4 := Lib.hid (hi.gr ((Gr.refl w4).alloc (.cells #[.int .i64 0, .int .i64 0, .int .i64 100, .int .i64 0, .int .i64 65535, .int .i64 65535] 52)))
  have HD4 := Lib.hid (P2.out w4)
  clear hg hi I1
  go_wp2_with fail
  refine (I2.out _ _ HD4.out).mono ?_; rintro e w5 ⟨aj, cj, rfl, -, hg⟩
  have HG5 := Lib.hid ((Gr.trans HG4.out hg).alloc (.cells #[.int .i64 0, .int .i64 0, .int .i64 10, .int .i64 20, .int .i64 20, .int .i64 40, .int .i64 65535, .int .i64 40] 52))
  have HI5 := Lib.hid ((HI4.out.gr hg).gr ((Gr.refl w5).alloc (.cells #[.int .i64 0, .int .i64 0, .int .i64 10, .int .i64 20, .int .i64 20, .int .i64 40, .int .i64 65535, .int .i64 40] 52)))
  have HT5 := Lib.hid (P3.out w5)
  clear hg I2
  go_wp2_with fail
  refine (T1.out _ _ HT5.out).mono ?_; rintro e w6 ⟨at', ct, rfl, ht, hg⟩
  have HG6 := Lib.hid ((Gr.trans HG5.out hg).alloc (.cells #[.int .i64 0, .int .i64 0, .int .i64 60000, .int .i64 20000, .int .i64 65535, .int .i64 65535] 52))
  have HI6 := Lib.hid ((HI5.out.gr hg).gr ((Gr.refl w6).alloc (.cells #[.int .i64 0, .int .i64 0, .int .i64 60000, .int .i64 20000, .int .i64 65535, .int .i64 65535] 52)))
  have HU6 := Lib.hid (ht.gr ((Gr.refl w6).alloc (.cells #[.int .i64 0, .int .i64 0, .int .i64 60000, .int .i64 20000, .int .i64 65535, .int .i64 65535] 52)))
  have HJ6 := Lib.hid (P4.out w6)
  clear hg ht T1
  go_wp2_with fail
  refine (S1.out _ _ _ _ HI6.out HJ6.out).mono ?_; rintro e w7 ⟨rfl, hg⟩
  have HG7 := Lib.hid ((Gr.trans HG6.out hg).alloc (.cells #[.int .i64 0, .int .i64 0, .int .i64 20, .int .i64 40, .int .i64 65535, .int .i64 40] 52))
  have HU7 := Lib.hid ((HU6.out.gr hg).gr ((Gr.refl w7).alloc (.cells #[.int .i64 0, .int .i64 0, .int .i64 20, .int .i64 40, .int .i64 65535, .int .i64 40] 52)))
  have HV7 := Lib.hid (P5.out w7)
  clear hg S1
  go_wp2_with fail
  refine (S2.out _ _ _ _ HU7.out HV7.out).mono ?_; rintro e w8 ⟨rfl, hg⟩
  have HG8 := Lib.hid (Gr.trans HG7.out hg)
  clear hg S2
  go_wp2
  go_ret
  exact ⟨rfl, HG8.out⟩
end
end Go.Proofs.YtlbnibicehpobaaGreatDoor

/- Law 9: CurveChecks, CurveChanges, CurveChains. -/
namespace Go.Proofs.YtlbnibicehpobaaGreatDoor
open Go.RowKit Go.Shelf
open Z
theorem cw_beq (s : ByteArray) : (s.toList == s.toList) = true := by simp
/-- a slice that reads as a list of points -/
def ShP (w : World) (v : Value) (M : Pts) : Prop := ∃ a c, v = .slice a M.length c ∧ PtAt w a M
theorem OwnC.shp {B : Nat} {w : World} {v : Value} {l : Pts} (h : OwnC B w v l) : ShP w v l := by
  obtain ⟨a, c, e, hp⟩ := h.shape
  exact ⟨a, c, e, hp⟩
theorem same_self {w : World} {a b : Option Addr} {M : Pts} {n c d : Nat} (h : PtAt w a M) (h' : PtAt w b M) (hn : M.length = n) (hl : n ≤ 10000000000000) :
    Calls Tryz.prog 17 #[.slice a n c, .slice b n d] w fun e w' => e = .returned (.bool true) ∧ Gr w w' := by
  subst hn
  have := r9_Same a b M M c d w h h' hl hl
  rwa [decide_eq_true rfl] at this
section
variable {w0 : World} (htab : Tab w0) (hmx : Mx w0) (herr : ErrR w0)
include htab hmx herr
set_option maxHeartbeats 4000000 in
set_option maxRecDepth 100000 in
theorem l9_CurveChecks {a : Option Addr} {cap : Nat} {l : Pts} {s : ByteArray} (hp : PtAt w0 a l) (hJ : ∀ p ∈ l, isJ p.1 ∧ isJ p.2) (hlen : l.length ≤ 10000000000000) (hs : s.size ≤ maxLen) : Ret w0 3 #[.slice a l.length cap, .string s] (.bool true) := by
  have AW := Lib.hid (RetG.of4 (w0 := w0) fun w1 h => l9_awake (htab_gr htab h) (hmx.gr h) (herr.gr h))
  have HF := Lib.hid (RetG.of4 (w0 := w0) fun w1 _ => ret_Few2 (w0 := w1) hs)
  by_cases h40 : l.length ≤ 40
  · have CF := Lib.hid (fun w => r9_Few a l.length cap w)
    rw [decide_eq_true h40] at CF
    by_cases h120 : s.size ≤ 120
    · rw [decide_eq_true h120] at HF
      have C1 := Lib.hid (fun w (hg : Gr w0 w) => cv_At (cap := cap) htab hmx herr w hg (hp.gr hg) hJ hlen (s := s) (by omega))
      have C2 := Lib.hid (fun w (hg : Gr w0 w) => r9_At (cap := cap) w (hp.gr hg) hJ hlen (s := s) (by omega))
      have C3 := Lib.hid (fun w (hg : Gr w0 w) => cv_Check a l cap w (hp.gr hg) hJ hlen)
      have C4 := Lib.hid (fun w (hg : Gr w0 w) => r9_Check a l cap w (hp.gr hg) hJ hlen)
      generalize l.length = n at *
      generalize cvC l = K at *
      obtain ⟨A, hA⟩ : ∃ A, atC l s = A := ⟨_, rfl⟩
      rw [hA] at C1 C2
      obtain ⟨A1, A2⟩ := A
      unfold vSI at C1 C2
      simp only [] at C1 C2
      have hbeq := cw_beq A1
      clear htab hmx herr hp hJ hA
      intro w hg
      have HG := Lib.hid hg
      clear hg
      go_enter Tryz.func3, Tryz.ntmps3
      go_wp2_with fail
      refine (CF.out _).mono ?_; rintro e w1 ⟨rfl, rfl⟩
      go_wp2_with fail
      refine (HF.out _ HG.out).mono ?_; rintro e w2 ⟨rfl, hg⟩
      have HG2 := Lib.hid (Gr.trans HG.out hg); clear hg
      go_wp2_with fail
      refine (C1.out _ HG2.out).mono ?_; rintro e w3 ⟨rfl, hg⟩
      have HG3 := Lib.hid (Gr.trans HG2.out hg); clear hg
      go_wp2_with fail
      refine (C2.out _ HG3.out).mono ?_; rintro e w4 ⟨rfl, hg⟩
      have HG4 := Lib.hid (Gr.trans HG3.out hg); clear hg
      go_wp2_with fail
      refine (C3.out _ HG4.out).mono ?_; rintro e w5 ⟨rfl, hg⟩
      have HG5 := Lib.hid (Gr.trans HG4.out hg); clear hg
      go_wp2_with fail
      refine (C4.out _ HG5.out).mono ?_; rintro e w6 ⟨rfl, hg⟩
      have HG6 := Lib.hid (Gr.trans HG5.out hg); clear hg
      go_wp2_with fail
      refine (cv_Straight _).mono ?_; rintro e w7 ⟨g1, rfl, -, hp1, hg⟩
      have HG7 := Lib.hid (Gr.trans HG6.out hg); clear hg
      have HP1 := Lib.hid hp1; clear hp1
      go_wp2_with fail
      refine (r9_Straight _).mono ?_; rintro e w8 ⟨g2, rfl, -, hp2, hg⟩
      have HG8 := Lib.hid (Gr.trans HG7.out hg)
      have HS := Lib.hid (same_self (c := 2) (d := 2) (n := 2) (HP1.out.gr hg) hp2 rfl (by omega)); clear hg hp2
      go_wp2_with fail
      refine HS.out.mono ?_; rintro e w9 ⟨rfl, hg⟩
      have HG9 := Lib.hid (Gr.trans HG8.out hg); clear hg
      go_wp2_with fail
      refine (AW.out _ HG9.out).mono ?_; rintro e w10 ⟨rfl, hg⟩
      have HG10 := Lib.hid (Gr.trans HG9.out hg); clear hg
      go_wp2
      go_ret
      exact ⟨rfl, HG10.out⟩
    · rw [decide_eq_false h120] at HF
      generalize l.length = n at *
      clear htab hmx herr hp hJ
      intro w hg
      have HG := Lib.hid hg
      clear hg
      go_enter Tryz.func3, Tryz.ntmps3
      go_wp2_with fail
      refine (CF.out _).mono ?_; rintro e w1 ⟨rfl, rfl⟩
      go_wp2_with fail
      refine (HF.out _ HG.out).mono ?_; rintro e w2 ⟨rfl, hg⟩
      have HG2 := Lib.hid (Gr.trans HG.out hg); clear hg
      go_wp2_with fail
      refine (AW.out _ HG2.out).mono ?_; rintro e w10 ⟨rfl, hg⟩
      have HG10 := Lib.hid (Gr.trans HG2.out hg); clear hg
      go_wp2
      go_ret
      exact ⟨rfl, HG10.out⟩
  · have CF := Lib.hid (fun w => r9_Few a l.length cap w)
    rw [decide_eq_false h40] at CF
    generalize l.length = n at *
    clear htab hmx herr hp hJ HF
    intro w hg
    have HG := Lib.hid hg
    clear hg
    go_enter Tryz.func3, Tryz.ntmps3
    go_wp2_with fail
    refine (CF.out _).mono ?_; rintro e w1 ⟨rfl, rfl⟩
    go_wp2_with fail
    refine (AW.out _ HG.out).mono ?_; rintro e w10 ⟨rfl, hg⟩
    have HG10 := Lib.hid (Gr.trans HG.out hg); clear hg
    go_wp2
    go_ret
    exact ⟨rfl, HG10.out⟩
set_option maxHeartbeats 4000000 in
set_option maxRecDepth 100000 in
theorem l9_CurveChanges {a : Option Addr} {cap : Nat} {l : Pts} (hp : PtAt w0 a l) (hJ : ∀ p ∈ l, isJ p.1 ∧ isJ p.2) (hlc : l.length ≤ cap) (hcm : cap ≤ maxLen) (hlen : l.length ≤ 10000000000000) : Ret w0 5 #[.slice a l.length cap] (.bool true) := by
  have AW := Lib.hid (RetG.of4 (w0 := w0) fun w1 h => l9_awake (htab_gr htab h) (hmx.gr h) (herr.gr h))
  by_cases h40 : l.length ≤ 40
  · have CF := Lib.hid (fun w => r9_Few a l.length cap w)
    rw [decide_eq_true h40] at CF
    have C1 := Lib.hid (fun w (hg : Gr w0 w) => cv_Slope a l cap w (hp.gr hg) hJ hlc hcm hlen)
    have C2 := Lib.hid (fun w (hg : Gr w0 w) => r9_Slope a l cap w (hp.gr hg) hJ hlen)
    have C3 := Lib.hid (fun w (hg : Gr w0 w) => cv_Inverse a l cap w (hp.gr hg) hJ hlc hcm hlen)
    have C4 := Lib.hid (fun w (hg : Gr w0 w) => r9_Inverse a l cap w (hp.gr hg) hJ hlen)
    have C5 := Lib.hid (fun w (hg : Gr w0 w) => cv_Flip a l cap w (hp.gr hg) hJ hlen)
    have C6 := Lib.hid (fun w (hg : Gr w0 w) => r9_Flip a l cap w (hp.gr hg) hJ hlen)
    have C7 := Lib.hid (fun w (hg : Gr w0 w) => cv_Tidy a l cap w (hp.gr hg) hJ hlc hcm hlen)
    have C8 := Lib.hid (fun w (hg : Gr w0 w) => r9_Tidy a l cap w (hp.gr hg) hJ hlen)
    have hI : (invC l).1.length ≤ 100 := by
      unfold invC
      split
      · simp
      · split
        · simp
        · rw [swap_len]
          split
          · rw [List.length_reverse]; omega
          · omega
    have hFl : (flipC l).1.length ≤ 100 := by
      unfold flipC
      split
      · simp
      · rw [flip_len]; omega
    have hTl : (tidyC l).1.length ≤ 100 := by
      unfold tidyC
      split
      · simp
      · have := (tidyP_sub l).length_le; show (tidyP l).length ≤ 100; omega
    generalize slopeC l = SL at *
    generalize invC l = IV at *
    generalize flipC l = FL at *
    generalize tidyC l = TD at *
    obtain ⟨S1, S2⟩ := SL
    obtain ⟨I1, I2⟩ := IV
    obtain ⟨F1, F2⟩ := FL
    obtain ⟨T1, T2⟩ := TD
    try simp only [] at C1
    try simp only [] at C2
    try simp only [] at C3
    try simp only [] at C4
    try simp only [] at C5
    try simp only [] at C6
    try simp only [] at C7
    try simp only [] at C8
    try simp only [] at hI
    try simp only [] at hFl
    try simp only [] at hTl
    generalize l.length = n at *
    clear htab hmx herr hp hJ
    intro w hg
    have HG := Lib.hid hg
    clear hg
    go_enter Tryz.func5, Tryz.ntmps5
    go_wp2_with fail
    refine (CF.out _).mono ?_; rintro e w1 ⟨rfl, rfl⟩
    go_wp2_with fail
    refine (C1.out _ HG.out).mono ?_; rintro e w2 ⟨rfl, hg⟩
    have HG2 := Lib.hid (Gr.trans HG.out hg); clear hg
    go_wp2_with fail
    refine (C2.out _ HG2.out).mono ?_; rintro e w3 ⟨rfl, hg⟩
    have HG3 := Lib.hid (Gr.trans HG2.out hg); clear hg
    go_wp2_with fail
    refine (C3.out _ HG3.out).mono ?_; rintro e w4 ⟨v1, rfl, ho, hg⟩
    have HG4 := Lib.hid (Gr.trans HG3.out hg)
    obtain ⟨a1, c1, rfl, hp1⟩ := ho.shp
    have HP1 := Lib.hid hp1; clear hg ho hp1
    go_wp2_with fail
    refine (C4.out _ HG4.out).mono ?_; rintro e w5 ⟨v2, rfl, ho, hg⟩
    have HG5 := Lib.hid (Gr.trans HG4.out hg)
    obtain ⟨a2, c2, rfl, hp2⟩ := ho.shp
    have HS1 := Lib.hid (And.intro (HP1.out.gr hg) hp2); clear hg ho hp2 HP1
    go_wp2_with fail
    refine (C5.out _ HG5.out).mono ?_; rintro e w6 ⟨v3, rfl, ho, hg⟩
    have HG6 := Lib.hid (Gr.trans HG5.out hg)
    obtain ⟨a3, c3, rfl, hp1⟩ := ho.shp
    have HS2 := Lib.hid (And.intro (HS1.out.1.gr hg) (HS1.out.2.gr hg))
    have HP3 := Lib.hid hp1; clear hg ho hp1 HS1
    go_wp2_with fail
    refine (C6.out _ HG6.out).mono ?_; rintro e w7 ⟨v4, rfl, ho, hg⟩
    have HG7 := Lib.hid (Gr.trans HG6.out hg)
    obtain ⟨a4, c4, rfl, hp2⟩ := ho.shp
    have HS3 := Lib.hid (And.intro (HS2.out.1.gr hg) (HS2.out.2.gr hg))
    have HQ3 := Lib.hid (And.intro (HP3.out.gr hg) hp2); clear hg ho hp2 HP3 HS2
    go_wp2_with fail
    refine (C7.out _ HG7.out).mono ?_; rintro e w8 ⟨v5, rfl, ho, hg⟩
    have HG8 := Lib.hid (Gr.trans HG7.out hg)
    obtain ⟨a5, c5, rfl, hp1⟩ := ho.shp
    have HS4 := Lib.hid (And.intro (HS3.out.1.gr hg) (HS3.out.2.gr hg))
    have HQ4 := Lib.hid (And.intro (HQ3.out.1.gr hg) (HQ3.out.2.gr hg))
    have HP5 := Lib.hid hp1; clear hg ho hp1 HS3 HQ3
    go_wp2_with fail
    refine (C8.out _ HG8.out).mono ?_; rintro e w9 ⟨v6, rfl, ho, hg⟩
    have HG9 := Lib.hid (Gr.trans HG8.out hg)
    obtain ⟨a6, c6, rfl, hp2⟩ := ho.shp
    have HS5 := Lib.hid (And.intro (HS4.out.1.gr hg) (HS4.out.2.gr hg))
    have HQ5 := Lib.hid (And.intro (HQ4.out.1.gr hg) (HQ4.out.2.gr hg))
    have HR5 := Lib.hid (And.intro (HP5.out.gr hg) hp2); clear hg ho hp2 HP5 HS4 HQ4
    go_wp2_with fail
    refine (same_self HS5.out.1 HS5.out.2 rfl (by omega)).mono ?_; rintro e w10 ⟨rfl, hg⟩
    have HG10 := Lib.hid (Gr.trans HG9.out hg)
    have HQ6 := Lib.hid (And.intro (HQ5.out.1.gr hg) (HQ5.out.2.gr hg))
    have HR6 := Lib.hid (And.intro (HR5.out.1.gr hg) (HR5.out.2.gr hg)); clear hg HQ5 HR5
    go_wp2_with fail
    refine (same_self HQ6.out.1 HQ6.out.2 rfl (by omega)).mono ?_; rintro e w11 ⟨rfl, hg⟩
    have HG11 := Lib.hid (Gr.trans HG10.out hg)
    have HR7 := Lib.hid (And.intro (HR6.out.1.gr hg) (HR6.out.2.gr hg)); clear hg HR6
    go_wp2_with fail
    refine (same_self HR7.out.1 HR7.out.2 rfl (by omega)).mono ?_; rintro e w12 ⟨rfl, hg⟩
    have HG12 := Lib.hid (Gr.trans HG11.out hg); clear hg
    go_wp2_with fail
    refine (AW.out _ HG12.out).mono ?_; rintro e w13 ⟨rfl, hg⟩
    have HG13 := Lib.hid (Gr.trans HG12.out hg); clear hg
    go_wp2
    go_ret
    exact ⟨rfl, HG13.out⟩
  · have CF := Lib.hid (fun w => r9_Few a l.length cap w)
    rw [decide_eq_false h40] at CF
    generalize l.length = n at *
    clear htab hmx herr hp hJ
    intro w hg
    have HG := Lib.hid hg
    clear hg
    go_enter Tryz.func5, Tryz.ntmps5
    go_wp2_with fail
    refine (CF.out _).mono ?_; rintro e w1 ⟨rfl, rfl⟩
    go_wp2_with fail
    refine (AW.out _ HG.out).mono ?_; rintro e w10 ⟨rfl, hg⟩
    have HG10 := Lib.hid (Gr.trans HG.out hg); clear hg
    go_wp2
    go_ret
    exact ⟨rfl, HG10.out⟩
end
end Go.Proofs.YtlbnibicehpobaaGreatDoor
